/-
  Walk of the law NameCopies: it returns true for every text, two tags and two numbers. The world must hold the program's table of kinds.
-/
import Derived.Test.YtdjiiemimbdklaaDoorW
import Derived.Test.YtdjiiemimbdklaaDoorM
import Derived.Test.YtdjiiemimbdklaaDoorPv
namespace Go.Proofs.YtdjiiemimbdklaaDoor
open Go.RowKit Pl
set_option maxHeartbeats 400000

/-- The two boxes of the law's arrays, and the old world below them. -/
def Box4 (w : World) (a b : ByteArray) (k j : UInt8) (W : World) : Prop :=
  W.cell? ⟨w.heap.size, 0, none⟩ = some (.string a) ∧ W.cell? ⟨w.heap.size, 1, none⟩ = some (.string b) ∧ W.cell? ⟨w.heap.size + 1, 0, none⟩ = some (.int .u8 k.toNat) ∧ W.cell? ⟨w.heap.size + 1, 1, none⟩ = some (.int .u8 j.toNat) ∧ Below w.heap.size w W
theorem Box4.step {w : World} {a b : ByteArray} {k j : UInt8} {W W' : World} (h : Box4 w a b k j W) (hb : Below W.heap.size W W') : Box4 w a b k j W' :=
  ⟨(hb.cell (block_lt_of_cell h.1)).trans h.1, (hb.cell (block_lt_of_cell h.2.1)).trans h.2.1, (hb.cell (block_lt_of_cell h.2.2.1)).trans h.2.2.1, (hb.cell (block_lt_of_cell h.2.2.2.1)).trans h.2.2.2.1, h.2.2.2.2.trans (hb.mono h.2.2.2.2.size)⟩
theorem Box4.drew {w : World} {a b : ByteArray} {k j : UInt8} {W : World} (h : Box4 w a b k j W) : Box4 w a b k j W.drew := h.step (Below.refl _ _).drew
theorem box_start (w : World) (a b : ByteArray) (k j : UInt8) : Box4 w a b k j ((w.alloc (.cells #[.string a, .string b] 48)).alloc (.cells #[.int .u8 k.toNat, .int .u8 j.toNat] 51)) := by
  refine ⟨?_, ?_, ?_, ?_, ?_⟩
  · go_cell
  · go_cell
  · go_cell
  · go_cell
  · exact ((Below.refl _ w).alloc (Nat.le_refl _) _).alloc (by simp) _
theorem i64_small {x : Int} (h0 : 0 ≤ x) (h1 : x ≤ 1000) : IntKind.i64.wrap x = x := IntWalk.i64_in _ (by omega)
theorem sanity_box {w : World} (hE : Env w) {a b : ByteArray} {k j : UInt8} {W : World} (h : Box4 w a b k j W) :
    Calls Tryd.prog 11 #[] W fun e w' => e = .returned (.bool true) ∧ Box4 w a b k j w' :=
  (sanity_any W (hE.below h.2.2.2.2)).mono fun _ _ ⟨he, hb⟩ => ⟨he, h.step hb⟩
theorem copy_box {w : World} (hE : Env w) {a b : ByteArray} {k j : UInt8} (n t : ByteArray) (i : Int) (hn : n.size ≤ 20) (ht : t.size ≤ 20) {W : World} (h : Box4 w a b k j W) :
    Calls Tryd.prog 28 #[.string n, .string t, .int .i64 i] W fun e w' => e = .returned (.string (mk (copyS n.data.toList t.data.toList i))) ∧ Box4 w a b k j w' :=
  (copy_any n t i (by unfold maxLen; omega) (by unfold maxLen; omega) W (hE.below h.2.2.2.2)).mono fun _ _ ⟨he, hb⟩ => ⟨he, h.step hb⟩
theorem rcopy_box {w : World} {a b : ByteArray} {k j : UInt8} (n t : ByteArray) (i : Int) (hn : n.size ≤ 20) (ht : t.size ≤ 20) {W : World} (h : Box4 w a b k j W) :
    Calls Tryd.prog 29 #[.string n, .string t, .int .i64 i] W fun e w' => e = .returned (.string (mk (copyS n.data.toList t.data.toList i))) ∧ Box4 w a b k j w' :=
  (rcopy_any n t i (by unfold maxLen; omega) (by unfold maxLen; omega) W).mono fun _ _ ⟨he, hb⟩ => ⟨he, h.step hb⟩
theorem valid_box {w : World} (hE : Env w) {a b : ByteArray} {k j : UInt8} (n : ByteArray) (hn : n.size ≤ 20) {W : World} (h : Box4 w a b k j W) :
    Calls Tryd.prog 13 #[.string n] W fun e w' => e = .returned (.bool (vld n.data.toList)) ∧ Box4 w a b k j w' :=
  (Valid_any n (by unfold maxLen; omega) W (hE.below h.2.2.2.2)).mono fun _ _ ⟨he, hb⟩ => ⟨he, h.step hb⟩

set_option maxRecDepth 100000 in
set_option maxHeartbeats 4000000 in
theorem copies_any (s : ByteArray) (hs : s.size ≤ maxLen) (a b : ByteArray) (ha : a.size ≤ maxLen) (hb : b.size ≤ maxLen) (k j : UInt8) (w : World) (hE : Env w) :
    Calls Tryd.prog 8 #[.string s, .agg #[.string a, .string b], .agg #[.int .u8 k.toNat, .int .u8 j.toNat]] w fun e w' => e = .returned (.bool true) ∧ Below w.heap.size w w' := by
  unfold maxLen at hs ha hb
  have B0 := Lib.hid (box_start w a b k j)
  by_cases h20 : s.size ≤ 20
  · have d20 : decide (20 < (s.size : Int)) = false := by simp; omega
    by_cases a20 : a.size ≤ 20
    · have da20 : decide (20 < (a.size : Int)) = false := by simp; omega
      by_cases b20 : b.size ≤ 20
      · have db20 : decide (20 < (b.size : Int)) = false := by simp; omega
        obtain ⟨k0, k1⟩ := u8_cast k
        obtain ⟨j0, j1⟩ := u8_cast j
        obtain ⟨A, hA⟩ : ∃ A, mk (copyS s.data.toList a.data.toList (k.toNat : Int)) = A := ⟨_, rfl⟩
        obtain ⟨B, hB⟩ : ∃ B, mk (copyS s.data.toList b.data.toList (j.toNat : Int)) = B := ⟨_, rfl⟩
        obtain ⟨C, hC⟩ : ∃ C, mk (copyS A.data.toList a.data.toList (k.toNat : Int)) = C := ⟨_, rfl⟩
        have hAd : copyS s.data.toList a.data.toList (k.toNat : Int) = A.data.toList := by rw [← hA, mk_data]
        have hBd : copyS s.data.toList b.data.toList (j.toNat : Int) = B.data.toList := by rw [← hB, mk_data]
        have hCd : copyS A.data.toList a.data.toList (k.toNat : Int) = C.data.toList := by rw [← hC, mk_data]
        have ways : (A.toList.isEmpty = true ∧ B.toList.isEmpty = true) ∨ (A.toList.isEmpty = true ∧ B.toList.isEmpty = false) ∨ (A.toList.isEmpty = false ∧ B.toList.isEmpty = true) ∨
            (A.toList.isEmpty = false ∧ B.toList.isEmpty = false ∧ vld A.data.toList = true ∧ vld B.data.toList = true ∧ vld C.data.toList = true ∧
              (((a.toList == b.toList) = false ∧ (A.toList == B.toList) = false) ∨ ((a.toList == b.toList) = true ∧ (((k.toNat : Int)) == (j.toNat : Int)) = false ∧ (A.toList == B.toList) = false) ∨ ((a.toList == b.toList) = true ∧ (((k.toNat : Int)) == (j.toNat : Int)) = true ∧ (A.toList == B.toList) = true)) ∧
              ((¬ A.toList = s.toList) ∨ (A = s ∧ decide ((a.size : Int) + 3 ≤ (s.size : Int)) = true))) := by
          by_cases eA : A.data.toList = []
          · by_cases eB : B.data.toList = []
            · exact .inl ⟨empty_of eA, empty_of eB⟩
            · exact .inr (.inl ⟨empty_of eA, nonempty_of eB⟩)
          · by_cases eB : B.data.toList = []
            · exact .inr (.inr (.inl ⟨nonempty_of eA, empty_of eB⟩))
            · refine .inr (.inr (.inr ⟨nonempty_of eA, nonempty_of eB, ?_, ?_, ?_, ?_, ?_⟩))
              · rw [← hAd] at eA ⊢; exact copy_vld eA
              · rw [← hBd] at eB ⊢; exact copy_vld eB
              · have h1 := eA
                rw [← hAd] at h1
                have h2 := copy_again h1
                rw [hAd] at h2
                rw [← hCd]; exact copy_vld h2
              · simp only [Lib.toList_data]
                by_cases eab : a.data.toList = b.data.toList
                · refine .inr ?_
                  by_cases ekj : k.toNat = j.toNat
                  · refine .inr ⟨by simp [eab], by simp [ekj], ?_⟩
                    rw [← hAd, ← hBd, eab, ekj]; simp
                  · refine .inl ⟨by simp [eab], by rw [beq_eq_false_iff_ne]; omega, beq_eq_false_iff_ne.2 fun e => ?_⟩
                    have h1 := eA
                    have h2 := eB
                    rw [← hAd] at h1
                    rw [← hBd] at h2
                    exact ekj (copy_same h1 h2 (by rw [hAd, hBd, e])).2
                · refine .inl ⟨beq_eq_false_iff_ne.2 eab, beq_eq_false_iff_ne.2 fun e => ?_⟩
                  have h1 := eA
                  have h2 := eB
                  rw [← hAd] at h1
                  rw [← hBd] at h2
                  exact eab (copy_same h1 h2 (by rw [hAd, hBd, e])).1
              · simp only [Lib.toList_data]
                by_cases e : A.data.toList = s.data.toList
                · refine .inr ⟨by rw [← mk_of A, e, mk_of], ?_⟩
                  have h1 := eA
                  rw [← hAd] at h1
                  have := copy_longer h1 (by rw [hAd, e])
                  rw [← Lib.size_eq, ← Lib.size_eq] at this
                  simp; omega
                · exact .inl e
        have w3a : IntKind.i64.wrap ((a.size : Int) + 3) = (a.size : Int) + 3 := i64_small (by omega) (by omega)
        have wk : IntKind.i64.wrap (k.toNat : Int) = (k.toNat : Int) := i64_small k0 (by omega)
        have wj : IntKind.i64.wrap (j.toNat : Int) = (j.toNat : Int) := i64_small j0 (by omega)
        have WAYS := Lib.hid ways
        have HA := Lib.hid hA
        have HB := Lib.hid hB
        have HC := Lib.hid hC
        clear hA hB hC hAd hBd hCd ways
        go_enter Tryd.func8, Tryd.ntmps8
        go_wp2_with (first | (go_at_call 11; refine (sanity_box hE B0.out).mono ?_; rintro e w1 ⟨rfl, t0, t1, t2, t3, bw⟩))
        have HB1 := Lib.hid (show Box4 w a b k j w1 from ⟨t0, t1, t2, t3, bw⟩)
        clear B0
        first | (go_region_held (fun W' => W'.cell? ⟨w.heap.size, 0, none⟩ = some (.string a) ∧ W'.cell? ⟨w.heap.size, 1, none⟩ = some (.string b) ∧ W'.cell? ⟨w.heap.size + 1, 0, none⟩ = some (.int .u8 k.toNat) ∧ W'.cell? ⟨w.heap.size + 1, 1, none⟩ = some (.int .u8 j.toNat) ∧ Below w.heap.size w W') (first | exact HB1.out.drew | exact ⟨t0, t1, t2, t3, bw⟩ | exact Box4.drew ⟨t0, t1, t2, t3, bw⟩ | go_keep) (first | (go_at_call 28; refine (copy_box (a := a) (b := b) (k := k) (j := j) hE _ _ _ (by assumption) (by assumption) ?_).mono ?_; (first | exact HB1.out.drew | exact ⟨t0, t1, t2, t3, bw⟩ | exact Box4.drew ⟨t0, t1, t2, t3, bw⟩ | (refine ⟨?_, ?_, ?_, ?_, ?_⟩ <;> first | assumption | simp [*])); rintro e w' ⟨he, t0, t1, t2, t3, bw⟩; (try rw [wk] at he); (try rw [wj] at he); (try rw [HA.out] at he); (try rw [HB.out] at he); (try rw [HC.out] at he); (try rw [HVA.out] at he); (try rw [HVB.out] at he); (try rw [HVC.out] at he); subst he))) | fail
        rcases WAYS.out with ⟨nA, nB⟩ | ⟨nA, nB⟩ | ⟨nA, nB⟩ | ⟨nA, nB, vA, vB, vC, hrel, hlast⟩
        · go_wp2_with ((go_at_call 29; refine (rcopy_box (w := w) (a := a) (b := b) (k := k) (j := j) _ _ _ (by assumption) (by assumption) ?_).mono ?_; (first | exact HB1.out.drew | exact ⟨t0, t1, t2, t3, bw⟩ | exact Box4.drew ⟨t0, t1, t2, t3, bw⟩ | (refine ⟨?_, ?_, ?_, ?_, ?_⟩ <;> first | assumption | simp [*])); rintro e w' ⟨he, t0, t1, t2, t3, bw⟩; (try rw [wk] at he); (try rw [wj] at he); (try rw [HA.out] at he); (try rw [HB.out] at he); (try rw [HC.out] at he); (try rw [HVA.out] at he); (try rw [HVB.out] at he); (try rw [HVC.out] at he); subst he))
          go_ret
          exact ⟨rfl, bw⟩
        · go_wp2_with ((go_at_call 29; refine (rcopy_box (w := w) (a := a) (b := b) (k := k) (j := j) _ _ _ (by assumption) (by assumption) ?_).mono ?_; (first | exact HB1.out.drew | exact ⟨t0, t1, t2, t3, bw⟩ | exact Box4.drew ⟨t0, t1, t2, t3, bw⟩ | (refine ⟨?_, ?_, ?_, ?_, ?_⟩ <;> first | assumption | simp [*])); rintro e w' ⟨he, t0, t1, t2, t3, bw⟩; (try rw [wk] at he); (try rw [wj] at he); (try rw [HA.out] at he); (try rw [HB.out] at he); (try rw [HC.out] at he); (try rw [HVA.out] at he); (try rw [HVB.out] at he); (try rw [HVC.out] at he); subst he))
          go_ret
          exact ⟨rfl, bw⟩
        · go_wp2_with ((go_at_call 29; refine (rcopy_box (w := w) (a := a) (b := b) (k := k) (j := j) _ _ _ (by assumption) (by assumption) ?_).mono ?_; (first | exact HB1.out.drew | exact ⟨t0, t1, t2, t3, bw⟩ | exact Box4.drew ⟨t0, t1, t2, t3, bw⟩ | (refine ⟨?_, ?_, ?_, ?_, ?_⟩ <;> first | assumption | simp [*])); rintro e w' ⟨he, t0, t1, t2, t3, bw⟩; (try rw [wk] at he); (try rw [wj] at he); (try rw [HA.out] at he); (try rw [HB.out] at he); (try rw [HC.out] at he); (try rw [HVA.out] at he); (try rw [HVB.out] at he); (try rw [HVC.out] at he); subst he))
          go_ret
          exact ⟨rfl, bw⟩
        · have sA : A.size ≤ 20 := by have := vld_len vA; rw [← Lib.size_eq] at this; omega
          have sB : B.size ≤ 20 := by have := vld_len vB; rw [← Lib.size_eq] at this; omega
          have sC : C.size ≤ 20 := by have := vld_len vC; rw [← Lib.size_eq] at this; omega
          have HVA := Lib.hid vA
          have HVB := Lib.hid vB
          have HVC := Lib.hid vC
          clear vA vB vC
          rcases hrel with ⟨r1, r2⟩ | ⟨r1, r2, r3⟩ | ⟨r1, r2, r3⟩ <;> rcases hlast with r4 | ⟨rfl, r5⟩
          all_goals
            go_wp2_with (first | (go_at_call 13; refine (valid_box (a := a) (b := b) (k := k) (j := j) hE _ (by assumption) ?_).mono ?_; (first | exact HB1.out.drew | exact ⟨t0, t1, t2, t3, bw⟩ | exact Box4.drew ⟨t0, t1, t2, t3, bw⟩ | (refine ⟨?_, ?_, ?_, ?_, ?_⟩ <;> first | assumption | simp [*])); rintro e w' ⟨he, t0, t1, t2, t3, bw⟩; (try rw [wk] at he); (try rw [wj] at he); (try rw [HA.out] at he); (try rw [HB.out] at he); (try rw [HC.out] at he); (try rw [HVA.out] at he); (try rw [HVB.out] at he); (try rw [HVC.out] at he); subst he) | (go_at_call 28; refine (copy_box (a := a) (b := b) (k := k) (j := j) hE _ _ _ (by assumption) (by assumption) ?_).mono ?_; (first | exact HB1.out.drew | exact ⟨t0, t1, t2, t3, bw⟩ | exact Box4.drew ⟨t0, t1, t2, t3, bw⟩ | (refine ⟨?_, ?_, ?_, ?_, ?_⟩ <;> first | assumption | simp [*])); rintro e w' ⟨he, t0, t1, t2, t3, bw⟩; (try rw [wk] at he); (try rw [wj] at he); (try rw [HA.out] at he); (try rw [HB.out] at he); (try rw [HC.out] at he); (try rw [HVA.out] at he); (try rw [HVB.out] at he); (try rw [HVC.out] at he); subst he))
            go_ret
            exact ⟨rfl, bw⟩
      · have db20 : decide (20 < (b.size : Int)) = true := by simp; omega
        go_enter Tryd.func8, Tryd.ntmps8
        go_wp2_with (first | (go_at_call 11; refine (sanity_box hE B0.out).mono ?_; rintro e w1 ⟨rfl, t0, t1, t2, t3, bw⟩))
        go_ret
        exact ⟨rfl, bw⟩
    · have da20 : decide (20 < (a.size : Int)) = true := by simp; omega
      go_enter Tryd.func8, Tryd.ntmps8
      go_wp2_with (first | (go_at_call 11; refine (sanity_box hE B0.out).mono ?_; rintro e w1 ⟨rfl, t0, t1, t2, t3, bw⟩))
      go_ret
      exact ⟨rfl, bw⟩
  · have d20 : decide (20 < (s.size : Int)) = true := by simp; omega
    go_enter Tryd.func8, Tryd.ntmps8
    go_wp2_with (first | (go_at_call 11; refine (sanity_box hE B0.out).mono ?_; rintro e w1 ⟨rfl, t0, t1, t2, t3, bw⟩))
    go_ret
    exact ⟨rfl, bw⟩
end Go.Proofs.YtdjiiemimbdklaaDoor
