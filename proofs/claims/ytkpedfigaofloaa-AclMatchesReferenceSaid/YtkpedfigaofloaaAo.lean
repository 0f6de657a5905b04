/-
  Walks of rightsOf and marks.
-/
import Derived.Test.YtkpedfigaofloaaAn
import Derived.Test.YtkpedfigaofloaaPd
namespace Go.Proofs.Ytkpedfigaofloaa
open Go.RowKit Ap
set_option maxHeartbeats 400000

set_option maxHeartbeats 2000000 in
theorem rightsOf_any (A : Option Addr) (n c : Nat) (l : List Ac) (hn : l.length = n) (hl : n ≤ 1000) (hok : ∀ a ∈ l, a.ok) (w : World) (hA : Aces w A l) :
    Calls Try.prog 49 #[.slice A n c] w fun e w' => e = .returned (.map (some w.heap.size)) ∧ IntM w' w.heap.size n (rOf l) ∧ Below w.heap.size w w' := by
  have HN := Lib.hid hn
  have SA := Lib.hid hA
  have HOK := Lib.hid hok
  have hmm := @run_makeMap Try.prog
  clear hn hA hok
  go_enter Try.func49, Try.ntmps49
  go_wp2
  go_loopw [5, 9] (fun _ i wr => ∃ k : Nat, k ≤ n ∧ i = .int .i64 k ∧ IntM wr w.heap.size k (rOf (l.take k)) ∧ Below w.heap.size w wr) (fun _ i _ => n - (intOf i).toNat)
  case atStart => exact ⟨0, Nat.zero_le _, rfl, (IntM.made w).congr (fun _ => rfl), (Below.refl _ w).alloc (Nat.le_refl _) _⟩
  case round =>
    obtain ⟨k, hk, rfl, hmap, hbw⟩ := hrel
    have hbs := hbw.size
    have hB := hmap.lt
    by_cases hlt : k < n
    · have hkl : k < l.length := by rw [HN.out]; exact hlt
      obtain ⟨g, o, rfl, hg, hc⟩ := (SA.out.below hbw) (List.ne_nil_of_length_pos (by omega))
      obtain ⟨c0, c1, c2, c3, c4⟩ := hc k l[k] (List.getElem?_eq_getElem hkl)
      have hxo : l[k].ok := HOK.out _ (List.getElem_mem hkl)
      have hst : rOf (l.take (k + 1)) = stepO (rOf (l.take k)) l[k] := by rw [List.take_succ_eq_append_getElem hkl, rOf_snoc]
      obtain ⟨x, hx⟩ : ∃ a, l[k] = a := ⟨_, rfl⟩
      rw [hx] at c0 c1 c2 c3 c4 hst hxo
      have hmo := Ac.ok0 hxo
      have hri := hxo.2.1
      have cM := fun W => markOf_any x W
      obtain ⟨aw, al, ri, re, ag⟩ := x
      dsimp only at c0 c1 c2 c3 c4 hri
      unfold av at cM
      dsimp only [Ac.mk0] at cM
      have HMAP := Lib.hid hmap
      have HMO := Lib.hid hmo
      have HST := Lib.hid hst
      have HRI := Lib.hid hri
      have CM := Lib.hid cM
      clear hc hx SA hxo hmo cM hmap hst hri
      go_wp2
      have hbx : (wr.alloc (.cells #[.int .i64 aw, .bool al, .int .i64 ri, .int .i64 re, .bool ag] 31)).drew.cell? ⟨wr.heap.size, 0, none⟩ = some (.int .i64 aw) ∧ (wr.alloc (.cells #[.int .i64 aw, .bool al, .int .i64 ri, .int .i64 re, .bool ag] 31)).drew.cell? ⟨wr.heap.size, 1, none⟩ = some (.bool al) ∧ (wr.alloc (.cells #[.int .i64 aw, .bool al, .int .i64 ri, .int .i64 re, .bool ag] 31)).drew.cell? ⟨wr.heap.size, 2, none⟩ = some (.int .i64 ri) ∧ (wr.alloc (.cells #[.int .i64 aw, .bool al, .int .i64 ri, .int .i64 re, .bool ag] 31)).drew.cell? ⟨wr.heap.size, 3, none⟩ = some (.int .i64 re) ∧ (wr.alloc (.cells #[.int .i64 aw, .bool al, .int .i64 ri, .int .i64 re, .bool ag] 31)).drew.cell? ⟨wr.heap.size, 4, none⟩ = some (.bool ag) := alloc_box
      have HX := Lib.hid hbx
      have HBX := Lib.hid (((Below.refl wr.heap.size wr).alloc (Nat.le_refl _) (.cells #[.int .i64 aw, .bool al, .int .i64 ri, .int .i64 re, .bool ag] 31)).drew)
      clear hbx
      first | (go_region_held (fun W' => W'.cell? ⟨wr.heap.size, 0, none⟩ = some (.int .i64 aw) ∧ W'.cell? ⟨wr.heap.size, 1, none⟩ = some (.bool al) ∧ W'.cell? ⟨wr.heap.size, 2, none⟩ = some (.int .i64 ri) ∧ W'.cell? ⟨wr.heap.size, 3, none⟩ = some (.int .i64 re) ∧ W'.cell? ⟨wr.heap.size, 4, none⟩ = some (.bool ag)) (first | exact HX.out | with_reducible exact HX4.out | with_reducible exact HX1.out | fail) (first | (go_at_call 33; refine (CM.out _).mono ?_; rintro e w1 ⟨rfl, hb1⟩; have HX1 := Lib.hid (keep5 HX.out.1 HX.out.2.1 HX.out.2.2.1 HX.out.2.2.2.1 HX.out.2.2.2.2 hb1); have HB1 := Lib.hid (HBX.out.trans (hb1.mono (by simp))); obtain ⟨w4, hup, hm4, hg4⟩ := (HMAP.out.below HB1.out).update_lit (v := ri) (by unfold maxLen; omega) HMO.out HRI.out; have HX4 := Lib.hid (And.intro (grown_cell hg4 HX1.out.1 (Nat.ne_of_lt hB)) (And.intro (grown_cell hg4 HX1.out.2.1 (Nat.ne_of_lt hB)) (And.intro (grown_cell hg4 HX1.out.2.2.1 (Nat.ne_of_lt hB)) (And.intro (grown_cell hg4 HX1.out.2.2.2.1 (Nat.ne_of_lt hB)) (grown_cell hg4 HX1.out.2.2.2.2 (Nat.ne_of_lt hB)))))); have HM4 := Lib.hid hm4; have HG4 := Lib.hid hg4; clear hm4 hg4))) | fail
      go_wp2
      go_roundw
      case rel => exact ⟨k + 1, by omega, by go_num, by rw [HST.out]; exact HM4.out, (hbw.trans (HB1.out.mono hbs)).grown HG4.out (by have := HB1.out.size; omega) (fun j hj => by cases hj; exact Nat.le_refl _)⟩
      case measure => simp [intOf]; omega
    · obtain rfl : k = n := by omega
      have hfull : l.take k = l := List.take_of_length_le (by rw [HN.out]; exact Nat.le_refl _)
      rw [hfull] at hmap
      have HMAP := Lib.hid hmap
      clear hfull hmap
      go_wp2
      go_ret
      exact ⟨rfl, HMAP.out, hbw⟩

theorem info_mark : (Try.prog.info? 58).map (fun i => (i.zero, i.size, i.bytes)) = some (some (.agg #[.int .i64 0, .bool false, .int .i64 0, .int .i64 0, .bool false]), 5, 40) := by kernel_rfl

/-- The block of the two lists. -/
def TwoS (g : Nat) (A1 : Option Addr) (n1 c1 : Nat) (A2 : Option Addr) (n2 c2 : Nat) (W : World) : Prop :=
  W.cell? ⟨g, 0, none⟩ = some (.slice A1 n1 c1) ∧ W.cell? ⟨g, 1, none⟩ = some (.slice A2 n2 c2)
theorem TwoS.step {g : Nat} {A1 : Option Addr} {n1 c1 : Nat} {A2 : Option Addr} {n2 c2 : Nat} {W W' : World} (h : TwoS g A1 n1 c1 A2 n2 c2 W) (hb : Below W.heap.size W W') : TwoS g A1 n1 c1 A2 n2 c2 W' :=
  ⟨(hb.cell (block_lt_of_cell h.1)).trans h.1, (hb.cell (block_lt_of_cell h.2)).trans h.2⟩
theorem TwoS.grown {g r : Nat} {A1 : Option Addr} {n1 c1 : Nat} {A2 : Option Addr} {n2 c2 : Nat} {W W' : World} (h : TwoS g A1 n1 c1 A2 n2 c2 W) (hg : W.grownBy W' (some r)) (hne : r ≠ g) : TwoS g A1 n1 c1 A2 n2 c2 W' :=
  ⟨grown_cell hg h.1 hne, grown_cell hg h.2 hne⟩
theorem grown_cell' {w w' : World} {row : Option Nat} (hg : w.grownBy w' row) {p : Addr} {v : Value} (h : w.cell? p = some v) (hne : row ≠ some p.block) : w'.cell? p = some v := by
  have hlt := block_lt_of_cell h
  unfold World.cell? at h ⊢
  rw [hg.block p.block hlt (fun e => hne e.symm)]
  exact h
theorem two_start (w : World) (x y : Value) (t : TypeId) : (w.alloc (.cells #[x, y] t)).cell? ⟨w.heap.size, 0, none⟩ = some x ∧ (w.alloc (.cells #[x, y] t)).cell? ⟨w.heap.size, 1, none⟩ = some y :=
  ⟨cell_of_row _ _ 0 #[x, y] t (0, 0) (heap_alloc_new w _), cell_of_row _ _ 1 #[x, y] t (0, 0) (heap_alloc_new w _)⟩

set_option maxHeartbeats 4000000 in
theorem marks_any (A1 A2 : Option Addr) (n1 c1 n2 c2 : Nat) (a b : List Ac) (hn1 : a.length = n1) (hl1 : n1 ≤ 1000) (hok1 : ∀ x ∈ a, x.ok) (hn2 : b.length = n2) (hl2 : n2 ≤ 1000) (hok2 : ∀ x ∈ b, x.ok) (w : World) (hA1 : Aces w A1 a) (hA2 : Aces w A2 b) :
    Calls Try.prog 50 #[.slice A1 n1 c1, .slice A2 n2 c2] w fun e w' => ∃ A' m c', e = .returned (.slice A' m c') ∧ w'.ownsRow w.heap.size 58 5 (.slice A' m c') m (encs (marksL (a ++ b))) ∧ Below w.heap.size w w' := by
  obtain ⟨i0, hi, hz0, hz1, hz2⟩ := info_parts info_mark
  have SA1 := Lib.hid hA1
  have SA2 := Lib.hid hA2
  have H1 := Lib.hid (And.intro hn1 hok1)
  have H2 := Lib.hid (And.intro hn2 hok2)
  have hmm := @run_makeMap Try.prog
  clear hn1 hn2 hok1 hok2 hA1 hA2
  go_enter Try.func50, Try.ntmps50
  go_wp2
  go_loopw [5, 8, 10, 11, 17] (fun o _ _ _ i wr => ∃ (k m : Nat) (A' : Option Addr) (c' : Nat), k ≤ 2 ∧ i = .int .i64 k ∧ o = .slice A' m c' ∧ m ≤ (twoL a b k).length ∧ wr.ownsRow (w.heap.size + 2) 58 5 (.slice A' m c') m (encs (marksL (twoL a b k))) ∧ SetM wr w.heap.size (twoL a b k).length (fun x => decide (x ∈ marksL (twoL a b k))) ∧ TwoS (w.heap.size + 1) A1 n1 c1 A2 n2 c2 wr ∧ Below w.heap.size w wr) (fun _ _ _ _ i _ => 2 - (intOf i).toNat)
  case atStart =>
    refine ⟨0, 0, none, 0, by omega, rfl, rfl, Nat.le_refl _, World.ownsRow_nil _ _ _ _, ?_, ?_, ?_⟩
    · exact ((SetM.made w).below ((Below.refl _ _).alloc (Nat.le_refl _) _)).congr (fun _ => by simp [twoL, marksL])
    · have h := two_start (w.alloc (.map #[] 0)) (.slice A1 n1 c1) (.slice A2 n2 c2) 22
      rw [show (w.alloc (.map #[] 0)).heap.size = w.heap.size + 1 by simp] at h
      exact h
    · exact ((Below.refl _ w).alloc (Nat.le_refl _) _).alloc (by simp) _
  case round =>
    obtain ⟨k, m, A', c', hk, rfl, rfl, hm, hown, hset, hd, hbw⟩ := hrel
    obtain ⟨wo, rfl⟩ : ∃ wo : World, wo = wr := ⟨_, rfl⟩
    by_cases hlt : k < 2
    · obtain ⟨A, n, c, l, hcell, hn, hl, hok, hA, hnext⟩ : ∃ (A : Option Addr) (n c : Nat) (l : List Ac), wo.cell? ⟨w.heap.size + 1, k, none⟩ = some (.slice A n c) ∧ l.length = n ∧ n ≤ 1000 ∧ (∀ x ∈ l, x.ok) ∧ Aces w A l ∧ twoL a b (k + 1) = twoL a b k ++ l := by
        match k, hlt with
        | 0, _ => exact ⟨A1, n1, c1, a, hd.1, H1.out.1, hl1, H1.out.2, SA1.out, rfl⟩
        | 1, _ => exact ⟨A2, n2, c2, b, hd.2, H2.out.1, hl2, H2.out.2, SA2.out, rfl⟩
      have hkl : (k : Int) < 2 := by omega
      have hk0 : (0 : Int) ≤ (k : Int) := by omega
      have HD := Lib.hid hd
      have HOWN := Lib.hid hown
      have HSET := Lib.hid hset
      have HN := Lib.hid hn
      have HOK := Lib.hid hok
      have SA := Lib.hid hA
      have HNX := Lib.hid hnext
      clear hd hown hset hn hok hA hnext
      obtain ⟨Q, hQ⟩ : ∃ Q, twoL a b k = Q := ⟨_, rfl⟩
      rw [hQ] at HOWN HSET HNX hm
      have hql : Q.length ≤ 2000 := by
        have := H1.out.1; have := H2.out.1
        rw [← hQ]
        match k, hlt with
        | 0, _ => simp [twoL]
        | 1, _ => simp only [twoL]; omega
      clear hQ
      go_wp2
      go_loopw [5, 10, 11, 23] (fun o _ _ i wr => ∃ (t m : Nat) (A' : Option Addr) (c' : Nat), t ≤ n ∧ i = .int .i64 t ∧ o = .slice A' m c' ∧ m ≤ Q.length + t ∧ wr.ownsRow (w.heap.size + 2) 58 5 (.slice A' m c') m (encs (marksL (Q ++ l.take t))) ∧ SetM wr w.heap.size (Q.length + t) (fun x => decide (x ∈ marksL (Q ++ l.take t))) ∧ TwoS (w.heap.size + 1) A1 n1 c1 A2 n2 c2 wr ∧ Below w.heap.size w wr) (fun _ _ _ i _ => n - (intOf i).toNat)
      case atStart => exact ⟨0, m, A', c', Nat.zero_le _, rfl, rfl, hm, by rw [List.take_zero, List.append_nil]; exact HOWN.out, by rw [List.take_zero, List.append_nil]; exact HSET.out, HD.out, hbw⟩
      case round =>
        obtain ⟨t, m, A', c', ht, rfl, rfl, hm, hown, hset, hd, hbw⟩ := hrel
        have hbs := hbw.size
        have hB := hset.lt
        have hgl := block_lt_of_cell hd.2
        by_cases hlt : t < n
        · have htl : t < l.length := by rw [HN.out]; exact hlt
          obtain ⟨g, o, hAe, hg, hc⟩ := (SA.out.below hbw) (List.ne_nil_of_length_pos (by omega))
          subst hAe
          have hxo : l[t].ok := HOK.out _ (List.getElem_mem htl)
          have hst : marksL (Q ++ l.take (t + 1)) = addM (marksL (Q ++ l.take t)) l[t] := by rw [List.take_succ_eq_append_getElem htl, ← List.append_assoc, marksL_snoc]
          obtain ⟨out, hout⟩ : ∃ out, marksL (Q ++ l.take t) = out := ⟨_, rfl⟩
          obtain ⟨x, hx⟩ : ∃ y, l[t] = y := ⟨_, rfl⟩
          obtain ⟨c0, c1, c2, c3, c4⟩ := hc t l[t] (List.getElem?_eq_getElem htl)
          rw [hout] at hown hset hst
          rw [hx] at c0 c1 c2 c3 c4 hst hxo
          have hmo := Ac.ok0 hxo
          have cM := fun W => markOf_any x W
          obtain ⟨aw, al, ri, re, ag⟩ := x
          dsimp only at c0 c1 c2 c3 c4
          unfold av at cM
          dsimp only [Ac.mk0] at cM
          have HMAPB := hB
          have HOWN := Lib.hid hown
          have HSET := Lib.hid hset
          have HD := Lib.hid hd
          have HMO := Lib.hid hmo
          have CM := Lib.hid cM
          have HOUT := Lib.hid hout
          clear hc hx hxo hmo cM hown hset hd hout
          by_cases hin : (⟨aw, al, ri, re, ag⟩ : Ac).mk0 ∈ out
          · have HS := Lib.hid (show decide ((⟨aw, al, ri, re, ag⟩ : Ac).mk0 ∈ out) = true from decide_eq_true hin)
            unfold addM at hst
            rw [if_pos hin] at hst
            have HST := Lib.hid hst
            clear hin hst
            go_wp2_with (first | (go_at_call 33; refine (CM.out _).mono ?_; rintro e w1 ⟨rfl, hb1⟩; have hlt1 := (after5 hb1).2.2.2.2.2.2.2.2.2.2; have hbM := Lib.hid ((below_new hb1).alloc (Nat.le_of_lt hlt1) (.cells #[.int .i64 aw, .bool al, .int .i64 0, .int .i64 re, .bool ag] 58)); have hs1 := Lib.hid (HSET.out.below hbM.out); have hlk := hs1.out.look_lit HMO.out HS.out; obtain ⟨w4, hup, hs4, hg4⟩ := hs1.out.update_lit (by unfold maxLen; omega) HMO.out; obtain ⟨m0, m1, m2, m3, m4⟩ := alloc_box (w := w1) (v0 := .int .i64 aw) (v1 := .bool al) (v2 := .int .i64 0) (v3 := .int .i64 re) (v4 := .bool ag) (t := 58); have m0 := grown_cell hg4 m0 (by simp; omega); have m1 := grown_cell hg4 m1 (by simp; omega); have m2 := grown_cell hg4 m2 (by simp; omega); have m3 := grown_cell hg4 m3 (by simp; omega); have m4 := grown_cell hg4 m4 (by simp; omega); have hr4 := Lib.hid ((own_keep HOWN.out hbM.out).kept hg4 (.inr (fun e => absurd (HOWN.out.lt _ e).1 (by omega)))); have hb4 := Lib.hid ((hbw.trans (hbM.out.mono hbs)).grown hg4 (by have := hbM.out.size; omega) (fun j hj => by cases hj; exact Nat.le_refl _)); have hd4 := Lib.hid ((HD.out.step hbM.out).grown hg4 (by omega)); have hq4 := hb4.out.size; have hq5 : wr.heap.size ≤ w4.heap.size := Nat.le_trans hbM.out.size hg4.size; have hs4 := Lib.hid hs4; have hg4 := Lib.hid hg4))
            go_roundw
            case rel =>
              refine ⟨t + 1, m, A', c', by omega, by go_num, rfl, by omega, ?_, ?_, HD.out.step hbM.out, hbw.trans (hbM.out.mono hbs)⟩
              · rw [HST.out]; exact own_keep HOWN.out hbM.out
              · rw [HST.out]; exact hs1.out.mono (by omega)
            case measure => simp [intOf]; omega
          · have HS := Lib.hid (show decide ((⟨aw, al, ri, re, ag⟩ : Ac).mk0 ∈ out) = false from decide_eq_false hin)
            unfold addM at hst
            rw [if_neg hin] at hst
            have HST := Lib.hid hst
            clear hin hst
            go_wp2_with (first | (go_at_call 33; refine (CM.out _).mono ?_; rintro e w1 ⟨rfl, hb1⟩; have hlt1 := (after5 hb1).2.2.2.2.2.2.2.2.2.2; have hbM := Lib.hid ((below_new hb1).alloc (Nat.le_of_lt hlt1) (.cells #[.int .i64 aw, .bool al, .int .i64 0, .int .i64 re, .bool ag] 58)); have hs1 := Lib.hid (HSET.out.below hbM.out); have hlk := hs1.out.look_lit HMO.out HS.out; obtain ⟨w4, hup, hs4, hg4⟩ := hs1.out.update_lit (by unfold maxLen; omega) HMO.out; obtain ⟨m0, m1, m2, m3, m4⟩ := alloc_box (w := w1) (v0 := .int .i64 aw) (v1 := .bool al) (v2 := .int .i64 0) (v3 := .int .i64 re) (v4 := .bool ag) (t := 58); have m0 := grown_cell hg4 m0 (by simp; omega); have m1 := grown_cell hg4 m1 (by simp; omega); have m2 := grown_cell hg4 m2 (by simp; omega); have m3 := grown_cell hg4 m3 (by simp; omega); have m4 := grown_cell hg4 m4 (by simp; omega); have hr4 := Lib.hid ((own_keep HOWN.out hbM.out).kept hg4 (.inr (fun e => absurd (HOWN.out.lt _ e).1 (by omega)))); have hb4 := Lib.hid ((hbw.trans (hbM.out.mono hbs)).grown hg4 (by have := hbM.out.size; omega) (fun j hj => by cases hj; exact Nat.le_refl _)); have hd4 := Lib.hid ((HD.out.step hbM.out).grown hg4 (by omega)); have hq4 := hb4.out.size; have hq5 : wr.heap.size ≤ w4.heap.size := Nat.le_trans hbM.out.size hg4.size; have hs4 := Lib.hid hs4; have hg4 := Lib.hid hg4) | (at_builtin; refine wpList_append_own _ rfl _ _ 72 rfl (w.heap.size + 2) 58 i0 _ 5 40 Try.underlying72 hi hz0 hz1 hz2 rfl (by decide) _ _ _ rfl (hr4.out.alloc _) ⟨w4.heap.size, 0, none⟩ 1 1 (enc (⟨aw, al, ri, re, ag⟩ : Ac).mk0) rfl rfl (cells_new w4 _ _) (enc_one _) (by unfold maxLen; omega) (by omega) (by simp; omega) ?_; intro v' w5 hown' hgrow _; obtain ⟨g', cap', rfl⟩ := ownsRow_succ hown'))
            go_roundw
            case rel =>
              have hne : ∀ b, b < w.heap.size + 2 → (Value.slice A' m c').ownBlock ≠ some b := fun b hb e => absurd (hr4.out.lt _ e).1 (by omega)
              have hal : Below w4.heap.size w4 (w4.alloc (.cells #[.int .i64 aw, .bool al, .int .i64 0, .int .i64 re, .bool ag] 58)) := (Below.refl _ w4).alloc (Nat.le_refl _) _
              refine ⟨t + 1, m + 1, some ⟨g', 0, none⟩, cap', by omega, by go_num, rfl, by omega, ?_, ?_, ?_, (hb4.out.alloc hq4 _).grown hgrow (by simp; omega) (fun j hj => Nat.le_trans (by omega) (hr4.out.lt j hj).1)⟩
              · rw [HST.out, encs_append, encs_one]; exact hown'
              · rw [HST.out]
                exact ((hs4.out.below hal).grown hgrow (fun e => hne w.heap.size (by omega) e.symm)).congr (fun y => by simp [Bool.or_comm])
              · exact ⟨grown_cell' hgrow (hd4.out.step hal).1 (hne (w.heap.size + 1) (by omega)), grown_cell' hgrow (hd4.out.step hal).2 (hne (w.heap.size + 1) (by omega))⟩
            case measure => simp [intOf]; omega
        · obtain rfl : t = n := by omega
          have hfull : l.take t = l := List.take_of_length_le (by rw [HN.out]; exact Nat.le_refl _)
          rw [hfull, ← HNX.out] at hown hset
          have HOWN := Lib.hid hown
          have HSET := Lib.hid hset
          have HD := Lib.hid hd
          have hql2 : (twoL a b (k + 1)).length = Q.length + t := by rw [HNX.out, List.length_append, HN.out]
          clear hown hset hd hfull
          go_wp2
          go_roundw
          case rel => exact ⟨k + 1, m, A', c', by omega, by go_num, rfl, by omega, HOWN.out, HSET.out.mono (by omega), HD.out, hbw⟩
          case measure => simp [intOf]; omega
    · obtain rfl : k = 2 := by omega
      have HOWN := Lib.hid hown
      clear hown hset hd
      go_wp2
      go_ret
      exact ⟨A', m, c', rfl, own_mono HOWN.out (by omega), hbw⟩
end Go.Proofs.Ytkpedfigaofloaa
