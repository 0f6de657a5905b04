/-
  Walks of the program's Put, where the mark is there: the entry is replaced, or taken out; and where it is refused.
-/
import Derived.Test.YtkpedfigaofloaaAk
import Derived.Test.YtkpedfigaofloaaAv
namespace Go.Proofs.Ytkpedfigaofloaa
open Go.RowKit Ap
set_option maxHeartbeats 400000

def putBad (l : List Ac) (e : Ac) : Bool := !validB l || e.given || !inR e
theorem validB_len {l : List Ac} (h : validB l = true) : l.length ≤ 16 := by
  unfold validB at h; simp at h; exact h.1
theorem alloc_box {w : World} {v0 v1 v2 v3 v4 : Value} {t : TypeId} :
    (w.alloc (.cells #[v0, v1, v2, v3, v4] t)).cell? ⟨w.heap.size, 0, none⟩ = some v0 ∧ (w.alloc (.cells #[v0, v1, v2, v3, v4] t)).cell? ⟨w.heap.size, 1, none⟩ = some v1 ∧ (w.alloc (.cells #[v0, v1, v2, v3, v4] t)).cell? ⟨w.heap.size, 2, none⟩ = some v2 ∧ (w.alloc (.cells #[v0, v1, v2, v3, v4] t)).cell? ⟨w.heap.size, 3, none⟩ = some v3 ∧ (w.alloc (.cells #[v0, v1, v2, v3, v4] t)).cell? ⟨w.heap.size, 4, none⟩ = some v4 := by
  obtain ⟨a0, a1, a2, a3, a4, _⟩ := after5 (w := w) (v0 := v0) (v1 := v1) (v2 := v2) (v3 := v3) (v4 := v4) (t := t) (Below.refl _ _)
  exact ⟨a0, a1, a2, a3, a4⟩

set_option maxHeartbeats 2000000 in
theorem put_bad (A : Option Addr) (n c : Nat) (l : List Ac) (e : Ac) (hn : l.length = n) (hl : n ≤ 1000) (hok : ∀ a ∈ l, a.ok) (hb : putBad l e = true) (w : World) (hA : Aces w A l) :
    Calls Try.prog 25 #[.slice A n c, av e] w fun x w' => x = .returned (.tuple #[.slice none 0 0, .int .i64 20]) ∧ Below w.heap.size w w' := by
  have cV := fun W (h : Below w.heap.size w W) => valid_any A n c l hn hl hok W (hA.below h)
  have cI := fun W => inRange_any e W
  obtain ⟨ew, el, er, ee, eg⟩ := e
  obtain ⟨v, hv⟩ : ∃ v, validB l = v := ⟨_, rfl⟩
  obtain ⟨r, hr⟩ : ∃ r, inR ⟨ew, el, er, ee, eg⟩ = r := ⟨_, rfl⟩
  unfold putBad at hb
  rw [hv] at cV hb
  rw [hr] at cI hb
  unfold av at cI ⊢
  dsimp only at cI hb ⊢
  have CV := Lib.hid cV
  have CI := Lib.hid cI
  clear cV cI hv hr hn hok hA
  have ways : v = false ∨ (v = true ∧ eg = true) ∨ (v = true ∧ eg = false ∧ r = false) := by revert hb; cases v <;> cases eg <;> cases r <;> simp
  clear hb
  have hbx := (Below.refl w.heap.size w).alloc (Nat.le_refl _) (.cells #[.int .i64 ew, .bool el, .int .i64 er, .int .i64 ee, .bool eg] 31)
  have HBX := Lib.hid hbx
  clear hbx
  rcases ways with rfl | ⟨rfl, rfl⟩ | ⟨rfl, rfl, rfl⟩
  all_goals
    go_enter Try.func25, Try.ntmps25
    go_wp2_with (first | (go_at_call 13; refine (CV.out _ HBX.out).mono ?_; rintro x w1 ⟨rfl, hb1⟩; obtain ⟨h0, h1, h2, h3, h4, _, _, _, _, _, hlt1⟩ := after5 hb1; have HB1 := Lib.hid (HBX.out.trans (hb1.mono (by simp)))) | (go_at_call 34; refine (CI.out _).mono ?_; rintro x w2 ⟨rfl, hb2⟩; have HB2 := Lib.hid (HB1.out.trans (hb2.mono HB1.out.size))))
    go_ret2
    first | exact ⟨rfl, HB2.out⟩ | exact ⟨rfl, HB1.out⟩

set_option maxHeartbeats 4000000 in
theorem put_set (A : Option Addr) (n c : Nat) (l : List Ac) (e : Ac) (hn : l.length = n) (hok : ∀ a ∈ l, a.ok) (hs : A = none → n = 0 ∧ c = 0) (hb : putBad l e = false) (j : Nat) (hj : placeN l e.mk0 = some j) (her : e.rights ≠ 0) (w : World) (hA : Aces w A l) :
    Calls Try.prog 25 #[.slice A n c, av e] w fun x w' => ∃ A' c', x = .returned (.tuple #[.slice A' n c', .int .i64 0]) ∧ w'.ownsRow w.heap.size 31 5 (.slice A' n c') n (encs (l.set j e)) ∧ Below w.heap.size w w' := by
  have hvl : validB l = true := by unfold putBad at hb; revert hb; cases validB l <;> simp
  have hg : e.given = false := by unfold putBad at hb; revert hb; cases e.given <;> simp
  have hri : inR e = true := by unfold putBad at hb; revert hb; cases inR e <;> simp
  have hl16 := validB_len hvl
  rw [hn] at hl16
  obtain ⟨hjl, hjm⟩ := placeN_some hj
  rw [hn] at hjl
  have hidx : idxI l e.mk0 = (j : Int) := by unfold idxI; rw [hj]
  have cV := fun W (h : Below w.heap.size w W) => valid_any A n c l hn (by omega) hok W (hA.below h)
  have cC := fun W (h : Below w.heap.size w W) => clone_any A n c l hn (by omega) hs W (hA.below h)
  have cI := fun W => inRange_any e W
  have cM := fun W => markOf_any e W
  have cX := fun (A' : Option Addr) (c' b : Nat) W (h : Aces W A' l) (hM : Mk b e.mk0 W) => indexFunc_any A' n c' l hn (by omega) e.mk0 b W h hM
  rw [hvl] at cV
  rw [hri] at cI
  rw [hidx] at cX
  obtain ⟨ew, el, er, ee, eg⟩ := e
  dsimp only at hg her
  subst hg
  have b0 : (er == 0) = false := beq_eq_false_iff_ne.2 her
  have b1 : (er != 0) = true := by simp [bne, b0]
  unfold av at cI cM ⊢
  dsimp only [Ac.mk0] at cI cM cX ⊢
  have CV := Lib.hid cV
  have CC := Lib.hid cC
  have CI := Lib.hid cI
  have CM := Lib.hid cM
  have CX := Lib.hid cX
  have HN := Lib.hid hn
  clear cV cC cI cM cX hn hok hA hvl hri hb hj hjm hidx her hs
  have HBX := Lib.hid ((Below.refl w.heap.size w).alloc (Nat.le_refl _) (.cells #[.int .i64 ew, .bool el, .int .i64 er, .int .i64 ee, .bool false] 31))
  have j0 : (0 : Int) ≤ (j : Int) := by omega
  have jn : (j : Int) < (n : Int) := by omega
  have n16 : decide (16 < (n : Int)) = false := by simp; omega
  go_enter Try.func25, Try.ntmps25
  go_wp2_with (first | (go_at_call 13; refine (CV.out _ HBX.out).mono ?_; rintro x w1 ⟨rfl, hb1⟩; obtain ⟨h0, h1, h2, h3, h4, _, _, _, _, _, hlt1⟩ := after5 hb1; have HB1 := Lib.hid (HBX.out.trans (hb1.mono (by simp)))) | (go_at_call 34; refine (CI.out _).mono ?_; rintro x w2 ⟨rfl, hb2⟩; obtain ⟨h0, h1, h2, h3, h4⟩ := keep5 h0 h1 h2 h3 h4 hb2; have HB2 := Lib.hid (HB1.out.trans (hb2.mono HB1.out.size))) | (go_at_call 40; refine (CC.out _ HB2.out).mono ?_; rintro x w3 ⟨A', c', rfl, hr3, hb3⟩; obtain ⟨g', cap', hv, hg1, hg2⟩ := hr3.form (by omega); obtain ⟨rfl, rfl⟩ : A' = some ⟨g', 0, none⟩ ∧ c' = cap' := (by injection hv with h1 h2 h3; exact ⟨h1, h3⟩); clear hv; obtain ⟨h0, h1, h2, h3, h4⟩ := keep5 h0 h1 h2 h3 h4 hb3; have HB3 := Lib.hid (HB2.out.trans (hb3.mono HB2.out.size)); have HR3 := Lib.hid (own_mono hr3 HB2.out.size); clear hr3) | (go_at_call 33; refine (CM.out _).mono ?_; rintro x w4 ⟨rfl, hb4⟩; obtain ⟨h0, h1, h2, h3, h4⟩ := keep5 h0 h1 h2 h3 h4 hb4; have HB4 := Lib.hid (HB3.out.trans (hb4.mono HB3.out.size)); have HR4 := Lib.hid (own_keep HR3.out hb4)) | (go_at_call 41; refine (CX.out _ _ w4.heap.size _ (Aces.of_own (HR4.out.alloc _)) alloc_box).mono ?_; rintro x w5 ⟨rfl, hb5⟩; obtain ⟨h0, h1, h2, h3, h4⟩ := keep5 h0 h1 h2 h3 h4 (below_new hb5); have HB5 := Lib.hid (HB4.out.trans ((below_new hb5).mono HB4.out.size)); have HR5 := Lib.hid (own_keep HR4.out (below_new hb5)); obtain ⟨y, hy, y0, y1, y2, y3, y4⟩ := own_at HR5.out j hjl; have HY := Lib.hid hy; clear hy; have z0 := HR5.out.frozenAt (j * 5); have z1 := HR5.out.frozenAt (j * 5 + 1); have z2 := HR5.out.frozenAt (j * 5 + 2); have z3 := HR5.out.frozenAt (j * 5 + 3); have z4 := HR5.out.frozenAt (j * 5 + 4)))
  go_ret2
  have hbg : w.heap.size ≤ g' := by obtain ⟨_, h, _⟩ := own_open HR5.out; exact h
  refine ⟨_, _, rfl, ?_, below_setCells HB5.out g' hbg (enc ⟨ew, el, er, ee, false⟩) (j * 5)⟩
  have hcap : n ≤ c' := by obtain ⟨_, _, _, h, _⟩ := own_open HR5.out; exact h
  refine own_write HR5.out (j * 5) (enc ⟨ew, el, er, ee, false⟩) (by simp [enc]; omega) hcap (by rw [encs_length, List.length_set, HN.out]) (fun i hi => ?_)
  have := encs_put l j ⟨ew, el, er, ee, false⟩ (by rw [HN.out]; exact hjl) i (by rw [HN.out]; exact hi)
  rw [HN.out] at this
  exact this
set_option maxHeartbeats 4000000 in
theorem put_del (A : Option Addr) (n c : Nat) (l : List Ac) (e : Ac) (hn : l.length = n) (hok : ∀ a ∈ l, a.ok) (hs : A = none → n = 0 ∧ c = 0) (hb : putBad l e = false) (j : Nat) (hj : placeN l e.mk0 = some j) (her : e.rights = 0) (w : World) (hA : Aces w A l) :
    Calls Try.prog 25 #[.slice A n c, av e] w fun x w' => ∃ A' c', x = .returned (.tuple #[.slice A' (n - 1) c', .int .i64 0]) ∧ w'.ownsRow w.heap.size 31 5 (.slice A' (n - 1) c') (n - 1) (encs (l.eraseIdx j)) ∧ Below w.heap.size w w' := by
  have hvl : validB l = true := by unfold putBad at hb; revert hb; cases validB l <;> simp
  have hg : e.given = false := by unfold putBad at hb; revert hb; cases e.given <;> simp
  have hri : inR e = true := by unfold putBad at hb; revert hb; cases inR e <;> simp
  have hl16 := validB_len hvl
  rw [hn] at hl16
  obtain ⟨hjl, hjm⟩ := placeN_some hj
  rw [hn] at hjl
  have hidx : idxI l e.mk0 = (j : Int) := by unfold idxI; rw [hj]
  have cV := fun W (h : Below w.heap.size w W) => valid_any A n c l hn (by omega) hok W (hA.below h)
  have cC := fun W (h : Below w.heap.size w W) => clone_any A n c l hn (by omega) hs W (hA.below h)
  have cI := fun W => inRange_any e W
  have cM := fun W => markOf_any e W
  have cX := fun (A' : Option Addr) (c' b : Nat) W (h : Aces W A' l) (hM : Mk b e.mk0 W) => indexFunc_any A' n c' l hn (by omega) e.mk0 b W h hM
  rw [hvl] at cV
  rw [hri] at cI
  rw [hidx] at cX
  obtain ⟨ew, el, er, ee, eg⟩ := e
  dsimp only at hg her
  subst hg
  subst her
  unfold av at cI cM ⊢
  dsimp only [Ac.mk0] at cI cM cX ⊢
  have CV := Lib.hid cV
  have CC := Lib.hid cC
  have CI := Lib.hid cI
  have CM := Lib.hid cM
  have CX := Lib.hid cX
  have HN := Lib.hid hn
  clear cV cC cI cM cX hn hok hA hvl hri hb hj hjm hidx hs
  have HBX := Lib.hid ((Below.refl w.heap.size w).alloc (Nat.le_refl _) (.cells #[.int .i64 ew, .bool el, .int .i64 0, .int .i64 ee, .bool false] 31))
  have j0 : (0 : Int) ≤ (j : Int) := by omega
  have jn : (j : Int) < (n : Int) := by omega
  have n16 : decide (16 < ((n - 1 : Nat) : Int)) = false := by simp; omega
  have wj : IntKind.i64.wrap ((j : Int) + 1) = (j : Int) + 1 := IntWalk.i64_in _ (by omega)
  have CD := Lib.hid (fun (g c' : Nat) W (h : W.ownsRow w.heap.size 31 5 (.slice (some ⟨g, 0, none⟩) n c') n (encs l)) => delete_any w.heap.size g n c' j l hjl (by omega) W h)
  go_enter Try.func25, Try.ntmps25
  go_wp2_with (first | (go_at_call 13; refine (CV.out _ HBX.out).mono ?_; rintro x w1 ⟨rfl, hb1⟩; obtain ⟨h0, h1, h2, h3, h4, _, _, _, _, _, hlt1⟩ := after5 hb1; have HB1 := Lib.hid (HBX.out.trans (hb1.mono (by simp)))) | (go_at_call 34; refine (CI.out _).mono ?_; rintro x w2 ⟨rfl, hb2⟩; obtain ⟨h0, h1, h2, h3, h4⟩ := keep5 h0 h1 h2 h3 h4 hb2; have HB2 := Lib.hid (HB1.out.trans (hb2.mono HB1.out.size))) | (go_at_call 40; refine (CC.out _ HB2.out).mono ?_; rintro x w3 ⟨A', c', rfl, hr3, hb3⟩; obtain ⟨g', cap', hv, hg1, hg2⟩ := hr3.form (by omega); obtain ⟨rfl, rfl⟩ : A' = some ⟨g', 0, none⟩ ∧ c' = cap' := (by injection hv with h1 h2 h3; exact ⟨h1, h3⟩); clear hv; obtain ⟨h0, h1, h2, h3, h4⟩ := keep5 h0 h1 h2 h3 h4 hb3; have HB3 := Lib.hid (HB2.out.trans (hb3.mono HB2.out.size)); have HR3 := Lib.hid (own_mono hr3 HB2.out.size); clear hr3) | (go_at_call 33; refine (CM.out _).mono ?_; rintro x w4 ⟨rfl, hb4⟩; obtain ⟨h0, h1, h2, h3, h4⟩ := keep5 h0 h1 h2 h3 h4 hb4; have HB4 := Lib.hid (HB3.out.trans (hb4.mono HB3.out.size)); have HR4 := Lib.hid (own_keep HR3.out hb4)) | (go_at_call 41; refine (CX.out _ _ w4.heap.size _ (Aces.of_own (HR4.out.alloc _)) alloc_box).mono ?_; rintro x w5 ⟨rfl, hb5⟩; obtain ⟨h0, h1, h2, h3, h4⟩ := keep5 h0 h1 h2 h3 h4 (below_new hb5); have HB5 := Lib.hid (HB4.out.trans ((below_new hb5).mono HB4.out.size)); have HR5 := Lib.hid (own_keep HR4.out (below_new hb5))) | (go_at_call 43; refine (CD.out _ _ _ HR5.out).mono ?_; rintro x w6 ⟨rfl, hr6, hb6⟩; have HR6 := Lib.hid hr6; have HB6 := Lib.hid (HB5.out.trans hb6); clear hr6 hb6))
  go_ret2
  exact ⟨_, _, rfl, HR6.out, HB6.out⟩
end Go.Proofs.Ytkpedfigaofloaa
