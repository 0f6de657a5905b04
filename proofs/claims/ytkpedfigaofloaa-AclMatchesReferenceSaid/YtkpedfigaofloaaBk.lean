/-
  Walks of the program's Put, where the mark is not there: nothing is put, or the entry is put behind the own ones, or there are too many; all ways of Put.
-/
import Derived.Test.YtkpedfigaofloaaBj
import Derived.Deep.RegionHeld
namespace Go.Proofs.Ytkpedfigaofloaa
open Go.RowKit Ap
set_option maxHeartbeats 400000

set_option maxHeartbeats 4000000 in
theorem put_none (A : Option Addr) (n c : Nat) (l : List Ac) (e : Ac) (hn : l.length = n) (hok : ∀ a ∈ l, a.ok) (hs : A = none → n = 0 ∧ c = 0) (hb : putBad l e = false) (hj : placeN l e.mk0 = none) (her : e.rights = 0) (w : World) (hA : Aces w A l) :
    Calls Try.prog 25 #[.slice A n c, av e] w fun x w' => ∃ A' c', x = .returned (.tuple #[.slice A' n c', .int .i64 0]) ∧ w'.ownsRow w.heap.size 31 5 (.slice A' n c') n (encs l) ∧ Below w.heap.size w w' := by
  have hvl : validB l = true := by unfold putBad at hb; revert hb; cases validB l <;> simp
  have hg : e.given = false := by unfold putBad at hb; revert hb; cases e.given <;> simp
  have hri : inR e = true := by unfold putBad at hb; revert hb; cases inR e <;> simp
  have hl16 := validB_len hvl
  rw [hn] at hl16
  have hidx : idxI l e.mk0 = -1 := by unfold idxI; rw [hj]
  have cV := fun W (h : Below w.heap.size w W) => valid_any A n c l hn (by omega) hok W (hA.below h)
  have cC := fun W (h : Below w.heap.size w W) => clone_any A n c l hn (by omega) hs W (hA.below h)
  have cI := fun W => inRange_any e W
  have cM := fun W => markOf_any e W
  have cX := fun (A' : Option Addr) (c' b : Nat) W (h : Aces W A' l) (hM : Mk b e.mk0 W) => indexFunc_any A' n c' l hn (by omega) e.mk0 b W h hM
  rw [hvl] at cV
  rw [hri] at cI
  rw [hidx] at cX
  obtain ⟨ew, el, er, ee, eg⟩ := e
  dsimp only at hg her
  subst hg
  subst her
  unfold av at cI cM ⊢
  dsimp only [Ac.mk0] at cI cM cX ⊢
  have CV := Lib.hid cV
  have CC := Lib.hid cC
  have CI := Lib.hid cI
  have CM := Lib.hid cM
  have CX := Lib.hid cX
  have HN := Lib.hid hn
  clear cV cC cI cM cX hn hok hA hvl hri hb hj hidx hs
  have HBX := Lib.hid ((Below.refl w.heap.size w).alloc (Nat.le_refl _) (.cells #[.int .i64 ew, .bool el, .int .i64 0, .int .i64 ee, .bool false] 31))
  have n16 : decide (16 < (n : Int)) = false := by simp; omega
  go_enter Try.func25, Try.ntmps25
  go_wp2_with (first | (go_at_call 13; refine (CV.out _ HBX.out).mono ?_; rintro x w1 ⟨rfl, hb1⟩; obtain ⟨h0, h1, h2, h3, h4, _, _, _, _, _, hlt1⟩ := after5 hb1; have HB1 := Lib.hid (HBX.out.trans (hb1.mono (by simp)))) | (go_at_call 34; refine (CI.out _).mono ?_; rintro x w2 ⟨rfl, hb2⟩; obtain ⟨h0, h1, h2, h3, h4⟩ := keep5 h0 h1 h2 h3 h4 hb2; have HB2 := Lib.hid (HB1.out.trans (hb2.mono HB1.out.size))) | (go_at_call 40; refine (CC.out _ HB2.out).mono ?_; rintro x w3 ⟨A', c', rfl, hr3, hb3⟩; obtain ⟨h0, h1, h2, h3, h4⟩ := keep5 h0 h1 h2 h3 h4 hb3; have HB3 := Lib.hid (HB2.out.trans (hb3.mono HB2.out.size)); have HR3 := Lib.hid (own_mono hr3 HB2.out.size); clear hr3) | (go_at_call 33; refine (CM.out _).mono ?_; rintro x w4 ⟨rfl, hb4⟩; obtain ⟨h0, h1, h2, h3, h4⟩ := keep5 h0 h1 h2 h3 h4 hb4; have HB4 := Lib.hid (HB3.out.trans (hb4.mono HB3.out.size)); have HR4 := Lib.hid (own_keep HR3.out hb4)) | (go_at_call 41; refine (CX.out _ _ w4.heap.size _ (Aces.of_own (HR4.out.alloc _)) alloc_box).mono ?_; rintro x w5 ⟨rfl, hb5⟩; obtain ⟨h0, h1, h2, h3, h4⟩ := keep5 h0 h1 h2 h3 h4 (below_new hb5); have HB5 := Lib.hid (HB4.out.trans ((below_new hb5).mono HB4.out.size)); have HR5 := Lib.hid (own_keep HR4.out (below_new hb5))))
  go_ret2
  exact ⟨A', c', rfl, HR5.out, HB5.out⟩

theorem own_off {w : World} {base n c b : Nat} {A : Option Addr} {l : List Ac} (h : w.ownsRow base 31 5 (.slice A n c) n (encs l)) (hb : w.heap.size ≤ b) : ∀ g, A = some ⟨g, 0, none⟩ → b ≠ g := by
  rintro g rfl e
  have := (h.lt g rfl).2
  omega

theorem box_keep {B : Nat} {W W' : World} {v0 v1 v2 v3 v4 : Value} (hb : Below (B + 1) W W') (h : W.cell? ⟨B, 0, none⟩ = some v0 ∧ W.cell? ⟨B, 1, none⟩ = some v1 ∧ W.cell? ⟨B, 2, none⟩ = some v2 ∧ W.cell? ⟨B, 3, none⟩ = some v3 ∧ W.cell? ⟨B, 4, none⟩ = some v4) :
    W'.cell? ⟨B, 0, none⟩ = some v0 ∧ W'.cell? ⟨B, 1, none⟩ = some v1 ∧ W'.cell? ⟨B, 2, none⟩ = some v2 ∧ W'.cell? ⟨B, 3, none⟩ = some v3 ∧ W'.cell? ⟨B, 4, none⟩ = some v4 :=
  ⟨(hb.cell (p := ⟨B, 0, none⟩) (Nat.lt_succ_self B)).trans h.1, (hb.cell (p := ⟨B, 1, none⟩) (Nat.lt_succ_self B)).trans h.2.1, (hb.cell (p := ⟨B, 2, none⟩) (Nat.lt_succ_self B)).trans h.2.2.1, (hb.cell (p := ⟨B, 3, none⟩) (Nat.lt_succ_self B)).trans h.2.2.2.1, (hb.cell (p := ⟨B, 4, none⟩) (Nat.lt_succ_self B)).trans h.2.2.2.2⟩

set_option maxHeartbeats 4000000 in
theorem put_ins (A : Option Addr) (n c : Nat) (l : List Ac) (e : Ac) (hn : l.length = n) (hok : ∀ a ∈ l, a.ok) (hs : A = none → n = 0 ∧ c = 0) (hb : putBad l e = false) (hj : placeN l e.mk0 = none) (her : e.rights ≠ 0) (w : World) (hA : Aces w A l) :
    Calls Try.prog 25 #[.slice A n c, av e] w fun x w' => if n + 1 ≤ 16 then (∃ A' c', x = .returned (.tuple #[.slice A' (n + 1) c', .int .i64 0]) ∧ w'.ownsRow w.heap.size 31 5 (.slice A' (n + 1) c') (n + 1) (encs (insL l (ownL l false).length e)) ∧ Below w.heap.size w w') else x = .returned (.tuple #[.slice none 0 0, .int .i64 2]) ∧ Below w.heap.size w w' := by
  have hvl : validB l = true := by unfold putBad at hb; revert hb; cases validB l <;> simp
  have hg : e.given = false := by unfold putBad at hb; revert hb; cases e.given <;> simp
  have hri : inR e = true := by unfold putBad at hb; revert hb; cases inR e <;> simp
  have hl16 := validB_len hvl
  rw [hn] at hl16
  have hidx : idxI l e.mk0 = -1 := by unfold idxI; rw [hj]
  have cV := fun W (h : Below w.heap.size w W) => valid_any A n c l hn (by omega) hok W (hA.below h)
  have cC := fun W (h : Below w.heap.size w W) => clone_any A n c l hn (by omega) hs W (hA.below h)
  have cI := fun W => inRange_any e W
  have cM := fun W => markOf_any e W
  have cX := fun (A' : Option Addr) (c' b : Nat) W (h : Aces W A' l) (hM : Mk b e.mk0 W) => indexFunc_any A' n c' l hn (by omega) e.mk0 b W h hM
  rw [hvl] at cV
  rw [hri] at cI
  rw [hidx] at cX
  obtain ⟨ew, el, er, ee, eg⟩ := e
  dsimp only at hg her
  subst hg
  have b0 : (er == 0) = false := beq_eq_false_iff_ne.2 her
  have b1 : (er != 0) = true := by simp [bne, b0]
  have hol := ownL_len l false
  rw [hn] at hol
  have cO := fun (A' : Option Addr) (c' : Nat) W (h : Aces W A' l) => ownOf_any A' n c' l hn (by omega) W h
  unfold av at cI cM ⊢
  dsimp only [Ac.mk0] at cI cM cX ⊢
  obtain ⟨m, hm⟩ : ∃ m, (ownL l false).length = m := ⟨_, rfl⟩
  rw [hm] at hol ⊢
  have cO' : ∀ (A' : Option Addr) (c' : Nat) W (h : Aces W A' l), Calls Try.prog 39 #[.slice A' n c'] W fun e w' => ∃ A6 c6, e = .returned (.slice A6 m c6) ∧ Below W.heap.size W w' := fun A' c' W h => (cO A' c' W h).mono fun x w' ⟨A6, m6, c6, hx, hr, hb⟩ => by
    obtain rfl : m = m6 := hm.symm.trans (own_len hr)
    exact ⟨A6, c6, hx, hb⟩
  have CV := Lib.hid cV
  have CC := Lib.hid cC
  have CI := Lib.hid cI
  have CM := Lib.hid cM
  have CX := Lib.hid cX
  have CO := Lib.hid cO'
  have HN := Lib.hid hn
  clear cV cC cI cM cX cO cO' hn hok hA hvl hri hb hj hidx hs her hm
  have HBX := Lib.hid ((Below.refl w.heap.size w).alloc (Nat.le_refl _) (.cells #[.int .i64 ew, .bool el, .int .i64 er, .int .i64 ee, .bool false] 31))
  obtain ⟨q, hq⟩ : ∃ q, n + 1 = q := ⟨_, rfl⟩
  have CQ := Lib.hid (fun (A' : Option Addr) (c' b : Nat) (W : World) (h : W.ownsRow (w.heap.size + 1) 31 5 (.slice A' n c') n (encs l)) (hb : W.heap[b]? = some (.cells #[.int .i64 ew, .bool el, .int .i64 er, .int .i64 ee, .bool false] 31 (0, 0))) (hne : ∀ g, A' = some ⟨g, 0, none⟩ → b ≠ g) (hbase : w.heap.size + 1 ≤ W.heap.size) => by
    have := insert_any (w.heap.size + 1) A' n c' m b l ⟨ew, el, er, ee, false⟩ hol (by omega) hne W h hb hbase
    rw [hq] at this
    exact this)
  rw [hq]
  have HQ := Lib.hid hq
  clear hq
  have hw5 : ∀ w5 : World, Below w.heap.size w w5 → w.heap.size ≤ w5.heap.size := fun w5 h => h.size
  go_enter Try.func25, Try.ntmps25
  go_upto_region 11 with (first | (go_at_call 13; refine (CV.out _ HBX.out).mono ?_; rintro x w1 ⟨rfl, hb1⟩; obtain ⟨h0, h1, h2, h3, h4, _, _, _, _, _, hlt1⟩ := after5 hb1; have HB1 := Lib.hid (HBX.out.trans (hb1.mono (by simp)))) | (go_at_call 34; refine (CI.out _).mono ?_; rintro x w2 ⟨rfl, hb2⟩; obtain ⟨h0, h1, h2, h3, h4⟩ := keep5 h0 h1 h2 h3 h4 hb2; have HB2 := Lib.hid (HB1.out.trans (hb2.mono HB1.out.size))) | (go_at_call 40; refine (CC.out _ HB2.out).mono ?_; rintro x w3 ⟨A', c', rfl, hr3, hb3⟩; obtain ⟨h0, h1, h2, h3, h4⟩ := keep5 h0 h1 h2 h3 h4 hb3; have HB3 := Lib.hid (HB2.out.trans (hb3.mono HB2.out.size)); have hs2 : w.heap.size + 1 ≤ w2.heap.size := Nat.le_trans hlt1 hb2.size; have HR3 := Lib.hid (own_mono hr3 hs2); clear hr3) | (go_at_call 33; refine (CM.out _).mono ?_; rintro x w4 ⟨rfl, hb4⟩; obtain ⟨h0, h1, h2, h3, h4⟩ := keep5 h0 h1 h2 h3 h4 hb4; have HB4 := Lib.hid (HB3.out.trans (hb4.mono HB3.out.size)); have HR4 := Lib.hid (own_keep HR3.out hb4)) | (go_at_call 41; refine (CX.out _ _ w4.heap.size _ (Aces.of_own (HR4.out.alloc _)) alloc_box).mono ?_; rintro x w5 ⟨rfl, hb5⟩; obtain ⟨h0, h1, h2, h3, h4⟩ := keep5 h0 h1 h2 h3 h4 (below_new hb5); have HB5 := Lib.hid (HB4.out.trans ((below_new hb5).mono HB4.out.size)); have HR5 := Lib.hid (own_keep HR4.out (below_new hb5))))
  (first | (go_region_held (fun W' => W'.cell? ⟨w.heap.size, 0, none⟩ = some (.int .i64 ew) ∧ W'.cell? ⟨w.heap.size, 1, none⟩ = some (.bool el) ∧ W'.cell? ⟨w.heap.size, 2, none⟩ = some (.int .i64 er) ∧ W'.cell? ⟨w.heap.size, 3, none⟩ = some (.int .i64 ee) ∧ W'.cell? ⟨w.heap.size, 4, none⟩ = some (.bool false))
      (first | with_reducible exact ⟨h0, h1, h2, h3, h4⟩ | with_reducible exact ⟨alloc_keep h0, alloc_keep h1, alloc_keep h2, alloc_keep h3, alloc_keep h4⟩ | exact ⟨h0, h1, h2, h3, h4⟩ | exact ⟨alloc_keep h0, alloc_keep h1, alloc_keep h2, alloc_keep h3, alloc_keep h4⟩ | (trivial))
      (first
        | (go_at_call 39; first
          | ((with_reducible refine (CO.out _ _ w5.drew (Aces.of_own HR5.out.drew)).mono ?_); rintro x w6 ⟨A6, c6, rfl, hb6⟩; have HR6 := Lib.hid (own_keep HR5.out.drew hb6); have HB6 := Lib.hid (HB5.out.drew.trans (hb6.mono HB5.out.size)); have HS6 := Lib.hid (show w.heap.size + 1 ≤ (w6.alloc (.cells #[.int .i64 ew, .bool el, .int .i64 er, .int .i64 ee, .bool false] 31)).heap.size from Nat.le_trans (Nat.succ_le_of_lt (block_lt_of_cell h0)) (show w5.heap.size ≤ (w6.alloc (.cells #[.int .i64 ew, .bool el, .int .i64 er, .int .i64 ee, .bool false] 31)).heap.size from Nat.le_trans hb6.size (by simp))); obtain ⟨h0, h1, h2, h3, h4⟩ := keep5 (w := w5.drew) h0 h1 h2 h3 h4 hb6)
          | ((with_reducible refine (CO.out _ _ (w5.drew.alloc _) (Aces.of_own (HR5.out.drew.alloc _))).mono ?_); rintro x w6 ⟨A6, c6, rfl, hb6⟩; have HK6 := Lib.hid ((hb6.block w5.heap.size (by simp)).trans (heap_alloc_new w5.drew (.cells #[.int .i64 ew, .bool el, .int .i64 er, .int .i64 ee, .bool false] 31))); have HR6 := Lib.hid (own_keep HR5.out.drew (below_new hb6)); have HB6 := Lib.hid (HB5.out.drew.trans ((below_new hb6).mono HB5.out.size)); have HS6 := Lib.hid (show w.heap.size + 1 ≤ w6.heap.size from Nat.le_trans (Nat.succ_le_of_lt (block_lt_of_cell h0)) (show w5.heap.size ≤ w6.heap.size from (below_new hb6).size)); obtain ⟨h0, h1, h2, h3, h4⟩ := keep5 (w := w5.drew) h0 h1 h2 h3 h4 (below_new hb6))
          | ((with_reducible refine (CO.out _ _ ((w5.alloc _).drew) (Aces.of_own (HR5.out.alloc _).drew)).mono ?_); rintro x w6 ⟨A6, c6, rfl, hb6d⟩; have hb6 := ((Below.refl _ (w5.alloc (.cells #[.int .i64 ew, .bool el, .int .i64 er, .int .i64 ee, .bool false] 31))).drew).trans hb6d; clear hb6d; have HK6 := Lib.hid ((hb6.block w5.heap.size (by simp)).trans (heap_alloc_new w5 (.cells #[.int .i64 ew, .bool el, .int .i64 er, .int .i64 ee, .bool false] 31))); have HR6 := Lib.hid (own_keep HR5.out (below_new hb6)); have HB6 := Lib.hid (HB5.out.trans ((below_new hb6).mono HB5.out.size)); have HS6 := Lib.hid (show w.heap.size + 1 ≤ w6.heap.size from Nat.le_trans (Nat.succ_le_of_lt (block_lt_of_cell h0)) (show w5.heap.size ≤ w6.heap.size from (below_new hb6).size)); obtain ⟨h0, h1, h2, h3, h4⟩ := keep5 (w := w5) h0 h1 h2 h3 h4 (below_new hb6)))
        | (go_at_call 44; first
          | ((with_reducible refine (CQ.out A' c' w6.heap.size _ (HR6.out.alloc _) (heap_alloc_new w6 _) (own_off HR6.out (Nat.le_refl _)) HS6.out).mono ?_); rintro x w7 ⟨A7, c7, rfl, hr7, hb7⟩; have HR7 := Lib.hid hr7; have HB7 := Lib.hid ((HB6.out.alloc HB6.out.size _).trans (hb7.mono (Nat.le_succ _))); obtain ⟨h0, h1, h2, h3, h4⟩ := box_keep hb7 ⟨alloc_keep h0, alloc_keep h1, alloc_keep h2, alloc_keep h3, alloc_keep h4⟩)
          | ((with_reducible refine (CQ.out A' c' w5.heap.size _ HR6.out HK6.out (own_off HR5.out.drew (Nat.le_refl _)) HS6.out).mono ?_); rintro x w7 ⟨A7, c7, rfl, hr7, hb7⟩; have HR7 := Lib.hid hr7; have HB7 := Lib.hid (HB6.out.trans (hb7.mono (Nat.le_succ _))); obtain ⟨h0, h1, h2, h3, h4⟩ := box_keep hb7 ⟨h0, h1, h2, h3, h4⟩)))) | fail)
  all_goals
    by_cases h16 : q ≤ 16
    · have n16 : decide (16 < (q : Int)) = false := by simp; omega
      go_wp2_with fail
      go_ret2
      try rw [if_pos h16]
      exact ⟨A7, c7, rfl, own_mono HR7.out (Nat.le_succ _), HB7.out⟩
    · have n16 : decide (16 < (q : Int)) = true := by simp; omega
      go_wp2_with fail
      go_ret2
      try rw [if_neg h16]
      exact ⟨rfl, HB7.out⟩
end Go.Proofs.Ytkpedfigaofloaa
