/-
  Layer 16: the law file's between; the fixed examples.
-/
import Derived.Test.YthjfnmhnbhhbcaaCa
namespace Go.Proofs.Ythjfnmhnbhhbcaa
open Go.RowKit
set_option maxHeartbeats 400000
set_option maxRecDepth 100000

theorem two_set {W : World} {p : Nat} {t : TypeId} {v u a b : Value} (h : W.heap[p]? = some (.cells #[v, u] t (0, 0))) : ((W.setCell ⟨p, 0, none⟩ a).setCell ⟨p, 1, none⟩ b).cell? ⟨p, 0, none⟩ = some a ∧ ((W.setCell ⟨p, 0, none⟩ a).setCell ⟨p, 1, none⟩ b).cell? ⟨p, 1, none⟩ = some b := by
  have z0 : W.cell? ⟨p, 0, none⟩ = some v := cell_of_row W p 0 _ _ _ h
  have z1 : W.cell? ⟨p, 1, none⟩ = some u := cell_of_row W p 1 _ _ _ h
  constructor
  · rw [World.cell?_setCell_other _ _ _ _ (by simp)]
    exact World.cell?_setCell_same _ _ _ z0
  · exact World.cell?_setCell_same _ _ _ ((World.cell?_setCell_other _ _ _ _ (by simp)).trans z1)
theorem new_below (w : World) (o : Obj) {w1 : World} (hb : Below (w.alloc o).heap.size (w.alloc o) w1) : Below w.heap.size w w1 ∧ w1.heap[w.heap.size]? = some o :=
  ⟨((Below.refl _ w).alloc (Nat.le_refl _) o).trans (hb.mono (by simp)), (hb.block _ (by simp)).trans (heap_alloc_new w o)⟩
section
variable {Env : World → Prop} (P : PrgC Env)
include P
theorem between_any (s : Int) (hs : Tm s) (w : World) (hE : Env w) :
    Calls Try.prog 15 #[.int .i64 s] w fun e w' => e = .returned (.agg #[.int .i64 (s - 10), .int .i64 (s + 10)]) ∧ Below w.heap.size w w' := by
  have hE1 := P.env hE ((Below.refl _ w).alloc (Nat.le_refl _) (.cells #[.int .i64 0, .int .i64 0] 30))
  have CB := Lib.hid (P.between s _ hE1 hs)
  obtain ⟨lo, hlo⟩ : ∃ lo, s - 10 = lo := ⟨_, rfl⟩
  obtain ⟨hi, hhi⟩ : ∃ hi, s + 10 = hi := ⟨_, rfl⟩
  rw [hlo, hhi] at CB ⊢
  have HN := Lib.hid (fun w1 => new_below w (.cells #[.int .i64 0, .int .i64 0] 30) (w1 := w1))
  clear hE hE1 hlo hhi
  go_enter Try.func15, Try.ntmps15
  go_wp2_with (go_at_call 26; refine CB.out.mono ?_; rintro e w1 ⟨rfl, hb1⟩; obtain ⟨hb2, hrow⟩ := HN.out w1 hb1; have z0 := cell_of_row w1 w.heap.size 0 _ _ _ hrow; have z1 := cell_of_row w1 w.heap.size 1 _ _ _ hrow; have f0 := frozen_of_row w1 w.heap.size 0 _ _ hrow; have f1 := frozen_of_row w1 w.heap.size 1 _ _ hrow; replace z0 : w1.cell? ⟨w.heap.size, 0, none⟩ = some (.int .i64 0) := z0; replace z1 : w1.cell? ⟨w.heap.size, 1, none⟩ = some (.int .i64 0) := z1; have HROW := Lib.hid hrow; have HB2 := Lib.hid hb2; clear hb1 hrow hb2)
  have hd := two_set (a := .int .i64 lo) (b := .int .i64 hi) HROW.out
  refine bodyPost_ret (v := .agg #[.int .i64 lo, .int .i64 hi]) ?_ rfl ⟨rfl, (HB2.out.setCell (p := ⟨w.heap.size, 0, none⟩) (Nat.le_refl _) _).setCell (p := ⟨w.heap.size, 1, none⟩) (Nat.le_refl _) _⟩
  simp [results, Try.results15, go_sem, hd.1, hd.2]
/-- The contracts with their results written out, in whatever later world. -/
abbrev Later (w W : World) : Prop := Below w.heap.size w W
section
variable {w : World} (hE : Env w)
include hE
theorem c_valid (a : Int) (r : Bool) (hr : (decide (-10 ≤ a) && decide (a ≤ 10)) = r) (ha : -9223372036854775808 ≤ a ∧ a ≤ 9223372036854775807) (W : World) (h : Later w W) :
    Calls Try.prog 24 #[.agg #[.int .i64 a]] W fun e w' => e = .returned (.bool r) ∧ Later w w' := by
  subst hr
  exact (P.valid a W (P.env hE h) (wf_i64 ha.1 ha.2)).mono fun _ _ ⟨h1, h2⟩ => ⟨h1, h.trans (h2.mono h.size)⟩
theorem c_read (a t r : Int) (hr : t + a = r) (h0 : -10 ≤ a) (h1 : a ≤ 10) (ht : Tm t) (W : World) (h : Later w W) :
    Calls Try.prog 13 #[.agg #[.int .i64 a], .int .i64 t] W fun e w' => e = .returned (.int .i64 r) ∧ Later w w' := by
  subst hr
  exact (P.read a t W (P.env hE h) h0 h1 ht).mono fun _ _ ⟨h1, h2⟩ => ⟨h1, h.trans (h2.mono h.size)⟩
theorem c_between (s lo hi : Int) (h0 : s - 10 = lo) (h1 : s + 10 = hi) (hs : Tm s) (W : World) (h : Later w W) :
    Calls Try.prog 15 #[.int .i64 s] W fun e w' => e = .returned (.agg #[.int .i64 lo, .int .i64 hi]) ∧ Later w w' := by
  subst h0 h1
  exact (between_any P s hs W (P.env hE h)).mono fun _ _ ⟨h1, h2⟩ => ⟨h1, h.trans (h2.mono h.size)⟩
theorem c_holds (u s : Int) (r : Bool) (hr : decide (s + 20 < u) = r) (hu : Tm u) (hs : Tm s) (W : World) (h : Later w W) :
    Calls Try.prog 16 #[.int .i64 u, .int .i64 s] W fun e w' => e = .returned (.bool r) ∧ Later w w' := by
  subst hr
  exact (P.holds u s W (P.env hE h) hu hs).mono fun _ _ ⟨h1, h2⟩ => ⟨h1, h.trans (h2.mono h.size)⟩
theorem c_over (u s : Int) (r : Bool) (hr : decide (u ≤ s - 20) = r) (hu : Tm u) (hs : Tm s) (W : World) (h : Later w W) :
    Calls Try.prog 18 #[.int .i64 u, .int .i64 s] W fun e w' => e = .returned (.bool r) ∧ Later w w' := by
  subst hr
  exact (P.over u s W (P.env hE h) hu hs).mono fun _ _ ⟨h1, h2⟩ => ⟨h1, h.trans (h2.mono h.size)⟩
theorem c_wait (u s r : Int) (hr : max 0 (u + 20 - s) = r) (hu : Tm u) (hs : Tm s) (W : World) (h : Later w W) :
    Calls Try.prog 20 #[.int .i64 u, .int .i64 s] W fun e w' => e = .returned (.int .i64 r) ∧ Later w w' := by
  subst hr
  exact (P.wait u s W (P.env hE h) hu hs).mono fun _ _ ⟨h1, h2⟩ => ⟨h1, h.trans (h2.mono h.size)⟩
theorem c_drift (a b r : Int) (hr : driftC a b = r) (h0 : -10 ≤ a) (h1 : a ≤ 10) (hb : -9223372036854775808 ≤ b ∧ b ≤ 9223372036854775807) (W : World) (h : Later w W) :
    Calls Try.prog 22 #[.agg #[.int .i64 a], .int .i64 b] W fun e w' => e = .returned (.agg #[.int .i64 r]) ∧ Later w w' := by
  subst hr
  exact (P.drift a b W (P.env hE h) h0 h1 (wf_i64 hb.1 hb.2)).mono fun _ _ ⟨h1, h2⟩ => ⟨h1, h.trans (h2.mono h.size)⟩
end
theorem sanity_any (w : World) (hE : Env w) : Calls Try.prog 10 #[] w fun e w' => e = .returned (.bool true) ∧ Below w.heap.size w w' := by
  have CR := Lib.hid (c_read P hE (-3) 100 97 rfl (by decide) (by decide) ⟨by decide, by decide⟩)
  have CB := Lib.hid (c_between P hE 100 90 110 rfl rfl ⟨by decide, by decide⟩)
  have H1 := Lib.hid (c_holds P hE 100 79 true rfl ⟨by decide, by decide⟩ ⟨by decide, by decide⟩)
  have H2 := Lib.hid (c_holds P hE 100 80 false rfl ⟨by decide, by decide⟩ ⟨by decide, by decide⟩)
  have O1 := Lib.hid (c_over P hE 100 119 false rfl ⟨by decide, by decide⟩ ⟨by decide, by decide⟩)
  have O2 := Lib.hid (c_over P hE 100 120 true rfl ⟨by decide, by decide⟩ ⟨by decide, by decide⟩)
  have W1 := Lib.hid (c_wait P hE 100 115 5 rfl ⟨by decide, by decide⟩ ⟨by decide, by decide⟩)
  have W2 := Lib.hid (c_wait P hE 100 500 0 rfl ⟨by decide, by decide⟩ ⟨by decide, by decide⟩)
  have D1 := Lib.hid (c_drift P hE 8 5 10 rfl (by decide) (by decide) ⟨by decide, by decide⟩)
  have D2 := Lib.hid (c_drift P hE 8 (-100) (-10) rfl (by decide) (by decide) ⟨by decide, by decide⟩)
  have V1 := Lib.hid (c_valid P hE (-10) true rfl ⟨by decide, by decide⟩)
  have V2 := Lib.hid (c_valid P hE 11 false rfl ⟨by decide, by decide⟩)
  have k : Hid (Later w w) := Lib.hid (Below.refl _ _)
  clear hE
  go_enter Try.func10, Try.ntmps10
  go_wp2_with (first | (go_at_call 13; (with_reducible refine (CR.out _ k.out).mono ?_); rintro e w1 ⟨rfl, k1⟩; replace k := Lib.hid k1; clear k1) | (go_at_call 15; (with_reducible refine (CB.out _ k.out).mono ?_); rintro e w1 ⟨rfl, k1⟩; replace k := Lib.hid k1; clear k1) | (go_at_call 16; (with_reducible refine (H1.out _ k.out).mono ?_); rintro e w1 ⟨rfl, k1⟩; replace k := Lib.hid k1; clear k1) | (go_at_call 16; (with_reducible refine (H2.out _ k.out).mono ?_); rintro e w1 ⟨rfl, k1⟩; replace k := Lib.hid k1; clear k1) | (go_at_call 18; (with_reducible refine (O1.out _ k.out).mono ?_); rintro e w1 ⟨rfl, k1⟩; replace k := Lib.hid k1; clear k1) | (go_at_call 18; (with_reducible refine (O2.out _ k.out).mono ?_); rintro e w1 ⟨rfl, k1⟩; replace k := Lib.hid k1; clear k1) | (go_at_call 20; (with_reducible refine (W1.out _ k.out).mono ?_); rintro e w1 ⟨rfl, k1⟩; replace k := Lib.hid k1; clear k1) | (go_at_call 20; (with_reducible refine (W2.out _ k.out).mono ?_); rintro e w1 ⟨rfl, k1⟩; replace k := Lib.hid k1; clear k1) | (go_at_call 22; (with_reducible refine (D1.out _ k.out).mono ?_); rintro e w1 ⟨rfl, k1⟩; replace k := Lib.hid k1; clear k1) | (go_at_call 22; (with_reducible refine (D2.out _ k.out).mono ?_); rintro e w1 ⟨rfl, k1⟩; replace k := Lib.hid k1; clear k1) | (go_at_call 24; (with_reducible refine (V1.out _ k.out).mono ?_); rintro e w1 ⟨rfl, k1⟩; replace k := Lib.hid k1; clear k1) | (go_at_call 24; (with_reducible refine (V2.out _ k.out).mono ?_); rintro e w1 ⟨rfl, k1⟩; replace k := Lib.hid k1; clear k1))
  go_ret
  exact ⟨rfl, k.out⟩
end
end Go.Proofs.Ythjfnmhnbhhbcaa
