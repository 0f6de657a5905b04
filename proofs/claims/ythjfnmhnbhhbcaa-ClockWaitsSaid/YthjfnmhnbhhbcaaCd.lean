/-
  Layer 16: walks of ClockOrder, ClockWaits and ClockEnds.
-/
import Derived.Test.YthjfnmhnbhhbcaaCc
namespace Go.Proofs.Ythjfnmhnbhhbcaa
open Go.RowKit
set_option maxHeartbeats 4000000
set_option maxRecDepth 100000

theorem below_drewN (w : World) (m : Nat) : Below w.heap.size w (w.drewN m) := ⟨rfl, rfl, rfl, Nat.le_refl _, fun _ _ => rfl⟩
section
variable {Env : World → Prop} (P : PrgC Env)
include P
theorem lawOrder_any (u s : Int) (hu : -9223372036854775808 ≤ u ∧ u ≤ 9223372036854775807) (hs : -9223372036854775808 ≤ s ∧ s ≤ 9223372036854775807) (n0 n1 : UInt8) (w : World) (hE : Env w) :
    Calls Try.prog 5 #[.int .i64 u, .int .i64 s, .agg #[.int .u8 n0.toNat, .int .u8 n1.toNat]] w fun e w' => e = .returned (.bool true) ∧ Below w.heap.size w w' := by
  obtain ⟨x0, hx0⟩ : ∃ x, n0.toNat = x := ⟨_, rfl⟩
  obtain ⟨x1, hx1⟩ : ∃ x, n1.toNat = x := ⟨_, rfl⟩
  have h0 : x0 < 256 := by have := n0.toNat_lt; omega
  have h1 : x1 < 256 := by have := n1.toNat_lt; omega
  have hr := tmC_r hu
  have hr2 := tmC_r hs
  obtain ⟨E, hEn⟩ : ∃ E, tmC u = E := ⟨_, rfl⟩
  obtain ⟨t, htn⟩ : ∃ t, tmC s = t := ⟨_, rfl⟩
  rw [hEn] at hr
  rw [htn] at hr2
  rw [hx0, hx1]
  obtain ⟨W0, hW0⟩ : ∃ W0, w.alloc (.cells #[.int .u8 x0, .int .u8 x1] 37) = W0 := ⟨_, rfl⟩
  have BX : Hid (∀ W, Later W0 W → W.cell? ⟨w.heap.size, 0, none⟩ = some (.int .u8 x0) ∧ W.cell? ⟨w.heap.size, 1, none⟩ = some (.int .u8 x1)) := Lib.hid (by rw [← hW0]; exact box_two _ _ _)
  have hbw : Below w.heap.size w W0 := by rw [← hW0]; exact (Below.refl _ w).alloc (Nat.le_refl _) _
  have HBW := Lib.hid hbw
  have hE0 := P.env hE hbw
  have CS := Lib.hid (c_sanity P hE0)
  have T0 := Lib.hid (c_time (w := W0) u hu E hEn)
  have T1 := Lib.hid (c_time (w := W0) s hs t htn)
  obtain ⟨p1, hp1⟩ : ∃ p, decide (t + 20 < E) = p := ⟨_, rfl⟩
  obtain ⟨p2, hp2⟩ : ∃ p, decide (t - x0 + 20 < E) = p := ⟨_, rfl⟩
  obtain ⟨p3, hp3⟩ : ∃ p, decide (t + 20 < E + x1) = p := ⟨_, rfl⟩
  obtain ⟨q1, hq1⟩ : ∃ p, decide (E ≤ t - 20) = p := ⟨_, rfl⟩
  obtain ⟨q2, hq2⟩ : ∃ p, decide (E ≤ t + x0 - 20) = p := ⟨_, rfl⟩
  obtain ⟨q3, hq3⟩ : ∃ p, decide (E + x1 ≤ t - 20) = p := ⟨_, rfl⟩
  have C1 := Lib.hid (c_holds P hE0 E t p1 hp1 ⟨by omega, by omega⟩ ⟨by omega, by omega⟩)
  have C2 := Lib.hid (c_holds P hE0 E (t - x0) p2 hp2 ⟨by omega, by omega⟩ ⟨by omega, by omega⟩)
  have C3 := Lib.hid (c_holds P hE0 (E + x1) t p3 hp3 ⟨by omega, by omega⟩ ⟨by omega, by omega⟩)
  have D1 := Lib.hid (c_over P hE0 E t q1 hq1 ⟨by omega, by omega⟩ ⟨by omega, by omega⟩)
  have D2 := Lib.hid (c_over P hE0 E (t + x0) q2 hq2 ⟨by omega, by omega⟩ ⟨by omega, by omega⟩)
  have D3 := Lib.hid (c_over P hE0 (E + x1) t q3 hq3 ⟨by omega, by omega⟩ ⟨by omega, by omega⟩)
  have hA : Hid (p1 = false ∨ (p1 = true ∧ p2 = true ∧ p3 = true)) := Lib.hid (by
    subst hp1 hp2 hp3
    simp only [decide_eq_true_eq, decide_eq_false_iff_not]
    omega)
  have hB : Hid ((q1 = false ∧ q3 = false) ∨ (q1 = true ∧ q2 = true)) := Lib.hid (by
    subst hq1 hq2 hq3
    simp only [decide_eq_true_eq, decide_eq_false_iff_not]
    omega)
  have k : Hid (Later W0 W0) := Lib.hid (Below.refl _ _)
  have e0 : (0 : Int) ≤ (x0 : Int) := Int.natCast_nonneg x0
  have e1 : (0 : Int) ≤ (x1 : Int) := Int.natCast_nonneg x1
  have e2 : (x0 : Int) < 256 := by omega
  have e3 : (x1 : Int) < 256 := by omega
  clear hbw hE0 hp1 hp2 hp3 hq1 hq2 hq3 hE hu hs hx0 hx1 hEn htn
  go_enter Try.func5, Try.ntmps5
  go_upto_region 3 with (first | (go_at_call 10; (with_reducible refine (CS.out _ k.out).mono ?_); rintro e w1 ⟨rfl, k1⟩; replace k := Lib.hid k1; clear k1) | (go_at_call 12; (with_reducible refine (T0.out _ k.out).mono ?_); rintro e w1 ⟨rfl, k1⟩; replace k := Lib.hid k1; clear k1) | (go_at_call 12; (with_reducible refine (T1.out _ k.out).mono ?_); rintro e w1 ⟨rfl, k1⟩; replace k := Lib.hid k1; clear k1))
  obtain ⟨b0, b1⟩ := BX.out _ k.out
  go_quiet (fail)
  replace k := Lib.hid (show Later W0 _ from k.out.trans ((below_drewN _ nq).mono k.out.size))
  clear b0 b1
  rcases hA.out with rfl | ⟨rfl, rfl, rfl⟩ <;> rcases hB.out with ⟨rfl, rfl⟩ | ⟨rfl, rfl⟩
  all_goals clear hA hB
  case inl.inl =>
    go_wp2_with (first | (go_at_call 16; (with_reducible refine (C1.out _ k.out).mono ?_); rintro e w1 ⟨rfl, k1⟩; replace k := Lib.hid k1; clear k1) | (go_at_call 16; (with_reducible refine (C2.out _ k.out).mono ?_); rintro e w1 ⟨rfl, k1⟩; replace k := Lib.hid k1; clear k1) | (go_at_call 16; (with_reducible refine (C3.out _ k.out).mono ?_); rintro e w1 ⟨rfl, k1⟩; replace k := Lib.hid k1; clear k1) | (go_at_call 18; (with_reducible refine (D1.out _ k.out).mono ?_); rintro e w1 ⟨rfl, k1⟩; replace k := Lib.hid k1; clear k1) | (go_at_call 18; (with_reducible refine (D2.out _ k.out).mono ?_); rintro e w1 ⟨rfl, k1⟩; replace k := Lib.hid k1; clear k1) | (go_at_call 18; (with_reducible refine (D3.out _ k.out).mono ?_); rintro e w1 ⟨rfl, k1⟩; replace k := Lib.hid k1; clear k1))
    go_ret
    exact ⟨rfl, HBW.out.trans (k.out.mono HBW.out.size)⟩
  case inr.inl =>
    go_wp2_with (first | (go_at_call 16; (with_reducible refine (C1.out _ k.out).mono ?_); rintro e w1 ⟨rfl, k1⟩; replace k := Lib.hid k1; clear k1) | (go_at_call 16; (with_reducible refine (C2.out _ k.out).mono ?_); rintro e w1 ⟨rfl, k1⟩; replace k := Lib.hid k1; clear k1) | (go_at_call 16; (with_reducible refine (C3.out _ k.out).mono ?_); rintro e w1 ⟨rfl, k1⟩; replace k := Lib.hid k1; clear k1) | (go_at_call 18; (with_reducible refine (D1.out _ k.out).mono ?_); rintro e w1 ⟨rfl, k1⟩; replace k := Lib.hid k1; clear k1) | (go_at_call 18; (with_reducible refine (D2.out _ k.out).mono ?_); rintro e w1 ⟨rfl, k1⟩; replace k := Lib.hid k1; clear k1) | (go_at_call 18; (with_reducible refine (D3.out _ k.out).mono ?_); rintro e w1 ⟨rfl, k1⟩; replace k := Lib.hid k1; clear k1))
    go_ret
    exact ⟨rfl, HBW.out.trans (k.out.mono HBW.out.size)⟩
  case inl.inr =>
    cases q3
    all_goals
      go_wp2_with (first | (go_at_call 16; (with_reducible refine (C1.out _ k.out).mono ?_); rintro e w1 ⟨rfl, k1⟩; replace k := Lib.hid k1; clear k1) | (go_at_call 16; (with_reducible refine (C2.out _ k.out).mono ?_); rintro e w1 ⟨rfl, k1⟩; replace k := Lib.hid k1; clear k1) | (go_at_call 16; (with_reducible refine (C3.out _ k.out).mono ?_); rintro e w1 ⟨rfl, k1⟩; replace k := Lib.hid k1; clear k1) | (go_at_call 18; (with_reducible refine (D1.out _ k.out).mono ?_); rintro e w1 ⟨rfl, k1⟩; replace k := Lib.hid k1; clear k1) | (go_at_call 18; (with_reducible refine (D2.out _ k.out).mono ?_); rintro e w1 ⟨rfl, k1⟩; replace k := Lib.hid k1; clear k1) | (go_at_call 18; (with_reducible refine (D3.out _ k.out).mono ?_); rintro e w1 ⟨rfl, k1⟩; replace k := Lib.hid k1; clear k1))
      go_ret
      exact ⟨rfl, HBW.out.trans (k.out.mono HBW.out.size)⟩
  case inr.inr =>
    cases q3
    all_goals
      go_wp2_with (first | (go_at_call 16; (with_reducible refine (C1.out _ k.out).mono ?_); rintro e w1 ⟨rfl, k1⟩; replace k := Lib.hid k1; clear k1) | (go_at_call 16; (with_reducible refine (C2.out _ k.out).mono ?_); rintro e w1 ⟨rfl, k1⟩; replace k := Lib.hid k1; clear k1) | (go_at_call 16; (with_reducible refine (C3.out _ k.out).mono ?_); rintro e w1 ⟨rfl, k1⟩; replace k := Lib.hid k1; clear k1) | (go_at_call 18; (with_reducible refine (D1.out _ k.out).mono ?_); rintro e w1 ⟨rfl, k1⟩; replace k := Lib.hid k1; clear k1) | (go_at_call 18; (with_reducible refine (D2.out _ k.out).mono ?_); rintro e w1 ⟨rfl, k1⟩; replace k := Lib.hid k1; clear k1) | (go_at_call 18; (with_reducible refine (D3.out _ k.out).mono ?_); rintro e w1 ⟨rfl, k1⟩; replace k := Lib.hid k1; clear k1))
      go_ret
      exact ⟨rfl, HBW.out.trans (k.out.mono HBW.out.size)⟩
theorem lawWaits_any (u : Int) (hu : -9223372036854775808 ≤ u ∧ u ≤ 9223372036854775807) (d : Int) (hd : -32768 ≤ d ∧ d ≤ 32767) (w : World) (hE : Env w) :
    Calls Try.prog 6 #[.int .i64 u, .int .i16 d] w fun e w' => e = .returned (.bool true) ∧ Below w.heap.size w w' := by
  have hr := tmC_r hu
  obtain ⟨E, hEn⟩ : ∃ E, tmC u = E := ⟨_, rfl⟩
  rw [hEn] at hr
  have hdw : IntKind.i64.wrap d = d := IntWalk.i64_in _ (by omega)
  have CS := Lib.hid (c_sanity P hE)
  have T0 := Lib.hid (c_time (w := w) u hu E hEn)
  have k : Hid (Later w w) := Lib.hid (Below.refl _ _)
  by_cases hd2 : 20 ≤ d
  · have CW := Lib.hid (c_wait P hE E (E + d) 0 (by omega) ⟨by omega, by omega⟩ ⟨by omega, by omega⟩)
    have D1 := Lib.hid (c_over P hE E (E + d) true (decide_eq_true (by omega)) ⟨by omega, by omega⟩ ⟨by omega, by omega⟩)
    clear hE hu hEn
    go_enter Try.func6, Try.ntmps6
    go_wp2_with (first | (go_at_call 10; (with_reducible refine (CS.out _ k.out).mono ?_); rintro e w1 ⟨rfl, k1⟩; replace k := Lib.hid k1; clear k1) | (go_at_call 12; (with_reducible refine (T0.out _ k.out).mono ?_); rintro e w1 ⟨rfl, k1⟩; replace k := Lib.hid k1; clear k1) | (go_at_call 20; (with_reducible refine (CW.out _ k.out).mono ?_); rintro e w1 ⟨rfl, k1⟩; replace k := Lib.hid k1; clear k1) | (go_at_call 18; (with_reducible refine (D1.out _ k.out).mono ?_); rintro e w1 ⟨rfl, k1⟩; replace k := Lib.hid k1; clear k1) | (go_at_call 18; (with_reducible refine (D2.out _ k.out).mono ?_); rintro e w1 ⟨rfl, k1⟩; replace k := Lib.hid k1; clear k1) | (go_at_call 18; (with_reducible refine (D3.out _ k.out).mono ?_); rintro e w1 ⟨rfl, k1⟩; replace k := Lib.hid k1; clear k1))
    go_ret
    exact ⟨rfl, k.out⟩
  · obtain ⟨n, hn⟩ : ∃ n, 20 - d = n := ⟨_, rfl⟩
    have n0 : 0 < n := by omega
    have n1 : n ≤ 32788 := by omega
    have n2 : ¬ n = 0 := by omega
    have n3 : ¬ n < 0 := by omega
    have n4 : ¬ n > 100000 := by omega
    have n5 : (n == 0) = false := by simpa using n2
    have CW := Lib.hid (c_wait P hE E (E + d) n (by omega) ⟨by omega, by omega⟩ ⟨by omega, by omega⟩)
    have D1 := Lib.hid (c_over P hE E (E + d) false (decide_eq_false (by omega)) ⟨by omega, by omega⟩ ⟨by omega, by omega⟩)
    have D2 := Lib.hid (c_over P hE E (E + d + n) true (decide_eq_true (by omega)) ⟨by omega, by omega⟩ ⟨by omega, by omega⟩)
    have D3 := Lib.hid (c_over P hE E (E + d + n - 1) false (decide_eq_false (by omega)) ⟨by omega, by omega⟩ ⟨by omega, by omega⟩)
    clear hE hu hEn hn
    go_enter Try.func6, Try.ntmps6
    go_wp2_with (first | (go_at_call 10; (with_reducible refine (CS.out _ k.out).mono ?_); rintro e w1 ⟨rfl, k1⟩; replace k := Lib.hid k1; clear k1) | (go_at_call 12; (with_reducible refine (T0.out _ k.out).mono ?_); rintro e w1 ⟨rfl, k1⟩; replace k := Lib.hid k1; clear k1) | (go_at_call 20; (with_reducible refine (CW.out _ k.out).mono ?_); rintro e w1 ⟨rfl, k1⟩; replace k := Lib.hid k1; clear k1) | (go_at_call 18; (with_reducible refine (D1.out _ k.out).mono ?_); rintro e w1 ⟨rfl, k1⟩; replace k := Lib.hid k1; clear k1) | (go_at_call 18; (with_reducible refine (D2.out _ k.out).mono ?_); rintro e w1 ⟨rfl, k1⟩; replace k := Lib.hid k1; clear k1) | (go_at_call 18; (with_reducible refine (D3.out _ k.out).mono ?_); rintro e w1 ⟨rfl, k1⟩; replace k := Lib.hid k1; clear k1))
    go_ret
    exact ⟨rfl, k.out⟩
theorem lawEnds_any (u : Int) (hu : -9223372036854775808 ≤ u ∧ u ≤ 9223372036854775807) (w : World) (hE : Env w) :
    Calls Try.prog 9 #[.int .i64 u] w fun e w' => e = .returned (.bool true) ∧ Below w.heap.size w w' := by
  have hr := tmC_r hu
  obtain ⟨E, hEn⟩ : ∃ E, tmC u = E := ⟨_, rfl⟩
  rw [hEn] at hr
  have CS := Lib.hid (c_sanity P hE)
  have T0 := Lib.hid (c_time (w := w) u hu E hEn)
  have k : Hid (Later w w) := Lib.hid (Below.refl _ _)
  have C1 := Lib.hid (c_holds P hE E (E - 21) true (decide_eq_true (by omega)) ⟨by omega, by omega⟩ ⟨by omega, by omega⟩)
  have C2 := Lib.hid (c_holds P hE E (E - 20) false (decide_eq_false (by omega)) ⟨by omega, by omega⟩ ⟨by omega, by omega⟩)
  have D1 := Lib.hid (c_over P hE E (E + 20) true (decide_eq_true (by omega)) ⟨by omega, by omega⟩ ⟨by omega, by omega⟩)
  have D2 := Lib.hid (c_over P hE E (E + 19) false (decide_eq_false (by omega)) ⟨by omega, by omega⟩ ⟨by omega, by omega⟩)
  have CH := Lib.hid (fun (x : Int) (r : Bool) (hr : decide (x + 20 < E) = r) (hx : Tm x) => c_holds P hE E x r hr ⟨by omega, by omega⟩ hx)
  have CO := Lib.hid (fun (x : Int) (r : Bool) (hr : decide (E ≤ x - 20) = r) (hx : Tm x) => c_over P hE E x r hr ⟨by omega, by omega⟩ hx)
  clear hE hu hEn
  go_enter Try.func9, Try.ntmps9
  go_wp2_with (first | (go_at_call 10; (with_reducible refine (CS.out _ k.out).mono ?_); rintro e w1 ⟨rfl, k1⟩; replace k := Lib.hid k1; clear k1) | (go_at_call 12; (with_reducible refine (T0.out _ k.out).mono ?_); rintro e w1 ⟨rfl, k1⟩; replace k := Lib.hid k1; clear k1))
  go_loopw [5, 6] (fun n t wr => ∃ j : Nat, j ≤ 120 ∧ t = .int .i64 (E - 60 + (j : Int)) ∧ n = .int .i64 ((min (j - 40) 40 : Nat) : Int) ∧ Later w wr) (fun _ t _ => (E + 60 - intOf t).toNat)
  case atStart => exact ⟨0, by omega, by simp, rfl, k.out⟩
  case round =>
    obtain ⟨j, hj, rfl, rfl, hk⟩ := hrel
    replace k := Lib.hid hk
    clear hk
    have j0 : (0 : Int) ≤ (j : Int) := Int.natCast_nonneg j
    by_cases hlt : j < 120
    · have jl : (j : Int) < 120 := by omega
      have hcond : E - 60 + (j : Int) < E + 60 := by omega
      by_cases h1 : j < 40
      · obtain ⟨n, hn⟩ : ∃ n, min (j - 40) 40 = n := ⟨_, rfl⟩
        have HN := Lib.hid (show min (j + 1 - 40) 40 = n by omega)
        rw [hn]
        have B1 := Lib.hid (CH.out (E - 60 + j) true (decide_eq_true (by omega)) ⟨by omega, by omega⟩)
        clear hn
        go_wp2_with (first | (go_at_call 16; (with_reducible refine (B1.out _ k.out).mono ?_); rintro e w1 ⟨rfl, k1⟩; replace k := Lib.hid k1; clear k1))
        go_roundw
        case rel => exact ⟨j + 1, by omega, by push_cast; congr 1; omega, by rw [HN.out], k.out⟩
        case measure => simp [intOf]; omega
      by_cases h2 : j < 80
      · obtain ⟨n, hn⟩ : ∃ n, min (j - 40) 40 = n := ⟨_, rfl⟩
        have HN := Lib.hid (show min (j + 1 - 40) 40 = n + 1 by omega)
        have n1 : n ≤ 40 := by omega
        have n0 : (0 : Int) ≤ (n : Int) := Int.natCast_nonneg n
        rw [hn]
        have B1 := Lib.hid (CH.out (E - 60 + j) false (decide_eq_false (by omega)) ⟨by omega, by omega⟩)
        have B2 := Lib.hid (CO.out (E - 60 + j) false (decide_eq_false (by omega)) ⟨by omega, by omega⟩)
        clear hn
        go_wp2_with (first | (go_at_call 16; (with_reducible refine (B1.out _ k.out).mono ?_); rintro e w1 ⟨rfl, k1⟩; replace k := Lib.hid k1; clear k1) | (go_at_call 18; (with_reducible refine (B2.out _ k.out).mono ?_); rintro e w1 ⟨rfl, k1⟩; replace k := Lib.hid k1; clear k1))
        go_roundw
        case rel => exact ⟨j + 1, by omega, by push_cast; congr 1; omega, by rw [HN.out]; push_cast; rfl, k.out⟩
        case measure => simp [intOf]; omega
      · obtain ⟨n, hn⟩ : ∃ n, min (j - 40) 40 = n := ⟨_, rfl⟩
        have HN := Lib.hid (show min (j + 1 - 40) 40 = n by omega)
        rw [hn]
        have B1 := Lib.hid (CH.out (E - 60 + j) false (decide_eq_false (by omega)) ⟨by omega, by omega⟩)
        have B2 := Lib.hid (CO.out (E - 60 + j) true (decide_eq_true (by omega)) ⟨by omega, by omega⟩)
        clear hn
        go_wp2_with (first | (go_at_call 16; (with_reducible refine (B1.out _ k.out).mono ?_); rintro e w1 ⟨rfl, k1⟩; replace k := Lib.hid k1; clear k1) | (go_at_call 18; (with_reducible refine (B2.out _ k.out).mono ?_); rintro e w1 ⟨rfl, k1⟩; replace k := Lib.hid k1; clear k1))
        go_roundw
        case rel => exact ⟨j + 1, by omega, by push_cast; congr 1; omega, by rw [HN.out], k.out⟩
        case measure => simp [intOf]; omega
    · obtain rfl : j = 120 := by omega
      have hcond : ¬ E - 60 + ((120 : Nat) : Int) < E + 60 := by omega
      go_wp2_with (first | (go_at_call 16; (with_reducible refine (C1.out _ k.out).mono ?_); rintro e w1 ⟨rfl, k1⟩; replace k := Lib.hid k1; clear k1) | (go_at_call 16; (with_reducible refine (C2.out _ k.out).mono ?_); rintro e w1 ⟨rfl, k1⟩; replace k := Lib.hid k1; clear k1) | (go_at_call 18; (with_reducible refine (D1.out _ k.out).mono ?_); rintro e w1 ⟨rfl, k1⟩; replace k := Lib.hid k1; clear k1) | (go_at_call 18; (with_reducible refine (D2.out _ k.out).mono ?_); rintro e w1 ⟨rfl, k1⟩; replace k := Lib.hid k1; clear k1))
      go_ret
      exact ⟨rfl, k.out⟩
end
end Go.Proofs.Ythjfnmhnbhhbcaa
