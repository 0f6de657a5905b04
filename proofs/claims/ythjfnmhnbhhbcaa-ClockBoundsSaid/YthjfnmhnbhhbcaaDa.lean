/-
  Layer 16: contracts of the landed clocks, all of them: prgC.
-/
import Derived.Test.YthjfnmhnbhhbcaaCb
namespace Go.Proofs.Ythjfnmhnbhhbcaa
open Go.RowKit
set_option maxHeartbeats 400000
set_option maxRecDepth 100000

theorem around_any (n : Int) (m : Nat) (hm : m ≤ 40) (h0 : -4611686018427387904 ≤ n) (h1 : n ≤ 4611686018427387904) (W : World) :
    Calls Try.prog 27 #[.int .i64 n, .int .i64 m] W fun e w' => e = .returned (.tuple #[.int .i64 (n - m), .int .i64 (n + m)]) ∧ Below W.heap.size W w' := by
  go_enter Try.func27, Try.ntmps27
  go_wp2
  go_loop [6, 7, 11] (fun a b i => ∃ k : Nat, k ≤ m ∧ i = .int .i64 k ∧ a = .int .i64 (n - k) ∧ b = .int .i64 (n + k)) (fun _ _ i => m - (intOf i).toNat)
  case atStart => exact ⟨0, Nat.zero_le _, rfl, by simp, by simp⟩
  case round =>
    obtain ⟨k, hk, rfl, rfl, rfl⟩ := hrel
    have k0 : (0 : Int) ≤ (k : Int) := Int.natCast_nonneg k
    by_cases hlt : k < m
    · have kn : (k : Int) < (m : Int) := Int.ofNat_lt.2 hlt
      go_wp2
      go_round
      case rel => exact ⟨k + 1, by omega, by go_num, by congr 1; push_cast; omega, by congr 1; push_cast; omega⟩
      case measure => simp only [intOf]; omega
    · have kn : (k : Int) = (m : Int) := by omega
      go_wp2
      refine bodyPost_ret (v := .tuple #[.int .i64 (n - (m : Int)), .int .i64 (n + (m : Int))]) ?_ rfl ⟨rfl, by go_grown⟩
      simp [results, Try.results27, go_sem]

theorem around_c {n : Int} (m : Int) (k : Nat) (hk : m = (k : Int)) (hm : k ≤ 40) (h0 : -4611686018427387904 ≤ n) (h1 : n ≤ 4611686018427387904) (W : World) :
    Calls Try.prog 27 #[.int .i64 n, .int .i64 m] W fun e w' => e = .returned (.tuple #[.int .i64 (n - m), .int .i64 (n + m)]) ∧ Below W.heap.size W w' := by
  subst hk
  exact around_any n k hm h0 h1 W

theorem clRead_any (a t : Int) (ha : -10 ≤ a ∧ a ≤ 10) (ht : Tm t) (w : World) :
    Calls Try.prog 13 #[.agg #[.int .i64 a], .int .i64 t] w fun e w' => e = .returned (.int .i64 (t + a)) ∧ Below w.heap.size w w' := by
  obtain ⟨t0, t1⟩ := ht
  go_enter Try.func13, Try.ntmps13
  go_wp2
  go_ret
  exact ⟨rfl, by go_grown⟩

theorem clBetween_any (s : Int) (hs : Tm s) (w : World) :
    Calls Try.prog 26 #[.int .i64 s] w fun e w' => e = .returned (.tuple #[.int .i64 (s - 10), .int .i64 (s + 10)]) ∧ Below w.heap.size w w' := by
  obtain ⟨s0, s1⟩ := hs
  go_enter Try.func26, Try.ntmps26
  go_wp2_with (go_at_call 27; refine (around_c 10 10 rfl (by omega) (by omega) (by omega) _).mono ?_; rintro e w' ⟨rfl, hb⟩)
  refine bodyPost_ret (v := .tuple #[.int .i64 (s - 10), .int .i64 (s + 10)]) ?_ rfl ⟨rfl, by first | assumption | go_grown⟩
  simp [results, Try.results26, go_sem]

theorem clHolds_any (u s : Int) (hs : Tm s) (w : World) :
    Calls Try.prog 16 #[.int .i64 u, .int .i64 s] w fun e w' => e = .returned (.bool (decide (s + 20 < u))) ∧ Below w.heap.size w w' := by
  obtain ⟨s0, s1⟩ := hs
  go_enter Try.func16, Try.ntmps16
  go_wp2_with (go_at_call 27; refine (around_c 20 20 rfl (by omega) (by omega) (by omega) _).mono ?_; rintro e w' ⟨rfl, hb⟩)
  go_ret
  exact ⟨rfl, by first | assumption | go_grown⟩

theorem clOver_any (u s : Int) (hs : Tm s) (w : World) :
    Calls Try.prog 18 #[.int .i64 u, .int .i64 s] w fun e w' => e = .returned (.bool (decide (u ≤ s - 20))) ∧ Below w.heap.size w w' := by
  obtain ⟨s0, s1⟩ := hs
  go_enter Try.func18, Try.ntmps18
  go_wp2_with (go_at_call 27; refine (around_c 20 20 rfl (by omega) (by omega) (by omega) _).mono ?_; rintro e w' ⟨rfl, hb⟩)
  go_ret
  exact ⟨rfl, by first | assumption | go_grown⟩

theorem clWait_any (u s : Int) (hu : Tm u) (hs : Tm s) (w : World) :
    Calls Try.prog 20 #[.int .i64 u, .int .i64 s] w fun e w' => e = .returned (.int .i64 (max 0 (u + 20 - s))) ∧ Below w.heap.size w w' := by
  obtain ⟨u0, u1⟩ := hu
  obtain ⟨s0, s1⟩ := hs
  go_enter Try.func20, Try.ntmps20
  go_wp2_with (go_at_call 27; refine (around_c 20 20 rfl (by omega) (by omega) (by omega) _).mono ?_; rintro e w' ⟨rfl, hb⟩)
  go_ret
  refine ⟨ret_int (by omega), by first | assumption | go_grown⟩

theorem clock_box (w : World) (a : Int) {w' : World} (hb : Below (w.alloc (.cells #[.int .i64 a] 25)).heap.size (w.alloc (.cells #[.int .i64 a] 25)) w') : w'.cell? ⟨w.heap.size, 0, none⟩ = some (.int .i64 a) ∧ Below w.heap.size w w' := by
  have h := cell_of_row (w.alloc (.cells #[.int .i64 a] 25)) w.heap.size 0 _ _ (0, 0) (heap_alloc_new w _)
  exact ⟨cell_later hb h, ((Below.refl _ w).alloc (Nat.le_refl _) _).trans (hb.mono (by simp [World.size_alloc]))⟩

theorem clValid_any (a : Int) (ha : (Lit.int .i64 a).wf = true) (w : World) :
    Calls Try.prog 24 #[.agg #[.int .i64 a]] w fun e w' => e = .returned (.bool (decide (-10 ≤ a) && decide (a ≤ 10))) ∧ Below w.heap.size w w' := by
  obtain ⟨a0, a1⟩ := i64_wf ha
  go_enter Try.func24, Try.ntmps24
  by_cases h1 : -10 ≤ a
  · by_cases h2 : a ≤ 10
    · go_wp2_with (go_at_call 27; refine (around_c 10 10 rfl (by omega) (by omega) (by omega) _).mono ?_; rintro e w' ⟨rfl, hb0⟩; obtain ⟨hc, hb⟩ := clock_box w a hb0)
      go_ret
      exact ⟨by simp [h1, h2], by first | assumption | go_grown⟩
    · go_wp2_with (go_at_call 27; refine (around_c 10 10 rfl (by omega) (by omega) (by omega) _).mono ?_; rintro e w' ⟨rfl, hb0⟩; obtain ⟨hc, hb⟩ := clock_box w a hb0)
      go_ret
      exact ⟨by simp [h1], by first | assumption | go_grown⟩
  · go_wp2_with (go_at_call 27; refine (around_c 10 10 rfl (by omega) (by omega) (by omega) _).mono ?_; rintro e w' ⟨rfl, hb0⟩; obtain ⟨hc, hb⟩ := clock_box w a hb0)
    go_ret
    exact ⟨by simp [show ¬ (-10 ≤ a) from by omega], by first | assumption | go_grown⟩

theorem clDrift_any (a b : Int) (ha : -10 ≤ a ∧ a ≤ 10) (hb' : (Lit.int .i64 b).wf = true) (w : World) :
    Calls Try.prog 22 #[.agg #[.int .i64 a], .int .i64 b] w fun e w' => e = .returned (.agg #[.int .i64 (driftC a b)]) ∧ Below w.heap.size w w' := by
  obtain ⟨b0, b1⟩ := i64_wf hb'
  obtain ⟨a0, a1⟩ := ha
  have hE : driftC a b = a + min (max b (-a - 10)) (-a + 10) := by unfold driftC; omega
  rw [hE]
  have HS : (w.alloc (.cells #[.int .i64 a] 25)).heap.size = w.heap.size + 1 := by simp
  go_enter Try.func22, Try.ntmps22
  go_wp2_with (go_at_call 27; refine (around_c 10 10 rfl (by omega) (by omega) (by omega) _).mono ?_; rintro e w1 ⟨rfl, hb0⟩; obtain ⟨hb1, hrow⟩ := new_below _ _ hb0; obtain ⟨hc, hb⟩ := clock_box w a hb1; rw [HS] at hrow; have z0 := cell_of_row w1 _ 0 _ _ _ hrow; have f0 := frozen_of_row w1 _ 0 _ _ hrow; replace z0 : w1.cell? ⟨w.heap.size + 1, 0, none⟩ = some (.int .i64 0) := z0; replace f0 : w1.frozen? ⟨w.heap.size + 1, 0, none⟩ = false := f0)
  have hz := World.cell?_setCell_same w1 ⟨w.heap.size + 1, 0, none⟩ (.int .i64 (a + min (max b (-a - 10)) (-a + 10))) z0
  refine bodyPost_ret (v := .agg #[.int .i64 (a + min (max b (-a - 10)) (-a + 10))]) ?_ rfl ⟨rfl, hb.setCell (p := ⟨w.heap.size + 1, 0, none⟩) (Nat.le_succ _) _⟩
  simp [results, Try.results22, go_sem, hz]

theorem prgC : PrgC fun _ => True := ⟨fun _ _ => trivial, fun a W _ h => clValid_any a h W, fun a t W _ h0 h1 ht => clRead_any a t ⟨h0, h1⟩ ht W,
  fun s W _ h => clBetween_any s h W, fun u s W _ _ hs => clHolds_any u s hs W, fun u s W _ _ hs => clOver_any u s hs W,
  fun u s W _ hu hs => clWait_any u s hu hs W, fun a b W _ h0 h1 hb => clDrift_any a b ⟨h0, h1⟩ hb W⟩

end Go.Proofs.Ythjfnmhnbhhbcaa
