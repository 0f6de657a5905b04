/-
  Layer 16: what the laws ask of the program's clocks; contracts of the reference's functions and of the law file's between.
-/
import Derived.WalkKit
import Derived.WalkSpells
import Derived.Handy
import Derived.Outline
import Derived.Lib.Hide
import Derived.IntWalk
import Derived.Laws.AppendOwn
import Derived.Laws.OwnMore
import Derived.OwnWalk
import Derived.Deep.AppendLies
import Derived.Maps.AppendAt
import Derived.Deep.QuietTactic
import Derived.BigQuiet
import Derived.BigRegion
import Derived.Deep.RegionHeldLaw
import Derived.StillTailTactics
import Derived.Deep.CutRange
import Derived.Lib.MinMax
import Derived.Test.YthjfnmhnbhhbcaaProg
namespace Go.Proofs.Ythjfnmhnbhhbcaa
open Go.RowKit
set_option maxHeartbeats 400000
set_option maxRecDepth 100000

theorem ret_bool {a b : Bool} (h : a = b) : Ending.returned (.bool a) = .returned (.bool b) := by rw [h]
theorem ret_int {k : IntKind} {a b : Int} (h : a = b) : Ending.returned (.int k a) = .returned (.int k b) := by rw [h]
def mkC (n : UInt8) : Int := ((n.toNat % 21 : Nat) : Int) - 10
def tmC (n : Int) : Int := n.tdiv 8
theorem mkC_r (n : UInt8) : -10 ≤ mkC n ∧ mkC n ≤ 10 := by unfold mkC; omega
theorem wf_i64 {n : Int} (h1 : -9223372036854775808 ≤ n) (h2 : n ≤ 9223372036854775807) : (Lit.int .i64 n).wf = true := by
  simpa [Lit.wf] using (show IntKind.i64.min ≤ n ∧ n ≤ IntKind.i64.max from ⟨h1, h2⟩)
theorem i64_wf {n : Int} (h : (Lit.int .i64 n).wf = true) : -9223372036854775808 ≤ n ∧ n ≤ 9223372036854775807 := by
  have h' : IntKind.i64.min ≤ n ∧ n ≤ IntKind.i64.max := by simpa [Lit.wf] using h
  exact h'
theorem tmC_r {n : Int} (h : -9223372036854775808 ≤ n ∧ n ≤ 9223372036854775807) : -1152921504606846976 ≤ tmC n ∧ tmC n ≤ 1152921504606846976 := by
  unfold tmC
  rcases Int.le_total 0 n with h0 | h0
  · rw [Int.tdiv_eq_ediv_of_nonneg h0]; omega
  · obtain ⟨m, rfl⟩ : ∃ m, n = -m := ⟨-n, by omega⟩
    rw [Int.neg_tdiv, Int.tdiv_eq_ediv_of_nonneg (by omega)]
    omega
/-- A time that the functions are asked about. -/
def Tm (x : Int) : Prop := -2305843009213693952 ≤ x ∧ x ≤ 2305843009213693952
def driftC (a b : Int) : Int := max (-10) (min 10 (a + b))
/-- The functions of the package do as they should, in each world in which the program's own variables lie. -/
structure PrgC (Env : World → Prop) : Prop where
  env : ∀ {W W' : World}, Env W → Below W.heap.size W W' → Env W'
  valid : ∀ (a : Int) (W : World), Env W → (Lit.int .i64 a).wf = true →
    Calls Try.prog 24 #[.agg #[.int .i64 a]] W fun e w' => e = .returned (.bool (decide (-10 ≤ a) && decide (a ≤ 10))) ∧ Below W.heap.size W w'
  read : ∀ (a t : Int) (W : World), Env W → -10 ≤ a → a ≤ 10 → Tm t →
    Calls Try.prog 13 #[.agg #[.int .i64 a], .int .i64 t] W fun e w' => e = .returned (.int .i64 (t + a)) ∧ Below W.heap.size W w'
  between : ∀ (s : Int) (W : World), Env W → Tm s →
    Calls Try.prog 26 #[.int .i64 s] W fun e w' => e = .returned (.tuple #[.int .i64 (s - 10), .int .i64 (s + 10)]) ∧ Below W.heap.size W w'
  holds : ∀ (u s : Int) (W : World), Env W → Tm u → Tm s →
    Calls Try.prog 16 #[.int .i64 u, .int .i64 s] W fun e w' => e = .returned (.bool (decide (s + 20 < u))) ∧ Below W.heap.size W w'
  over : ∀ (u s : Int) (W : World), Env W → Tm u → Tm s →
    Calls Try.prog 18 #[.int .i64 u, .int .i64 s] W fun e w' => e = .returned (.bool (decide (u ≤ s - 20))) ∧ Below W.heap.size W w'
  wait : ∀ (u s : Int) (W : World), Env W → Tm u → Tm s →
    Calls Try.prog 20 #[.int .i64 u, .int .i64 s] W fun e w' => e = .returned (.int .i64 (max 0 (u + 20 - s))) ∧ Below W.heap.size W w'
  drift : ∀ (a b : Int) (W : World), Env W → -10 ≤ a → a ≤ 10 → (Lit.int .i64 b).wf = true →
    Calls Try.prog 22 #[.agg #[.int .i64 a], .int .i64 b] W fun e w' => e = .returned (.agg #[.int .i64 (driftC a b)]) ∧ Below W.heap.size W w'

/-! ### The reference -/
theorem Made16_any (n : UInt8) (w : World) :
    Calls Try.prog 11 #[.int .u8 n.toNat] w fun e w' => e = .returned (.agg #[.int .i64 (mkC n)]) ∧ Below w.heap.size w w' := by
  have h0 : n.toNat < 256 := n.toNat_lt
  have hr : ((n.toNat : Nat) : Int).tmod 21 = ((n.toNat % 21 : Nat) : Int) := by rw [Int.tmod_eq_emod_of_nonneg (by omega)]; omega
  have hw : IntKind.i64.wrap ((n.toNat : Nat) : Int) = ((n.toNat : Nat) : Int) := IntWalk.i64_in _ (by omega)
  obtain ⟨x, hx⟩ : ∃ x, n.toNat = x := ⟨_, rfl⟩
  have HX := Lib.hid (show mkC n = ((x % 21 : Nat) : Int) - 10 by unfold mkC; rw [hx])
  rw [hx] at hr hw h0 ⊢
  obtain ⟨y, hy⟩ : ∃ y, x % 21 = y := ⟨_, rfl⟩
  have hy2 : y < 21 := by omega
  rw [hy] at hr HX
  have y0 : (0 : Int) ≤ (y : Int) := Int.natCast_nonneg y
  clear hx hy
  go_enter Try.func11, Try.ntmps11
  go_wp2
  refine bodyPost_ret (v := .agg #[.int .i64 ((y : Int) - 10)]) ?_ rfl ⟨by rw [HX.out], by go_grown⟩
  simp [results, Try.results11, go_sem]
theorem Time16_any (n : Int) (hn : -9223372036854775808 ≤ n ∧ n ≤ 9223372036854775807) (w : World) :
    Calls Try.prog 12 #[.int .i64 n] w fun e w' => e = .returned (.int .i64 (tmC n)) ∧ w' = w := by
  have hr := tmC_r hn
  obtain ⟨x, hx⟩ : ∃ x, n.tdiv 8 = x := ⟨_, rfl⟩
  have HX := Lib.hid (show tmC n = x from hx)
  have hw : IntKind.i64.wrap x = x := IntWalk.i64_in _ (by rw [← HX.out]; omega)
  clear hr
  go_enter Try.func12, Try.ntmps12
  go_wp2
  go_ret
  exact ⟨ret_int HX.out.symm, rfl⟩
theorem Read16_any (a t : Int) (ha : -10 ≤ a ∧ a ≤ 10) (ht : Tm t) (w : World) :
    Calls Try.prog 14 #[.agg #[.int .i64 a], .int .i64 t] w fun e w' => e = .returned (.int .i64 (t + a)) ∧ Below w.heap.size w w' := by
  obtain ⟨t0, t1⟩ := ht
  go_enter Try.func14, Try.ntmps14
  go_wp2
  go_ret
  exact ⟨rfl, by go_grown⟩
theorem Holds16_any (u s : Int) (hu : Tm u) (hs : Tm s) (w : World) :
    Calls Try.prog 17 #[.int .i64 u, .int .i64 s] w fun e w' => e = .returned (.bool (decide (s + 20 < u))) ∧ Below w.heap.size w w' := by
  obtain ⟨u0, u1⟩ := hu
  obtain ⟨s0, s1⟩ := hs
  go_enter Try.func17, Try.ntmps17
  go_wp2
  go_ret
  exact ⟨rfl, Below.refl _ _⟩
theorem Over16_any (u s : Int) (hu : Tm u) (hs : Tm s) (w : World) :
    Calls Try.prog 19 #[.int .i64 u, .int .i64 s] w fun e w' => e = .returned (.bool (decide (u ≤ s - 20))) ∧ Below w.heap.size w w' := by
  obtain ⟨u0, u1⟩ := hu
  obtain ⟨s0, s1⟩ := hs
  go_enter Try.func19, Try.ntmps19
  go_wp2
  go_ret
  exact ⟨rfl, Below.refl _ _⟩
theorem Wait16_any (u s : Int) (hu : Tm u) (hs : Tm s) (w : World) :
    Calls Try.prog 21 #[.int .i64 u, .int .i64 s] w fun e w' => e = .returned (.int .i64 (max 0 (u + 20 - s))) ∧ Below w.heap.size w w' := by
  obtain ⟨u0, u1⟩ := hu
  obtain ⟨s0, s1⟩ := hs
  go_enter Try.func21, Try.ntmps21
  go_wp2
  go_ret
  exact ⟨rfl, Below.refl _ _⟩
theorem Valid16_any (a : Int) (w : World) :
    Calls Try.prog 25 #[.agg #[.int .i64 a]] w fun e w' => e = .returned (.bool (decide (-10 ≤ a) && decide (a ≤ 10))) ∧ Below w.heap.size w w' := by
  go_enter Try.func25, Try.ntmps25
  go_wp2
  all_goals
    go_ret
    refine ⟨ret_bool ?_, by go_grown⟩
    rw [Bool.eq_iff_iff]
    simp
    omega
theorem Drift16_any (a b : Int) (ha : -10 ≤ a ∧ a ≤ 10) (w : World) :
    Calls Try.prog 23 #[.agg #[.int .i64 a], .int .i64 b] w fun e w' => e = .returned (.agg #[.int .i64 (driftC a b)]) ∧ Below w.heap.size w w' := by
  by_cases h1 : b > 20
  · have HE := Lib.hid (show driftC a b = 10 by unfold driftC; omega)
    go_enter Try.func23, Try.ntmps23
    go_wp2
    refine bodyPost_ret (v := .agg #[.int .i64 10]) ?_ rfl ⟨by rw [HE.out], by go_grown⟩
    simp [results, Try.results23, go_sem]
  by_cases h2 : b < -20
  · have HE := Lib.hid (show driftC a b = -10 by unfold driftC; omega)
    go_enter Try.func23, Try.ntmps23
    go_wp2
    refine bodyPost_ret (v := .agg #[.int .i64 (-10)]) ?_ rfl ⟨by rw [HE.out], by go_grown⟩
    simp [results, Try.results23, go_sem]
  · have HE := Lib.hid (show driftC a b = max (-10) (min 10 (a + b)) from rfl)
    go_enter Try.func23, Try.ntmps23
    go_wp2
    refine bodyPost_ret (v := .agg #[.int .i64 (max (-10) (min 10 (a + b)))]) ?_ rfl ⟨by rw [HE.out], by go_grown⟩
    simp [results, Try.results23, go_sem]
end Go.Proofs.Ythjfnmhnbhhbcaa
