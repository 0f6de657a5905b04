/-
  The law ClockDrifts of layer 16 (clocks): for every byte, every two numbers of 8 bits and every number that can be read as data, the call returns true, without a panic, and the arguments read afterwards as before.
-/
import Derived.Test.YthjfnmhnbhhbcaaCf
import Derived.Test.YthjfnmhnbhhbcaaDa
import Derived.Test.YthjfnmhnbhhbcaaCh
import Derived.Test.YthjfnmhnbhhbcaaRows
namespace Go.Proofs.Ythjfnmhnbhhbcaa.ClockDriftsLaw
open Go.ChangeShapes Go.WideShapes Go.ChangeAt Go.RowKit Go.Proofs.Ythjfnmhnbhhbcaa
set_option maxRecDepth 100000

theorem contract (H : Type) (enc : TypeId × Value → H) (W : World) (base : Nat) (args : Array Value) (ds gs : List (DataW H)) (before : List MemPlace)
    (hval : ∀ (j : Nat) t v, Try.f8.params[j]? = some t → args[j]? = some v → Value.okWide Try.prog W .any base t v)
    (hW : DataW.Whole enc Try.prog Try.f8.params.toList Rows.clockDriftsSpec.vars false W args.toList ds gs before) :
    Calls Try.prog 8 args W fun e W' => ∃ v, e = .returned v ∧ Rows.clockDriftsSpec.post enc Try.prog Try.f8 false true false false W args v W' := by
  have hW' := hW
  obtain ⟨p, q, hA0, hV, rfl, hfz, hnd⟩ := hW
  have hA : DataW.TrodAll enc Try.prog W 0 (fun _ => true) true Try.f8.params.toList args.toList ds p := hA0
  rw [Try.params8] at hA hval
  obtain ⟨v0, vs0, d0, ds0, p0, q0, hargs, rfl, rfl, h0, r0⟩ := trodAll_cons hA
  obtain ⟨v1, vs1, d1, ds1, p1, q1, rfl, rfl, rfl, h1, r1⟩ := trodAll_cons r0
  obtain ⟨v2, vs2, d2, ds2, p2, q2, rfl, rfl, rfl, h2, r2⟩ := trodAll_cons r1
  obtain ⟨rfl, rfl, rfl⟩ := trodAll_nil r2
  obtain rfl : args = #[v0, v1, v2] := by cases args; simp_all
  obtain ⟨rfl, rfl⟩ := trodVars_none hV
  obtain ⟨x, rfl⟩ := byte_arg (hval 0 5 v0 rfl rfl) h0
  obtain ⟨y, z, rfl, hy, hz⟩ := two_i8 (hval 1 44 v1 rfl rfl) h1
  obtain ⟨u, rfl, hu⟩ := int_arg (hval 2 3 v2 rfl rfl) h2
  refine (lawDrifts_any prgC x y z u hy hz hu W trivial).mono fun e W' ⟨he, hb⟩ => ?_
  subst he
  exact ⟨_, rfl, law_post (by kernel_rfl) rfl (by rw [Try.params8]; intro t ht; simp at ht; rcases ht with rfl | rfl | rfl <;> exact ⟨by kernel_rfl, of_decide_eq_true (by kernel_rfl)⟩) hW' rfl hb⟩

theorem laid_met (os : Os) : laidMet Try.prog Rows.clockDriftsRow.laid ((plainWorld os).forCall (fun _ _ => 0) ⟨#[], #[.int .u8 0, .agg #[.int .i8 0, .int .i8 0], .int .i64 0], []⟩).memory :=
  laidMet_of_run' 8 (by kernel_rfl) (by kernel_rfl)
theorem reads (os : Os) {H : Type} (enc : TypeId × Value → H) : ∃ places, DataW.whole enc Try.prog ((plainWorld os).forCall (fun _ _ => 0) ⟨#[], #[.int .u8 0, .agg #[.int .i8 0, .int .i8 0], .int .i64 0], []⟩).memory Try.f8.params.toList Rows.clockDriftsSpec.vars false #[Value.int .u8 0, .agg #[.int .i8 0, .int .i8 0], .int .i64 0].toList 8 =
    some ([.lit (.int .u8 0), .agg [.lit (.int .i8 0), .lit (.int .i8 0)], .lit (.int .i64 0)], [], places) :=
  ⟨[], by kernel_rfl⟩

set_option maxRecDepth 100000 in
theorem lifted (os : Os) (started : os.Started) (H : Type) (enc : TypeId × Value → H) (F : Stop.Interp) :
    ReturnsInHanded {} Try.checked os 8 .any ((OpenSpec.ofChange Rows.clockDriftsSpec).preRow enc Try.prog Try.f8 Rows.clockDriftsRow.domain false Rows.clockDriftsRow.laid) (((OpenSpec.ofChange Rows.clockDriftsSpec).at F).post enc Try.prog Try.f8 false true false false) := by
  obtain ⟨places, hx⟩ := reads os enc
  refine returnsInHanded_of_row (C := Try.checked) (s := OpenSpec.ofChange Rows.clockDriftsSpec) ownKn started (by kernel_rfl) Try.func8
    (witness_row_at (enc := enc) (C := Try.checked) false (plainWorld os) #[.int .u8 0, .agg #[.int .i8 0, .int .i8 0], .int .i64 0] rfl (by kernel_rfl) (by kernel_rfl) (by kernel_rfl)
      (OpenSpec.preRow_of_cond 8 hx (by kernel_rfl) (fun k hk => by cases hk) (by kernel_rfl) (laid_met os))) ?_
  intro W base args ds gs before hval hW _ _ _ _ _ _
  exact contract H enc W base args ds gs before hval hW

theorem said : Rows.ClockDriftsSaid :=
  OpenClaim.holds_of_cond 8 Try.f8 rfl rfl rfl rfl rfl rfl rfl ⟨rfl, rfl, rfl, rfl, rfl⟩ rfl rfl rfl rfl rfl (by kernel_rfl) Try.func8 (by kernel_rfl)
    (of_decide_eq_true (by kernel_rfl)) (by unfold Func.isWrapper; first | (rw [if_pos (by decide +kernel)]; kernel_rfl) | (rw [if_neg (by decide +kernel)]; exact ⟨rfl, rfl⟩))
    (fun os started H enc _ F => by rw [OpenClaim.pre_eq_preRow]; exact lifted os started H enc F)
end Go.Proofs.Ythjfnmhnbhhbcaa.ClockDriftsLaw
