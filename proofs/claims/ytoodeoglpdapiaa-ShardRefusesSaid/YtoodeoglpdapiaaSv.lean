/-
  Walk of the law ShardField.
-/
import Derived.Test.YtoodeoglpdapiaaSr
import Derived.Test.YtoodeoglpdapiaaSu
namespace Go.Proofs.Ytoodeoglpdapiaa
open Go.RowKit Gf
set_option maxHeartbeats 400000

def SanOk (Env : World → Prop) : Prop := ∀ W, Env W → Calls Try.prog 10 #[] W fun e w' => e = .returned (.bool true) ∧ Below W.heap.size W w'
theorem mul_is {Env : World → Prop} (P : Prg Env) (a b : UInt8) (x y z : Int) (hx : (a.toNat : Int) = x) (hy : (b.toNat : Int) = y) (hz : ((gm a b).toNat : Int) = z) (W : World) (hE : Env W) :
    Calls Try.prog 21 #[.int .u8 x, .int .u8 y] W fun e w' => e = .returned (.int .u8 z) ∧ Below W.heap.size W w' := by
  subst hx; subst hy; subst hz; exact P.mul a b W hE
theorem inv_is {Env : World → Prop} (P : Prg Env) (a : UInt8) (x z : Int) (hx : (a.toNat : Int) = x) (hz : ((gi a).toNat : Int) = z) (W : World) (hE : Env W) :
    Calls Try.prog 23 #[.int .u8 x] W fun e w' => e = .returned (.int .u8 z) ∧ Below W.heap.size W w' := by
  subst hx; subst hz; exact P.inv a W hE

set_option maxHeartbeats 4000000 in
set_option maxRecDepth 20000 in
theorem lawField_any {Env : World → Prop} (P : Prg Env) (S : SanOk Env) (a b c : UInt8) (w : World) (hE : Env w) :
    Calls Try.prog 4 #[.int .u8 a.toNat, .int .u8 b.toNat, .int .u8 c.toNat] w fun e w' => e = .returned (.bool true) ∧ Below w.heap.size w w' := by
  have HS := Lib.hid S
  have HP := Lib.hid P
  have HR := Lib.hid (Mul_byte a b)
  have m1 := Lib.hid (fun W hW => mul_is P a b _ _ _ rfl rfl rfl W hW)
  have m2 := Lib.hid (fun W hW => mul_is P b a _ _ ((gm a b).toNat : Int) rfl rfl (by rw [gm_comm]) W hW)
  have m3 := Lib.hid (fun W hW => mul_is P (gm a b) c _ _ _ rfl rfl rfl W hW)
  have m4 := Lib.hid (fun W hW => mul_is P b c _ _ _ rfl rfl rfl W hW)
  have m5 := Lib.hid (fun W hW => mul_is P a (gm b c) _ _ ((gm (gm a b) c).toNat : Int) rfl rfl (by rw [gm_assoc]) W hW)
  have m6 := Lib.hid (fun W hW => mul_is P a (b ^^^ c) _ ((b.toNat ^^^ c.toNat : Nat) : Int) (((gm a b).toNat ^^^ (gm a c).toNat : Nat) : Int) rfl (by rw [UInt8.toNat_xor]) (by rw [gm_xor, UInt8.toNat_xor]) W hW)
  have m7 := Lib.hid (fun W hW => mul_is P a c _ _ _ rfl rfl rfl W hW)
  have m8 := Lib.hid (fun W hW => mul_is P a 1 _ 1 (a.toNat : Int) rfl rfl (by rw [gm_one]) W hW)
  have m9 := Lib.hid (fun W hW => mul_is P a 0 _ 0 0 rfl rfl (by rw [gm_zero]; rfl) W hW)
  have x1 := xor_byte b c
  have x2 := xor_byte (gm a b) (gm a c)
  rw [UInt8.toNat_xor] at x1 x2
  have hB : Below w.heap.size w w := Below.refl _ _
  clear S P
  by_cases ha : a = 0
  · have i1 := Lib.hid (fun W hW => inv_is HP.out a _ 0 rfl (by rw [ha, gi_zero]; rfl) W hW)
    have a0 : ((a.toNat : Int) == 0) = true := by rw [ha]; rfl
    have a1 : ((a.toNat : Int) != 0) = false := by rw [ha]; rfl
    have g0 : (((gm a b).toNat : Int) == 0) = true := by rw [ha, zero_gm]; rfl
    clear ha
    go_enter Try.func4, Try.ntmps4
    go_wp2_with (first | (go_at_call 10; refine (HS.out _ hE).mono ?_; rintro e w' ⟨rfl, hb⟩; have hE := HP.out.env hE hb; have hB := hB.trans (hb.mono hB.size)) | (go_at_call 22; refine (HR.out _).mono ?_; rintro e w' ⟨rfl, rfl⟩) | (go_at_call 23; with_reducible refine (i1.out _ hE).mono ?_; rintro e w' ⟨rfl, hb⟩; have hE := HP.out.env hE hb; have hB := hB.trans (hb.mono hB.size)) | (go_at_call 21; (first | with_reducible refine (m1.out _ hE).mono ?_ | with_reducible refine (m2.out _ hE).mono ?_ | with_reducible refine (m3.out _ hE).mono ?_ | with_reducible refine (m4.out _ hE).mono ?_ | with_reducible refine (m5.out _ hE).mono ?_ | with_reducible refine (m6.out _ hE).mono ?_ | with_reducible refine (m7.out _ hE).mono ?_ | with_reducible refine (m8.out _ hE).mono ?_ | with_reducible refine (m9.out _ hE).mono ?_); rintro e w' ⟨rfl, hb⟩; have hE := HP.out.env hE hb; have hB := hB.trans (hb.mono hB.size)))
    go_ret
    exact ⟨rfl, hB⟩
  · have i1 := Lib.hid (fun W hW => inv_is HP.out a _ _ rfl rfl W hW)
    have m10 := Lib.hid (fun W hW => mul_is HP.out a (gi a) _ _ 1 rfl rfl (by rw [gm_gi ha]; rfl) W hW)
    have an := toNat_ne ha
    have a0 : ((a.toNat : Int) == 0) = false := by simp; omega
    have a1 : ((a.toNat : Int) != 0) = true := by simp; omega
    by_cases hb0 : b = 0
    · have b0 : ((b.toNat : Int) == 0) = true := by rw [hb0]; rfl
      have g0 : (((gm a b).toNat : Int) == 0) = true := by rw [hb0, gm_zero]; rfl
      clear ha hb0 an
      go_enter Try.func4, Try.ntmps4
      go_wp2_with (first | (go_at_call 10; refine (HS.out _ hE).mono ?_; rintro e w' ⟨rfl, hb⟩; have hE := HP.out.env hE hb; have hB := hB.trans (hb.mono hB.size)) | (go_at_call 22; refine (HR.out _).mono ?_; rintro e w' ⟨rfl, rfl⟩) | (go_at_call 23; with_reducible refine (i1.out _ hE).mono ?_; rintro e w' ⟨rfl, hb⟩; have hE := HP.out.env hE hb; have hB := hB.trans (hb.mono hB.size)) | (go_at_call 21; (first | with_reducible refine (m1.out _ hE).mono ?_ | with_reducible refine (m2.out _ hE).mono ?_ | with_reducible refine (m3.out _ hE).mono ?_ | with_reducible refine (m4.out _ hE).mono ?_ | with_reducible refine (m5.out _ hE).mono ?_ | with_reducible refine (m6.out _ hE).mono ?_ | with_reducible refine (m7.out _ hE).mono ?_ | with_reducible refine (m8.out _ hE).mono ?_ | with_reducible refine (m9.out _ hE).mono ?_ | with_reducible refine (m10.out _ hE).mono ?_); rintro e w' ⟨rfl, hb⟩; have hE := HP.out.env hE hb; have hB := hB.trans (hb.mono hB.size)))
      go_ret
      exact ⟨rfl, hB⟩
    · have bn := toNat_ne hb0
      have gn := toNat_ne (fun e => (gm_eq_zero.1 e).elim ha hb0)
      have b0 : ((b.toNat : Int) == 0) = false := by simp; omega
      have g0 : (((gm a b).toNat : Int) == 0) = false := by simp; omega
      clear ha hb0 an bn gn
      go_enter Try.func4, Try.ntmps4
      go_wp2_with (first | (go_at_call 10; refine (HS.out _ hE).mono ?_; rintro e w' ⟨rfl, hb⟩; have hE := HP.out.env hE hb; have hB := hB.trans (hb.mono hB.size)) | (go_at_call 22; refine (HR.out _).mono ?_; rintro e w' ⟨rfl, rfl⟩) | (go_at_call 23; with_reducible refine (i1.out _ hE).mono ?_; rintro e w' ⟨rfl, hb⟩; have hE := HP.out.env hE hb; have hB := hB.trans (hb.mono hB.size)) | (go_at_call 21; (first | with_reducible refine (m1.out _ hE).mono ?_ | with_reducible refine (m2.out _ hE).mono ?_ | with_reducible refine (m3.out _ hE).mono ?_ | with_reducible refine (m4.out _ hE).mono ?_ | with_reducible refine (m5.out _ hE).mono ?_ | with_reducible refine (m6.out _ hE).mono ?_ | with_reducible refine (m7.out _ hE).mono ?_ | with_reducible refine (m8.out _ hE).mono ?_ | with_reducible refine (m9.out _ hE).mono ?_ | with_reducible refine (m10.out _ hE).mono ?_); rintro e w' ⟨rfl, hb⟩; have hE := HP.out.env hE hb; have hB := hB.trans (hb.mono hB.size)))
      go_ret
      exact ⟨rfl, hB⟩
end Go.Proofs.Ytoodeoglpdapiaa
