/-
  Walks of the reference's Mul and Inv.
-/
import Derived.Test.YtoodeoglpdapiaaSf
import Derived.WalkKit
import Derived.WalkSpells
import Derived.Handy
import Derived.Outline
import Derived.Laws.Rows
import Derived.Laws.BitsAllLaws
import Derived.Lib.Hide
namespace Go.Proofs.Ytoodeoglpdapiaa
open Go.RowKit Gf
set_option maxHeartbeats 400000

theorem ret_bool {a b : Bool} (h : a = b) : Ending.returned (.bool a) = .returned (.bool b) := by rw [h]
theorem ret_int {k : IntKind} {a b : Int} (h : a = b) : Ending.returned (.int k a) = .returned (.int k b) := by rw [h]

theorem i64_xor_nat (a b : Nat) (ha : a < 4294967296) (hb : b < 4294967296) : bits .xor .i64 (a : Int) (b : Int) = ((a ^^^ b : Nat) : Int) := by
  have hx : a ^^^ b < 2 ^ 32 := Nat.xor_lt_two_pow (n := 32) ha hb
  show IntKind.i64.wrap (((BitVec.ofInt 64 (a : Int) ^^^ BitVec.ofInt 64 (b : Int)).toNat : Nat) : Int) = _
  rw [BitVec.toNat_xor, BitVec.ofInt_natCast, BitVec.ofInt_natCast, BitVec.toNat_ofNat, BitVec.toNat_ofNat, Nat.mod_eq_of_lt (by omega), Nat.mod_eq_of_lt (by omega), IntKind.wrap_i64]
  omega
theorem bit_any (b : UInt8) (k : Nat) : (bits BinOp.and IntKind.u8 ((b.toNat : Int) / 2 ^ k) 1 == 1) = b.toNat.testBit k := by
  have hb := b.toNat_lt
  have h1 : b.toNat / 2 ^ k < 256 := Nat.lt_of_le_of_lt (Nat.div_le_self _ _) hb
  have e : ((b.toNat : Int) / 2 ^ k) = ((b.toNat / 2 ^ k : Nat) : Int) := by simp
  rw [e, show (1 : Int) = ((1 : Nat) : Int) from rfl, u8_and_nat _ _ h1 (by decide), Nat.and_one_is_mod, Nat.testBit_eq_decide_div_mod_eq, Bool.eq_iff_iff]
  simp only [beq_iff_eq, decide_eq_true_eq]
  omega
theorem xt_i (x : Nat) (h : x < 256) : ((255 : Int) < wrap64 (2 * x) → bits .xor .i64 (wrap64 (2 * x)) 285 = ((xt x : Nat) : Int)) ∧ (wrap64 (2 * x) ≤ 255 → wrap64 (2 * x) = ((xt x : Nat) : Int)) := by
  have e : wrap64 (2 * (x : Int)) = ((2 * x : Nat) : Int) := by exact IntWalk.wrap64_in _ ⟨by omega, by omega⟩
  rw [e]
  constructor
  · intro h1
    rw [show (285 : Int) = ((285 : Nat) : Int) from rfl, i64_xor_nat _ _ (by omega) (by decide)]
    unfold xt; rw [if_pos (by omega)]
  · intro h1
    unfold xt; rw [if_neg (by omega)]

theorem Mul_byte (a b : UInt8) (w : World) :
    Calls Try.prog 22 #[.int .u8 a.toNat, .int .u8 b.toNat] w fun e w' => e = .returned (.int .u8 (gm a b).toNat) ∧ w' = w := by
  have HB := Lib.hid (bit_any b)
  have HX := Lib.hid (fun k => xt_i (xts k a.toNat) (xts_lt a.toNat_lt k))
  have HL := Lib.hid (fun k => mulTo_lt (b := b.toNat) a.toNat_lt k)
  have HG := Lib.hid (gm_toNat a b)
  have HA := Lib.hid a.toNat_lt
  go_enter Try.func22, Try.ntmps22
  go_wp2
  go_loopw [5, 6, 7] (fun s x i wr => ∃ k : Nat, k ≤ 8 ∧ i = .int .i64 k ∧ s = .int .i64 (mulTo a.toNat b.toNat k) ∧ x = .int .i64 (xts k a.toNat) ∧ wr = w) (fun _ _ i _ => 8 - (intOf i).toNat)
  case atStart =>
    have e : wrap64 (a.toNat : Int) = ((xts 0 a.toNat : Nat) : Int) := by
      have := HA.out
      show _ = (a.toNat : Int)
      exact IntWalk.wrap64_in _ ⟨by omega, by omega⟩
    exact ⟨0, Nat.zero_le _, rfl, rfl, by rw [e], rfl⟩
  case round =>
    obtain ⟨k, hk, rfl, rfl, rfl, rfl⟩ := hrel
    by_cases hlt : k < 8
    · cases hb : b.toNat.testBit k
      · have HBK := Lib.hid hb
        have hf := (HB.out k).trans hb
        clear hb
        go_wp2
        all_goals
          go_roundw
          case rel => 
            refine ⟨k + 1, by omega, by go_num, ?_, ?_, trivial⟩
            · rw [mulTo_no _ _ _ HBK.out]
            · first | rw [(HX.out k).1 (by assumption)]; rfl | rw [(HX.out k).2 (by assumption)]; rfl
          case measure => simp [intOf]; omega
      · have HBK := Lib.hid hb
        have hf := (HB.out k).trans hb
        clear hb
        go_wp2
        all_goals
          go_roundw
          case rel => 
            refine ⟨k + 1, by omega, by go_num, ?_, ?_, trivial⟩
            · have h1 := HL.out k; have h2 := xts_lt HA.out k
              rw [i64_xor_nat _ _ (by omega) (by omega)]
              rw [mulTo_yes _ _ _ HBK.out]
            · first | rw [(HX.out k).1 (by assumption)]; rfl | rw [(HX.out k).2 (by assumption)]; rfl
          case measure => simp [intOf]; omega
    · obtain rfl : k = 8 := by omega
      go_wp2
      go_ret
      refine ⟨ret_int ?_, rfl⟩
      rw [HG.out]
      have := HL.out 8
      show _ = ((mulTo a.toNat b.toNat 8 : Nat) : Int)
      omega
theorem ofNat_toNat' {n : Nat} (h : n < 256) : ((UInt8.ofNat n).toNat : Int) = (n : Int) := by rw [ofNat_toNat h]
theorem Mul_nat (a b : Nat) (ha : a < 256) (hb : b < 256) (w : World) :
    Calls Try.prog 22 #[.int .u8 a, .int .u8 b] w fun e w' => e = .returned (.int .u8 (mul a b : Nat)) ∧ w' = w := by
  have h := Mul_byte (UInt8.ofNat a) (UInt8.ofNat b) w
  rw [gm_toNat, ofNat_toNat ha, ofNat_toNat hb] at h
  exact h

theorem inv_none {a k : Nat} (hk : k ≤ 255) (h : (List.range' 1 k).find? (fun i => mul a i == 1) = none) : (mul a (k + 1) == 1) = true → k < 255 → invN a = k + 1 := by
  intro h1 h2
  have e : List.range' 1 255 = List.range' 1 k ++ List.range' (k + 1) (255 - k) := by
    rw [Nat.add_comm k 1, List.range'_append_1]; congr 1; omega
  unfold invN
  rw [e, List.find?_append, h, show 255 - k = (254 - k) + 1 by omega, List.range'_succ, List.find?_cons, h1]
  rfl
theorem inv_more {a k : Nat} (h : (List.range' 1 k).find? (fun i => mul a i == 1) = none) (h1 : (mul a (k + 1) == 1) = false) : (List.range' 1 (k + 1)).find? (fun i => mul a i == 1) = none := by
  rw [show List.range' 1 (k + 1) = List.range' 1 k ++ List.range' (k + 1) 1 by rw [Nat.add_comm k 1, List.range'_append_1, Nat.add_comm 1 k], List.find?_append, h]
  simp only [List.range'_one, List.find?_cons, h1, List.find?_nil]
  rfl
theorem one_beq (n : Nat) : ((n : Int) == 1) = (n == 1) := by
  rw [Bool.eq_iff_iff, beq_iff_eq, beq_iff_eq]; omega

theorem Inv_nat (a : Nat) (ha : a < 256) (w : World) :
    Calls Try.prog 52 #[.int .u8 a] w fun e w' => e = .returned (.int .u8 (invN a : Nat)) ∧ w' = w := by
  have HM := Lib.hid (fun b hb => Mul_nat a b ha hb w)
  have h255 : (List.range' 1 255).find? (fun i => mul a i == 1) = none → invN a = 0 := fun h => by unfold invN; rw [h]; rfl
  have HZ := Lib.hid h255
  clear h255
  go_enter Try.func52, Try.ntmps52
  go_wp2
  go_loopw [3] (fun i wr => ∃ k : Nat, k ≤ 255 ∧ i = .int .i64 ((k + 1 : Nat) : Int) ∧ (List.range' 1 k).find? (fun i => mul a i == 1) = none ∧ wr = w) (fun i _ => 256 - (intOf i).toNat)
  case atStart => exact ⟨0, by omega, rfl, rfl, rfl⟩
  case round =>
    obtain ⟨k, hk, rfl, hf, rfl⟩ := hrel
    have HF := Lib.hid hf
    clear hf
    by_cases hlt : k < 255
    · have C := HM.out (k + 1) (by omega)
      have k1 : (((k + 1 : Nat) : Int)) < 256 := by omega
      have k0 : 0 ≤ (((k + 1 : Nat) : Int)) := by omega
      obtain ⟨K, hK⟩ : ∃ K : Nat, k + 1 = K := ⟨_, rfl⟩
      rw [hK] at C k1 k0
      rw [hK]
      obtain ⟨v, hv⟩ : ∃ v, mul a K = v := ⟨_, rfl⟩
      rw [hv] at C
      have HK := Lib.hid hK; have HV := Lib.hid hv
      clear hK hv
      cases h1 : (v == 1)
      · have h1' : ((v : Int) == 1) = false := by rw [one_beq]; exact h1
        have H1 := Lib.hid h1
        clear h1
        go_wp2_with (go_at_call 22; refine C.mono ?_; rintro e w' ⟨rfl, rfl⟩)
        go_roundw
        case rel =>
          refine ⟨k + 1, by omega, ?_, inv_more HF.out (by rw [HK.out, HV.out]; exact H1.out), trivial⟩
          rw [HK.out]; go_num
        case measure => simp [intOf]; omega
      · have h1' : ((v : Int) == 1) = true := by rw [one_beq]; exact h1
        have H1 := Lib.hid h1
        clear h1
        go_wp2_with (go_at_call 22; refine C.mono ?_; rintro e w' ⟨rfl, rfl⟩)
        go_ret
        refine ⟨ret_int ?_, rfl⟩
        rw [inv_none hk HF.out (by rw [HK.out, HV.out]; exact H1.out) hlt, HK.out]
    · obtain rfl : k = 255 := by omega
      go_wp2
      go_ret
      refine ⟨ret_int ?_, rfl⟩
      rw [HZ.out HF.out]; rfl
end Go.Proofs.Ytoodeoglpdapiaa
