/-
  The reference's Rights are the program's; walk of the reference's Allows.
-/
import Derived.Test.YtkpedfigaofloaaRb
import Derived.Test.YtkpedfigaofloaaPg
namespace Go.Proofs.Ytkpedfigaofloaa
open Go.RowKit Ap
set_option maxHeartbeats 400000

theorem bv_two (i : Nat) (hi : i < 4) : bv ((2 : Int) ^ i) = BitVec.twoPow 64 i := by
  have : i = 0 ∨ i = 1 ∨ i = 2 ∨ i = 3 := by omega
  rcases this with rfl | rfl | rfl | rfl <;> decide
theorem bit_at (x : Int) (i : Nat) (hi : i < 4) : (bits .and .i64 x ((2 : Int) ^ i) != 0) = (bv x).getLsbD i := by
  rw [bits_and, bv_two i hi, BitVec.and_twoPow]
  cases (bv x).getLsbD i
  · rfl
  · have : i = 0 ∨ i = 1 ∨ i = 2 ∨ i = 3 := by omega
    rcases this with rfl | rfl | rfl | rfl <;> decide
theorem hasB_cons (e : Ac) (l : List Ac) (who owner r : Int) : hasB (e :: l) who owner r = if hasP who owner r e = true then e.allow else hasB l who owner r := by
  unfold hasB
  cases h : hasP who owner r e
  · rw [List.find?_cons_of_neg (by rw [h]; simp), if_neg (by simp)]
  · rw [List.find?_cons_of_pos h, if_pos rfl]; rfl
theorem fold_bit (who owner : Int) (i : Nat) (hi : i < 4) : ∀ (l : List Ac) (s : BitVec 64 × BitVec 64), (l.foldl (stepR who owner) s).1.getLsbD i = (s.1.getLsbD i || (s.2.getLsbD i && hasB l who owner (2 ^ i)))
  | [], s => by simp [hasB]
  | e :: l, s => by
    have hi64 : i < 64 := by omega
    rw [List.foldl_cons, fold_bit who owner i hi l, hasB_cons]
    unfold hasP
    rw [bit_at e.rights i hi]
    unfold stepR
    cases hc : cnt e who owner
    · simp
    · cases ha : e.allow <;> simp only [if_true, Bool.false_eq_true, if_false, Bool.true_and, BitVec.getLsbD_or, BitVec.getLsbD_and, BitVec.getLsbD_not, hi64, decide_true] <;> cases s.1.getLsbD i <;> cases s.2.getLsbD i <;> cases (bv e.rights).getLsbD i <;> simp
theorem hasB_bit (l : List Ac) (who owner : Int) (i : Nat) (hi : i < 4) : hasB l who owner (2 ^ i) = (foldR l who owner).1.getLsbD i := by
  unfold foldR
  rw [fold_bit who owner i hi l (0, 15)]
  have : i = 0 ∨ i = 1 ∨ i = 2 ∨ i = 3 := by omega
  rcases this with rfl | rfl | rfl | rfl <;> simp
theorem hasR_bit (l : List Ac) (who owner : Int) (i : Nat) (hi : i < 4) : hasR l who owner (2 ^ i) = (rightsV l who owner).getLsbD i := by
  unfold hasR rightsV
  rw [hasB_bit l who owner i hi]
  have hi' : i = 0 ∨ i = 1 ∨ i = 2 ∨ i = 3 := by omega
  by_cases h0 : who = 0
  · rw [if_pos h0, show (who == 0) = true by simp [h0]]
    rcases hi' with rfl | rfl | rfl | rfl <;> simp
  · rw [if_neg h0, show (who == 0) = false by simp [h0]]
    by_cases h1 : who = owner
    · rw [if_pos h1, show (who == owner) = true by simp [h1], BitVec.getLsbD_or]
      rcases hi' with rfl | rfl | rfl | rfl <;> simp
    · rw [if_neg h1, show (who == owner) = false by simp [h1]]
      simp
theorem sum_bits : ∀ n : Fin 16, (BitVec.ofNat 64 n.val).toInt = 0 + (if (BitVec.ofNat 64 n.val).getLsbD 0 = true then 2 ^ 0 else 0) + (if (BitVec.ofNat 64 n.val).getLsbD 1 = true then 2 ^ 1 else 0) + (if (BitVec.ofNat 64 n.val).getLsbD 2 = true then 2 ^ 2 else 0) + (if (BitVec.ofNat 64 n.val).getLsbD 3 = true then 2 ^ 3 else 0) := by decide +kernel
theorem refS_rights (l : List Ac) (who owner : Int) : refS l who owner 4 = (rightsV l who owner).toInt := by
  have hs := rightsV_small l who owner
  have h1 : (rightsV l who owner).toNat < 16 := by
    have : (rightsV l who owner).toNat ≤ 15 := by
      rw [← hs, BitVec.toNat_and]
      exact Nat.and_le_right
    omega
  have h := sum_bits ⟨(rightsV l who owner).toNat, h1⟩
  dsimp only at h
  rw [BitVec.ofNat_toNat, BitVec.setWidth_eq] at h
  rw [h]
  show refS l who owner 0 + _ + _ + _ + _ = _
  rw [hasR_bit l who owner 0 (by omega), hasR_bit l who owner 1 (by omega), hasR_bit l who owner 2 (by omega), hasR_bit l who owner 3 (by omega)]
  rfl
/-- The reference's Rights, in the program's terms. -/
theorem rrights_same (A : Option Addr) (n c : Nat) (l : List Ac) (hn : l.length = n) (hl : n ≤ 1000) (who owner : Int) (w : World) (hA : Aces w A l) :
    Calls Try.prog 16 #[.slice A n c, .int .i64 who, .int .i64 owner] w fun e w' => e = .returned (.int .i64 (rightsV l who owner).toInt) ∧ Below w.heap.size w w' := by
  rw [← refS_rights]
  exact rrights_any A n c l hn hl who owner w hA
theorem rallows_any (A : Option Addr) (n c : Nat) (l : List Ac) (hn : l.length = n) (hl : n ≤ 1000) (who owner want : Int) (w : World) (hA : Aces w A l) :
    Calls Try.prog 18 #[.slice A n c, .int .i64 who, .int .i64 owner, .int .i64 want] w fun e w' => e = .returned (.bool (bits .andNot .i64 want (rightsV l who owner).toInt == 0)) ∧ Below w.heap.size w w' := by
  have C := Lib.hid (rrights_same A n c l hn hl who owner w hA)
  clear hn hA
  go_enter Try.func18, Try.ntmps18
  go_wp2_with (go_at_call 16; refine C.out.mono ?_; rintro e w1 ⟨rfl, hb1⟩)
  go_ret
  exact ⟨rfl, hb1⟩
theorem allows_same (V : BitVec 64) (want : Int) (h : -9223372036854775808 ≤ want ∧ want ≤ 9223372036854775807) : (bits .andNot .i64 want V.toInt == 0) = ((V &&& bv want).toInt == want) := by
  have hw : (bv want).toInt = want := by
    unfold bv
    rw [BitVec.toInt_ofInt]
    exact Int.bmod_eq_of_le (by omega) (by omega)
  have key : (bv want &&& ~~~V = 0) ↔ V &&& bv want = bv want := by
    constructor
    · intro h0
      refine bit_ext fun i hi => ?_
      have h1 := congrArg (fun z => BitVec.getLsbD z i) h0
      simp only [BitVec.getLsbD_and, BitVec.getLsbD_not, hi, decide_true, Bool.true_and] at h1 ⊢
      revert h1
      cases (bv want).getLsbD i <;> cases V.getLsbD i <;> simp
    · intro h0
      refine bit_ext fun i hi => ?_
      have h1 := congrArg (fun z => BitVec.getLsbD z i) h0
      simp only [BitVec.getLsbD_and, BitVec.getLsbD_not, hi, decide_true, Bool.true_and] at h1 ⊢
      revert h1
      cases (bv want).getLsbD i <;> cases V.getLsbD i <;> simp
  rw [bits_andNot, bv_toInt, Bool.eq_iff_iff, beq_iff_eq, beq_iff_eq]
  constructor
  · intro h0
    rw [key.1 (BitVec.eq_of_toInt_eq (by rw [h0]; rfl)), hw]
  · intro h0
    have : V &&& bv want = bv want := BitVec.eq_of_toInt_eq (by rw [h0, hw])
    rw [key.2 this]; rfl
end Go.Proofs.Ytkpedfigaofloaa
