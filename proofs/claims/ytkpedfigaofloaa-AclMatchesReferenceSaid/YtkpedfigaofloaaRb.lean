/-
  Walks of the reference's Rights and Allows.
-/
import Derived.Test.YtkpedfigaofloaaRa
namespace Go.Proofs.Ytkpedfigaofloaa
open Go.RowKit Ap
set_option maxHeartbeats 400000

/-- The right r is given. -/
def hasR (l : List Ac) (who owner r : Int) : Bool := hasB l who owner r || ((who == 0) || ((r == 8) && (who == owner)))
/-- The rights below the k-th, added. -/
def refS (l : List Ac) (who owner : Int) : Nat → Int
  | 0 => 0
  | k + 1 => refS l who owner k + (if hasR l who owner (2 ^ k) = true then 2 ^ k else 0)
theorem refS_le (l : List Ac) (who owner : Int) (k : Nat) : 0 ≤ refS l who owner k ∧ refS l who owner k < 2 ^ k := by
  induction k with
  | zero => simp [refS]
  | succ k ih =>
    have h2 : (2 : Int) ^ (k + 1) = 2 ^ k + 2 ^ k := by rw [Int.pow_succ]; omega
    have h3 : (0 : Int) ≤ 2 ^ k := Int.le_of_lt (Int.pow_pos (by omega))
    unfold refS
    split <;> omega
theorem refS_16 (l : List Ac) (who owner : Int) (k : Nat) (hk : k ≤ 4) : 0 ≤ refS l who owner k ∧ refS l who owner k < 16 := by
  have h := refS_le l who owner k
  have : (2 : Int) ^ k ≤ 16 := by
    have : k = 0 ∨ k = 1 ∨ k = 2 ∨ k = 3 ∨ k = 4 := by omega
    rcases this with rfl | rfl | rfl | rfl | rfl <;> decide
  omega
set_option maxHeartbeats 4000000 in
theorem rrights_any (A : Option Addr) (n c : Nat) (l : List Ac) (hn : l.length = n) (hl : n ≤ 1000) (who owner : Int) (w : World) (hA : Aces w A l) :
    Calls Try.prog 16 #[.slice A n c, .int .i64 who, .int .i64 owner] w fun e w' => e = .returned (.int .i64 (refS l who owner 4)) ∧ Below w.heap.size w w' := by
  have SA := Lib.hid hA
  have CH := Lib.hid (fun (r : Int) W (h : Aces W A l) => has_any A n c l hn hl who owner r W h)
  clear hn hA
  go_enter Try.func16, Try.ntmps16
  go_wp2
  go_loopw [7, 8] (fun s i wr => ∃ (k : Nat) (r : Int), ((k = 0 ∧ r = 1) ∨ (k = 1 ∧ r = 2) ∨ (k = 2 ∧ r = 4) ∨ (k = 3 ∧ r = 8) ∨ (k = 4 ∧ r = 16)) ∧ i = .int .i64 r ∧ s = .int .i64 (refS l who owner k) ∧ Below w.heap.size w wr) (fun _ i _ => 16 - (intOf i).toNat)
  case atStart => exact ⟨0, 1, .inl ⟨rfl, rfl⟩, rfl, rfl, Below.refl _ _⟩
  case round =>
    obtain ⟨k, r, hkr, rfl, hs, hbw⟩ := hrel
    have hbs := hbw.size
    have k4 : k ≤ 4 := by omega
    have b16 := refS_16 l who owner k k4
    have hst : ∀ b c d : Bool, hasB l who owner (2 ^ k) = b → (who == 0) = c → (who == owner) = d → refS l who owner (k + 1) = refS l who owner k + (if (b || (c || (((2 : Int) ^ k == 8) && d))) = true then 2 ^ k else 0) := fun b c d h1 h2 h3 => by
      show refS l who owner k + _ = _
      unfold hasR
      rw [h1, h2, h3]
    obtain ⟨s0, hs0⟩ : ∃ s, refS l who owner k = s := ⟨_, rfl⟩
    rw [hs0] at hs b16 hst
    subst hs
    have SAW := Lib.hid (SA.out.below hbw)
    by_cases h4 : k = 4
    · obtain rfl : r = 16 := by omega
      have HS := Lib.hid (show refS l who owner 4 = s0 by rw [← hs0, h4])
      clear hs0 hst hkr h4 CH
      go_wp2
      go_ret
      exact ⟨ret_int HS.out.symm, hbw⟩
    · have CB := fun W (h : Aces W A l) => CH.out r W h
      obtain ⟨b, hb⟩ : ∃ b, hasB l who owner r = b := ⟨_, rfl⟩
      rw [hb] at CB
      obtain ⟨c0, hc⟩ : ∃ b, (who == 0) = b := ⟨_, rfl⟩
      obtain ⟨d, hd⟩ : ∃ b, (who == owner) = b := ⟨_, rfl⟩
      have hkr' : (k = 0 ∧ r = 1) ∨ (k = 1 ∧ r = 2) ∨ (k = 2 ∧ r = 4) ∨ (k = 3 ∧ r = 8) := by omega
      have CB := Lib.hid CB
      clear hs0 hkr h4 CH SA
      rcases hkr' with ⟨rfl, rfl⟩ | ⟨rfl, rfl⟩ | ⟨rfl, rfl⟩ | ⟨rfl, rfl⟩
      · have hst1 := Lib.hid (hst b c0 d hb hc hd)
        clear hst hb
        cases b <;> cases c0 <;> cases d
        all_goals
          go_wp2_with (go_at_call 37; refine (CB.out _ SAW.out).mono ?_; rintro e w1 ⟨rfl, hb1⟩)
          go_roundw
          case rel => exact ⟨0 + 1, 2, .inr (.inl ⟨rfl, rfl⟩), by first | rfl | go_num, by rw [hst1.out]; first | rfl | simp | go_num, hbw.trans (hb1.mono hbs)⟩
          case measure => simp [intOf]
      · have hst1 := Lib.hid (hst b c0 d hb hc hd)
        clear hst hb
        cases b <;> cases c0 <;> cases d
        all_goals
          go_wp2_with (go_at_call 37; refine (CB.out _ SAW.out).mono ?_; rintro e w1 ⟨rfl, hb1⟩)
          go_roundw
          case rel => exact ⟨1 + 1, 4, .inr (.inr (.inl ⟨rfl, rfl⟩)), by first | rfl | go_num, by rw [hst1.out]; first | rfl | simp | go_num, hbw.trans (hb1.mono hbs)⟩
          case measure => simp [intOf]
      · have hst1 := Lib.hid (hst b c0 d hb hc hd)
        clear hst hb
        cases b <;> cases c0 <;> cases d
        all_goals
          go_wp2_with (go_at_call 37; refine (CB.out _ SAW.out).mono ?_; rintro e w1 ⟨rfl, hb1⟩)
          go_roundw
          case rel => exact ⟨2 + 1, 8, .inr (.inr (.inr (.inl ⟨rfl, rfl⟩))), by first | rfl | go_num, by rw [hst1.out]; first | rfl | simp | go_num, hbw.trans (hb1.mono hbs)⟩
          case measure => simp [intOf]
      · have hst1 := Lib.hid (hst b c0 d hb hc hd)
        clear hst hb
        cases b <;> cases c0 <;> cases d
        all_goals
          go_wp2_with (go_at_call 37; refine (CB.out _ SAW.out).mono ?_; rintro e w1 ⟨rfl, hb1⟩)
          go_roundw
          case rel => exact ⟨3 + 1, 16, .inr (.inr (.inr (.inr ⟨rfl, rfl⟩))), by first | rfl | go_num, by rw [hst1.out]; first | rfl | simp | go_num, hbw.trans (hb1.mono hbs)⟩
          case measure => simp [intOf]
end Go.Proofs.Ytkpedfigaofloaa
