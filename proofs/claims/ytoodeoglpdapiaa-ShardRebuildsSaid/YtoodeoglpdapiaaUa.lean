/-
  Plain: the cells of the tables of powers and logarithms, round by round; what they hold at the end.
-/
import Derived.Test.YtoodeoglpdapiaaSf
import Derived.Laws.Tables
namespace Go.Proofs.Ytoodeoglpdapiaa
open Gf

/-- The cells after i rounds: twice the powers, and the logarithms. -/
def fc : Nat → Array Value
  | 0 => Array.replicate 766 (.int .u8 0)
  | i + 1 => (((fc i).setIfInBounds i (.int .u8 (xts i 1))).setIfInBounds (i + 255) (.int .u8 (xts i 1))).setIfInBounds (510 + xts i 1) (.int .u8 i)
theorem fc_size : ∀ i, (fc i).size = 766
  | 0 => by simp [fc]
  | i + 1 => by simp [fc, fc_size i]
theorem fc_one : ∀ i, (fc i).all (·.oneCell') = true
  | 0 => by rw [Array.all_eq_true_iff_forall_mem]; intro v hv; obtain ⟨_, rfl⟩ := Array.mem_replicate.1 hv; rfl
  | i + 1 => by
    have ih := Array.all_eq_true_iff_forall_mem.1 (fc_one i)
    rw [Array.all_eq_true_iff_forall_mem]
    intro v hv
    unfold fc at hv
    rcases Array.mem_or_eq_of_mem_setIfInBounds hv with hv | rfl
    · rcases Array.mem_or_eq_of_mem_setIfInBounds hv with hv | rfl
      · rcases Array.mem_or_eq_of_mem_setIfInBounds hv with hv | rfl
        · exact ih v hv
        · rfl
      · rfl
    · rfl
theorem xts_pos (n : Nat) : 0 < xts n 1 := Nat.pos_of_ne_zero (xts_ne n)
theorem xts_inj {i j : Nat} (hi : i < 255) (hj : j < 255) (h : xts i 1 = xts j 1) : i = j := by
  have hl : (pows 255 1).length = 255 := by decide +kernel
  have hn : (pows 255 1).Nodup := by decide +kernel
  have h1 := pows_get 255 1 i hi
  have h2 := pows_get 255 1 j hj
  rw [h] at h1
  exact (List.getElem?_inj (by omega) hn).1 (h1.trans h2.symm)
theorem fc_at : ∀ i, i ≤ 255 → ∀ j, j < i → (fc i)[j]? = some (.int .u8 (xts j 1)) ∧ (fc i)[j + 255]? = some (.int .u8 (xts j 1)) ∧ (fc i)[510 + xts j 1]? = some (.int .u8 j)
  | 0, _, j, h => absurd h (Nat.not_lt_zero _)
  | i + 1, hi, j, h => by
    have hp := xts_pos i
    have hq := xts_lt (a := 1) (by decide) i
    have hpj := xts_pos j
    have hqj := xts_lt (a := 1) (by decide) j
    have hs := fc_size i
    unfold fc
    simp only [Array.getElem?_setIfInBounds, Array.size_setIfInBounds, hs]
    by_cases e : j = i
    · subst e
      refine ⟨?_, ?_, ?_⟩
      · rw [if_neg (by omega), if_neg (by omega), if_pos rfl, if_pos (by omega)]
      · rw [if_neg (by omega), if_pos rfl, if_pos (by omega)]
      · rw [if_pos rfl, if_pos (by omega)]
    · obtain ⟨h1, h2, h3⟩ := fc_at i (by omega) j (by omega)
      have hne : xts i 1 ≠ xts j 1 := fun e2 => e (xts_inj (by omega) (by omega) e2).symm
      refine ⟨?_, ?_, ?_⟩
      · rw [if_neg (by omega), if_neg (by omega), if_neg (by omega)]; exact h1
      · rw [if_neg (by omega), if_neg (by omega), if_neg (by omega)]; exact h2
      · rw [if_neg (by omega), if_neg (by omega), if_neg (by omega)]; exact h3
theorem fc_pow (j : Nat) (h : j < 510) : (fc 255)[j]? = some (.int .u8 (xts j 1)) := by
  have p : xts 255 1 = 1 := by decide +kernel
  by_cases hj : j < 255
  · exact (fc_at 255 (Nat.le_refl _) j hj).1
  · have := (fc_at 255 (Nat.le_refl _) (j - 255) (by omega)).2.1
    rw [show j - 255 + 255 = j by omega] at this
    rw [this, show xts j 1 = xts (j - 255) 1 from by
      have e := xts_add 1 (j - 255) 255
      rw [p, show j - 255 + 255 = j by omega] at e
      exact e]
theorem fc_log (a : Nat) (h : a < 256) (h0 : a ≠ 0) : ∃ n, n < 255 ∧ xts n 1 = a ∧ (fc 255)[510 + a]? = some (.int .u8 n) := by
  obtain ⟨n, hn, rfl⟩ := log_ex h h0
  exact ⟨n, hn, rfl, (fc_at 255 (Nat.le_refl _) n hn).2.2⟩
/-- The next power, as the program finds it. -/
theorem xt_prog (x : Nat) : (255 < 2 * x ∧ xt x = (2 * x) ^^^ 285) ∨ (¬ 255 < 2 * x ∧ xt x = 2 * x) := by
  unfold xt; split
  · exact .inl ⟨by assumption, rfl⟩
  · exact .inr ⟨by assumption, rfl⟩
end Go.Proofs.Ytoodeoglpdapiaa
