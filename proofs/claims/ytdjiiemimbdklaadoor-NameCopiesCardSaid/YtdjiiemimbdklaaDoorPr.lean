/-
  Plain mathematics on lists of bytes for layer 1, sixth part: names and paths at the limits. No program is imported here.
-/
import Derived.Test.YtdjiiemimbdklaaDoorPq
namespace Go.Proofs.YtdjiiemimbdklaaDoor.Pl

def xs (k : Nat) : Bs := List.replicate k 120
def ys (k : Nat) : Bs := jn (List.replicate k [121])
theorem xs_succ (k : Nat) : xs k ++ [120] = xs (k + 1) := by unfold xs; rw [List.replicate_succ']
theorem ys_succ (k : Nat) : (if k = 0 then [] else ys k ++ [47]) ++ [121] = ys (k + 1) := by
  unfold ys
  split
  · rename_i h; subst h; rfl
  · rename_i h
    rw [List.replicate_succ', jn_snoc _ _ (fun e => by have := congrArg List.length e; rw [List.length_replicate, List.length_nil] at this; exact h this)]
    simp
theorem xs_len (k : Nat) : (xs k).length = k := by simp [xs]
theorem ys_len (k : Nat) : (ys k).length ≤ 17 * k := by
  have h := jn_len (List.replicate k [121]) (by intro x hx; rw [(List.mem_replicate.1 hx).2]; decide)
  rw [List.length_replicate] at h
  exact h
theorem vld_xs (k : Nat) : vld (xs k) = (decide (1 ≤ k) && decide (k ≤ 16)) := by
  have hall : (xs k).all okb = true := by rw [List.all_eq_true]; intro x hx; rw [(List.mem_replicate.1 hx).2]; decide
  have h1 : (xs k == [46]) = false := by
    rw [beq_eq_false_iff_ne]; intro e
    have : (46 : UInt8) ∈ xs k := by rw [e]; simp
    exact absurd (List.mem_replicate.1 this).2 (by decide)
  have h2 : (xs k == [46, 46]) = false := by
    rw [beq_eq_false_iff_ne]; intro e
    have : (46 : UInt8) ∈ xs k := by rw [e]; simp
    exact absurd (List.mem_replicate.1 this).2 (by decide)
  unfold vld
  rw [hall, h1, h2, xs_len]
  simp
theorem cut_ys (k : Nat) : cut (ys k) = List.replicate k [121] := by
  by_cases h : k = 0
  · subst h; rfl
  · have hne : List.replicate k ([121] : Bs) ≠ [] := fun e => by have := congrArg List.length e; rw [List.length_replicate, List.length_nil] at this; exact h this
    have hy : ys k ≠ [] := by
      intro e
      match k, h, e with
      | 1, _, e => exact absurd e (by decide)
      | k + 2, _, e => unfold ys at e; rw [List.replicate_succ, List.replicate_succ] at e; simp [jn] at e
    rw [← cutGo_cut hy]
    exact cutGo_jn _ hne (by intro x hx; rw [(List.mem_replicate.1 hx).2]; decide)
theorem isPath_ys (k : Nat) : isPath (ys k) = decide (k ≤ 8) := by
  unfold isPath
  rw [cut_ys, List.length_replicate]
  have : (List.replicate k ([121] : Bs)).all vld = true := by rw [List.all_eq_true]; intro x hx; rw [(List.mem_replicate.1 hx).2]; decide
  rw [this, Bool.true_and]
/-- One byte of a right name turned. -/
def oddS (n k : Nat) (c : UInt8) : Bs := (xs n).take k ++ [c] ++ (xs n).drop (k + 1)
theorem vld_odd {n k : Nat} (c : UInt8) (hn : 1 ≤ n) (hn16 : n ≤ 16) (hk : k < n) : vld (oddS n k c) = (okb c && (decide (1 < n) || !(c == 46))) := by
  have e : oddS n k c = List.replicate k 120 ++ [c] ++ List.replicate (n - (k + 1)) 120 := by
    unfold oddS xs
    rw [List.take_replicate, List.drop_replicate, Nat.min_eq_left (Nat.le_of_lt hk)]
  have hlen : (oddS n k c).length = n := by rw [e]; simp; omega
  have hok : (oddS n k c).all okb = okb c := by
    rw [e, List.all_append, List.all_append]
    have h1 : ∀ m, (List.replicate m (120 : UInt8)).all okb = true := by
      intro m; rw [List.all_eq_true]; intro x hx; rw [(List.mem_replicate.1 hx).2]; decide
    rw [h1, h1]; simp
  have h2 : (oddS n k c == [46, 46]) = false := by
    rw [beq_eq_false_iff_ne]; intro e2
    have hn2 : n = 2 := by rw [e2] at hlen; simpa using hlen.symm
    subst hn2
    have hk2 : k = 0 ∨ k = 1 := by omega
    rcases hk2 with rfl | rfl
    · rw [e] at e2; simp [List.replicate] at e2
    · rw [e] at e2; simp [List.replicate] at e2
  have h1 : (oddS n k c == [46]) = (decide (n = 1) && (c == 46)) := by
    by_cases h : n = 1
    · subst h
      have : k = 0 := by omega
      subst this
      rw [e]
      simp
    · have : (oddS n k c == [46]) = false := by rw [beq_eq_false_iff_ne]; intro e2; rw [e2] at hlen; simp at hlen; omega
      rw [this]; simp [h]
  unfold vld
  rw [hlen, hok, h1, h2]
  have a1 : decide (1 ≤ n) = true := by simp; omega
  have a2 : decide (n ≤ 16) = true := by simp; omega
  rw [a1, a2]
  by_cases h : n = 1
  · subst h; cases okb c <;> cases (c == 46) <;> rfl
  · have a3 : decide (1 < n) = true := by simp; omega
    have a4 : decide (n = 1) = false := by simp [h]
    rw [a3, a4]; cases okb c <;> rfl
theorem u8_eqi (c n : UInt8) : (c == n) = decide ((c.toNat : Int) = n.toNat) := by
  rw [Bool.eq_iff_iff, beq_iff_eq, decide_eq_true_eq]
  constructor
  · intro h; rw [h]
  · intro h; exact UInt8.toNat_inj.1 (by omega)
/-- Which byte leaves the name right. -/
theorem right_iff {n k : Nat} (c : UInt8) (hn : 1 ≤ n) (hn16 : n ≤ 16) (hk : k < n) :
    vld (oddS n k c) = true ↔ (48 ≤ (c.toNat : Int) ∧ (c.toNat : Int) ≤ 57) ∨ (97 ≤ (c.toNat : Int) ∧ (c.toNat : Int) ≤ 122) ∨ (65 ≤ (c.toNat : Int) ∧ (c.toNat : Int) ≤ 90) ∨ (c.toNat : Int) = 95 ∨ (c.toNat : Int) = 45 ∨ (c.toNat : Int) = 126 ∨ ((c.toNat : Int) = 46 ∧ 1 < (n : Int)) := by
  rw [vld_odd c hn hn16 hk]
  have e46 : ((46 : UInt8).toNat : Int) = 46 := rfl
  have e95 : ((95 : UInt8).toNat : Int) = 95 := rfl
  have e45 : ((45 : UInt8).toNat : Int) = 45 := rfl
  have e126 : ((126 : UInt8).toNat : Int) = 126 := rfl
  unfold okb lett
  rw [u8_eqi c 46, u8_eqi c 95, u8_eqi c 45, u8_eqi c 126, e46, e95, e45, e126]
  simp only [Bool.and_eq_true, Bool.or_eq_true, decide_eq_true_eq, Bool.not_eq_true', decide_eq_false_iff_not]
  omega

end Go.Proofs.YtdjiiemimbdklaaDoor.Pl
