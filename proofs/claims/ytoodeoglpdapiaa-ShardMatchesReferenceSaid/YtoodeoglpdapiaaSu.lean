/-
  Plain facts for the laws on shards of which some are missing.
-/
import Derived.Test.YtoodeoglpdapiaaSt
namespace Go.Proofs.Ytoodeoglpdapiaa
open Gf

/-- How many of the first i numbers have a property. -/
def cnt (p : Nat → Bool) (i : Nat) : Nat := ((List.range i).filter p).length
theorem cnt_succ (p : Nat → Bool) (i : Nat) : cnt p (i + 1) = if p i = true then cnt p i + 1 else cnt p i := by
  unfold cnt
  rw [List.range_succ, List.filter_append, List.length_append, List.filter_cons, List.filter_nil]
  split <;> simp
theorem cnt_le (p : Nat → Bool) (i : Nat) : cnt p i ≤ i := by
  unfold cnt
  exact Nat.le_trans (List.length_filter_le _ _) (by simp)
theorem cnt_zero (p : Nat → Bool) : ∀ n, cnt p n = 0 → ∀ i, i < n → p i = false
  | 0, _, i, h => absurd h (Nat.not_lt_zero _)
  | n + 1, h, i, hi => by
    rw [cnt_succ] at h
    split at h
    · omega
    · rename_i hp
      by_cases e : i = n
      · subst e; simpa using hp
      · exact cnt_zero p n h i (by omega)
theorem cnt_congr {p q : Nat → Bool} {n : Nat} (h : ∀ i, i < n → p i = q i) : cnt p n = cnt q n := by
  unfold cnt
  rw [List.filter_congr (fun i hi => h i (List.mem_range.1 hi))]
theorem cnt_pos {p : Nat → Bool} {n i : Nat} (hi : i < n) (h : p i = true) : 0 < cnt p n := by
  unfold cnt
  exact List.length_pos_of_mem (List.mem_filter.2 ⟨List.mem_range.2 hi, h⟩)

/-- Some of the shards are there, the others are empty. -/
structure Part (b : List UInt8) (L k n : Nat) (S : Nat → Bool) (ls : List (List UInt8)) : Prop where
  len : ls.length = n
  row : ∀ t, t < n → ls[t]? = some (if S t = true then encX b L k (UInt8.ofNat t) else [])
theorem part_left {b : List UInt8} {k n gone : Nat} (hk1 : 1 ≤ k) (hk : k ≤ 256) : Part b (longN b.length k) k n (fun t => !gone.testBit t) (leftL (encL b k n) gone) := by
  refine ⟨by rw [leftL_len, encL_len], fun t ht => ?_⟩
  unfold leftL
  rw [List.getElem?_map, encL_len, List.getElem?_range ht]
  show some (if gone.testBit t = true then [] else (encL b k n)[t]?.getD []) = _
  rw [encL_get hk1 hk ht]
  cases gone.testBit t <;> rfl
section
variable {b : List UInt8} {L k n : Nat} {S : Nat → Bool} {ls : List (List UInt8)} (P : Part b L k n S ls)
include P
theorem Part.lenD {t : Nat} (ht : t < n) : (ls[t]?.getD []).length = if S t = true then L else 0 := by
  rw [P.row t ht]
  show (if S t = true then encX b L k (UInt8.ofNat t) else []).length = _
  split
  · exact encX_len _ _ _ _
  · rfl
theorem Part.short (hL : L ≤ 100) : ∀ r ∈ ls, r.length ≤ 100 := fun r hr => by
  obtain ⟨t, ht, rfl⟩ := List.mem_iff_getElem.1 hr
  have h := P.lenD (show t < n by rw [← P.len]; exact ht)
  rw [List.getElem?_eq_getElem ht] at h
  have h' : ls[t].length = _ := h
  rw [h']
  split <;> omega
theorem Part.there (but : Int) : thereL ls L but n = (List.range n).filter (fun t : Nat => decide ((t : Int) ≠ but) && (S t || L == 0)) := by
  unfold thereL
  refine List.filter_congr (fun t ht => ?_)
  have ht := List.mem_range.1 ht
  unfold isT
  rw [P.lenD ht]
  congr 1
  cases S t
  · rw [Bool.eq_iff_iff]; simp; omega
  · simp
theorem Part.pts (but : Int) : (ptsL ls k L but).length = min k (cnt (fun t : Nat => decide ((t : Int) ≠ but) && (S t || L == 0)) n) := by
  unfold ptsL cnt
  rw [List.length_map, List.length_take, P.len, P.there]
theorem Part.rows (hn : n ≤ 256) {but : Int} {p : UInt8} (hp : p ∈ ptsL ls k L but) : rowOf ls p = encX b L k p := by
  have h1 := ptsL_mem (by rw [P.len]; exact hn) hp
  rw [P.len] at h1
  have h2 := P.row p.toNat h1.1
  have h3 := h1.2.2
  unfold rowOf at h3 ⊢
  rw [h2] at h3 ⊢
  cases hS : S p.toNat
  · rw [hS] at h3
    simp at h3
    subst h3
    simp [encX]
  · simp
/-- Decoding out of what is there. -/
theorem Part.dec (hk1 : 1 ≤ k) (hkn : k ≤ n) (hn : n ≤ 256) (hL : L = longN b.length k) : ((ptsL ls k L (-1)).length = k → decL ls k b.length = b) ∧ ((ptsL ls k L (-1)).length < k ↔ cnt (fun t => S t || L == 0) n < k) := by
  constructor
  · intro hf
    subst hL
    exact decL_all hk1 (by omega) (by rw [P.len]; exact hn) hf (fun p hp => P.rows hn hp)
  · rw [P.pts, cnt_congr (q := fun t => S t || L == 0) (fun i _ => by
      have : decide ((i : Int) ≠ -1) = true := decide_eq_true (by omega)
      rw [this, Bool.true_and])]
    omega
/-- How many shards other than i are there. -/
theorem Part.long (hL : 1 ≤ L) {i : Nat} : ∀ j, j ≤ n → longTo ls i j = if cnt (fun t => t != i && S t) j = 0 then 0 else L
  | 0, _ => rfl
  | j + 1, hj => by
    rw [longTo, Part.long hL j (by omega), cnt_succ, P.lenD (by omega)]
    by_cases hji : j = i
    · subst hji; simp
    · have h1 : (j != i) = true := by simp [hji]
      rw [if_neg hji, h1, Bool.true_and]
      cases hS : S j
      · simp
      · simp only [if_true]
        split <;> split <;> omega
theorem Part.reb (hL : 1 ≤ L) (hk1 : 1 ≤ k) (hkn : k ≤ n) (hn : n ≤ 256) {i : Nat} :
    (k ≤ cnt (fun t => t != i && S t) n → (rebP ls k i).length = k ∧ rebL ls k i = encX b L k (UInt8.ofNat i)) ∧
    (0 < cnt (fun t => t != i && S t) n → cnt (fun t => t != i && S t) n < k → (rebP ls k i).length < k) ∧
    (cnt (fun t => t != i && S t) n = 0 → (rebP ls k i).length = k → rebL ls k i = []) := by
  have hlong : longOf ls i = if cnt (fun t => t != i && S t) n = 0 then 0 else L := by unfold longOf; rw [P.len]; exact P.long hL n (Nat.le_refl _)
  have hc : cnt (fun t : Nat => decide ((t : Int) ≠ (i : Int)) && (S t || L == 0)) n = cnt (fun t => t != i && S t) n := cnt_congr (fun t _ => by
    have h1 : (L == 0) = false := by simp; omega
    rw [h1, Bool.or_false]
    congr 1
    rw [Bool.eq_iff_iff]; simp; omega)
  refine ⟨fun h => ?_, fun h h2 => ?_, fun h h2 => ?_⟩
  · have e : rebP ls k i = ptsL ls k L (i : Int) := by unfold rebP; rw [hlong, if_neg (by omega)]
    have hf : (rebP ls k i).length = k := by rw [e, P.pts, hc]; omega
    refine ⟨hf, rebL_all hk1 (by omega) (by rw [P.len]; exact hn) hf (fun p hp => ?_)⟩
    rw [e] at hp
    exact P.rows hn hp
  · have e : rebP ls k i = ptsL ls k L (i : Int) := by unfold rebP; rw [hlong, if_neg (by omega)]
    rw [e, P.pts, hc]; omega
  · have e : rebP ls k i = ptsL ls k 0 (i : Int) := by unfold rebP; rw [hlong, if_pos h]
    have hm : (rebP ls k i)[0]?.getD 0 ∈ rebP ls k i := by rw [List.getElem?_eq_getElem (by omega)]; exact List.getElem_mem _
    have h3 := shardL_len (ls := ls) (pts := rebP ls k i) (L := 0) (by
      rw [e] at hm ⊢
      exact (ptsL_mem (by rw [P.len]; exact hn) hm).2.2) (UInt8.ofNat i)
    exact List.eq_nil_of_length_eq_zero h3
/-- A shard that was found is put there. -/
theorem Part.put {j : Nat} : Part b L k n (fun t => decide (t = j) || S t) (ls.set j (encX b L k (UInt8.ofNat j))) := by
  refine ⟨by rw [List.length_set]; exact P.len, fun t ht => ?_⟩
  by_cases e : t = j
  · subst e
    rw [List.getElem?_set_self (by rw [P.len]; exact ht)]
    simp
  · rw [List.getElem?_set_ne (fun h => e h.symm), P.row t ht]
    simp [e]
end
end Go.Proofs.Ytoodeoglpdapiaa
