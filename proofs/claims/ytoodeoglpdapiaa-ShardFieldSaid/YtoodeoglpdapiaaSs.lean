/-
  Plain facts of shards: any k of them make all; sums; one byte more or other is seen.
-/
import Derived.Test.YtoodeoglpdapiaaSp
namespace Go.Proofs.Ytoodeoglpdapiaa
open Gf

/-- The bytes with the index j of the first k shards, and the shard at a point of their polynomials. -/
def colK (b : List UInt8) (L k j : Nat) : List UInt8 := colL (rowsK b L k) (firstL k) j
def encX (b : List UInt8) (L k : Nat) (x : UInt8) : List UInt8 := (List.range L).map fun j => at_ (firstL k) (colK b L k j) x
theorem encX_len (b : List UInt8) (L k : Nat) (x : UInt8) : (encX b L k x).length = L := by simp [encX]
theorem encX_get {b : List UInt8} {L k j : Nat} {x : UInt8} (h : j < L) : (encX b L k x)[j]? = some (at_ (firstL k) (colK b L k j) x) := by simp [encX, h]
theorem colK_get {b : List UInt8} {L k i j : Nat} (hi : i < k) (hk : k ≤ 256) (hj : j < L) : (colK b L k j)[i]?.getD 0 = b[i * L + j]?.getD 0 := by
  unfold colK colL
  rw [List.getElem?_map, firstL_get hi]
  show (rowOf (rowsK b L k) (UInt8.ofNat i))[j]?.getD 0 = _
  rw [rowOf_rows (by rw [ofNat_toNat (by omega)]; exact hi), ofNat_toNat (by omega)]
  simp [encRow, hj]
theorem encAt_X {b : List UInt8} {L k i : Nat} (hk1 : 1 ≤ k) (hk : k ≤ 256) : encAt b L k i = encX b L k (UInt8.ofNat i) := by
  unfold encAt
  split
  · rename_i hi
    unfold encRow encX
    refine List.map_congr_left fun j hj => ?_
    have hj := List.mem_range.1 hj
    have h1 := at_point (firstL k) (colK b L k j) (firstL_nodup hk) i (by rw [firstL_len]; exact hi)
    rw [firstL_get hi] at h1
    have h2 : at_ (firstL k) (colK b L k j) (UInt8.ofNat i) = _ := h1
    rw [h2, colK_get hi hk hj]
  · unfold shardL shardTo encX colK
    have h0 : (firstL k)[0]?.getD 0 = UInt8.ofNat 0 := by rw [firstL_get (by omega)]; rfl
    rw [h0, rowOf_rows (by rw [ofNat_toNat (by decide)]; omega), encRow_len]
/-- Out of any k shards at different points, the shard at any point. -/
theorem shard_from {b : List UInt8} {L k : Nat} (hk1 : 1 ≤ k) (hk : k ≤ 256) (ls : List (List UInt8)) (pts : List UInt8) (hn : pts.Nodup) (hl : pts.length = k) (hr : ∀ p ∈ pts, rowOf ls p = encX b L k p) (x : UInt8) : shardL ls pts x = encX b L k x := by
  have hm : pts[0]?.getD 0 ∈ pts := by rw [List.getElem?_eq_getElem (by omega)]; exact List.getElem_mem _
  unfold shardL shardTo
  rw [hr _ hm, encX_len]
  unfold encX
  refine List.map_congr_left fun j hj => ?_
  have hj := List.mem_range.1 hj
  refine at_again (firstL k) (colK b L k j) pts (colL ls pts j) hn (by rw [firstL_len, hl]) (fun i hi => ?_) x
  have e : pts[i]? = some pts[i] := List.getElem?_eq_getElem hi
  unfold colL
  rw [List.getElem?_map, e]
  show (rowOf ls pts[i])[j]?.getD 0 = at_ _ _ pts[i]
  rw [hr _ (List.getElem_mem _), encX_get hj]
  rfl
/-- The first k shards, one after the other. -/
theorem join_rows (b : List UInt8) (L : Nat) : ∀ k, ((List.range k).map (encRow b L)).flatten = (List.range (k * L)).map fun t => b[t]?.getD 0
  | 0 => by simp
  | k + 1 => by
    rw [List.range_succ, List.map_append, List.flatten_append, join_rows b L k, Nat.succ_mul, List.range_add, List.map_append]
    congr 1
    simp [encRow]
theorem take_all (b : List UInt8) (m : Nat) (h : b.length ≤ m) : ((List.range m).map fun t => b[t]?.getD 0).take b.length = b := by
  apply List.ext_getElem?
  intro i
  rw [List.getElem?_take]
  split
  · rename_i hi
    rw [List.getElem?_map, List.getElem?_range (by omega)]
    show some (b[i]?.getD 0) = _
    rw [List.getElem?_eq_getElem hi]; rfl
  · rename_i hi
    rw [List.getElem?_eq_none (by omega)]
theorem joinTo_rows {b : List UInt8} {L k : Nat} {ls : List (List UInt8)} {pts : List UInt8} (h : ∀ i, i < k → shardL ls pts (UInt8.ofNat i) = encRow b L i) : ∀ i, i ≤ k → joinTo ls pts i = ((List.range i).map (encRow b L)).flatten
  | 0, _ => rfl
  | i + 1, hi => by
    rw [joinTo, joinTo_rows h i (by omega), h i (by omega), List.range_succ, List.map_append, List.flatten_append]
    simp
theorem encRow_X {b : List UInt8} {L k i : Nat} (hk1 : 1 ≤ k) (hk : k ≤ 256) (hi : i < k) : encX b L k (UInt8.ofNat i) = encRow b L i := by
  rw [← encAt_X hk1 hk]; unfold encAt; rw [if_pos hi]
/-- Any k shards give the bytes again. -/
theorem decL_all {b : List UInt8} {k : Nat} {ls : List (List UInt8)} (hk1 : 1 ≤ k) (hk : k ≤ 256) (hls : ls.length ≤ 256) (hf : (ptsL ls k (longN b.length k) (-1)).length = k) (hr : ∀ p ∈ ptsL ls k (longN b.length k) (-1), rowOf ls p = encX b (longN b.length k) k p) : decL ls k b.length = b := by
  unfold decL
  rw [joinTo_rows (fun i hi => by rw [shard_from hk1 hk ls _ (ptsL_nodup hls) hf hr, encRow_X hk1 hk hi]) k (Nat.le_refl _), join_rows]
  exact take_all b _ (longN_le b.length k hk1).1
/-- A shard is found from any k others. -/
theorem rebL_all {b : List UInt8} {L k i : Nat} {ls : List (List UInt8)} (hk1 : 1 ≤ k) (hk : k ≤ 256) (hls : ls.length ≤ 256) (hf : (rebP ls k i).length = k) (hr : ∀ p ∈ rebP ls k i, rowOf ls p = encX b L k p) : rebL ls k i = encX b L k (UInt8.ofNat i) := by
  unfold rebL
  exact shard_from hk1 hk ls _ (ptsL_nodup hls) hf hr _
theorem encL_len (b : List UInt8) (k n : Nat) : (encL b k n).length = n := encTo_len _ _ _ _
theorem encL_get {b : List UInt8} {k n i : Nat} (hk1 : 1 ≤ k) (hk : k ≤ 256) (hi : i < n) : (encL b k n)[i]? = some (encX b (longN b.length k) k (UInt8.ofNat i)) := by
  unfold encL
  rw [encTo_get hi, encAt_X hk1 hk]
theorem rowOf_encL {b : List UInt8} {k n : Nat} {p : UInt8} (hk1 : 1 ≤ k) (hk : k ≤ 256) (hp : p.toNat < n) : rowOf (encL b k n) p = encX b (longN b.length k) k p := by
  unfold rowOf
  rw [encL_get hk1 hk hp]
  simp
/-- The shards of bytes are accepted together. -/
theorem chkL_enc {b : List UInt8} {k n : Nat} (hk1 : 1 ≤ k) (hkn : k ≤ n) (hn : n ≤ 256) : chkL (encL b k n) k = true := by
  unfold chkL
  have hlen : ∀ r ∈ encL b k n, r.length = longN b.length k := fun r hr => by
    obtain ⟨i, hi, rfl⟩ := List.mem_iff_getElem.1 hr
    rw [encL_len] at hi
    have := encL_get (b := b) hk1 (by omega) hi
    rw [List.getElem?_eq_getElem (by rw [encL_len]; exact hi)] at this
    rw [Option.some.inj this, encX_len]
  rw [Bool.and_eq_true, List.all_eq_true, List.all_eq_true]
  constructor
  · intro r hr
    unfold lenOk
    rw [hlen r hr, encL_get hk1 (by omega) (show 0 < n by omega)]
    simp [encX_len]
  · intro i hi
    rw [List.mem_range, encL_len] at hi
    unfold rowOk
    rw [shard_from (b := b) (L := longN b.length k) hk1 (by omega) ((encL b k n).take k) (firstL k) (firstL_nodup (by omega)) (firstL_len k) (fun p hp => by
      have h1 := firstL_mem (by omega) hp
      unfold rowOf
      rw [List.getElem?_take, if_pos h1, encL_get hk1 (by omega) (by omega)]
      simp), encL_get hk1 (by omega) hi]
    simp

/-- A list of shards is its own first shards. -/
theorem self_row {ls : List (List UInt8)} {L k i : Nat} (hk : k ≤ 256) (hl : ∀ q, q < k → (ls[q]?.getD []).length = L) (hi : i < k) : shardL ls (firstL k) (UInt8.ofNat i) = ls[i]?.getD [] := by
  unfold shardL shardTo
  have h0 : (firstL k)[0]?.getD 0 = UInt8.ofNat 0 := by rw [firstL_get (by omega)]; rfl
  have hrow : ∀ q, q < k → rowOf ls (UInt8.ofNat q) = ls[q]?.getD [] := fun q hq => by unfold rowOf; rw [ofNat_toNat (by omega)]
  rw [h0, hrow 0 (by omega), hl 0 (by omega)]
  apply List.ext_getElem?
  intro j
  rw [List.getElem?_map]
  by_cases hj : j < L
  · rw [List.getElem?_range hj]
    have h1 := at_point (firstL k) (colL ls (firstL k) j) (firstL_nodup hk) i (by rw [firstL_len]; exact hi)
    rw [firstL_get hi] at h1
    have h2 : at_ (firstL k) (colL ls (firstL k) j) (UInt8.ofNat i) = _ := h1
    show some (at_ _ _ _) = _
    rw [h2]
    unfold colL
    rw [List.getElem?_map, firstL_get hi]
    show some ((rowOf ls (UInt8.ofNat i))[j]?.getD 0) = _
    rw [hrow i hi, List.getElem?_eq_getElem (by rw [hl i hi]; exact hj)]
    rfl
  · rw [List.getElem?_eq_none (by simp; omega), List.getElem?_eq_none (by rw [hl i hi]; omega)]
    rfl
/-- Two polynomials through the same points that agree at as many points agree everywhere. -/
theorem at_agree (pts v1 v2 pts' : List UInt8) (hn : pts'.Nodup) (hl : pts'.length = pts.length) (h : ∀ x ∈ pts', at_ pts v1 x = at_ pts v2 x) (x : UInt8) : at_ pts v1 x = at_ pts v2 x := by
  obtain ⟨p, hp, ep⟩ := at_poly pts v1
  obtain ⟨q, hq, eq⟩ := at_poly pts v2
  rw [← ep, ← eq]
  exact ev_same pts' p q hn (by omega) (by omega) (fun r hr => by rw [ep, eq]; exact h r hr) x
/-- The first k + 1 numbers but one. -/
def butL (k i : Nat) : List UInt8 := ((List.range (k + 1)).filter (· != i)).map UInt8.ofNat
theorem butL_nodup {k i : Nat} (hk : k < 256) : (butL k i).Nodup := by
  unfold butL
  refine List.pairwise_map.2 (List.Pairwise.imp_of_mem ?_ (List.nodup_range.filter _))
  intro a b ha hb hne e
  have h1 := List.mem_range.1 (List.mem_filter.1 ha).1
  have h2 := List.mem_range.1 (List.mem_filter.1 hb).1
  have := congrArg UInt8.toNat e
  rw [ofNat_toNat (by omega), ofNat_toNat (by omega)] at this
  exact hne this
theorem filter_ne_len : ∀ (m i : Nat), i < m → ((List.range m).filter (· != i)).length = m - 1
  | 0, i, h => absurd h (Nat.not_lt_zero _)
  | m + 1, i, h => by
    rw [List.range_succ, List.filter_append, List.length_append]
    by_cases e : i = m
    · subst e
      have : (List.range i).filter (· != i) = List.range i := by
        rw [List.filter_eq_self]
        intro a ha
        have := List.mem_range.1 ha
        simp; omega
      rw [this]
      simp
    · rw [filter_ne_len m i (by omega)]
      have h1 : (m != i) = true := by simp; omega
      simp [h1]
      omega
theorem butL_len {k i : Nat} (hi : i < k) : (butL k i).length = k := by
  unfold butL; rw [List.length_map, filter_ne_len (k + 1) i (by omega)]; omega
theorem butL_mem {k i : Nat} {x : UInt8} (h : x ∈ butL k i) : ∃ q, q ≤ k ∧ q ≠ i ∧ x = UInt8.ofNat q := by
  unfold butL at h
  obtain ⟨q, hq, rfl⟩ := List.mem_map.1 h
  obtain ⟨h1, h2⟩ := List.mem_filter.1 hq
  have := List.mem_range.1 h1
  exact ⟨q, by omega, by simpa using h2, rfl⟩
/-- One of the first k values changed: the value at the point k changes. -/
theorem at_seen {k i : Nat} (hk : k < 256) (hi : i < k) (v1 v2 : List UInt8) (hs : ∀ q, q < k → q ≠ i → v1[q]?.getD 0 = v2[q]?.getD 0) (hd : v1[i]?.getD 0 ≠ v2[i]?.getD 0) : at_ (firstL k) v1 (UInt8.ofNat k) ≠ at_ (firstL k) v2 (UInt8.ofNat k) := by
  intro e
  have val : ∀ (v : List UInt8) q, q < k → at_ (firstL k) v (UInt8.ofNat q) = v[q]?.getD 0 := fun v q hq => by
    have h1 := at_point (firstL k) v (firstL_nodup (by omega)) q (by rw [firstL_len]; exact hq)
    rw [firstL_get hq] at h1
    exact h1
  have h := at_agree (firstL k) v1 v2 (butL k i) (butL_nodup hk) (by rw [butL_len hi, firstL_len]) (fun x hx => by
    obtain ⟨q, h1, h2, rfl⟩ := butL_mem hx
    by_cases hq : q < k
    · rw [val v1 q hq, val v2 q hq]; exact hs q hq h2
    · obtain rfl : q = k := by omega
      exact e) (UInt8.ofNat i)
  rw [val v1 i hi, val v2 i hi] at h
  exact hd h
end Go.Proofs.Ytoodeoglpdapiaa
