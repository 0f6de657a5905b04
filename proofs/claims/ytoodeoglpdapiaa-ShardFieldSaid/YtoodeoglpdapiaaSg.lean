/-
  Plain facts of shards: which bytes they have, as lists of lists.
-/
import Derived.Test.YtoodeoglpdapiaaSk
namespace Go.Proofs.Ytoodeoglpdapiaa
open Gf

theorem firstL_len (k : Nat) : (firstL k).length = k := by simp [firstL]
theorem firstL_get {k i : Nat} (h : i < k) : (firstL k)[i]? = some (UInt8.ofNat i) := by simp [firstL, h]
theorem firstL_mem {k : Nat} (hk : k ≤ 256) {p : UInt8} (h : p ∈ firstL k) : p.toNat < k := by
  obtain ⟨i, hi, rfl⟩ := List.mem_map.1 h
  have := List.mem_range.1 hi
  rw [ofNat_toNat (by omega)]
  exact this
theorem firstL_nodup {k : Nat} (hk : k ≤ 256) : (firstL k).Nodup := by
  unfold firstL
  refine List.pairwise_map.2 (List.Pairwise.imp_of_mem ?_ List.nodup_range)
  intro a b ha hb hne e
  have h1 := List.mem_range.1 ha
  have h2 := List.mem_range.1 hb
  have := congrArg UInt8.toNat e
  rw [ofNat_toNat (by omega), ofNat_toNat (by omega)] at this
  exact hne this
theorem colL_congr {ls ls' : List (List UInt8)} {pts : List UInt8} (h : ∀ p ∈ pts, rowOf ls p = rowOf ls' p) (j : Nat) : colL ls pts j = colL ls' pts j := by
  unfold colL
  exact List.map_congr_left fun p hp => by rw [h p hp]
theorem shardTo_congr {ls ls' : List (List UInt8)} {pts : List UInt8} (h : ∀ p ∈ pts, rowOf ls p = rowOf ls' p) (x : UInt8) (n : Nat) : shardTo ls pts x n = shardTo ls' pts x n := by
  unfold shardTo
  exact List.map_congr_left fun j _ => by rw [colL_congr h]
theorem shardL_congr {ls ls' : List (List UInt8)} {pts : List UInt8} (h : ∀ p ∈ pts, rowOf ls p = rowOf ls' p) (h0 : 0 < pts.length) (x : UInt8) : shardL ls pts x = shardL ls' pts x := by
  unfold shardL
  have e : pts[0]?.getD 0 ∈ pts := by rw [List.getElem?_eq_getElem h0]; exact List.getElem_mem _
  rw [h _ e, shardTo_congr h]
theorem shardTo_len (ls : List (List UInt8)) (pts : List UInt8) (x : UInt8) (n : Nat) : (shardTo ls pts x n).length = n := by simp [shardTo]

/-- One of the first shards: a part of the bytes, with zeros behind them. -/
def encRow (b : List UInt8) (L i : Nat) : List UInt8 := (List.range L).map fun j => b[i * L + j]?.getD 0
def rowsK (b : List UInt8) (L k : Nat) : List (List UInt8) := (List.range k).map (encRow b L)
/-- The shard with the index i. -/
def encAt (b : List UInt8) (L k i : Nat) : List UInt8 := if i < k then encRow b L i else shardL (rowsK b L k) (firstL k) (UInt8.ofNat i)
/-- The first i shards. -/
def encTo (b : List UInt8) (L k i : Nat) : List (List UInt8) := (List.range i).map (encAt b L k)
def encL (b : List UInt8) (k n : Nat) : List (List UInt8) := encTo b (longN b.length k) k n
theorem encRow_len (b : List UInt8) (L i : Nat) : (encRow b L i).length = L := by simp [encRow]
theorem encRow_succ (b : List UInt8) (L i j : Nat) (hj : j < L) : (encRow b L i).take (j + 1) = (encRow b L i).take j ++ [b[i * L + j]?.getD 0] := by
  rw [List.take_succ_eq_append_getElem (by rw [encRow_len]; exact hj)]
  congr 1
  simp [encRow]
theorem encTo_succ (b : List UInt8) (L k i : Nat) : encTo b L k (i + 1) = encTo b L k i ++ [encAt b L k i] := by simp [encTo, List.range_succ]
theorem encTo_zero (b : List UInt8) (L k : Nat) : encTo b L k 0 = [] := rfl
theorem encTo_len (b : List UInt8) (L k i : Nat) : (encTo b L k i).length = i := by simp [encTo]
theorem encTo_get {b : List UInt8} {L k i j : Nat} (h : j < i) : (encTo b L k i)[j]? = some (encAt b L k j) := by simp [encTo, h]
theorem encTo_rows (b : List UInt8) (L k : Nat) : encTo b L k k = rowsK b L k := by
  unfold encTo rowsK
  exact List.map_congr_left fun i hi => by unfold encAt; rw [if_pos (List.mem_range.1 hi)]
theorem rowOf_enc {b : List UInt8} {L k i : Nat} {p : UInt8} (hp : p.toNat < k) (hk : k ≤ i) : rowOf (encTo b L k i) p = encRow b L p.toNat := by
  unfold rowOf
  rw [encTo_get (by omega)]
  show encAt b L k p.toNat = _
  unfold encAt; rw [if_pos hp]
theorem rowOf_rows {b : List UInt8} {L k : Nat} {p : UInt8} (hp : p.toNat < k) : rowOf (rowsK b L k) p = encRow b L p.toNat := by
  rw [← encTo_rows]; exact rowOf_enc hp (Nat.le_refl _)
/-- Whatever shards are there already, the next one is the same. -/
theorem shardL_enc {b : List UInt8} {L k i : Nat} (hk0 : 1 ≤ k) (hk : k ≤ 256) (hi : k ≤ i) : shardL (encTo b L k i) (firstL k) (UInt8.ofNat i) = encAt b L k i := by
  unfold encAt
  rw [if_neg (by omega)]
  exact shardL_congr (fun p hp => by rw [rowOf_enc (firstL_mem hk hp) hi, rowOf_rows (firstL_mem hk hp)]) (by rw [firstL_len]; exact hk0) _
theorem encAt_len {b : List UInt8} {L k : Nat} (i : Nat) (hk0 : 1 ≤ k) (hk : k ≤ 256) : (encAt b L k i).length = L := by
  unfold encAt
  split
  · exact encRow_len _ _ _
  · unfold shardL
    rw [shardTo_len]
    have h0 : (firstL k)[0]?.getD 0 = UInt8.ofNat 0 := by rw [firstL_get (by omega)]; rfl
    rw [h0, rowOf_rows (by rw [ofNat_toNat (by decide)]; omega), encRow_len]
end Go.Proofs.Ytoodeoglpdapiaa
