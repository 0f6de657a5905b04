/-
  Plain facts for the laws: shards of which one byte, or one length, is another one; sums; shards that are missing.
-/
import Derived.Test.YtoodeoglpdapiaaSs
import Derived.Test.YtoodeoglpdapiaaSl
namespace Go.Proofs.Ytoodeoglpdapiaa
open Gf

theorem all_lens {ls : List (List UInt8)} {L : Nat} (h : ∀ r ∈ ls, r.length = L) : ls.all (lenOk ls) = true := by
  rw [List.all_eq_true]
  intro r hr
  unfold lenOk
  have h0 : 0 < ls.length := List.length_pos_of_mem hr
  rw [List.getElem?_eq_getElem h0]
  show (r.length == ls[0].length) = true
  rw [h r hr, h _ (List.getElem_mem _)]; simp
theorem rowOk_take {ls : List (List UInt8)} {L k i : Nat} (hk : k ≤ 256) (hkl : k ≤ ls.length) (hl : ∀ r ∈ ls, r.length = L) (hi : i < k) : rowOk ls k i = true := by
  unfold rowOk
  rw [self_row (L := L) hk (fun q hq => by
    rw [List.getElem?_take, if_pos hq, List.getElem?_eq_getElem (by omega)]
    exact hl _ (List.getElem_mem _)) hi, List.getElem?_take, if_pos hi]
  simp
/-- As many shards as are needed are accepted, whatever they are. -/
theorem chkL_few {ls : List (List UInt8)} {L k : Nat} (hk : k ≤ 256) (hkl : ls.length = k) (hl : ∀ r ∈ ls, r.length = L) : chkL ls k = true := by
  unfold chkL
  rw [all_lens hl, Bool.true_and, List.all_eq_true]
  intro i hi
  rw [List.mem_range] at hi
  exact rowOk_take hk (by omega) hl (by omega)
theorem encL_lens {b : List UInt8} {k n : Nat} (hk1 : 1 ≤ k) (hk : k ≤ 256) : ∀ r ∈ encL b k n, r.length = longN b.length k := fun r hr => by
  obtain ⟨i, hi, rfl⟩ := List.mem_iff_getElem.1 hr
  rw [encL_len] at hi
  have := encL_get (b := b) hk1 hk hi
  rw [List.getElem?_eq_getElem (by rw [encL_len]; exact hi)] at this
  rw [Option.some.inj this, encX_len]
/-- One byte of one shard is another one: that is seen if there are more than k. -/
theorem chkL_odd {b : List UInt8} {k n i t : Nat} {d : UInt8} (hk1 : 1 ≤ k) (hkn : k ≤ n) (hn : n < 256) (hi : i < n) (ht : t < longN b.length k) (hd : d ≠ 0) (odd : List (List UInt8))
    (ho : odd = (encL b k n).set i ((encX b (longN b.length k) k (UInt8.ofNat i)).set t (((encX b (longN b.length k) k (UInt8.ofNat i))[t]?.getD 0) ^^^ d))) : chkL odd k = decide (n = k) := by
  have hol : odd.length = n := by rw [ho, List.length_set, encL_len]
  have hlen : ∀ r ∈ odd, r.length = longN b.length k := fun r hr => by
    rw [ho] at hr
    rcases List.mem_or_eq_of_mem_set hr with h | h
    · exact encL_lens hk1 (by omega) r h
    · rw [h, List.length_set, encX_len]
  by_cases hnk : n = k
  · rw [chkL_few (by omega) (by omega) hlen]; simp [hnk]
  · have hlt : k < n := by omega
    have hget : ∀ q, q < n → q ≠ i → odd[q]? = some (encX b (longN b.length k) k (UInt8.ofNat q)) := fun q hq hne => by
      rw [ho, List.getElem?_set_ne (fun e => hne e.symm), encL_get hk1 (by omega) hq]
    have hgi : odd[i]? = some ((encX b (longN b.length k) k (UInt8.ofNat i)).set t (((encX b (longN b.length k) k (UInt8.ofNat i))[t]?.getD 0) ^^^ d)) := by
      rw [ho, List.getElem?_set_self (by rw [encL_len]; exact hi)]
    have hxd : ∀ u : UInt8, u ^^^ d ≠ u := fun u e => by
      have := congrArg (u ^^^ ·) e
      simp only [x_cancel, UInt8.xor_self] at this
      exact hd this
    have bad : ∃ q, q < n ∧ rowOk odd k q = false := by
      by_cases hik : i < k
      · refine ⟨k, hlt, ?_⟩
        unfold rowOk
        rw [hget k hlt (by omega)]
        show (_ == encX b (longN b.length k) k (UInt8.ofNat k)) = false
        rw [beq_eq_false_iff_ne]
        intro e
        have e1 := congrArg (fun l : List UInt8 => l[t]?.getD 0) e
        rw [encX_get ht] at e1
        unfold shardL shardTo at e1
        have h0 : (rowOf (odd.take k) ((firstL k)[0]?.getD 0)).length = longN b.length k := by
          rw [firstL_get (by omega)]
          show (rowOf (odd.take k) (UInt8.ofNat 0)).length = _
          unfold rowOf
          rw [ofNat_toNat (by decide), List.getElem?_take, if_pos (by omega), List.getElem?_eq_getElem (by omega)]
          exact hlen _ (List.getElem_mem _)
        rw [h0, List.getElem?_map, List.getElem?_range ht] at e1
        refine at_seen (by omega) hik (colL (odd.take k) (firstL k) t) (colK b (longN b.length k) k t) (fun q hq hne => ?_) ?_ e1
        · rw [colK_get hq (by omega) ht]
          unfold colL
          rw [List.getElem?_map, firstL_get hq]
          show (rowOf (odd.take k) (UInt8.ofNat q))[t]?.getD 0 = _
          unfold rowOf
          rw [ofNat_toNat (by omega), List.getElem?_take, if_pos hq, hget q (by omega) hne]
          show (encX _ _ _ _)[t]?.getD 0 = _
          rw [encRow_X hk1 (by omega) hq]
          simp [encRow, ht]
        · rw [colK_get hik (by omega) ht]
          unfold colL
          rw [List.getElem?_map, firstL_get hik]
          show (rowOf (odd.take k) (UInt8.ofNat i))[t]?.getD 0 ≠ _
          unfold rowOf
          rw [ofNat_toNat (by omega), List.getElem?_take, if_pos hik, hgi]
          show (List.set _ _ _)[t]?.getD 0 ≠ _
          rw [List.getElem?_set_self (by rw [encX_len]; exact ht), encRow_X hk1 (by omega) hik]
          have e2 : (encRow b (longN b.length k) i)[t]?.getD 0 = b[i * longN b.length k + t]?.getD 0 := by simp [encRow, ht]
          rw [e2]
          exact hxd _
      · refine ⟨i, hi, ?_⟩
        unfold rowOk
        rw [hgi]
        show (_ == _) = false
        rw [shard_from (b := b) (L := longN b.length k) hk1 (by omega) (odd.take k) (firstL k) (firstL_nodup (by omega)) (firstL_len k) (fun p hp => by
          have h1 := firstL_mem (by omega) hp
          unfold rowOf
          rw [List.getElem?_take, if_pos h1, hget p.toNat (by omega) (by omega)]
          simp), beq_eq_false_iff_ne]
        intro e
        have e1 := congrArg (fun l : List UInt8 => l[t]?.getD 0) e
        simp only [Option.getD_some] at e1
        rw [List.getElem?_set_self (by rw [encX_len]; exact ht)] at e1
        exact hxd _ e1.symm
    obtain ⟨q, hq, hb⟩ := bad
    unfold chkL
    rw [range_all_bad (by rw [hol]; exact hq) hb, Bool.and_false]
    simp [hnk]
/-- One shard is shorter: that is seen if there are others. -/
theorem chkL_short {b : List UInt8} {k n i : Nat} (hk1 : 1 ≤ k) (hkn : k ≤ n) (hn : n < 256) (hi : i < n) (r : List UInt8) (hr : r.length ≠ longN b.length k) : chkL ((encL b k n).set i r) k = decide (n = 1) := by
  by_cases h1 : n = 1
  · subst h1
    obtain rfl : i = 0 := by omega
    obtain rfl : k = 1 := by omega
    have e : (encL b 1 1).set 0 r = [r] := by
      have h := encL_len b 1 1
      cases hx : encL b 1 1 with
      | nil => rw [hx] at h; simp at h
      | cons a l =>
        rw [hx] at h
        obtain rfl : l = [] := by cases l with | nil => rfl | cons _ _ => simp at h
        rfl
    rw [e, chkL_few (ls := [r]) (k := 1) (L := r.length) (by decide) rfl (fun x hx => by rw [List.mem_singleton.1 hx])]
    rfl
  · have hs : ((encL b k n).set i r).length = n := by rw [List.length_set, encL_len]
    have bad : ∃ x ∈ (encL b k n).set i r, lenOk ((encL b k n).set i r) x = false := by
      by_cases hi0 : i = 0
      · subst hi0
        have hg : ((encL b k n).set 0 r)[1]? = some (encX b (longN b.length k) k (UInt8.ofNat 1)) := by
          rw [List.getElem?_set_ne (by decide), encL_get hk1 (by omega) (by omega)]
        refine ⟨_, List.mem_of_getElem? hg, ?_⟩
        unfold lenOk
        rw [List.getElem?_set_self (by rw [encL_len]; exact hi)]
        show ((encX _ _ _ _).length == r.length) = false
        rw [encX_len, beq_eq_false_iff_ne]
        exact fun e => hr e.symm
      · have hg : ((encL b k n).set i r)[i]? = some r := List.getElem?_set_self (by rw [encL_len]; exact hi)
        refine ⟨r, List.mem_of_getElem? hg, ?_⟩
        unfold lenOk
        rw [List.getElem?_set_ne hi0, encL_get hk1 (by omega) (by omega)]
        show (r.length == (encX _ _ _ _).length) = false
        rw [encX_len, beq_eq_false_iff_ne]
        exact hr
    obtain ⟨x, hx, hb⟩ := bad
    unfold chkL
    rw [List.all_eq_false.2 ⟨x, hx, by simp [hb]⟩, Bool.false_and]
    simp [h1]
/-- The shards of sums are the sums of the shards. -/
theorem encX_sum {a b s : List UInt8} {k j : Nat} {x : UInt8} (hk : k ≤ 256) (ha : a.length = s.length) (hb : b.length = s.length) (hs : ∀ i, i < s.length → s[i]?.getD 0 = a[i]?.getD 0 ^^^ b[i]?.getD 0) (hj : j < longN s.length k) :
    (encX a (longN s.length k) k x)[j]?.getD 0 ^^^ (encX b (longN s.length k) k x)[j]?.getD 0 = (encX s (longN s.length k) k x)[j]?.getD 0 := by
  rw [encX_get hj, encX_get hj, encX_get hj]
  show at_ _ _ x ^^^ at_ _ _ x = at_ _ _ x
  rw [at_xor (firstL k) (colK a (longN s.length k) k j) (colK b (longN s.length k) k j) (colK s (longN s.length k) k j) (fun q hq => by
    rw [firstL_len] at hq
    rw [colK_get hq hk hj, colK_get hq hk hj, colK_get hq hk hj]
    by_cases hlt : q * longN s.length k + j < s.length
    · exact hs _ hlt
    · rw [List.getElem?_eq_none (by omega), List.getElem?_eq_none (by omega), List.getElem?_eq_none (by omega)]; rfl)]
end Go.Proofs.Ytoodeoglpdapiaa
