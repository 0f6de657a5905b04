/-
  Contracts of the landed package: what lies between two bytes, in bytes; within, hole, one as functions.
-/
import Derived.Test.YtggnklcjhbahhaaFi
namespace Go.Proofs.Ytggnklcjhbahhaa
open Go.RowKit Go.Shelf Ex
attribute [local go_sem] Oper.semAt_some
set_option maxHeartbeats 400000
set_option maxRecDepth 100000

theorem clip_each {lo hi s : Int} {p : Pc} (hr : rightB p = true) : eachL (clip lo hi s p) = ((eachP p).take (hi - s).toNat).drop (lo - s).toNat := by
  have h := right_iff.1 hr
  unfold clip
  split
  · rename_i hle
    have : ((eachP p).take (hi - s).toNat).length ≤ (lo - s).toNat := by rw [List.length_take, eachP_len]; omega
    rw [List.drop_of_length_le this]
    rfl
  · rename_i hlt
    rw [eachL_one]
    refine List.ext_getElem? fun i => ?_
    rw [List.getElem?_drop, List.getElem?_take]
    by_cases hk : i < (min (hi - s) p.n - max (lo - s) 0).toNat
    · rw [eachP_get hk, if_pos (show (lo - s).toNat + i < (hi - s).toNat by omega), eachP_get (show (lo - s).toNat + i < p.n.toNat by omega)]
      simp only []
      cases hc : chunkB p.id
      · have := chunk_not.1 hc
        rw [if_neg (show ¬ 0 < p.id by omega), if_neg (show ¬ 0 < p.id by omega)]
      · have := chunk_iff.1 hc
        rw [if_pos (show 0 < p.id by omega), if_pos (show 0 < p.id by omega), if_pos rfl]
        congr 2
        push_cast
        omega
    · rw [List.getElem?_eq_none (by rw [eachP_len]; simp only []; omega)]
      split
      · rw [List.getElem?_eq_none (by rw [eachP_len]; omega)]
      · rfl
theorem within_each {lo hi : Int} : ∀ {l : List Pc} {s : Int}, (∀ p ∈ l, rightB p = true) → eachL (withinL lo hi s l) = ((eachL l).take (hi - s).toNat).drop (lo - s).toNat
  | [], _, _ => by simp [withinL, eachL]
  | p :: l, s, h => by
    have hp := right_iff.1 (h p (by simp))
    show eachL (clip lo hi s p ++ withinL lo hi (s + p.n) l) = _
    rw [eachL_append, clip_each (h p (by simp)), within_each (fun q hq => h q (by simp [hq])), eachL_cons, List.take_append, List.drop_append, List.length_take, eachP_len, show (hi - (s + p.n)).toNat = (hi - s).toNat - p.n.toNat by omega]
    congr 1
    by_cases hc : p.n.toNat ≤ (hi - s).toNat
    · rw [show (lo - (s + p.n)).toNat = (lo - s).toNat - min (hi - s).toNat p.n.toNat by omega]
    · rw [show (hi - s).toNat - p.n.toNat = 0 by omega]
      simp
theorem within_each0 {lo hi : Int} {l : List Pc} (h : ∀ p ∈ l, rightB p = true) : eachL (withinL lo hi 0 l) = ((eachL l).take hi.toNat).drop lo.toNat := by
  have := within_each (lo := lo) (hi := hi) (s := 0) h
  rwa [show hi - 0 = hi by omega, show lo - 0 = lo by omega] at this
theorem part_each0 {b : List Pc} (h : ∀ p ∈ b, rightB p = true) {off k hi : Int} (h0 : 0 ≤ off) (hh : hi = off + min (max k 0) (sizeL b - off)) : eachL (withinL off hi 0 b) = partB (eachL b) off k := by
  have hl := eachL_len (l := b) (fun p hp => by have := (right_iff.1 (h p hp)).1; omega)
  rw [within_each0 h]
  unfold partB
  by_cases hk : 0 < k
  · rw [if_pos hk]
    by_cases hc : off + k ≤ sizeL b
    · rw [show hi = off + k by omega]
    · rw [List.take_of_length_le (i := (off + k).toNat) (by omega)]
      by_cases h1 : off ≤ sizeL b
      · rw [List.take_of_length_le (by omega)]
      · rw [List.drop_of_length_le (by rw [List.length_take]; omega), List.drop_of_length_le (by omega)]
  · rw [if_neg hk, List.drop_of_length_le (by rw [List.length_take]; omega)]
theorem part_each1 {b : List Pc} (h : ∀ p ∈ b, rightB p = true) {off k hi : Int} (h0 : off < 0) (hh : hi = min (max (off + max k 0) 0) (sizeL b)) : eachL (withinL 0 hi 0 b) = partB (eachL b) off k := by
  have hl := eachL_len (l := b) (fun p hp => by have := (right_iff.1 (h p hp)).1; omega)
  rw [within_each0 h]
  unfold partB
  rw [show off.toNat = (0 : Int).toNat by omega]
  by_cases hk : 0 < k
  · rw [if_pos hk]
    by_cases hc : off + k ≤ sizeL b
    · rw [show hi.toNat = (off + k).toNat by omega]
    · rw [List.take_of_length_le (i := (off + k).toNat) (by omega), List.take_of_length_le (by omega)]
  · rw [if_neg hk, List.drop_of_length_le (by rw [List.length_take]; omega)]
def holeL (k : Int) : List Pc := if k ≤ 0 then [] else [⟨0, 0, k⟩]
theorem hole_each (k : Int) : eachL (holeL k) = List.replicate k.toNat (0, 0) := by
  unfold holeL
  split
  · rw [show k.toNat = 0 by omega]; rfl
  · rw [eachL_one]
    unfold eachP
    simp [List.map_const']
theorem hole_right {k : Int} (hk : k ≤ 1048576) : ∀ q ∈ holeL k, rightB q = true := by
  intro q hq
  unfold holeL at hq
  split at hq
  · cases hq
  · rw [List.mem_singleton.1 hq, right_iff]
    exact ⟨by simp only []; omega, hk, Int.le_refl _, .inl ⟨.inl rfl, rfl⟩⟩
theorem put_each {b : List Pc} (h : ∀ p ∈ b, rightB p = true) {off id k : Int} (hid : 1 ≤ id) (h0 : 0 ≤ off) (hk : 1 ≤ k) :
    eachL (withinL 0 off 0 b ++ (holeL (off - sizeL b) ++ ([⟨id, 0, k⟩] ++ withinL (off + k) (sizeL b) 0 b))) = putB (eachL b) off id k := by
  have hl := eachL_len (l := b) (fun p hp => by have := (right_iff.1 (h p hp)).1; omega)
  rw [eachL_append, eachL_append, eachL_append, within_each0 h, within_each0 h, hole_each, eachL_one, List.take_of_length_le (i := (sizeL b).toNat) (by omega)]
  obtain ⟨o, rfl⟩ : ∃ o : Nat, off = o := ⟨off.toNat, by omega⟩
  obtain ⟨m, rfl⟩ : ∃ m : Nat, k = m := ⟨k.toNat, by omega⟩
  obtain ⟨bs, hbs⟩ : ∃ bs, eachL b = bs := ⟨_, rfl⟩
  rw [hbs] at hl ⊢
  rw [← hl, show ((o : Int) + (m : Int)).toNat = o + m by omega, show ((o : Int) - (bs.length : Int)).toNat = o - bs.length by omega]
  unfold putB
  simp only [Int.toNat_natCast, Int.toNat_zero, List.drop_zero]
  refine List.ext_getElem? fun i => ?_
  rw [List.getElem?_append, List.getElem?_append, List.getElem?_append, List.length_take, List.length_replicate, eachP_len, List.getElem?_drop, List.getElem?_take, List.getElem?_map]
  simp only [Int.toNat_natCast]
  by_cases h1 : i < min o bs.length
  · rw [if_pos h1, if_pos (by omega), List.getElem?_range (by omega)]
    simp only [Option.map_some]
    rw [if_neg (by omega), List.getElem?_eq_getElem (by omega)]
    rfl
  · rw [if_neg h1]
    by_cases h2 : i - min o bs.length < o - bs.length
    · rw [if_pos h2, List.getElem?_replicate, if_pos h2, List.getElem?_range (by omega)]
      simp only [Option.map_some]
      rw [if_neg (by omega), List.getElem?_eq_none (by omega)]
      rfl
    · rw [if_neg h2]
      by_cases h3 : i - min o bs.length - (o - bs.length) < m
      · rw [if_pos h3, eachP_get (by simp only [Int.toNat_natCast]; exact h3), List.getElem?_range (by omega)]
        simp only [Option.map_some]
        rw [if_pos (by omega), if_pos (by omega), show i - min o bs.length - (o - bs.length) = i - o by omega]
        simp
      · rw [if_neg h3, show o + m + (i - min o bs.length - (o - bs.length) - m) = i by omega]
        by_cases h4 : i < bs.length
        · rw [List.getElem?_eq_getElem h4, List.getElem?_range (by omega)]
          simp only [Option.map_some]
          rw [if_neg (by omega), List.getElem?_eq_getElem h4]
          rfl
        · rw [List.getElem?_eq_none (by omega), List.getElem?_eq_none (by rw [List.length_range]; omega)]
          rfl
theorem cut_each {b : List Pc} (h : ∀ p ∈ b, rightB p = true) {k : Int} (hk : 0 ≤ k) :
    eachL (withinL 0 k 0 b ++ holeL (k - sizeL b)) = cutB (eachL b) k := by
  have hl := eachL_len (l := b) (fun p hp => by have := (right_iff.1 (h p hp)).1; omega)
  rw [eachL_append, within_each0 h, hole_each]
  obtain ⟨m, rfl⟩ : ∃ m : Nat, k = m := ⟨k.toNat, by omega⟩
  obtain ⟨bs, hbs⟩ : ∃ bs, eachL b = bs := ⟨_, rfl⟩
  rw [hbs] at hl ⊢
  rw [← hl, show ((m : Int) - (bs.length : Int)).toNat = m - bs.length by omega]
  unfold cutB
  simp only [Int.toNat_natCast, Int.toNat_zero, List.drop_zero]
  refine List.ext_getElem? fun i => ?_
  rw [List.getElem?_append, List.length_take, List.getElem?_take, List.getElem?_replicate, List.getElem?_map]
  by_cases h1 : i < min m bs.length
  · rw [if_pos h1, if_pos (by omega), List.getElem?_range (by omega)]
    simp only [Option.map_some]
    rw [List.getElem?_eq_getElem (by omega)]
    rfl
  · rw [if_neg h1]
    by_cases h2 : i < m
    · rw [if_pos (by omega), List.getElem?_range h2]
      simp only [Option.map_some]
      rw [List.getElem?_eq_none (by omega)]
      rfl
    · rw [if_neg (by omega), List.getElem?_eq_none (by rw [List.length_range]; omega)]
      rfl
theorem erase_each {b : List Pc} (h : ∀ p ∈ b, rightB p = true) {f : Nat → Bool} {ids : List Int} (hf : ∀ j : Nat, 1 ≤ j → j < 4096 → f j = decide ((j : Int) ∈ ids)) : eachL (b.map (eraP f)) = eraseB (eachL b) ids := by
  induction b with
  | nil => rfl
  | cons p l ih =>
    have hp := right_iff.1 (h p (by simp))
    rw [List.map_cons, eachL_cons, ih (fun q hq => h q (by simp [hq])), eachL_cons]
    unfold eraseB
    rw [List.map_append]
    congr 1
    unfold eachP eraP
    rw [List.map_map]
    cases hc : chunkB p.id
    · have hn := chunk_not.1 hc
      have : isG f p = false := by unfold isG; rw [hc]; rfl
      rw [this, if_neg (by decide)]
      refine List.map_congr_left fun i _ => ?_
      simp only [Function.comp_apply]
      rw [if_neg (by omega), if_neg (by omega)]
    · have hn := chunk_iff.1 hc
      have hg : isG f p = decide (p.id ∈ ids) := by
        unfold isG
        rw [hc, hf p.id.toNat (by omega) (by omega), show ((p.id.toNat : Nat) : Int) = p.id by omega]
        rfl
      rw [hg]
      by_cases hm : p.id ∈ ids
      · rw [decide_eq_true hm, if_pos rfl]
        refine List.map_congr_left fun i _ => ?_
        simp only [Function.comp_apply]
        rw [if_pos (show 0 < p.id ∧ p.id ∈ ids from ⟨by omega, hm⟩), if_neg (by decide)]
      · rw [decide_eq_false hm, if_neg (by decide)]
        refine List.map_congr_left fun i _ => ?_
        simp only [Function.comp_apply]
        rw [if_neg (show ¬ (0 < p.id ∧ p.id ∈ ids) from fun hh => hm hh.2)]
/-- Joined pieces of as many bytes as are allowed are a body. -/
theorem norm_body {l : List Pc} (hp : ∀ p ∈ l, rightB p = true) (hs : (eachL l).length ≤ 1048576) : validL (normL l) = true ∧ eachL (normL l) = eachL l := by
  have h := norm_form (fun p hq => .inr (hp p hq)) hs
  refine ⟨valid_iff.2 ⟨h.1, ?_⟩, h.2⟩
  rw [← h.1.len, h.2]
  omega
end Go.Proofs.Ytggnklcjhbahhaa
