/-
  Texts Ld, put together by program.
-/
import Derived.Test.YtemgejblnionlaaGreatDoorY15
namespace Go.Proofs.YtemgejblnionlaaGreatDoor.Ext
open Go.RowKit Ex
set_option maxHeartbeats 1600000
set_option maxRecDepth 100000
theorem wrap64_in {x : Int} (h : -9223372036854775808 ≤ x ∧ x ≤ 9223372036854775807) : wrap64 x = x := by unfold wrap64; omega
theorem sizeW_go : ∀ (l : List Pc) (s : Int), 0 ≤ s → (∀ p ∈ l, 0 ≤ p.n) → s + sizeL l ≤ 4611686018427387904 → l.foldl (fun s p => wrap64 (s + p.n)) s = s + sizeL l
 | [], s, _, _, _ => by simp [sizeL]
 | p :: l, s, h0, h1, h2 => by
   have hp := h1 p (by simp)
   have hl := sizeL_pos (l := l) fun q hq => h1 q (by simp [hq])
   have h3 : s + (p.n + sizeL l) ≤ 4611686018427387904 := h2
   show l.foldl _ (wrap64 (s + p.n)) = s + (p.n + sizeL l)
   rw [wrap64_in (by omega), sizeW_go l (s + p.n) (by omega) (fun q hq => h1 q (by simp [hq])) (by omega)]
   omega
theorem sizeW_eq {l : List Pc} (h : validL l = true) : sizeW l = sizeL l := by
 obtain ⟨hf, hs⟩ := valid_iff.1 h
 have := sizeW_go l 0 (by omega) (fun p hp => by have := hf.pos p hp; omega) (by omega)
 rw [Int.zero_add] at this
 exact this
theorem oneW_eq {p q : Pc} (hp : rightB p = true) : oneW p q = oneB p q := by
 have h := right_iff.1 hp
 unfold oneW oneB
 rw [wrap64_in (by omega)]
theorem addW_eq {out : List Pc} {p : Pc} (ho : ∀ q ∈ out, rightB q = true) (hp : p.n ≤ 0 ∨ rightB p = true) : addW out p = addP out p := by
 unfold addW addP
 by_cases h0 : p.n ≤ 0
 · rw [if_pos h0, if_pos h0]
 · rw [if_neg h0, if_neg h0]
   cases hl : out.getLast? with
   | none => rfl
   | some q =>
     have hq := ho q (List.mem_of_getLast? hl)
     have h1 := right_iff.1 hq
     have h2 := right_iff.1 (hp.resolve_left h0)
     simp only []
     rw [oneW_eq hq, wrap64_in (by omega)]
theorem normW_go : ∀ (l out : List Pc), Ex.Form out → (∀ p ∈ l, p.n ≤ 0 ∨ rightB p = true) → (eachL out).length + (eachL l).length ≤ 1048576 → l.foldl addW out = l.foldl addP out
 | [], _, _, _, _ => rfl
 | p :: l, out, hf, hp, hs => by
   rw [eachL_cons, List.length_append] at hs
   have ha := addP_form hf (hp p (by simp)) (by omega)
   show l.foldl addW (addW out p) = l.foldl addP (addP out p)
   rw [addW_eq hf.right (hp p (by simp))]
   exact normW_go l _ ha.1 (fun q hq => hp q (by simp [hq])) (by rw [ha.2, List.length_append]; omega)
theorem normW_eq {l : List Pc} (hp : ∀ p ∈ l, p.n ≤ 0 ∨ rightB p = true) (hs : (eachL l).length ≤ 1048576) : normW l = normL l :=
 normW_go l [] Ex.Form.nil hp (by simpa [eachL] using hs)
theorem normW_valid {l : List Pc} (hp : ∀ p ∈ l, p.n ≤ 0 ∨ rightB p = true) (hs : (eachL l).length ≤ 1048576) : validL (normW l) = true ∧ eachL (normW l) = eachL l := by
 rw [normW_eq hp hs]
 have h := norm_form hp hs
 refine ⟨valid_iff.2 ⟨h.1, ?_⟩, h.2⟩
 have := h.1.len
 rw [h.2] at this
 omega
theorem eachP_hole (n : Int) : eachP ⟨0, 0, n⟩ = List.replicate n.toNat (0, 0) := by
 refine List.ext_getElem? fun i => ?_
 by_cases hi : i < n.toNat
 · rw [eachP_get (p := ⟨0, 0, n⟩) hi, List.getElem?_replicate, if_pos hi]; rfl
 · rw [List.getElem?_eq_none (by rw [eachP_len]; exact Nat.le_of_not_lt hi), List.getElem?_eq_none (by rw [List.length_replicate]; exact Nat.le_of_not_lt hi)]
def clipR (lo hi s : Int) (p : Pc) : List Pc := if max lo s < min hi (s + p.n) then [⟨p.id, if 0 < p.id then p.fr + (max lo s - s) else p.fr, min hi (s + p.n) - max lo s⟩] else []
def withR (lo hi : Int) : Int → List Pc → List Pc
 | _, [] => []
 | s, p :: l => clipR lo hi s p ++ withR lo hi (s + p.n) l
theorem clipR_right {lo hi s : Int} {p : Pc} (hr : rightB p = true) : ∀ q ∈ clipR lo hi s p, rightB q = true := by
 have h := right_iff.1 hr
 unfold clipR
 split
 · intro q hq
   rw [List.mem_singleton.1 hq, right_iff]
   simp only []
   by_cases hid : 0 < p.id
   · rw [if_pos hid]; omega
   · rw [if_neg hid]; omega
 · intro q hq; cases hq
theorem clipR_each {lo hi s : Int} {p : Pc} (hr : rightB p = true) : eachL (clipR lo hi s p) = ((eachP p).take (hi - s).toNat).drop (lo - s).toNat := by
 have h := right_iff.1 hr
 unfold clipR
 split
 · rename_i hlt
   rw [eachL_one]
   refine List.ext_getElem? fun i => ?_
   rw [List.getElem?_drop, List.getElem?_take]
   by_cases hk : i < (min hi (s + p.n) - max lo s).toNat
   · rw [eachP_get hk, if_pos (show (lo - s).toNat + i < (hi - s).toNat by omega), eachP_get (show (lo - s).toNat + i < p.n.toNat by omega)]
     simp only []
     by_cases hid : 0 < p.id
     · rw [if_pos hid, if_pos hid, if_pos hid]
       congr 2
       push_cast
       omega
     · rw [if_neg hid, if_neg hid]
   · rw [List.getElem?_eq_none (by rw [eachP_len]; simp only []; omega)]
     split
     · rw [List.getElem?_eq_none (by rw [eachP_len]; omega)]
     · rfl
 · rename_i hle
   have : ((eachP p).take (hi - s).toNat).length ≤ (lo - s).toNat := by rw [List.length_take, eachP_len]; omega
   rw [List.drop_of_length_le this]
   rfl
theorem withR_each {lo hi : Int} : ∀ {l : List Pc} {s : Int}, (∀ p ∈ l, rightB p = true) → eachL (withR lo hi s l) = ((eachL l).take (hi - s).toNat).drop (lo - s).toNat
 | [], _, _ => by simp [withR, eachL]
 | p :: l, s, h => by
   have hp := right_iff.1 (h p (by simp))
   show eachL (clipR lo hi s p ++ withR lo hi (s + p.n) l) = _
   rw [eachL_append, clipR_each (h p (by simp)), withR_each (fun q hq => h q (by simp [hq])), eachL_cons, List.take_append, List.drop_append, List.length_take, eachP_len, show (hi - (s + p.n)).toNat = (hi - s).toNat - p.n.toNat by omega]
   congr 1
   by_cases hc : p.n.toNat ≤ (hi - s).toNat
   · rw [show (lo - (s + p.n)).toNat = (lo - s).toNat - min (hi - s).toNat p.n.toNat by omega]
   · rw [show (hi - s).toNat - p.n.toNat = 0 by omega]
     simp
theorem withR_right {lo hi : Int} : ∀ {l : List Pc} {s : Int}, (∀ p ∈ l, rightB p = true) → ∀ q ∈ withR lo hi s l, rightB q = true
 | [], _, _ => fun _ h => by cases h
 | p :: l, s, h => fun q hq => by
   rcases List.mem_append.1 hq with hq | hq
   · exact clipR_right (h p (by simp)) q hq
   · exact withR_right (fun q hq => h q (by simp [hq])) q hq
theorem clipR_len (lo hi s : Int) (p : Pc) : (clipR lo hi s p).length ≤ 1 := by unfold clipR; split <;> simp
theorem withR_len2 {a b c : Int} (hab : a ≤ b) : ∀ {l : List Pc} {s : Int}, (∀ p ∈ l, 0 ≤ p.n) → (withR 0 a s l).length + (withR b c s l).length ≤ l.length + (if s ≤ b then 1 else 0)
 | [], s, _ => by simp [withR]
 | p :: l, s, h => by
   have hp := h p (by simp)
   have ih := withR_len2 hab (c := c) (l := l) (s := s + p.n) (fun q hq => h q (by simp [hq]))
   have h1 := clipR_len 0 a s p
   have h2 := clipR_len b c s p
   show (clipR 0 a s p ++ withR 0 a (s + p.n) l).length + (clipR b c s p ++ withR b c (s + p.n) l).length ≤ (l.length + 1) + _
   rw [List.length_append, List.length_append]
   by_cases hboth : s < a ∧ b < s + p.n
   · rw [if_neg (by omega)] at ih
     rw [if_pos (by omega)]
     omega
   · have h3 : (clipR 0 a s p).length + (clipR b c s p).length ≤ 1 := by
      rcases Classical.not_and_iff_not_or_not.1 hboth with h3 | h3
      · have : clipR 0 a s p = [] := by unfold clipR; rw [if_neg (by omega)]
        rw [this]; simp only [List.length_nil]; omega
      · have : clipR b c s p = [] := by unfold clipR; rw [if_neg (by omega)]
        rw [this]; simp only [List.length_nil]; omega
     have h4 : (if s + p.n ≤ b then 1 else 0) ≤ (if s ≤ b then 1 else 0 : Nat) := by split <;> split <;> omega
     omega
theorem betF_go {lo hi : Int} (h0 : 0 ≤ lo) (h1 : hi ≤ 1048576) : ∀ (l : List Pc) (st : List Pc × Int), 0 ≤ st.2 → (∀ p ∈ l, rightB p = true) → st.2 + sizeL l ≤ 1048576 → l.foldl (stepB lo hi) st = (st.1 ++ withR lo hi st.2 l, st.2 + sizeL l)
 | [], st, _, _, _ => by simp [withR, sizeL]
 | p :: l, st, hs, hr, hz => by
   have hp := right_iff.1 (hr p (by simp))
   have hl := sizeL_pos (l := l) fun q hq => by have := right_iff.1 (hr q (by simp [hq])); omega
   have hz' : st.2 + (p.n + sizeL l) ≤ 1048576 := hz
   obtain ⟨O, s⟩ := st
   simp only [] at hs hz hz'
   have e : stepB lo hi (O, s) p = (O ++ clipR lo hi s p, s + p.n) := by
    unfold stepB clipR
    simp only []
    rw [wrap64_in (x := s + p.n) (by omega)]
    split
    · rename_i hlt
      rw [wrap64_in (x := max lo s - s) (by omega), wrap64_in (x := min hi (s + p.n) - max lo s) (by omega)]
      unfold movW
      rw [wrap64_in (x := p.n - (max lo s - s)) (by omega), show min (p.n - (max lo s - s)) (min hi (s + p.n) - max lo s) = min hi (s + p.n) - max lo s by omega]
      by_cases hid : 0 < p.id
      · rw [if_pos hid, if_pos hid, wrap64_in (x := p.fr + (max lo s - s)) (by omega)]
      · rw [if_neg hid, if_neg hid]
    · rw [List.append_nil]
   show l.foldl (stepB lo hi) (stepB lo hi (O, s) p) = _
   rw [e, betF_go h0 h1 l (O ++ clipR lo hi s p, s + p.n) (by simp only []; omega) (fun q hq => hr q (by simp [hq])) (by simp only []; omega)]
   simp only [withR, sizeL, List.append_assoc]
   congr 1
   omega
section
variable {l : List Pc} (h : validL l = true)
include h
theorem betF_eq {lo hi : Int} (h0 : 0 ≤ lo) (h1 : hi ≤ 1048576) : (betF lo hi l).1 = withR lo hi 0 l := by
 obtain ⟨hf, hs⟩ := valid_iff.1 h
 unfold betF
 rw [betF_go h0 h1 l ([], 0) (by simp) hf.right (by simp only []; omega)]
 simp
theorem withR_total (lo hi : Int) : (eachL (withR lo hi 0 l)).length ≤ 1048576 := by
 obtain ⟨hf, hs⟩ := valid_iff.1 h
 rw [withR_each hf.right, List.length_drop, List.length_take]
 have := hf.len
 omega
theorem betW_valid {lo hi : Int} (h0 : 0 ≤ lo) (h1 : hi ≤ 1048576) : validL (betW lo hi l) = true ∧ eachL (betW lo hi l) = ((eachL l).take hi.toNat).drop lo.toNat := by
 have hr := withR_right (lo := lo) (hi := hi) (s := 0) (valid_iff.1 h).1.right
 unfold betW
 rw [betF_eq h h0 h1]
 have hv := normW_valid (fun p hp => .inr (hr p hp)) (withR_total h lo hi)
 refine ⟨hv.1, hv.2.trans ?_⟩
 rw [withR_each (valid_iff.1 h).1.right, show hi - 0 = hi by omega, show lo - 0 = lo by omega]
theorem size_bound : 0 ≤ sizeL l ∧ sizeL l ≤ 1048576 ∧ ((eachL l).length : Int) = sizeL l := by
 obtain ⟨hf, hs⟩ := valid_iff.1 h
 exact ⟨sizeL_pos fun p hp => by have := hf.pos p hp; omega, hs, hf.len⟩
theorem putW_ok {off id k : Int} (hid : 1 ≤ id ∧ id < 4096) (h0 : 0 ≤ off) (hk : 1 ≤ k) (hb : off + k ≤ 1048576) :
 putW l off id k = (normW (putO l off id k), 0) ∧ validL (normW (putO l off id k)) = true ∧
 eachL (normW (putO l off id k)) = (eachL l).take off.toNat ++ List.replicate (off.toNat - (eachL l).length) (0, 0) ++ eachP ⟨id, 0, k⟩ ++ (eachL l).drop (off + k).toNat := by
 obtain ⟨s0, s1, s2⟩ := size_bound h
 have hS : sizeW l = sizeL l := sizeW_eq h
 refine ⟨by unfold putW; rw [if_neg (by rw [h]; decide), if_neg (by omega), if_neg (by omega)], ?_⟩
 have hb1 := betW_valid h (lo := 0) (hi := min off (sizeL l)) (by omega) (by omega)
 have hb2 := betW_valid h (lo := min (off + k) (sizeL l)) (hi := sizeL l) (by omega) (by omega)
 have hw : wrap64 (off - sizeL l) = off - sizeL l := wrap64_in (by omega)
 have e : putO l off id k = betW 0 (min off (sizeL l)) l ++ [⟨0, 0, off - sizeL l⟩, ⟨id, 0, k⟩] ++ betW (min (off + k) (sizeL l)) (sizeL l) l := by unfold putO; rw [hS, hw]
 have hE : eachL (putO l off id k) = (eachL l).take off.toNat ++ List.replicate (off.toNat - (eachL l).length) (0, 0) ++ eachP ⟨id, 0, k⟩ ++ (eachL l).drop (off + k).toNat := by
  rw [e, eachL_append, eachL_append, hb1.2, hb2.2]
  have e1 : eachL [⟨0, 0, off - sizeL l⟩, ⟨id, 0, k⟩] = List.replicate (off.toNat - (eachL l).length) (0, 0) ++ eachP ⟨id, 0, k⟩ := by
   rw [eachL_cons, eachL_one]
   rw [eachP_hole, show (off - sizeL l).toNat = off.toNat - (eachL l).length by omega]
  have e2 : List.drop (Int.toNat 0) ((eachL l).take (min off (sizeL l)).toNat) = (eachL l).take off.toNat := by
   rw [Int.toNat_zero, List.drop_zero]
   by_cases hc : off ≤ sizeL l
   · rw [show min off (sizeL l) = off by omega]
   · rw [List.take_of_length_le (by omega), List.take_of_length_le (by omega)]
  have e3 : List.drop (min (off + k) (sizeL l)).toNat ((eachL l).take (sizeL l).toNat) = (eachL l).drop (off + k).toNat := by
   rw [List.take_of_length_le (by omega)]
   by_cases hc : off + k ≤ sizeL l
   · rw [show min (off + k) (sizeL l) = off + k by omega]
   · rw [List.drop_of_length_le (by omega), List.drop_of_length_le (by omega)]
  rw [e1, e2, e3]
  simp only [List.append_assoc]
 have hp : ∀ p ∈ putO l off id k, p.n ≤ 0 ∨ rightB p = true := by
  rw [e]
  intro p hp
  rcases List.mem_append.1 hp with hp | hp
  · rcases List.mem_append.1 hp with hp | hp
    · exact .inr ((valid_iff.1 hb1.1).1.right p hp)
    · rcases List.mem_cons.1 hp with rfl | hp
      · by_cases hc : off ≤ sizeL l
        · exact .inl (by show off - sizeL l ≤ 0; omega)
        · exact .inr (right_iff.2 ⟨by show 1 ≤ off - sizeL l; omega, by show off - sizeL l ≤ 1048576; omega, Int.le_refl 0, .inl ⟨.inl rfl, rfl⟩⟩)
      · rw [List.mem_singleton.1 hp]
        exact .inr (right_iff.2 (by simp only []; omega))
  · exact .inr ((valid_iff.1 hb2.1).1.right p hp)
 have hv := normW_valid hp (by
  rw [hE]
  simp only [List.length_append, List.length_take, List.length_drop, List.length_replicate, eachP_len]
  omega)
 exact ⟨hv.1, hv.2.trans hE⟩
theorem cutW_ok {k : Int} (h0 : 0 ≤ k) (hk : k ≤ 1048576) : ∃ r, cutW l k = (r, 0) ∧ validL r = true ∧ eachL r = (eachL l).take k.toNat ++ List.replicate (k.toNat - (eachL l).length) (0, 0) := by
 obtain ⟨s0, s1, s2⟩ := size_bound h
 have hS : sizeW l = sizeL l := sizeW_eq h
 have hb1 := betW_valid h (lo := 0) (hi := min k (sizeL l)) (by omega) (by omega)
 have hw : wrap64 (k - sizeL l) = k - sizeL l := wrap64_in (by omega)
 have hE : eachL (betW 0 (min k (sizeL l)) l ++ [⟨0, 0, k - sizeL l⟩]) = (eachL l).take k.toNat ++ List.replicate (k.toNat - (eachL l).length) (0, 0) := by
  rw [eachL_append, hb1.2, eachL_one]
  congr 1
  · rw [Int.toNat_zero, List.drop_zero]
    by_cases hc : k ≤ sizeL l
    · rw [show min k (sizeL l) = k by omega]
    · rw [List.take_of_length_le (by omega), List.take_of_length_le (by omega)]
  · rw [eachP_hole, show (k - sizeL l).toNat = k.toNat - (eachL l).length by omega]
 have hv := normW_valid (l := betW 0 (min k (sizeL l)) l ++ [⟨0, 0, k - sizeL l⟩]) (fun p hp => by
  rcases List.mem_append.1 hp with hp | hp
  · exact .inr ((valid_iff.1 hb1.1).1.right p hp)
  · rw [List.mem_singleton.1 hp]
    by_cases hc : k ≤ sizeL l
    · exact .inl (by show k - sizeL l ≤ 0; omega)
    · exact .inr (right_iff.2 ⟨by show 1 ≤ k - sizeL l; omega, by show k - sizeL l ≤ 1048576; omega, Int.le_refl 0, .inl ⟨.inl rfl, rfl⟩⟩)) (by
  rw [hE]
  simp only [List.length_append, List.length_take, List.length_replicate]
  omega)
 exact ⟨_, by unfold cutW; rw [if_neg (by rw [h]; decide), if_neg (by omega), if_neg (by omega), hS, hw], hv.1, hv.2.trans hE⟩
theorem putW_err {off id k : Int} (hz : (putW l off id k).2 = 0) : (1 ≤ id ∧ id < 4096) ∧ 0 ≤ off ∧ 1 ≤ k ∧ off + k ≤ 1048576 := by
 unfold putW at hz
 rw [if_neg (by rw [h]; decide)] at hz
 split at hz
 · cases hz
 · split at hz
   · cases hz
   · omega
theorem cutW_err {k : Int} (hz : (cutW l k).2 = 0) : 0 ≤ k ∧ k ≤ 1048576 := by
 unfold cutW at hz
 rw [if_neg (by rw [h]; decide)] at hz
 split at hz
 · cases hz
 · split at hz
   · cases hz
   · omega
theorem putW_good {off id k : Int} (hz : (putW l off id k).2 = 0) : validL (putW l off id k).1 = true := by
 obtain ⟨h1, h2, h3, h4⟩ := putW_err h hz
 have := putW_ok h h1 h2 h3 h4
 rw [this.1]
 exact this.2.1
theorem cutW_good {k : Int} (hz : (cutW l k).2 = 0) : validL (cutW l k).1 = true := by
 obtain ⟨h1, h2⟩ := cutW_err h hz
 obtain ⟨r, h3, h4, -⟩ := cutW_ok h h1 h2
 rw [h3]
 exact h4
end
theorem putW_len (l : List Pc) (off id k : Int) : (putW l off id k).1.length ≤ l.length + 5 := by
 unfold putW
 split
 · simp
 · rename_i hv
   have h : validL l = true := by cases hh : validL l; exact absurd hh hv; rfl
   obtain ⟨s0, s1, s2⟩ := size_bound h
   split
   · simp
   · split
     · simp
     · simp only []
       refine Nat.le_trans (normW_len _) ?_
       unfold putO
       rw [sizeW_eq h]
       have e1 : (betW 0 (min off (sizeL l)) l).length ≤ (withR 0 (min off (sizeL l)) 0 l).length := by rw [← betF_eq h (by omega) (by omega)]; exact normW_len _
       have e2 : (betW (min (off + k) (sizeL l)) (sizeL l) l).length ≤ (withR (min (off + k) (sizeL l)) (sizeL l) 0 l).length := by rw [← betF_eq h (by omega) (by omega)]; exact normW_len _
       have e3 := withR_len2 (a := min off (sizeL l)) (b := min (off + k) (sizeL l)) (c := sizeL l) (by omega) (l := l) (s := 0) (fun p hp => by have := (valid_iff.1 h).1.pos p hp; omega)
       have e4 : (if (0 : Int) ≤ min (off + k) (sizeL l) then 1 else 0 : Nat) ≤ 1 := by split <;> omega
       simp only [List.length_append, List.length_cons, List.length_nil]
       omega
theorem cutW_len (l : List Pc) (k : Int) : (cutW l k).1.length ≤ l.length + 5 := by
 unfold cutW
 split
 · simp
 · split
   · simp
   · split
     · simp
     · simp only []
       refine Nat.le_trans (normW_len _) ?_
       have := betW_len 0 (min k (sizeW l)) l
       simp only [List.length_append, List.length_cons, List.length_nil]
       omega
theorem encP_ints (l : List Pc) : encs encP l = ints (flat3 l) := by
 induction l with
 | nil => rfl
 | cons p l ih => show encP p ++ encs encP l = ints (p.id :: p.fr :: p.n :: flat3 l); rw [ih]; rfl
theorem Pcs.of_sv {w : World} {A : Option Addr} {n c : Nat} {l : List Pc} (h : Sv w A n c 3 (encs encP l)) : l.length = n ∧ Pcs w A l := by
 refine ⟨h.plen encP_len (by decide), fun hne => ?_⟩
 have hne' : encs encP l ≠ [] := by rw [encP_ints]; intro e; apply hne; simpa [ints] using e
 obtain ⟨g, o, h1, h2, h3⟩ := h.cells hne'
 refine ⟨g, o, h1, h2, fun j x hx => h3 j _ ?_⟩
 rw [encP_ints]
 exact ints_get hx
theorem sv_of_row {w : World} {base n c : Nat} {A : Option Addr} {l : List Pc} (h : w.ownsRow base 126 3 (.slice A n c) n (ints (flat3 l))) : Sv w A n c 3 (encs encP l) := by
 rw [encP_ints]
 exact Sv.own h (ints_cells _)
theorem fresh_of_row {w W : World} {n c : Nat} {A : Option Addr} {xs : List Value} (h : w.ownsRow W.heap.size 126 3 (.slice A n c) n xs) (P : Nat → Prop) : plc (Fresh P W) A n := (plc_own h).mono fun _ hg => .inr hg
theorem ext_size (A : Option Addr) (n c : Nat) (l : List Pc) (W : World) (h : Sv W A n c 3 (encs encP l)) (hn : n ≤ 2000) :
 Calls Tryz.prog 35 #[.slice A n c] W fun e w' => e = .returned (.int .i64 (sizeW l)) ∧ Below W.heap.size W w' := by
 obtain ⟨h1, h2⟩ := Pcs.of_sv h
 refine (Size_w A n c l h1 (by omega) W h2).mono ?_
 rintro e w' ⟨rfl, rfl⟩
 exact ⟨rfl, Below.refl _ _⟩
theorem ext_put (A : Option Addr) (n c : Nat) (l : List Pc) (off id k : Int) (W : World) (h : Sv W A n c 3 (encs encP l)) (hn : n ≤ 1000) :
 Calls Tryz.prog 126 #[.slice A n c, .int .i64 off, .int .i64 id, .int .i64 k] W fun e w' => ∃ A' m c', e = .returned (.tuple #[.slice A' m c', .int .i64 (putW l off id k).2]) ∧ Sv w' A' m c' 3 (encs encP (putW l off id k).1) ∧ m ≤ n + 5 ∧ (∀ P, plc P A n → plc (Fresh P W) A' m) ∧ Below W.heap.size W w' := by
 obtain ⟨h1, h2⟩ := Pcs.of_sv h
 refine (Put_w A n c l off id k h1 (by omega) W h2).mono ?_
 rintro e w' ⟨A1, m1, c1, rfl, h3, h4⟩
 exact ⟨A1, m1, c1, rfl, sv_of_row h3, by have := own_plen h3; have := putW_len l off id k; omega, fun P _ => fresh_of_row h3 P, h4⟩
theorem ext_cut (A : Option Addr) (n c : Nat) (l : List Pc) (k : Int) (W : World) (h : Sv W A n c 3 (encs encP l)) (hn : n ≤ 1000) :
 Calls Tryz.prog 127 #[.slice A n c, .int .i64 k] W fun e w' => ∃ A' m c', e = .returned (.tuple #[.slice A' m c', .int .i64 (cutW l k).2]) ∧ Sv w' A' m c' 3 (encs encP (cutW l k).1) ∧ m ≤ n + 5 ∧ (∀ P, plc P A n → plc (Fresh P W) A' m) ∧ Below W.heap.size W w' := by
 obtain ⟨h1, h2⟩ := Pcs.of_sv h
 refine (Cut_w A n c l k h1 (by omega) W h2).mono ?_
 rintro e w' ⟨A1, m1, c1, rfl, h3, h4⟩
 exact ⟨A1, m1, c1, rfl, sv_of_row h3, by have := own_plen h3; have := cutW_len l k; omega, fun P _ => fresh_of_row h3 P, h4⟩
end Go.Proofs.YtemgejblnionlaaGreatDoor.Ext
