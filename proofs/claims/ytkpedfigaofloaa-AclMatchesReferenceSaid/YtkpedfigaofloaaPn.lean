/-
  Plain facts of merging good lists: what becomes of each mark.
-/
import Derived.Test.YtkpedfigaofloaaPk
import Derived.Test.YtkpedfigaofloaaPd
namespace Go.Proofs.Ytkpedfigaofloaa
namespace Ap
/-- What a merge has for a mark, and whether both sides changed it differently. -/
def wantR (b m t : Int) : Int := if m = b then t else m
def clashR (b m t : Int) : Bool := m != b && t != b && m != t
theorem outc_bad (b m t : Int) : (outc b m t).2 = !clashR b m t := by
  unfold outc clashR
  by_cases h1 : m = b
  · simp [h1]
  · by_cases h2 : t = b
    · simp [h1, h2]
    · by_cases h3 : m = t <;> simp [h1, h2, h3]
theorem outc_val {b m t : Int} (h : clashR b m t = false) : (outc b m t).1 = wantR b m t := by
  unfold clashR at h
  unfold outc wantR
  by_cases h1 : m = b
  · simp [h1]
  · by_cases h2 : t = b
    · simp [h1, h2]
    · by_cases h3 : m = t
      · simp [h3]
      · simp [h1, h2, h3] at h
def valL (W : Ac → Int) (ks : List Ac) : List Ac := (ks.filter fun k => W k != 0).map fun k => k.put (W k)
theorem mergeGo_bad (rb rm rt : Ac → Int) : ∀ (ks o g : List Ac), (∃ k ∈ ks, clashR (rb k) (rm k) (rt k) = true) → mergeGo rb rm rt ks o g = none
  | [], _, _, h => by obtain ⟨k, hk, _⟩ := h; cases hk
  | k :: ks, o, g, h => by
    unfold mergeGo
    cases hc : clashR (rb k) (rm k) (rt k)
    · have h' : ∃ x ∈ ks, clashR (rb x) (rm x) (rt x) = true := by
        obtain ⟨x, hx, he⟩ := h
        rcases List.mem_cons.1 hx with rfl | hx
        · rw [hc] at he; cases he
        · exact ⟨x, hx, he⟩
      rw [if_neg (by rw [outc_bad, hc]; simp)]
      split
      · exact mergeGo_bad rb rm rt ks _ _ h'
      · split
        · exact mergeGo_bad rb rm rt ks _ _ h'
        · exact mergeGo_bad rb rm rt ks _ _ h'
    · rw [if_pos (by rw [outc_bad, hc]; rfl)]
theorem mergeGo_ok (rb rm rt : Ac → Int) : ∀ (ks o g : List Ac), (∀ k ∈ ks, clashR (rb k) (rm k) (rt k) = false) →
    mergeGo rb rm rt ks o g = some (o ++ ownL (valL (fun k => wantR (rb k) (rm k) (rt k)) ks) false, g ++ ownL (valL (fun k => wantR (rb k) (rm k) (rt k)) ks) true)
  | [], o, g, _ => by simp [mergeGo, valL, ownL]
  | k :: ks, o, g, h => by
    have hc := h k (List.mem_cons_self ..)
    have ih := fun o g => mergeGo_ok rb rm rt ks o g (fun x hx => h x (List.mem_cons_of_mem _ hx))
    unfold mergeGo
    rw [if_neg (by rw [outc_bad, hc]; simp), outc_val hc]
    by_cases h0 : wantR (rb k) (rm k) (rt k) = 0
    · rw [if_pos h0, ih]
      simp [valL, h0]
    · rw [if_neg h0]
      cases hg : k.given
      · rw [if_neg (by simp), ih]
        have hv : valL (fun k => wantR (rb k) (rm k) (rt k)) (k :: ks) = k.put (wantR (rb k) (rm k) (rt k)) :: valL (fun k => wantR (rb k) (rm k) (rt k)) ks := by simp [valL, h0]
        have hp : (k.put (wantR (rb k) (rm k) (rt k))).given = false := hg
        rw [hv]
        simp [ownL, hp]
      · rw [if_pos rfl, ih]
        have hv : valL (fun k => wantR (rb k) (rm k) (rt k)) (k :: ks) = k.put (wantR (rb k) (rm k) (rt k)) :: valL (fun k => wantR (rb k) (rm k) (rt k)) ks := by simp [valL, h0]
        have hp : (k.put (wantR (rb k) (rm k) (rt k))).given = true := hg
        rw [hv]
        simp [ownL, hp]
/-- The marks of a list, each once. -/
theorem marksL_spec (l : List Ac) : (marksL l).Nodup ∧ ∀ k, k ∈ marksL l ↔ k ∈ l.map Ac.mk0 := by
  suffices H : ∀ (l out : List Ac), out.Nodup → (l.foldl addM out).Nodup ∧ ∀ k, k ∈ l.foldl addM out ↔ k ∈ out ∨ k ∈ l.map Ac.mk0 by
    have := H l [] (by simp)
    simpa [marksL] using this
  intro l
  induction l with
  | nil => intro out ho; exact ⟨ho, by simp⟩
  | cons a l ih =>
    intro out ho
    have h1 : (addM out a).Nodup ∧ ∀ k, k ∈ addM out a ↔ k ∈ out ∨ k = a.mk0 := by
      unfold addM
      split
      · rename_i hm
        refine ⟨ho, fun k => ⟨.inl, fun h => ?_⟩⟩
        rcases h with h | rfl
        · exact h
        · exact hm
      · rename_i hm
        refine ⟨List.nodup_append.2 ⟨ho, by simp, fun x hx y hy e => ?_⟩, by simp⟩
        simp at hy
        subst hy
        exact hm (e ▸ hx)
    obtain ⟨h2, h3⟩ := ih (addM out a) h1.1
    refine ⟨h2, fun k => ?_⟩
    rw [List.foldl_cons, h3, h1.2, List.map_cons, List.mem_cons, or_assoc]
/-- With different marks, the last entry of a mark is the first one. -/
theorem rAt_atL {l : List Ac} (hd : (l.map Ac.mk0).Nodup) (e : Ac) : rAt l e.mk0 = atL l e := by
  suffices H : ∀ (l : List Ac) (F : Ac → Option Int), (l.map Ac.mk0).Nodup → (e.mk0 ∉ l.map Ac.mk0 → (l.foldl stepO F) e.mk0 = F e.mk0) ∧ (∀ a ∈ l, a.mk0 = e.mk0 → (l.foldl stepO F) e.mk0 = some a.rights) by
    obtain ⟨h1, h2⟩ := H l (fun _ => none) hd
    unfold rAt rOf
    by_cases hm : e.mk0 ∈ l.map Ac.mk0
    · obtain ⟨a, ha, hae⟩ := List.mem_map.1 hm
      rw [h2 a ha hae, atL_mem hd ha hae]; rfl
    · rw [h1 hm, atL_none hm]; rfl
  intro l
  induction l with
  | nil => intro F _; exact ⟨fun _ => rfl, by simp⟩
  | cons a l ih =>
    intro F hd
    rw [List.map_cons, List.nodup_cons] at hd
    obtain ⟨h1, h2⟩ := ih (stepO F a) hd.2
    refine ⟨fun hm => ?_, fun b hb hbe => ?_⟩
    · rw [List.map_cons, List.mem_cons, not_or] at hm
      rw [List.foldl_cons, h1 hm.2]
      unfold stepO
      rw [if_neg hm.1]
    · rcases List.mem_cons.1 hb with rfl | hb
      · rw [List.foldl_cons, h1 (by rw [← hbe]; exact hd.1)]
        unfold stepO
        rw [if_pos hbe.symm]
      · rw [List.foldl_cons]; exact h2 b hb hbe
theorem mk0_mk0 (e : Ac) : e.mk0.mk0 = e.mk0 := rfl
theorem atL_range {l : List Ac} (h : Good l) (e : Ac) : atL l e = 0 ∨ (1 ≤ atL l e ∧ atL l e ≤ 15) := by
  by_cases hm : e.mk0 ∈ l.map Ac.mk0
  · obtain ⟨a, ha, hae⟩ := List.mem_map.1 hm
    rw [atL_mem h.nodup ha hae]
    exact .inr (right_iff.1 (h.right a ha)).2.1
  · exact .inl (atL_none hm)
/-- What the merge has for an entry's mark; whether it clashes there. -/
def wantE (base mine theirs : List Ac) (e : Ac) : Int := wantR (atL base e) (atL mine e) (atL theirs e)
def clashE (base mine theirs : List Ac) (e : Ac) : Bool := clashR (atL base e) (atL mine e) (atL theirs e)
theorem mergeM_clash {base mine theirs : List Ac} (hb : Good base) (hm : Good mine) (ht : Good theirs) (h : ∃ e ∈ mine ++ theirs, clashE base mine theirs e = true) : mergeM base mine theirs = ([], false) := by
  unfold mergeM
  rw [mergeGo_bad]
  obtain ⟨e, he, hc⟩ := h
  refine ⟨e.mk0, ((marksL_spec (mine ++ theirs)).2 e.mk0).2 (List.mem_map_of_mem he), ?_⟩
  rw [rAt_atL hb.nodup, rAt_atL hm.nodup, rAt_atL ht.nodup]
  exact hc
theorem mergeM_good {base mine theirs : List Ac} (hb : Good base) (hm : Good mine) (ht : Good theirs) (hl : mine.length + theirs.length ≤ 16) (h : ∀ e ∈ mine ++ theirs, clashE base mine theirs e = false) :
    (mergeM base mine theirs).2 = true ∧ Good (mergeM base mine theirs).1 ∧ (mergeM base mine theirs).1.length ≤ 16 ∧ ∀ e, atL (mergeM base mine theirs).1 e = wantE base mine theirs e := by
  obtain ⟨hnd, hmem⟩ := marksL_spec (mine ++ theirs)
  have hlen := marksL_len (mine ++ theirs)
  obtain ⟨ks, hks⟩ : ∃ ks, marksL (mine ++ theirs) = ks := ⟨_, rfl⟩
  rw [hks] at hnd hmem hlen
  obtain ⟨W, hW⟩ : ∃ W : Ac → Int, (fun k => wantR (rAt base k) (rAt mine k) (rAt theirs k)) = W := ⟨_, rfl⟩
  have hWe : ∀ e : Ac, W e.mk0 = wantE base mine theirs e := fun e => by
    rw [← hW]
    show wantR (rAt base e.mk0) (rAt mine e.mk0) (rAt theirs e.mk0) = _
    rw [rAt_atL hb.nodup, rAt_atL hm.nodup, rAt_atL ht.nodup]
    rfl
  have hgo : mergeGo (rAt base) (rAt mine) (rAt theirs) ks [] [] = some (ownL (valL W ks) false, ownL (valL W ks) true) := by
    rw [mergeGo_ok, hW]
    · simp
    · intro k hk
      obtain ⟨e, he, rfl⟩ := List.mem_map.1 ((hmem k).1 hk)
      rw [rAt_atL hb.nodup, rAt_atL hm.nodup, rAt_atL ht.nodup]
      exact h e he
  have hv : ∀ v ∈ valL W ks, ∃ e ∈ mine ++ theirs, v = e.put (W e.mk0) ∧ W e.mk0 ≠ 0 := fun v hv => by
    obtain ⟨k, hk, rfl⟩ := List.mem_map.1 hv
    obtain ⟨hk1, hk2⟩ := List.mem_filter.1 hk
    obtain ⟨e, he, rfl⟩ := List.mem_map.1 ((hmem k).1 hk1)
    exact ⟨e, he, rfl, by simpa using hk2⟩
  have hvr : ∀ v ∈ valL W ks, Ap.right v = true := fun v hvm => by
    obtain ⟨e, he, rfl, hw⟩ := hv v hvm
    have hre := right_iff.1 (by
      rcases List.mem_append.1 he with h1 | h1
      · exact hm.right e h1
      · exact ht.right e h1 : Ap.right e = true)
    have hwr : 1 ≤ W e.mk0 ∧ W e.mk0 ≤ 15 := by
      rw [hWe] at hw ⊢
      unfold wantE wantR at hw ⊢
      split at hw <;> split
      · exact (atL_range ht e).resolve_left hw
      · rename_i h1 h2; exact absurd h1 h2
      · rename_i h1 h2; exact absurd h2 h1
      · exact (atL_range hm e).resolve_left hw
    rw [right_iff]
    exact ⟨hre.1, hwr, hre.2.2⟩
  have hvm : (valL W ks).map Ac.mk0 = ks.filter fun k => W k != 0 := by
    unfold valL
    rw [List.map_map]
    conv => rhs; rw [← List.map_id (ks.filter fun k => W k != 0)]
    refine List.map_congr_left fun k hk => ?_
    obtain ⟨e, _, rfl⟩ := List.mem_map.1 ((hmem k).1 (List.mem_filter.1 hk).1)
    rfl
  have hvn : ((valL W ks).map Ac.mk0).Nodup := by rw [hvm]; exact hnd.sublist List.filter_sublist
  have hG : Good (ownL (valL W ks) false ++ ownL (valL W ks) true) := own_good hvr hvn
  have hlv : (valL W ks).length ≤ 16 := by
    have h1 : (valL W ks).length = (ks.filter fun k => W k != 0).length := by rw [← hvm, List.length_map]
    have h2 := List.length_filter_le (fun k => W k != 0) ks
    rw [List.length_append] at hlen
    omega
  have hM : mergeM base mine theirs = (ownL (valL W ks) false ++ ownL (valL W ks) true, true) := by
    unfold mergeM
    rw [hks, hgo]
    dsimp only
    rw [if_neg (by rw [own_parts]; omega)]
  rw [hM]
  refine ⟨rfl, hG, by rw [List.length_append, own_parts]; exact hlv, fun e => ?_⟩
  dsimp only
  rw [← hWe]
  by_cases hw : W e.mk0 = 0
  · rw [hw]
    refine atL_none fun hmm => ?_
    obtain ⟨v, hvv, hve⟩ := List.mem_map.1 hmm
    have hvv' : v ∈ valL W ks := by
      rcases List.mem_append.1 hvv with h1 | h1
      · exact (ownL_mem.1 h1).1
      · exact (ownL_mem.1 h1).1
    obtain ⟨x, _, rfl, hx⟩ := hv v hvv'
    have : x.mk0 = e.mk0 := hve
    rw [this] at hx
    exact hx hw
  · have hk : e.mk0 ∈ ks := by
      rw [hmem]
      by_cases hin : e.mk0 ∈ (mine ++ theirs).map Ac.mk0
      · exact hin
      · exfalso
        rw [List.map_append, List.mem_append, not_or] at hin
        apply hw
        rw [hWe]
        unfold wantE wantR
        rw [atL_none hin.1, atL_none hin.2]
        split <;> rfl
    have hvv : e.mk0.put (W e.mk0) ∈ valL W ks := List.mem_map.2 ⟨e.mk0, List.mem_filter.2 ⟨hk, by simpa using hw⟩, rfl⟩
    have hvg : e.mk0.put (W e.mk0) ∈ ownL (valL W ks) false ++ ownL (valL W ks) true := by
      rw [List.mem_append, ownL_mem, ownL_mem]
      cases hg : (e.mk0.put (W e.mk0)).given
      · exact .inl ⟨hvv, rfl⟩
      · exact .inr ⟨hvv, rfl⟩
    exact atL_mem hG.nodup hvg (e := e) rfl
/-- The whole of a merge of good lists: it clashes exactly where a mark was changed differently by both; else it is a good list that has for every mark what is wanted. -/
theorem mergeS_spec {base mine theirs : List Ac} (hb : Good base) (hm : Good mine) (ht : Good theirs) (hl : mine.length + theirs.length ≤ 16) :
    ((∃ e ∈ mine ++ theirs, clashE base mine theirs e = true) ∧ mergeS base mine theirs = ([], false)) ∨
    ((∀ e : Ac, clashE base mine theirs e = false) ∧ (mergeS base mine theirs).2 = true ∧ Good (mergeS base mine theirs).1 ∧ (mergeS base mine theirs).1.length ≤ 16 ∧ ∀ e, atL (mergeS base mine theirs).1 e = wantE base mine theirs e) := by
  have hout : (∀ e ∈ mine ++ theirs, clashE base mine theirs e = false) → ∀ e : Ac, clashE base mine theirs e = false := fun h e => by
    by_cases hin : e.mk0 ∈ (mine ++ theirs).map Ac.mk0
    · obtain ⟨x, hx, hxe⟩ := List.mem_map.1 hin
      have hc := h x hx
      have hat : ∀ l : List Ac, atL l x = atL l e := fun l => by
        unfold atL
        rw [show (fun a => marked a x) = fun a => marked a e by funext a; rw [marked_iff, marked_iff, hxe]]
      unfold clashE at hc ⊢
      rw [hat, hat, hat] at hc
      exact hc
    · rw [List.map_append, List.mem_append, not_or] at hin
      unfold clashE clashR
      rw [atL_none hin.1, atL_none hin.2]
      simp
  unfold mergeS
  by_cases h1 : mine = base
  · rw [if_pos h1]
    subst h1
    refine .inr ⟨fun e => ?_, rfl, ht, by dsimp only; omega, fun e => ?_⟩
    · unfold clashE clashR; simp
    · unfold wantE wantR; rw [if_pos rfl]
  · rw [if_neg h1]
    by_cases h2 : theirs = base ∨ mine = theirs
    · rw [if_pos h2]
      refine .inr ⟨fun e => ?_, rfl, hm, by dsimp only; omega, fun e => ?_⟩
      · unfold clashE clashR
        rcases h2 with rfl | rfl <;> simp
      · unfold wantE wantR
        rcases h2 with rfl | rfl
        · dsimp only
          split
          · assumption
          · rfl
        · simp
    · rw [if_neg h2]
      by_cases hc : ∃ e ∈ mine ++ theirs, clashE base mine theirs e = true
      · exact .inl ⟨hc, mergeM_clash hb hm ht hc⟩
      · have hc' : ∀ e ∈ mine ++ theirs, clashE base mine theirs e = false := fun e he => by
          cases hv : clashE base mine theirs e
          · rfl
          · exact absurd ⟨e, he, hv⟩ hc
        exact .inr ⟨hout hc', mergeM_good hb hm ht hl hc'⟩
theorem clash_swap (base mine theirs : List Ac) (e : Ac) : clashE base theirs mine e = clashE base mine theirs e := by
  unfold clashE clashR
  cases h1 : (atL mine e != atL base e) <;> cases h2 : (atL theirs e != atL base e) <;> simp [bne_comm]
theorem want_swap {base mine theirs : List Ac} {e : Ac} (h : clashE base mine theirs e = false) : wantE base theirs mine e = wantE base mine theirs e := by
  unfold clashE clashR at h
  unfold wantE wantR
  by_cases h1 : atL mine e = atL base e
  · by_cases h2 : atL theirs e = atL base e
    · rw [if_pos h1, if_pos h2, h1, h2]
    · rw [if_pos h1, if_neg h2]
  · by_cases h2 : atL theirs e = atL base e
    · rw [if_neg h1, if_pos h2]
    · rw [if_neg h1, if_neg h2]
      simp [h1, h2] at h
      exact h.symm
/-- Two good lists that have the same for every mark have as many entries. -/
theorem same_length {l m : List Ac} (hl : Good l) (hm : Good m) (h : ∀ e, atL l e = atL m e) : l.length = m.length := by
  have key : ∀ {l m : List Ac}, Good l → Good m → (∀ e, atL l e = atL m e) → ∀ k ∈ l.map Ac.mk0, k ∈ m.map Ac.mk0 := fun {l m} hl hm h k hk => by
    obtain ⟨a, ha, rfl⟩ := List.mem_map.1 hk
    have h1 := h a
    rw [atL_mem hl.nodup ha rfl] at h1
    have h2 := (right_iff.1 (hl.right a ha)).2.1
    by_cases hm' : a.mk0 ∈ m.map Ac.mk0
    · exact hm'
    · rw [atL_none hm'] at h1; omega
  have hp : (l.map Ac.mk0).Perm (m.map Ac.mk0) := (List.perm_ext_iff_of_nodup hl.nodup hm.nodup).2 fun k => ⟨key hl hm h k, key hm hl (fun e => (h e).symm) k⟩
  have := hp.length_eq
  simpa using this
end Ap
end Go.Proofs.Ytkpedfigaofloaa
