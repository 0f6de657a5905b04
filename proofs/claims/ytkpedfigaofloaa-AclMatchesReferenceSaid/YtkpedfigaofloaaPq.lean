/-
  Plain facts of the reference's Put and Merge: that they give what the program's give, for good lists.
-/
import Derived.Test.YtkpedfigaofloaaPn
namespace Go.Proofs.Ytkpedfigaofloaa
namespace Ap
theorem goV_sound : ∀ (l seen : List Ac) (g : Bool), goV seen g l = true → (∀ a ∈ l, right a = true) ∧ (l.map Ac.mk0).Nodup ∧ (∀ a ∈ l, a.mk0 ∉ seen) ∧ (l.map Ac.mk0).Pairwise (fun a b => a.given = true → b.given = true) ∧ (g = true → ∀ a ∈ l, a.given = true)
  | [], _, _, _ => by simp
  | a :: l, seen, g, h => by
    unfold goV at h
    cases hb : badV seen g a with
    | true => rw [hb, if_pos rfl] at h; cases h
    | false =>
      rw [hb, if_neg (by simp)] at h
      obtain ⟨h1, h2, h3, h4, h5⟩ := goV_sound l _ _ h
      unfold badV at hb
      simp only [Bool.or_eq_false_iff, Bool.not_eq_false', beq_eq_false_iff_ne, decide_eq_false_iff_not, Bool.and_eq_false_iff] at hb
      obtain ⟨⟨⟨b1, b2⟩, b3⟩, b4⟩ := hb
      have hr := right_of b1 b2
      refine ⟨fun x hx => ?_, ?_, fun x hx => ?_, ?_, fun hg x hx => ?_⟩
      · rcases List.mem_cons.1 hx with rfl | hx
        · exact hr
        · exact h1 x hx
      · rw [List.map_cons, List.nodup_cons]
        refine ⟨fun hm => ?_, h2⟩
        obtain ⟨x, hx, he⟩ := List.mem_map.1 hm
        exact h3 x hx (by rw [he]; exact List.mem_cons_self ..)
      · rcases List.mem_cons.1 hx with rfl | hx
        · exact b3
        · exact fun hm => h3 x hx (List.mem_cons_of_mem _ hm)
      · rw [List.map_cons, List.pairwise_cons]
        refine ⟨fun b hb hg => ?_, h4⟩
        obtain ⟨x, hx, rfl⟩ := List.mem_map.1 hb
        exact h5 hg x hx
      · have ha : a.given = true := by
          rcases b4 with h6 | h6
          · rw [hg] at h6; cases h6
          · simpa using h6
        rcases List.mem_cons.1 hx with rfl | hx
        · exact ha
        · exact h5 ha x hx
theorem valid_good {l : List Ac} (h : validB l = true) : Good l ∧ l.length ≤ 16 := by
  unfold validB at h
  rw [Bool.and_eq_true, decide_eq_true_eq] at h
  obtain ⟨h1, h2, _, h4, _⟩ := goV_sound l [] false h.2
  exact ⟨⟨h1, h2, h4⟩, h.1⟩

/-! ### The reference's Put -/
/-- An entry with the mark of e gets its rights. -/
def setR (e a : Ac) : Ac := if marked a e = true then a.put e.rights else a
def keepR (l : List Ac) : List Ac := l.filter fun a => a.rights != 0
def putF (e : Ac) (l : List Ac) : List Ac := keepR (l.map (setR e))
theorem putF_append (e : Ac) (l m : List Ac) : putF e (l ++ m) = putF e l ++ putF e m := by simp [putF, keepR]
theorem putF_other {e : Ac} {l : List Ac} (hr : ∀ a ∈ l, right a = true) (hn : e.mk0 ∉ l.map Ac.mk0) : putF e l = l := by
  have h1 : l.map (setR e) = l := by
    conv => rhs; rw [← List.map_id l]
    refine List.map_congr_left fun a ha => ?_
    unfold setR
    rw [if_neg]
    · rfl
    · rw [marked_iff]
      simp only [decide_eq_true_eq]
      exact fun h => hn (List.mem_map.2 ⟨a, ha, h⟩)
  unfold putF
  rw [h1]
  unfold keepR
  rw [List.filter_eq_self]
  intro a ha
  have := (right_iff.1 (hr a ha)).2.1
  simp; omega
theorem putF_one {e a : Ac} (h : a.mk0 = e.mk0) : putF e [a] = if e.rights = 0 then [] else [e] := by
  have h1 : setR e a = e := by
    unfold setR
    rw [if_pos (marked_of h)]
    exact ext_mark (by rw [← h]; rfl) rfl
  unfold putF keepR
  rw [List.map_cons, h1]
  by_cases h0 : e.rights = 0 <;> simp [h0]
/-- What the reference's Put gives. -/
def refPut (l : List Ac) (e : Ac) : List Ac × Int :=
  if putBad l e = true then ([], 20)
  else
    let own := ownL l false
    let own1 := if atL own e = 0 then own ++ [e] else own
    let res := putF e own1 ++ ownL l true
    if 16 < res.length then ([], 2) else (res, 0)
theorem refPut_eq (l : List Ac) (e : Ac) : refPut l e = putL l e := by
  unfold refPut putL
  cases hb : putBad l e with
  | true => rfl
  | false =>
    rw [if_neg (show ¬ (false = true) by simp), if_neg (show ¬ (false = true) by simp)]
    unfold putBad at hb
    simp only [Bool.or_eq_false_iff, Bool.not_eq_false'] at hb
    obtain ⟨⟨hv, hg⟩, hi⟩ := hb
    obtain ⟨G, hl⟩ := valid_good hv
    have hor : ∀ a ∈ ownL l false, right a = true := fun a ha => G.right a (ownL_mem.1 ha).1
    have hin : e.mk0 ∈ (ownL l false).map Ac.mk0 ↔ e.mk0 ∈ l.map Ac.mk0 := by
      constructor
      · intro h
        obtain ⟨a, ha, he⟩ := List.mem_map.1 h
        exact List.mem_map.2 ⟨a, (ownL_mem.1 ha).1, he⟩
      · intro h
        obtain ⟨a, ha, he⟩ := List.mem_map.1 h
        refine List.mem_map.2 ⟨a, ownL_mem.2 ⟨ha, ?_⟩, he⟩
        have : a.mk0.given = e.mk0.given := by rw [he]
        exact this.trans hg
    cases hp : placeN l e.mk0 with
    | some j =>
      obtain ⟨hj, hm⟩ := placeN_some hp
      have hin' : e.mk0 ∈ l.map Ac.mk0 := List.mem_map.2 ⟨l[j], List.getElem_mem hj, hm⟩
      have h0 : ¬ atL (ownL l false) e = 0 := by
        rw [atL_zero hor]
        simpa using hin.2 hin'
      dsimp only
      rw [if_neg h0]
      have hd := G.nodup
      rw [erase_parts hj, List.map_append, List.map_cons, List.nodup_append, List.nodup_cons] at hd
      obtain ⟨d1, ⟨d2, d3⟩, d4⟩ := hd
      have nT : e.mk0 ∉ (l.take j).map Ac.mk0 := fun h => d4 _ h l[j].mk0 (List.mem_cons_self ..) hm.symm
      have nD : e.mk0 ∉ (l.drop (j + 1)).map Ac.mk0 := by rw [← hm]; exact d2
      have hgj : l[j].given = false := by
        have : l[j].mk0.given = e.mk0.given := by rw [hm]
        exact this.trans hg
      have eo : ownL l false = ownL (l.take j) false ++ ([l[j]] ++ ownL (l.drop (j + 1)) false) := by
        conv => lhs; rw [erase_parts hj]
        rw [show l[j] :: l.drop (j + 1) = [l[j]] ++ l.drop (j + 1) from rfl, ownL_append, ownL_append]
        congr 2
        simp [ownL, hgj]
      have eg : ownL l true = ownL (l.take j) true ++ ownL (l.drop (j + 1)) true := by
        conv => lhs; rw [erase_parts hj]
        rw [show l[j] :: l.drop (j + 1) = [l[j]] ++ l.drop (j + 1) from rfl, ownL_append, ownL_append]
        congr 1
        simp [ownL, hgj]
      have sub : ∀ (m : List Ac) (b : Bool), e.mk0 ∉ m.map Ac.mk0 → e.mk0 ∉ (ownL m b).map Ac.mk0 := fun m b h h' => by
        obtain ⟨a, ha, he⟩ := List.mem_map.1 h'
        exact h (List.mem_map.2 ⟨a, (ownL_mem.1 ha).1, he⟩)
      have rT : ∀ a ∈ ownL (l.take j) false, right a = true := fun a ha => G.right a (List.mem_of_mem_take (ownL_mem.1 ha).1)
      have rD : ∀ a ∈ ownL (l.drop (j + 1)) false, right a = true := fun a ha => G.right a (List.mem_of_mem_drop (ownL_mem.1 ha).1)
      have hF : putF e (ownL l false) = ownL (l.take j) false ++ ((if e.rights = 0 then [] else [e]) ++ ownL (l.drop (j + 1)) false) := by
        rw [eo, putF_append, putF_append, putF_other rT (sub _ _ nT), putF_other rD (sub _ _ nD), putF_one hm]
      rw [hF, eg]
      by_cases hr : e.rights = 0
      · rw [if_pos hr, if_pos hr, List.nil_append]
        have hs := (G.erase j).split
        rw [List.eraseIdx_eq_take_drop_succ, ownL_append, ownL_append] at hs
        rw [List.eraseIdx_eq_take_drop_succ, ← hs]
        have hlen : (l.take j ++ l.drop (j + 1)).length ≤ l.length := by rw [← List.eraseIdx_eq_take_drop_succ, List.length_eraseIdx]; split <;> omega
        rw [if_neg (by omega)]
      · rw [if_neg hr, if_neg hr]
        have hs := (G.set hj hm (right_of hi hr)).split
        have he : l.set j e = l.take j ++ ([e] ++ l.drop (j + 1)) := by rw [List.set_eq_take_append_cons_drop, if_pos hj]; rfl
        rw [he, ownL_append, ownL_append, ownL_append, ownL_append, show ownL [e] false = [e] by simp [ownL, hg], show ownL [e] true = [] by simp [ownL, hg], List.nil_append] at hs
        rw [← hs, ← he]
        rw [if_neg (by rw [List.length_set]; omega)]
    | none =>
      have hn := placeN_none.1 hp
      have hn' : e.mk0 ∉ (ownL l false).map Ac.mk0 := fun h => hn (hin.1 h)
      have h0 : atL (ownL l false) e = 0 := (atL_zero hor e).2 hn'
      dsimp only
      rw [if_pos h0, putF_append, putF_other hor hn', putF_one rfl]
      by_cases hr : e.rights = 0
      · rw [if_pos hr, if_pos hr, List.append_nil, ← G.split, if_neg (by omega)]
      · rw [if_neg hr, if_neg hr, insL_own G e]
        have hlen : (ownL l false ++ [e] ++ ownL l true).length = l.length + 1 := by
          conv => rhs; rw [G.split]
          simp; omega
        rw [hlen]
        by_cases h16 : l.length + 1 ≤ 16
        · rw [if_neg (by omega), if_pos h16]; simp
        · rw [if_pos (by omega), if_neg h16]

/-! ### The reference's Merge -/
def newL (m l : List Ac) : List Ac := l.filter fun a => atL m a == 0
def allM (b m t : List Ac) : List Ac := (m ++ newL m t) ++ newL (m ++ newL m t) b
def wantL (b m t l : List Ac) : List Ac := keepR (l.map fun e => e.put (wantE b m t e))
/-- What the reference's Merge gives where no two lists are the same. -/
def refM (b m t : List Ac) : List Ac × Bool :=
  if ∃ e ∈ allM b m t, clashE b m t e = true then ([], false)
  else
    let out := wantL b m t (allM b m t)
    let res := ownL out false ++ ownL out true
    if 16 < res.length then ([], false) else (res, true)
theorem atL_mk {l : List Ac} {x e : Ac} (h : x.mk0 = e.mk0) : atL l x = atL l e := by
  unfold atL
  rw [show (fun a => marked a x) = fun a => marked a e by funext a; rw [marked_iff, marked_iff, h]]
theorem wantE_mk {b m t : List Ac} {x e : Ac} (h : x.mk0 = e.mk0) : wantE b m t x = wantE b m t e := by
  unfold wantE; rw [atL_mk h, atL_mk h, atL_mk h]
theorem clashE_mk {b m t : List Ac} {x e : Ac} (h : x.mk0 = e.mk0) : clashE b m t x = clashE b m t e := by
  unfold clashE; rw [atL_mk h, atL_mk h, atL_mk h]
theorem marksL_self {l : List Ac} (h : (l.map Ac.mk0).Nodup) : marksL l = l.map Ac.mk0 := by
  suffices H : ∀ (l out : List Ac), (∀ a ∈ l, a.mk0 ∉ out) → (l.map Ac.mk0).Nodup → l.foldl addM out = out ++ l.map Ac.mk0 by
    have := H l [] (by simp) h
    simpa [marksL] using this
  intro l
  induction l with
  | nil => intro out _ _; simp
  | cons a l ih =>
    intro out ho hd
    rw [List.map_cons, List.nodup_cons] at hd
    rw [List.foldl_cons, show addM out a = out ++ [a.mk0] by unfold addM; rw [if_neg (ho a (List.mem_cons_self ..))], ih _ ?_ hd.2]
    · simp
    · intro x hx hm
      rcases List.mem_append.1 hm with h1 | h1
      · exact ho x (List.mem_cons_of_mem _ hx) h1
      · simp at h1
        exact hd.1 (by rw [← h1]; exact List.mem_map_of_mem hx)
theorem marksL_new {m t : List Ac} (hm : Good m) (ht : Good t) : marksL (m ++ t) = (m ++ newL m t).map Ac.mk0 := by
  rw [marksL_append, marksL_self hm.nodup, List.map_append]
  suffices H : ∀ (t s : List Ac), (t.map Ac.mk0).Nodup → (∀ a ∈ t, a.mk0 ∉ s) → t.foldl addM (m.map Ac.mk0 ++ s) = m.map Ac.mk0 ++ s ++ (newL m t).map Ac.mk0 by
    have := H t [] ht.nodup (by simp)
    simpa using this
  intro t
  induction t with
  | nil => intro s _ _; simp [newL]
  | cons a t ih =>
    intro s hd hs
    rw [List.map_cons, List.nodup_cons] at hd
    rw [List.foldl_cons]
    by_cases h0 : atL m a = 0
    · have hn := (atL_zero hm.right a).1 h0
      have h1 : a.mk0 ∉ m.map Ac.mk0 ++ s := by
        rw [List.mem_append, not_or]
        exact ⟨hn, hs a (List.mem_cons_self ..)⟩
      rw [show addM (m.map Ac.mk0 ++ s) a = m.map Ac.mk0 ++ (s ++ [a.mk0]) by unfold addM; rw [if_neg h1, List.append_assoc]]
      rw [ih (s ++ [a.mk0]) hd.2 (fun x hx hm' => by
        rcases List.mem_append.1 hm' with h2 | h2
        · exact hs x (List.mem_cons_of_mem _ hx) h2
        · simp at h2
          exact hd.1 (by rw [← h2]; exact List.mem_map_of_mem hx))]
      simp [newL, h0]
    · have hin : a.mk0 ∈ m.map Ac.mk0 := by
        by_cases hc : a.mk0 ∈ m.map Ac.mk0
        · exact hc
        · exact absurd ((atL_zero hm.right a).2 hc) h0
      rw [show addM (m.map Ac.mk0 ++ s) a = m.map Ac.mk0 ++ s by unfold addM; rw [if_pos (List.mem_append_left _ hin)]]
      rw [ih s hd.2 (fun x hx => hs x (List.mem_cons_of_mem _ hx))]
      simp [newL, h0]
theorem wantL_append (b m t k l : List Ac) : wantL b m t (k ++ l) = wantL b m t k ++ wantL b m t l := by simp [wantL, keepR]
theorem refM_eq {b m t : List Ac} (hb : Good b) (hm : Good m) (ht : Good t) : refM b m t = mergeM b m t := by
  have hnew : ∀ e ∈ newL (m ++ newL m t) b, atL m e = 0 ∧ atL t e = 0 := fun e he => by
    unfold newL at he
    obtain ⟨he1, he2⟩ := List.mem_filter.1 he
    have h0 : atL (m ++ newL m t) e = 0 := by simpa [newL] using he2
    have hr : ∀ a ∈ m ++ newL m t, right a = true := fun a ha => by
      rcases List.mem_append.1 ha with h1 | h1
      · exact hm.right a h1
      · exact ht.right a (List.mem_filter.1 h1).1
    have hn := (atL_zero hr e).1 h0
    rw [List.map_append, List.mem_append, not_or] at hn
    refine ⟨(atL_zero hm.right e).2 hn.1, (atL_zero ht.right e).2 fun h => hn.2 ?_⟩
    obtain ⟨x, hx, hxe⟩ := List.mem_map.1 h
    refine List.mem_map.2 ⟨x, List.mem_filter.2 ⟨hx, ?_⟩, hxe⟩
    have : atL m x = 0 := by rw [atL_mk hxe]; exact (atL_zero hm.right e).2 hn.1
    simp [this]
  have hcl : (∃ e ∈ allM b m t, clashE b m t e = true) ↔ ∃ e ∈ m ++ t, clashE b m t e = true := by
    constructor
    · rintro ⟨e, he, hc⟩
      rcases List.mem_append.1 he with h1 | h1
      · refine ⟨e, ?_, hc⟩
        rcases List.mem_append.1 h1 with h2 | h2
        · exact List.mem_append_left _ h2
        · exact List.mem_append_right _ (List.mem_filter.1 h2).1
      · obtain ⟨h2, h3⟩ := hnew e h1
        unfold clashE clashR at hc
        rw [h2, h3] at hc
        simp at hc
    · rintro ⟨e, he, hc⟩
      have hk : e.mk0 ∈ marksL (m ++ t) := (marksL_spec (m ++ t)).2 e.mk0 |>.2 (List.mem_map_of_mem he)
      rw [marksL_new hm ht] at hk
      obtain ⟨x, hx, hxe⟩ := List.mem_map.1 hk
      exact ⟨x, List.mem_append_left _ hx, by rw [clashE_mk hxe]; exact hc⟩
  unfold refM
  by_cases hc : ∃ e ∈ allM b m t, clashE b m t e = true
  · rw [if_pos hc, mergeM_clash hb hm ht (hcl.1 hc)]
  · rw [if_neg hc]
    have hc' : ∀ e ∈ m ++ t, clashE b m t e = false := fun e he => by
      cases hv : clashE b m t e
      · rfl
      · exact absurd (hcl.2 ⟨e, he, hv⟩) hc
    have hlast : wantL b m t (newL (m ++ newL m t) b) = [] := by
      unfold wantL keepR
      rw [List.filter_eq_nil_iff]
      intro x hx
      obtain ⟨e, he, rfl⟩ := List.mem_map.1 hx
      obtain ⟨h2, h3⟩ := hnew e he
      have : wantE b m t e = 0 := by
        unfold wantE wantR
        rw [h2, h3]
        split <;> rfl
      rw [this]
      simp [Ac.put]
    obtain ⟨W, hW⟩ : ∃ W : Ac → Int, (fun k => wantR (rAt b k) (rAt m k) (rAt t k)) = W := ⟨_, rfl⟩
    have hWe : ∀ e : Ac, W e.mk0 = wantE b m t e := fun e => by
      rw [← hW]
      show wantR (rAt b e.mk0) (rAt m e.mk0) (rAt t e.mk0) = _
      rw [rAt_atL hb.nodup, rAt_atL hm.nodup, rAt_atL ht.nodup]
      rfl
    have hval : valL W (marksL (m ++ t)) = wantL b m t (allM b m t) := by
      rw [allM, wantL_append, hlast, List.append_nil, marksL_new hm ht]
      unfold valL wantL keepR
      generalize m ++ newL m t = L
      induction L with
      | nil => rfl
      | cons a L ih =>
        rw [List.map_cons, List.map_cons, List.filter_cons, List.filter_cons]
        have h1 : (W a.mk0 != 0) = ((a.put (wantE b m t a)).rights != 0) := by rw [hWe]; rfl
        rw [h1]
        split
        · rw [List.map_cons, ih, hWe]; rfl
        · exact ih
    have hgo : mergeGo (rAt b) (rAt m) (rAt t) (marksL (m ++ t)) [] [] = some (ownL (valL W (marksL (m ++ t))) false, ownL (valL W (marksL (m ++ t))) true) := by
      rw [mergeGo_ok, hW]
      · simp
      · intro k hk
        obtain ⟨e, he, rfl⟩ := List.mem_map.1 (((marksL_spec (m ++ t)).2 k).1 hk)
        rw [rAt_atL hb.nodup, rAt_atL hm.nodup, rAt_atL ht.nodup]
        exact hc' e he
    unfold mergeM
    rw [hgo, hval]
    dsimp only
    rw [List.length_append]
end Ap
end Go.Proofs.Ytkpedfigaofloaa
