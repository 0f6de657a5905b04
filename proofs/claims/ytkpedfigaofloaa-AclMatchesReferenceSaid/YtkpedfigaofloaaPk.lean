/-
  Plain facts of good lists: right entries of different marks, given ones last: what numbers describe is good, a good list is valid, and what Put makes of a good list.
-/
import Derived.Test.YtkpedfigaofloaaBl
import Derived.Test.YtkpedfigaofloaaPf
namespace Go.Proofs.Ytkpedfigaofloaa
namespace Ap
/-- Right entries, different marks, given ones last. -/
structure Good (l : List Ac) : Prop where
  right : ∀ a ∈ l, right a = true
  nodup : (l.map Ac.mk0).Nodup
  order : (l.map Ac.mk0).Pairwise fun a b => a.given = true → b.given = true
theorem goV_good : ∀ (l seen : List Ac) (g : Bool), Good l → (∀ a ∈ l, a.mk0 ∉ seen) → (g = true → ∀ a ∈ l, a.given = true) → goV seen g l = true
  | [], _, _, _, _, _ => rfl
  | a :: l, seen, g, h, hs, hg => by
    have hd := h.nodup
    have ho := h.order
    rw [List.map_cons, List.nodup_cons] at hd
    rw [List.map_cons, List.pairwise_cons] at ho
    have hr' := right_iff.1 (h.right a (List.mem_cons_self ..))
    have hin : inR a = true := by unfold inR; simp only [Bool.and_eq_true, decide_eq_true_eq]; omega
    have h0 : (a.rights == 0) = false := by simp; omega
    have hgg : (g && !a.given) = false := by
      cases hgv : g
      · rfl
      · rw [hg hgv a (List.mem_cons_self ..)]; rfl
    have hb : badV seen g a = false := by
      unfold badV
      rw [hin, h0, hgg, decide_eq_false (hs a (List.mem_cons_self ..))]
      rfl
    unfold goV
    rw [if_neg (by rw [hb]; simp)]
    refine goV_good l _ _ ⟨fun b hb => h.right b (List.mem_cons_of_mem _ hb), hd.2, ho.2⟩ (fun b hb hm => ?_) (fun hgv b hb => ?_)
    · rcases List.mem_cons.1 hm with h1 | h1
      · exact hd.1 (by rw [← h1]; exact List.mem_map_of_mem hb)
      · exact hs b (List.mem_cons_of_mem _ hb) h1
    · exact ho.1 b.mk0 (List.mem_map_of_mem hb) hgv
theorem Good.valid {l : List Ac} (h : Good l) (hl : l.length ≤ 16) : validB l = true := by
  unfold validB
  rw [decide_eq_true hl, Bool.true_and]
  exact goV_good l [] false h (by simp) (by simp)
theorem Good.sub {l m : List Ac} (h : Good l) (hs : m.Sublist l) : Good m :=
  ⟨fun a ha => h.right a (hs.subset ha), h.nodup.sublist (hs.map _), h.order.sublist (hs.map _)⟩
theorem Good.ok {l : List Ac} (h : Good l) : ∀ a ∈ l, a.ok := fun a ha => right_ok (h.right a ha)

/-! ### What numbers describe -/
theorem atL_zero {l : List Ac} (h : ∀ a ∈ l, Ap.right a = true) (e : Ac) : atL l e = 0 ↔ e.mk0 ∉ l.map Ac.mk0 := by
  unfold atL
  cases hf : l.find? (fun a => marked a e) with
  | none =>
    simp only [Option.map_none, Option.getD_none, true_iff]
    rw [List.find?_eq_none] at hf
    intro hm
    obtain ⟨a, ha, hae⟩ := List.mem_map.1 hm
    have := hf a ha
    rw [marked_iff] at this
    simp [hae] at this
  | some a =>
    have ha := List.mem_of_find?_eq_some hf
    have hk := List.find?_some hf
    rw [marked_iff] at hk
    have hr := (right_iff.1 (h a ha)).2.1
    simp only [Option.map_some, Option.getD_some]
    constructor
    · intro h0; omega
    · intro hn; exact absurd (List.mem_map.2 ⟨a, ha, by simpa using hk⟩) hn
theorem rawT_good (l : List Tri) : (∀ a ∈ rawT l, Ap.right a = true) ∧ ((rawT l).map Ac.mk0).Nodup := by
  suffices H : ∀ (l : List Tri) (out : List Ac), ((∀ a ∈ out, Ap.right a = true) ∧ (out.map Ac.mk0).Nodup) → (∀ a ∈ l.foldl stepT out, Ap.right a = true) ∧ ((l.foldl stepT out).map Ac.mk0).Nodup from H l [] (by simp)
  intro l
  induction l with
  | nil => exact fun _ h => h
  | cons t l ih =>
    intro out ho
    refine ih _ ?_
    unfold stepT
    split
    · rename_i h0
      rw [atL_zero ho.1] at h0
      refine ⟨fun a ha => ?_, ?_⟩
      · rcases List.mem_append.1 ha with h1 | h1
        · exact ho.1 a h1
        · simp at h1; rw [h1]; exact aceOf_right _ _ _
      · rw [List.map_append, List.nodup_append]
        exact ⟨ho.2, by simp, fun a ha b hb => by simp at hb; subst hb; exact fun e => h0 (e ▸ ha)⟩
    · exact ho
theorem ownL_sub (l : List Ac) (g : Bool) : (ownL l g).Sublist l := List.filter_sublist
theorem good_parts {A B : List Ac} (hA : ∀ a ∈ A, Ap.right a = true ∧ a.given = false) (hB : ∀ a ∈ B, Ap.right a = true ∧ a.given = true) (dA : (A.map Ac.mk0).Nodup) (dB : (B.map Ac.mk0).Nodup) : Good (A ++ B) := by
  refine ⟨fun a ha => ?_, ?_, ?_⟩
  · rcases List.mem_append.1 ha with h | h
    · exact (hA a h).1
    · exact (hB a h).1
  · rw [List.map_append, List.nodup_append]
    refine ⟨dA, dB, fun x hx y hy e => ?_⟩
    obtain ⟨a, ha, rfl⟩ := List.mem_map.1 hx
    obtain ⟨b, hb, rfl⟩ := List.mem_map.1 hy
    have h1 : a.mk0.given = b.mk0.given := by rw [e]
    have h2 : a.given = b.given := h1
    rw [(hA a ha).2, (hB b hb).2] at h2
    cases h2
  · rw [List.map_append, List.pairwise_append]
    refine ⟨?_, ?_, fun x hx y hy _ => ?_⟩
    · refine List.Pairwise.imp_of_mem (R := fun _ _ => True) (fun {x y} hx _ _ hg => ?_) (List.pairwise_of_forall (fun _ _ => trivial))
      obtain ⟨a, ha, rfl⟩ := List.mem_map.1 hx
      have : a.given = true := hg
      rw [(hA a ha).2] at this
      cases this
    · refine List.Pairwise.imp_of_mem (R := fun _ _ => True) (fun {x y} _ hy _ _ => ?_) (List.pairwise_of_forall (fun _ _ => trivial))
      obtain ⟨b, hb, rfl⟩ := List.mem_map.1 hy
      exact (hB b hb).2
    · obtain ⟨b, hb, rfl⟩ := List.mem_map.1 hy
      exact (hB b hb).2
theorem own_good {l : List Ac} (hr : ∀ a ∈ l, Ap.right a = true) (hd : (l.map Ac.mk0).Nodup) : Good (ownL l false ++ ownL l true) :=
  good_parts (fun a ha => ⟨hr a (ownL_mem.1 ha).1, (ownL_mem.1 ha).2⟩) (fun a ha => ⟨hr a (ownL_mem.1 ha).1, (ownL_mem.1 ha).2⟩) (hd.sublist ((ownL_sub l false).map _)) (hd.sublist ((ownL_sub l true).map _))
theorem listL_good (l : List Tri) : Good (listL l) := own_good (rawT_good _).1 (rawT_good _).2
/-- A good list is its own entries, and then the given ones. -/
theorem Good.split {l : List Ac} (h : Good l) : l = ownL l false ++ ownL l true := by
  suffices H : ∀ l : List Ac, (l.map Ac.mk0).Pairwise (fun a b => a.given = true → b.given = true) → l = ownL l false ++ ownL l true from H l h.order
  intro l
  induction l with
  | nil => intro _; rfl
  | cons a l ih =>
    intro ho
    rw [List.map_cons, List.pairwise_cons] at ho
    have hl := ih ho.2
    cases hg : a.given
    · have h1 : ownL (a :: l) false = a :: ownL l false := by simp [ownL, hg]
      have h2 : ownL (a :: l) true = ownL l true := by simp [ownL, hg]
      rw [h1, h2, List.cons_append, ← hl]
    · have hall : ∀ b ∈ l, b.given = true := fun b hb => ho.1 b.mk0 (List.mem_map_of_mem hb) hg
      have h1 : ownL (a :: l) false = [] := ownL_none (fun b hb => by
        rcases List.mem_cons.1 hb with rfl | hb
        · rw [hg]; simp
        · rw [hall b hb]; simp)
      have h2 : ownL (a :: l) true = a :: l := ownL_all (fun b hb => by
        rcases List.mem_cons.1 hb with rfl | hb
        · exact hg
        · exact hall b hb)
      rw [h1, h2, List.nil_append]

/-! ### Put -/
theorem insL_own {l : List Ac} (h : Good l) (e : Ac) : insL l (ownL l false).length e = ownL l false ++ e :: ownL l true := by
  have hs := h.split
  generalize hA : ownL l false = A at hs ⊢
  generalize ownL l true = B at hs ⊢
  rw [hs]
  unfold insL
  rw [List.take_left, List.drop_left]
theorem Good.ins {l : List Ac} (h : Good l) {e : Ac} (he : Ap.right e = true) (hg : e.given = false) (hn : e.mk0 ∉ l.map Ac.mk0) : Good (insL l (ownL l false).length e) := by
  rw [insL_own h e, show ownL l false ++ e :: ownL l true = (ownL l false ++ [e]) ++ ownL l true by simp]
  refine good_parts (fun a ha => ?_) (fun a ha => ⟨h.right a (ownL_mem.1 ha).1, (ownL_mem.1 ha).2⟩) ?_ (h.nodup.sublist ((ownL_sub l true).map _))
  · rcases List.mem_append.1 ha with h1 | h1
    · exact ⟨h.right a (ownL_mem.1 h1).1, (ownL_mem.1 h1).2⟩
    · simp at h1; subst h1; exact ⟨he, hg⟩
  · rw [List.map_append, List.nodup_append]
    refine ⟨h.nodup.sublist ((ownL_sub l false).map _), by simp, fun a ha b hb e' => ?_⟩
    simp at hb
    subst hb
    obtain ⟨x, hx, rfl⟩ := List.mem_map.1 ha
    exact hn (e' ▸ List.mem_map_of_mem (ownL_mem.1 hx).1)
theorem set_marks {l : List Ac} {j : Nat} {e : Ac} (hj : j < l.length) (hm : l[j].mk0 = e.mk0) : (l.set j e).map Ac.mk0 = l.map Ac.mk0 := by
  rw [List.map_set, ← hm]
  apply List.ext_getElem
  · simp
  · intro i h1 h2
    rw [List.getElem_set]
    split
    · rename_i hij; subst hij; simp
    · rfl
theorem Good.set {l : List Ac} (h : Good l) {j : Nat} {e : Ac} (hj : j < l.length) (hm : l[j].mk0 = e.mk0) (he : Ap.right e = true) : Good (l.set j e) := by
  refine ⟨fun a ha => ?_, by rw [set_marks hj hm]; exact h.nodup, by rw [set_marks hj hm]; exact h.order⟩
  rcases List.mem_or_eq_of_mem_set ha with h1 | rfl
  · exact h.right a h1
  · exact he
theorem Good.erase {l : List Ac} (h : Good l) (j : Nat) : Good (l.eraseIdx j) := h.sub (List.eraseIdx_sublist l j)
/-! ### What Put leaves as it is -/
def oth (l : List Ac) (e : Ac) : List Ac := l.filter fun a => !marked a e
theorem oth_append (l m : List Ac) (e : Ac) : oth (l ++ m) e = oth l e ++ oth m e := by simp [oth]
theorem marked_self (e : Ac) : marked e e = true := by simp [marked]
theorem oth_one (e : Ac) : oth [e] e = [] := by simp [oth, marked_self]
theorem marked_of {a e : Ac} (h : a.mk0 = e.mk0) : marked a e = true := by rw [marked_iff]; simpa using h
theorem atL_none {l : List Ac} {e : Ac} (h : e.mk0 ∉ l.map Ac.mk0) : atL l e = 0 := by
  unfold atL
  rw [show l.find? (fun a => marked a e) = none from List.find?_eq_none.2 fun a ha => by
    rw [marked_iff]
    simp only [decide_eq_true_eq]
    exact fun he => h (he ▸ List.mem_map_of_mem ha)]
  rfl
theorem atL_mem {l : List Ac} (hd : (l.map Ac.mk0).Nodup) {a e : Ac} (ha : a ∈ l) (hm : a.mk0 = e.mk0) : atL l e = a.rights := by
  unfold atL
  induction l with
  | nil => cases ha
  | cons b l ih =>
    rw [List.map_cons, List.nodup_cons] at hd
    rw [List.find?_cons]
    cases hb : marked b e
    · rcases List.mem_cons.1 ha with rfl | ha
      · rw [marked_of hm] at hb; cases hb
      · exact ih hd.2 ha
    · rw [marked_iff] at hb
      have hb' : b.mk0 = e.mk0 := by simpa using hb
      rcases List.mem_cons.1 ha with rfl | ha
      · rfl
      · exact absurd (by rw [hb', ← hm]; exact List.mem_map_of_mem ha) hd.1
theorem right_of {e : Ac} (hi : inR e = true) (hr : e.rights ≠ 0) : Ap.right e = true := by
  unfold inR at hi
  simp only [Bool.and_eq_true, decide_eq_true_eq] at hi
  rw [right_iff]
  omega
/-- The four ways of a Put that is not refused. -/
theorem putL_ways {l : List Ac} (h : Good l) (hl : l.length + 1 ≤ 16) {e : Ac} (hi : inR e = true) (hg : e.given = false) :
    (∃ j, ∃ hj : j < l.length, l[j].mk0 = e.mk0 ∧ e.rights = 0 ∧ putL l e = (l.eraseIdx j, 0)) ∨ (∃ j, ∃ hj : j < l.length, l[j].mk0 = e.mk0 ∧ e.rights ≠ 0 ∧ putL l e = (l.set j e, 0)) ∨
    (e.mk0 ∉ l.map Ac.mk0 ∧ e.rights = 0 ∧ putL l e = (l, 0)) ∨ (e.mk0 ∉ l.map Ac.mk0 ∧ e.rights ≠ 0 ∧ putL l e = (insL l (ownL l false).length e, 0)) := by
  have hb : putBad l e = false := by unfold putBad; rw [h.valid (by omega), hi, hg]; rfl
  unfold putL
  rw [if_neg (by rw [hb]; simp)]
  cases hp : placeN l e.mk0 with
  | some j =>
    obtain ⟨hj, hm⟩ := placeN_some hp
    by_cases hr : e.rights = 0
    · exact .inl ⟨j, hj, hm, hr, by simp [hr]⟩
    · exact .inr (.inl ⟨j, hj, hm, hr, by simp [hr]⟩)
  | none =>
    have hn := placeN_none.1 hp
    by_cases hr : e.rights = 0
    · exact .inr (.inr (.inl ⟨hn, hr, by simp [hr]⟩))
    · exact .inr (.inr (.inr ⟨hn, hr, by simp [hr, hl]⟩))
theorem erase_parts {l : List Ac} {j : Nat} (hj : j < l.length) : l = l.take j ++ l[j] :: l.drop (j + 1) := by
  rw [List.getElem_cons_drop, List.take_append_drop]
theorem put_good {l : List Ac} (h : Good l) (hl : l.length + 1 ≤ 16) {e : Ac} (hi : inR e = true) (hg : e.given = false) :
    (putL l e).2 = 0 ∧ Good (putL l e).1 ∧ (putL l e).1.length ≤ l.length + 1 ∧ atL (putL l e).1 e = e.rights ∧ oth (putL l e).1 e = oth l e := by
  rcases putL_ways h hl hi hg with ⟨j, hj, hm, hr, hp⟩ | ⟨j, hj, hm, hr, hp⟩ | ⟨hn, hr, hp⟩ | ⟨hn, hr, hp⟩
  · rw [hp]
    have he : l.eraseIdx j = l.take j ++ l.drop (j + 1) := List.eraseIdx_eq_take_drop_succ ..
    refine ⟨rfl, h.erase j, by rw [List.length_eraseIdx]; split <;> omega, ?_, ?_⟩
    · rw [hr]
      refine atL_none fun hmm => ?_
      have hd := h.nodup
      rw [erase_parts hj, List.map_append, List.map_cons, List.nodup_append] at hd
      rw [he, List.map_append, List.mem_append] at hmm
      rw [List.nodup_cons] at hd
      rcases hmm with h1 | h1
      · exact hd.2.2 _ h1 l[j].mk0 (List.mem_cons_self ..) hm.symm
      · exact hd.2.1.1 (by rw [hm]; exact h1)
    · show oth (l.eraseIdx j) e = oth l e
      rw [he]
      conv => rhs; rw [erase_parts hj]
      rw [oth_append, oth_append, show l[j] :: l.drop (j + 1) = [l[j]] ++ l.drop (j + 1) from rfl, oth_append]
      rw [show oth [l[j]] e = [] by simp [oth, marked_of hm], List.nil_append]
  · rw [hp]
    have hS := h.set hj hm (right_of hi hr)
    have hmem : e ∈ l.set j e := List.mem_of_getElem? (i := j) (by rw [List.getElem?_set_self hj])
    refine ⟨rfl, hS, by simp, atL_mem hS.nodup hmem rfl, ?_⟩
    show oth (l.set j e) e = oth l e
    have he : l.set j e = l.take j ++ e :: l.drop (j + 1) := by rw [List.set_eq_take_append_cons_drop, if_pos hj]
    rw [he]
    conv => rhs; rw [erase_parts hj]
    rw [oth_append, oth_append, show l[j] :: l.drop (j + 1) = [l[j]] ++ l.drop (j + 1) from rfl, show e :: l.drop (j + 1) = [e] ++ l.drop (j + 1) from rfl, oth_append, oth_append]
    rw [show oth [l[j]] e = [] by simp [oth, marked_of hm], oth_one]
  · rw [hp]
    exact ⟨rfl, h, by simp, by rw [hr]; exact atL_none hn, rfl⟩
  · rw [hp]
    have hS := h.ins (right_of hi hr) hg hn
    have hown : (ownL l false).length ≤ l.length := ownL_len l false
    have hmem : e ∈ insL l (ownL l false).length e := by unfold insL; simp
    refine ⟨rfl, hS, by rw [insL_len hown]; omega, atL_mem hS.nodup hmem rfl, ?_⟩
    show oth (insL l (ownL l false).length e) e = oth l e
    rw [insL_own h e, show ownL l false ++ e :: ownL l true = ownL l false ++ ([e] ++ ownL l true) from rfl, oth_append, oth_append, oth_one, List.nil_append, ← oth_append, ← h.split]
theorem ext_mark {a e : Ac} (hm : a.mk0 = e.mk0) (hr : a.rights = e.rights) : a = e := by
  obtain ⟨aw, al, ar, ae, ag⟩ := a
  obtain ⟨ew, el, er, ee, eg⟩ := e
  simp [Ac.mk0] at hm hr ⊢
  exact ⟨hm.1, hm.2.1, hr, hm.2.2.1, hm.2.2.2⟩
/-- Putting twice is putting once. -/
theorem put_twice {l : List Ac} (h : Good l) (hl : l.length + 2 ≤ 16) {e : Ac} (hi : inR e = true) (hg : e.given = false) : putL (putL l e).1 e = ((putL l e).1, 0) := by
  obtain ⟨_, hG, hlen, hat, _⟩ := put_good h (by omega) hi hg
  generalize (putL l e).1 = b at hG hlen hat ⊢
  rcases putL_ways hG (by omega) hi hg with ⟨j, hj, hm, hr, hp⟩ | ⟨j, hj, hm, hr, hp⟩ | ⟨hn, hr, hp⟩ | ⟨hn, hr, hp⟩
  · rw [atL_mem hG.nodup (List.getElem_mem hj) hm, hr] at hat
    have := (right_iff.1 (hG.right b[j] (List.getElem_mem hj))).2.1
    omega
  · rw [hp]
    rw [atL_mem hG.nodup (List.getElem_mem hj) hm] at hat
    have : b[j] = e := ext_mark hm hat
    rw [← this, List.set_getElem_self]
  · exact hp
  · rw [atL_none hn] at hat
    exact absurd hat.symm hr
/-- What is left of a list, where only marked ones are left, has at most one entry. -/
theorem oth_nil {l : List Ac} (h : (l.map Ac.mk0).Nodup) {e : Ac} (hn : oth l e = []) : l.length ≤ 1 := by
  match l, h, hn with
  | [], _, _ => simp
  | [a], _, _ => simp
  | a :: b :: l, h, hn =>
    have hm : ∀ x ∈ a :: b :: l, x.mk0 = e.mk0 := fun x hx => by
      have := List.filter_eq_nil_iff.1 hn x hx
      rw [marked_iff] at this
      simpa using this
    rw [List.map_cons, List.map_cons, List.nodup_cons] at h
    exact absurd (by rw [hm a (by simp), hm b (by simp)]; simp) h.1
end Ap
end Go.Proofs.Ytkpedfigaofloaa
