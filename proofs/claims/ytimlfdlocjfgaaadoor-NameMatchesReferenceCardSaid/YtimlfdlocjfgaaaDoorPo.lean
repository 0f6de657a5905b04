/-
  Plain mathematics on lists of bytes for layer 1, fourth part: a text is its parts joined again; its directory and its last name. No program is imported here.
-/
import Derived.Test.YtimlfdlocjfgaaaDoorPn
namespace Go.Proofs.YtimlfdlocjfgaaaDoor.Pl

/-- Texts joined by slashes. -/
def jn : List Bs → Bs
  | [] => []
  | [a] => a
  | a :: b :: r => a ++ 47 :: jn (b :: r)
theorem jn_cons (a : Bs) {l : List Bs} (h : l ≠ []) : jn (a :: l) = a ++ 47 :: jn l := by
  cases l with
  | nil => exact absurd rfl h
  | cons b r => rfl
theorem cutGo_ne (r : Bs) : ∀ last : Bs, cutGo last r ≠ [] := by
  induction r with
  | nil => intro last; simp [cutGo]
  | cons b l ih => intro last; unfold cutGo; split; simp; exact ih _
theorem jn_cutGo (r : Bs) : ∀ last : Bs, jn (cutGo last r) = last ++ r := by
  induction r with
  | nil => intro last; simp [cutGo, jn]
  | cons b l ih =>
    intro last
    unfold cutGo
    split
    · rename_i h; rw [jn_cons _ (cutGo_ne l []), ih, h]; rfl
    · rw [ih]; simp
theorem jn_cut (p : Bs) : jn (cut p) = p := by
  unfold cut
  split
  · rename_i h; rw [h]; rfl
  · rw [jn_cutGo]; rfl
theorem cutGo_app (a b : Bs) : ∀ last : Bs, cutGo last (a ++ 47 :: b) = cutGo last a ++ cutGo [] b := by
  induction a with
  | nil => intro last; simp [cutGo]
  | cons c l ih =>
    intro last
    rw [List.cons_append, cutGo, cutGo]
    split
    · rw [ih]; rfl
    · rw [ih]
theorem cutGo_none (b : Bs) : ∀ last : Bs, 47 ∉ b → cutGo last b = [last ++ b] := by
  induction b with
  | nil => intro last _; simp [cutGo]
  | cons c l ih =>
    intro last h
    have hc : c ≠ 47 := fun e => h (by rw [e]; exact List.mem_cons_self ..)
    rw [cutGo, if_neg hc, ih _ (fun hm => h (List.mem_cons_of_mem _ hm))]
    simp
theorem cutGo_mem (r : Bs) : ∀ last : Bs, 47 ∉ last → ∀ x ∈ cutGo last r, 47 ∉ x := by
  induction r with
  | nil => intro last h x hx; simp [cutGo] at hx; rw [hx]; exact h
  | cons b l ih =>
    intro last h x hx
    unfold cutGo at hx
    split at hx
    · rcases List.mem_cons.1 hx with rfl | hx
      · exact h
      · exact ih [] (by simp) x hx
    · rename_i hb
      exact ih (last ++ [b]) (by simp [h]; exact fun e => hb e.symm) x hx
theorem cut_mem {p x : Bs} (hx : x ∈ cut p) : 47 ∉ x := by
  unfold cut at hx
  split at hx
  · cases hx
  · exact cutGo_mem p [] (by simp) x hx
theorem cutGo_jn : ∀ (l : List Bs), l ≠ [] → (∀ x ∈ l, 47 ∉ x) → cutGo [] (jn l) = l
  | [], h, _ => absurd rfl h
  | [a], _, hm => by rw [jn, cutGo_none a [] (hm a (by simp))]; rfl
  | a :: b :: r, _, hm => by
    rw [jn, cutGo_app, cutGo_none a [] (hm a (by simp)), cutGo_jn (b :: r) (by simp) (fun x hx => hm x (List.mem_cons_of_mem _ hx))]
    rfl
theorem cut_eq_nil {p : Bs} : cut p = [] ↔ p = [] := by
  unfold cut
  split
  · rename_i h; simp [h]
  · rename_i h; simp [h, cutGo_ne]

theorem cutGo_mem_len (r : Bs) : ∀ last : Bs, ∀ x ∈ cutGo last r, x.length ≤ last.length + r.length := by
  induction r with
  | nil => intro last x hx; simp [cutGo] at hx; rw [hx]; simp
  | cons b l ih =>
    intro last x hx
    unfold cutGo at hx
    split at hx
    · rcases List.mem_cons.1 hx with rfl | hx
      · omega
      · have := ih [] x hx; simp at this ⊢; omega
    · have := ih (last ++ [b]) x hx
      simp at this ⊢; omega
theorem cut_mem_len {p : Bs} : ∀ x ∈ cut p, x.length ≤ p.length := by
  intro x hx
  unfold cut at hx
  split at hx
  · cases hx
  · have := cutGo_mem_len p [] x hx; simpa using this

/-- The directory and the last name of a text. -/
def dirOf (p : Bs) : Bs := jn (cut p).dropLast
def lastOf (p : Bs) : Bs := (cut p).getLastD []
theorem split_at {a b p : Bs} (h : p = a ++ 47 :: b) (hb : 47 ∉ b) : dirOf p = a ∧ lastOf p = b := by
  have hp : p ≠ [] := by rw [h]; simp
  have e : cut p = cutGo [] a ++ [b] := by rw [← cutGo_cut hp, h, cutGo_app, cutGo_none b [] hb]; rfl
  refine ⟨?_, ?_⟩
  · unfold dirOf; rw [e, List.dropLast_concat, jn_cutGo]; rfl
  · unfold lastOf; rw [e]; simp
theorem split_none {p : Bs} (hp : p ≠ []) (h : 47 ∉ p) : dirOf p = [] ∧ lastOf p = p := by
  have e : cut p = [p] := by rw [← cutGo_cut hp, cutGo_none p [] h]; rfl
  refine ⟨?_, ?_⟩
  · unfold dirOf; rw [e]; rfl
  · unfold lastOf; rw [e]; rfl
/-- A text that is not empty is its last name, or its directory, a slash and its last name. -/
theorem split_form {p : Bs} (hp : p ≠ []) : (cut p = [p] ∧ dirOf p = [] ∧ lastOf p = p) ∨ (∃ l, l ≠ [] ∧ cut p = l ++ [lastOf p] ∧ dirOf p = jn l ∧ p = dirOf p ++ 47 :: lastOf p) := by
  have hc : cut p ≠ [] := fun e => hp (cut_eq_nil.1 e)
  have e : cut p = (cut p).dropLast ++ [(cut p).getLast hc] := (List.dropLast_concat_getLast hc).symm
  have el : lastOf p = (cut p).getLast hc := by unfold lastOf; rw [List.getLastD_eq_getLast?, List.getLast?_eq_some_getLast hc]; rfl
  by_cases hd : (cut p).dropLast = []
  · have e1 : cut p = [(cut p).getLast hc] := by rw [hd] at e; simpa using e
    have e2 : p = (cut p).getLast hc := by have := jn_cut p; rw [e1] at this; exact this.symm
    refine .inl ⟨by rw [e1]; congr 1; exact e2.symm, by unfold dirOf; rw [hd]; rfl, by rw [el]; exact e2.symm⟩
  · refine .inr ⟨(cut p).dropLast, hd, by rw [el]; exact e, rfl, ?_⟩
    have hj : ∀ (l : List Bs) (a : Bs), l ≠ [] → jn (l ++ [a]) = jn l ++ 47 :: a := by
      intro l a hl
      induction l with
      | nil => exact absurd rfl hl
      | cons b r ih =>
        by_cases hr : r = []
        · subst hr; rfl
        · rw [List.cons_append, jn_cons _ (by simp), ih hr, jn_cons _ hr]; simp
    rw [el]
    unfold dirOf
    rw [← hj _ _ hd, ← e, jn_cut]
theorem vld_ne {x : Bs} (h : vld x = true) : x ≠ [] := by rintro rfl; exact absurd h (by decide)
theorem isPath_mem {p x : Bs} (h : isPath p = true) (hx : x ∈ cut p) : vld x = true := by
  simp only [isPath, Bool.and_eq_true] at h
  exact List.all_eq_true.1 h.1 x hx
theorem isPath_len {p : Bs} (h : isPath p = true) : (cut p).length ≤ 8 := by
  simp only [isPath, Bool.and_eq_true, decide_eq_true_eq] at h
  exact h.2
/-- What the program cuts off the end of a path. -/
theorem trim_dir {p : Bs} (hp : p ≠ []) (_ : isPath p = true) : Lib.trimSuffix (p.take (p.length - (lastOf p).length)) [47] = dirOf p := by
  rcases split_form hp with ⟨_, hd, hl⟩ | ⟨l, _, _, _, hpe⟩
  · rw [hd, hl]; simp [Lib.trimSuffix, Lib.hasSuffix, List.isSuffixOf]
  · have e : p.take (p.length - (lastOf p).length) = dirOf p ++ [47] := by
      obtain ⟨d, hd⟩ : ∃ d, dirOf p = d := ⟨_, rfl⟩
      obtain ⟨a, ha⟩ : ∃ a, lastOf p = a := ⟨_, rfl⟩
      rw [hd, ha] at hpe ⊢
      have : p = (d ++ [47]) ++ a := by rw [hpe]; simp
      rw [this]
      exact List.take_left' (by simp; omega)
    rw [e]
    have hs : Lib.hasSuffix (dirOf p ++ [47]) [47] = true := by simp [Lib.hasSuffix]
    unfold Lib.trimSuffix
    rw [if_pos hs]
    simp

/-- Joining, splitting and reading, as the chapter says them: the texts and the number of the error. -/
def joinS (d n : Bs) : Bs × Int := if isPath d = false then ([], 10) else if vld n = false then ([], 11) else if (cut d).length = 8 then ([], 2) else (under d n, 0)
def splitS (p : Bs) : Bs × Bs × Int := if isPath p = false then ([], [], 10) else if p = [] then ([], [], 1) else (dirOf p, lastOf p, 0)
def parseS (s : Bs) : Bs × Int := if Lib.hasPrefix s [47] = true ∧ isPath (s.drop 1) = true then (s.drop 1, 0) else ([], 3)

end Go.Proofs.YtimlfdlocjfgaaaDoor.Pl
