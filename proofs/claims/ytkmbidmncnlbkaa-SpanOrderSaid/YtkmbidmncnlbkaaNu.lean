/-
  What SpanOrder needs of lists: two entries swapped, one entry once more, one entry cut in two have the same numbers.
-/
import Derived.Test.YtkmbidmncnlbkaaNl
namespace Go.Proofs.Ytkmbidmncnlbkaa
open Go.RowKit Sn
set_option maxRecDepth 100000

theorem has_set {l : List S} {i : Nat} {s t : S} (h : l[i]? = some s) (x : Int) : (hasB (l.set i t) x || inB s x) = (hasB l x || inB t x) := by
  induction l generalizing i with
  | nil => simp at h
  | cons u l ih =>
    cases i with
    | zero =>
      simp at h
      subst h
      rw [List.set_cons_zero, hasB_cons, hasB_cons]
      cases inB t x <;> cases inB u x <;> cases hasB l x <;> rfl
    | succ i =>
      simp at h
      rw [List.set_cons_succ, hasB_cons, hasB_cons, Bool.or_assoc, Bool.or_assoc, ih (by simpa using h)]
theorem has_in {l : List S} {i : Nat} {s : S} (h : l[i]? = some s) {x : Int} (hx : inB s x = true) : hasB l x = true := by
  rw [hasB_iff]
  exact ⟨s, List.mem_of_getElem? h, inB_iff.1 hx⟩
theorem has_swap {l : List S} {i k : Nat} {s t : S} (hi : l[i]? = some s) (hk : l[k]? = some t) (x : Int) : hasB ((l.set i t).set k s) x = hasB l x := by
  by_cases hik : i = k
  · subst hik
    rw [hi] at hk
    injection hk with hk
    subst hk
    rw [List.set_set]
    congr 1
    obtain ⟨h, rfl⟩ := List.getElem?_eq_some_iff.1 hi
    exact List.set_getElem_self h
  · have h1 : (l.set i t)[k]? = some t := by rw [List.getElem?_set_ne hik]; exact hk
    have e1 := has_set (t := s) h1 x
    have e2 := has_set (t := t) hi x
    have e3 : inB t x = true → hasB l x = true := has_in hk
    have e4 : inB s x = true → hasB l x = true := has_in hi
    have h2 : i < l.length := (List.getElem?_eq_some_iff.1 hi).1
    have h3 : ((l.set i t).set k s)[i]? = some t := by rw [List.getElem?_set_ne (fun e => hik e.symm), List.getElem?_set_self h2]
    have h4 : ((l.set i t).set k s)[k]? = some s := by
      have : k < (l.set i t).length := by rw [List.length_set]; exact (List.getElem?_eq_some_iff.1 hk).1
      exact List.getElem?_set_self this
    have e5 : inB t x = true → hasB ((l.set i t).set k s) x = true := has_in h3
    have e6 : inB s x = true → hasB ((l.set i t).set k s) x = true := has_in h4
    generalize hasB ((l.set i t).set k s) x = a at *
    generalize hasB (l.set i t) x = b at *
    generalize hasB l x = c at *
    generalize inB s x = p at *
    generalize inB t x = q at *
    revert e1 e2 e3 e4 e5 e6
    cases a <;> cases b <;> cases c <;> cases p <;> cases q <;> decide
theorem has_again {l : List S} {i : Nat} {s : S} (h : l[i]? = some s) (x : Int) : hasB (l ++ [s]) x = hasB l x := by
  rw [hasB_append]
  cases hs : inB s x
  · simp [hasB, hs]
  · rw [has_in h hs]; rfl
theorem has_cut {l : List S} {i : Nat} {lo hi cut : Int} (h : l[i]? = some ⟨lo, hi⟩) (h1 : lo ≤ cut) (h2 : cut ≤ hi) (x : Int) : hasB (l.set i ⟨lo, cut⟩ ++ [⟨cut, hi⟩]) x = hasB l x := by
  have e := has_set (t := ⟨lo, cut⟩) h x
  have e0 : hasB [(⟨cut, hi⟩ : S)] x = inB ⟨cut, hi⟩ x := by simp [hasB]
  rw [hasB_append, e0]
  have e1 : inB ⟨lo, hi⟩ x = (inB ⟨lo, cut⟩ x || inB ⟨cut, hi⟩ x) := by
    rw [Bool.eq_iff_iff, Bool.or_eq_true, inB_iff, inB_iff, inB_iff]
    simp only
    omega
  have hlt : i < l.length := (List.getElem?_eq_some_iff.1 h).1
  have e2 : inB ⟨lo, hi⟩ x = true → hasB l x = true := has_in h
  have e3 : inB ⟨lo, cut⟩ x = true → hasB (l.set i ⟨lo, cut⟩) x = true := has_in (List.getElem?_set_self hlt)
  generalize hasB (l.set i ⟨lo, cut⟩) x = a at *
  generalize hasB l x = c at *
  generalize inB ⟨lo, hi⟩ x = p at *
  generalize inB ⟨lo, cut⟩ x = q at *
  generalize inB ⟨cut, hi⟩ x = r at *
  revert e e1 e2 e3
  cases a <;> cases c <;> cases p <;> cases q <;> cases r <;> decide
end Go.Proofs.Ytkmbidmncnlbkaa
