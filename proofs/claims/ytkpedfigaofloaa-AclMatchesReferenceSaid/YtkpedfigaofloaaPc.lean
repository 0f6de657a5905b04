/-
  Plain facts of the lists of children: entries are added one by one, those of one mark are joined.
-/
import Derived.Test.YtkpedfigaofloaaPb
namespace Go.Proofs.Ytkpedfigaofloaa
namespace Ap
def Ac.join (a e : Ac) : Ac := a.put (bv a.rights ||| bv e.rights).toInt
/-- An entry is added: joined to the one of its mark, or put at the end. -/
def addC (out : List Ac) (e : Ac) : List Ac := if e.mk0 ∈ out.map Ac.mk0 then out.map (fun a => if a.mk0 = e.mk0 then a.join e else a) else out ++ [e]
def toC (rc : Int) (e : Ac) : Ac := { e with reach := rc, given := true }
def stepC (rc : Int) (out : List Ac) (e : Ac) : List Ac := if e.reach = 2 ∨ e.reach = 3 then addC out (toC rc e) else out
def childL (l : List Ac) (rc : Int) : List Ac := l.foldl (stepC rc) []
def rcOf (dir : Bool) : Int := if dir = true then 2 else 1
theorem childL_snoc (l : List Ac) (e : Ac) (rc : Int) : childL (l ++ [e]) rc = stepC rc (childL l rc) e := by simp [childL]
theorem join_mk0 (a e : Ac) : (a.join e).mk0 = a.mk0 := rfl
theorem addC_marks (out : List Ac) (e : Ac) : (addC out e).map Ac.mk0 = if e.mk0 ∈ out.map Ac.mk0 then out.map Ac.mk0 else out.map Ac.mk0 ++ [e.mk0] := by
  unfold addC
  split
  · rw [List.map_map]
    apply List.map_congr_left
    intro a _
    simp only [Function.comp]
    split
    · rw [join_mk0]
    · rfl
  · simp
theorem addC_nodup {out : List Ac} {e : Ac} (h : (out.map Ac.mk0).Nodup) : ((addC out e).map Ac.mk0).Nodup := by
  rw [addC_marks]
  split
  · exact h
  · rename_i hn
    exact List.nodup_append.2 ⟨h, by simp, fun a ha b hb => by simp at hb; subst hb; exact fun e => hn (e ▸ ha)⟩
theorem addC_len (out : List Ac) (e : Ac) : (addC out e).length ≤ out.length + 1 := by
  unfold addC; split <;> simp
theorem childL_nodup (l : List Ac) (rc : Int) : ((childL l rc).map Ac.mk0).Nodup := by
  suffices h : ∀ (l : List Ac) (out : List Ac), (out.map Ac.mk0).Nodup → ((l.foldl (stepC rc) out).map Ac.mk0).Nodup from h l [] (by simp)
  intro l
  induction l with
  | nil => exact fun _ h => h
  | cons a l ih =>
    intro out h
    refine ih _ ?_
    unfold stepC
    split
    · exact addC_nodup h
    · exact h
theorem childL_len (l : List Ac) (rc : Int) : (childL l rc).length ≤ l.length := by
  suffices h : ∀ (l : List Ac) (out : List Ac), (l.foldl (stepC rc) out).length ≤ out.length + l.length by simpa [childL] using h l []
  intro l
  induction l with
  | nil => intro out; simp
  | cons a l ih =>
    intro out
    have h1 := ih (stepC rc out a)
    have h2 : (stepC rc out a).length ≤ out.length + 1 := by
      unfold stepC
      split
      · exact addC_len _ _
      · omega
    simp only [List.foldl_cons, List.length_cons]
    omega

/-- The place of a mark in a list. -/
def placeN (out : List Ac) (m : Ac) : Option Nat := out.findIdx? (fun a => decide (a.mk0 = m))
def placeI (out : List Ac) (m : Ac) : Option Int := (placeN out m).map Int.ofNat
theorem placeN_map {out : List Ac} {f : Ac → Ac} (hf : ∀ a, (f a).mk0 = a.mk0) (m : Ac) : placeN (out.map f) m = placeN out m := by
  unfold placeN
  rw [List.findIdx?_map]
  congr 1
  funext a
  simp [Function.comp, hf]
theorem placeN_none {out : List Ac} {m : Ac} : placeN out m = none ↔ m ∉ out.map Ac.mk0 := by
  unfold placeN
  rw [List.findIdx?_eq_none_iff]
  simp only [decide_eq_false_iff_not, List.mem_map, not_exists, not_and]
theorem placeN_some {out : List Ac} {m : Ac} {i : Nat} (h : placeN out m = some i) : ∃ hi : i < out.length, out[i].mk0 = m := by
  unfold placeN at h
  obtain ⟨hi, h1, _⟩ := List.findIdx?_eq_some_iff_getElem.1 h
  exact ⟨hi, by simpa using h1⟩
theorem placeN_snoc (out : List Ac) (e : Ac) (h : e.mk0 ∉ out.map Ac.mk0) (m : Ac) : placeN (out ++ [e]) m = if m = e.mk0 then some out.length else placeN out m := by
  unfold placeN
  rw [List.findIdx?_append]
  by_cases hm : m = e.mk0
  · subst hm
    have : List.findIdx? (fun a => decide (a.mk0 = e.mk0)) out = none := placeN_none.2 h
    rw [this]; simp
  · rw [if_neg hm]
    have : List.findIdx? (fun a => decide (a.mk0 = m)) [e] = none := by
      rw [List.findIdx?_eq_none_iff]
      intro x hx
      simp at hx; subst hx
      simpa using fun h => hm h.symm
    rw [this]; simp
/-- With different marks, joining is a change at one place. -/
theorem addC_set {out : List Ac} (hd : (out.map Ac.mk0).Nodup) {e : Ac} {i : Nat} (hi : i < out.length) (he : out[i].mk0 = e.mk0) : addC out e = out.set i (out[i].join e) := by
  unfold addC
  rw [if_pos (List.mem_map.2 ⟨out[i], List.getElem_mem hi, he⟩)]
  apply List.ext_getElem
  · simp
  · intro j h1 h2
    simp only [List.getElem_map, List.getElem_set]
    have hj : j < out.length := by simpa using h1
    by_cases hij : i = j
    · subst hij; rw [if_pos he, if_pos rfl]
    · rw [if_neg hij, if_neg]
      intro e'
      have h3 := (List.getElem_inj (h₀ := by simpa using hi) (h₁ := by simpa using hj) hd).1 (show (out.map Ac.mk0)[i]'(by simpa using hi) = (out.map Ac.mk0)[j]'(by simpa using hj) by simp [he, e'])
      exact hij h3
theorem addC_new {out : List Ac} {e : Ac} (h : e.mk0 ∉ out.map Ac.mk0) : addC out e = out ++ [e] := by unfold addC; rw [if_neg h]
theorem placeN_addC {out : List Ac} {e : Ac} (h : e.mk0 ∈ out.map Ac.mk0) (m : Ac) : placeN (addC out e) m = placeN out m := by
  unfold addC
  rw [if_pos h]
  refine placeN_map (fun a => ?_) m
  split
  · rfl
  · rfl
end Ap
end Go.Proofs.Ytkpedfigaofloaa
