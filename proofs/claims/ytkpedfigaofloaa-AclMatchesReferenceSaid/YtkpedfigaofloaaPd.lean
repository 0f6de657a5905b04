/-
  Plain facts of merging: the rights of each mark of a list, the marks of two lists, what becomes of them.
-/
import Derived.Test.YtkpedfigaofloaaPc
namespace Go.Proofs.Ytkpedfigaofloaa
namespace Ap
def stepO (F : Ac → Option Int) (e : Ac) : Ac → Option Int := fun x => if x = e.mk0 then some e.rights else F x
def rOf (l : List Ac) : Ac → Option Int := l.foldl stepO (fun _ => none)
theorem rOf_snoc (l : List Ac) (e : Ac) : rOf (l ++ [e]) = stepO (rOf l) e := by simp [rOf]
def rAt (l : List Ac) (x : Ac) : Int := (rOf l x).getD 0
/-- The marks, each once, in their order. -/
def addM (out : List Ac) (e : Ac) : List Ac := if e.mk0 ∈ out then out else out ++ [e.mk0]
def marksL (l : List Ac) : List Ac := l.foldl addM []
theorem marksL_snoc (l : List Ac) (e : Ac) : marksL (l ++ [e]) = addM (marksL l) e := by simp [marksL]
theorem marksL_append (l m : List Ac) : marksL (l ++ m) = m.foldl addM (marksL l) := by simp [marksL]
theorem addM_len (out : List Ac) (e : Ac) : (addM out e).length ≤ out.length + 1 := by unfold addM; split <;> simp
theorem foldM_len (l : List Ac) : ∀ out : List Ac, (l.foldl addM out).length ≤ out.length + l.length := by
  induction l with
  | nil => intro out; simp
  | cons a l ih =>
    intro out
    have h1 := ih (addM out a)
    have h2 := addM_len out a
    simp only [List.foldl_cons, List.length_cons]
    omega
theorem marksL_len (l : List Ac) : (marksL l).length ≤ l.length := by have := foldM_len l []; simpa [marksL] using this
theorem foldM_ok (l : List Ac) (h : ∀ a ∈ l, a.ok) : ∀ out : List Ac, (∀ a ∈ out, a.ok ∧ a.mk0 = a) → ∀ a ∈ l.foldl addM out, a.ok ∧ a.mk0 = a := by
  induction l with
  | nil => intro out ho; exact ho
  | cons b l ih =>
    intro out ho
    refine ih (fun a ha => h a (List.mem_cons_of_mem _ ha)) _ ?_
    unfold addM
    split
    · exact ho
    · intro a ha
      rcases List.mem_append.1 ha with ha | ha
      · exact ho a ha
      · simp at ha; subst ha; exact ⟨Ac.ok0 (h b (List.mem_cons_self ..)), rfl⟩
theorem marksL_ok {l : List Ac} (h : ∀ a ∈ l, a.ok) : ∀ a ∈ marksL l, a.ok ∧ a.mk0 = a := foldM_ok l h [] (by simp)
/-- The first k of two lists, one behind the other. -/
def twoL (a b : List Ac) : Nat → List Ac
  | 0 => []
  | 1 => a
  | _ => a ++ b
/-- The marks are gone through: what the result has of its own, and given; or a clash. -/
def mergeGo (rb rm rt : Ac → Int) : List Ac → List Ac → List Ac → Option (List Ac × List Ac)
  | [], o, g => some (o, g)
  | k :: ks, o, g =>
    if (outc (rb k) (rm k) (rt k)).2 = false then none
    else if (outc (rb k) (rm k) (rt k)).1 = 0 then mergeGo rb rm rt ks o g
    else if k.given = true then mergeGo rb rm rt ks o (g ++ [k.put (outc (rb k) (rm k) (rt k)).1])
    else mergeGo rb rm rt ks (o ++ [k.put (outc (rb k) (rm k) (rt k)).1]) g
def mergeM (base mine theirs : List Ac) : List Ac × Bool :=
  match mergeGo (rAt base) (rAt mine) (rAt theirs) (marksL (mine ++ theirs)) [] [] with
  | none => ([], false)
  | some (o, g) => if 16 < o.length + g.length then ([], false) else (o ++ g, true)
def mergeS (base mine theirs : List Ac) : List Ac × Bool :=
  if mine = base then (theirs, true) else if theirs = base ∨ mine = theirs then (mine, true) else mergeM base mine theirs
end Ap
end Go.Proofs.Ytkpedfigaofloaa
