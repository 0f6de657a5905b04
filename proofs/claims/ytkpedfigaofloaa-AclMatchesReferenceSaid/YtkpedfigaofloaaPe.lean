/-
  Plain facts of own and given entries, of the children's lists, and of lists that numbers describe.
-/
import Derived.Test.YtkpedfigaofloaaAu
namespace Go.Proofs.Ytkpedfigaofloaa
open Ap
theorem ownL_append (l m : List Ac) (g : Bool) : ownL (l ++ m) g = ownL l g ++ ownL m g := by simp [ownL]
theorem ownL_all {l : List Ac} {g : Bool} (h : ∀ a ∈ l, a.given = g) : ownL l g = l := by
  unfold ownL
  rw [List.filter_eq_self]
  intro a ha
  simp [h a ha]
theorem ownL_none {l : List Ac} {g : Bool} (h : ∀ a ∈ l, a.given ≠ g) : ownL l g = [] := by
  unfold ownL
  rw [List.filter_eq_nil_iff]
  intro a ha
  simp [h a ha]
theorem ownL_mem {l : List Ac} {g : Bool} {a : Ac} : a ∈ ownL l g ↔ a ∈ l ∧ a.given = g := by simp [ownL]
theorem addC_all {p : Ac → Prop} {out : List Ac} {e : Ac} (hp : ∀ a b, p a → p (a.join b)) (h : ∀ a ∈ out, p a) (he : p e) : ∀ a ∈ addC out e, p a := by
  unfold addC
  split
  · intro a ha
    obtain ⟨b, hb, rfl⟩ := List.mem_map.1 ha
    split
    · exact hp _ _ (h b hb)
    · exact h b hb
  · intro a ha
    rcases List.mem_append.1 ha with h1 | h1
    · exact h a h1
    · simp at h1; rw [h1]; exact he
theorem foldC_all {p : Ac → Prop} (rc : Int) (hp : ∀ a b, p a → p (a.join b)) (l : List Ac) (ht : ∀ a ∈ l, p (toC rc a)) : ∀ out : List Ac, (∀ a ∈ out, p a) → ∀ a ∈ l.foldl (stepC rc) out, p a := by
  induction l with
  | nil => exact fun _ h => h
  | cons b l ih =>
    intro out h
    refine ih (fun a ha => ht a (List.mem_cons_of_mem _ ha)) _ ?_
    unfold stepC
    split
    · exact addC_all hp h (ht b (List.mem_cons_self ..))
    · exact h
theorem childL_given (l : List Ac) (rc : Int) : ∀ a ∈ childL l rc, a.given = true ∧ a.reach = rc :=
  foldC_all (p := fun a => a.given = true ∧ a.reach = rc) rc (fun _ _ h => h) l (fun _ _ => ⟨rfl, rfl⟩) [] (by simp)

theorem again_own (l d : List Ac) (isDir : Bool) : ownL (againL l d isDir) false = ownL l false := by
  unfold againL
  rw [ownL_append, ownL_all (fun a ha => (ownL_mem.1 ha).2), ownL_none (l := childL d (rcOf isDir)) (fun a ha => by rw [(childL_given d _ a ha).1]; simp), List.append_nil]
theorem again_given (l d : List Ac) (isDir : Bool) : ownL (againL l d isDir) true = childL d (rcOf isDir) := by
  unfold againL
  rw [ownL_append, ownL_none (l := ownL l false) (fun a ha => by rw [(ownL_mem.1 ha).2]; simp), ownL_all (fun a ha => (childL_given d _ a ha).1), List.nil_append]
theorem again_twice (l d : List Ac) (isDir : Bool) : againL (againL l d isDir) d isDir = againL l d isDir := by
  show ownL (againL l d isDir) false ++ childL d (rcOf isDir) = againL l d isDir
  rw [again_own]; rfl
theorem again_nil (l : List Ac) (isDir : Bool) : againL l [] isDir = ownL l false := by
  show ownL l false ++ childL [] (rcOf isDir) = ownL l false
  simp [childL]

theorem foldT_len (l : List Tri) : ∀ out : List Ac, (l.foldl stepT out).length ≤ out.length + l.length := by
  induction l with
  | nil => intro out; simp
  | cons a l ih =>
    intro out
    have h1 := ih (stepT out a)
    have h2 : (stepT out a).length ≤ out.length + 1 := by unfold stepT; split <;> simp
    simp only [List.foldl_cons, List.length_cons]
    omega
theorem own_parts (l : List Ac) : (ownL l false).length + (ownL l true).length = l.length := by
  induction l with
  | nil => rfl
  | cons a l ih =>
    cases hg : a.given
    · have h1 : ownL (a :: l) false = a :: ownL l false := by simp [ownL, hg]
      have h2 : ownL (a :: l) true = ownL l true := by simp [ownL, hg]
      rw [h1, h2, List.length_cons, List.length_cons]; omega
    · have h1 : ownL (a :: l) true = a :: ownL l true := by simp [ownL, hg]
      have h2 : ownL (a :: l) false = ownL l false := by simp [ownL, hg]
      rw [h1, h2, List.length_cons, List.length_cons]; omega
theorem listL_len (l : List Tri) : (listL l).length ≤ 12 := by
  unfold listL
  rw [List.length_append, own_parts]
  have := foldT_len (l.take 12) []
  rw [List.length_take] at this
  simp only [List.length_nil, Nat.zero_add] at this
  unfold rawT
  omega
theorem foldT_all {p : Ac → Prop} (hp : ∀ x y z, p (aceOf x y z)) (l : List Tri) : ∀ out : List Ac, (∀ a ∈ out, p a) → ∀ a ∈ l.foldl stepT out, p a := by
  induction l with
  | nil => exact fun _ h => h
  | cons b l ih =>
    intro out h
    refine ih _ ?_
    unfold stepT
    split
    · intro a ha
      rcases List.mem_append.1 ha with h1 | h1
      · exact h a h1
      · simp at h1; rw [h1]; exact hp _ _ _
    · exact h
theorem listL_right (l : List Tri) : ∀ a ∈ listL l, right a = true := by
  intro a ha
  have h := foldT_all (p := fun a => right a = true) (fun x y z => aceOf_right x y z) (l.take 12) [] (by simp)
  rcases List.mem_append.1 ha with h1 | h1
  · exact h a (ownL_mem.1 h1).1
  · exact h a (ownL_mem.1 h1).1
theorem listL_ok (l : List Tri) : ∀ a ∈ listL l, a.ok := fun a ha => right_ok (listL_right l a ha)
end Go.Proofs.Ytkpedfigaofloaa
