/-
  Plain mathematics on lists of bytes for layer 1, fifth part: the long paths that numbers describe. No program is imported here.
-/
import Derived.Test.YtimlfdlocjfgaaaDoorPo
namespace Go.Proofs.YtimlfdlocjfgaaaDoor.Pl

def nmL : List Bs := [[97], [98], [120, 46, 121], [97, 98, 99, 100, 101, 102, 103, 104, 105, 106, 107, 108, 109, 110, 111, 112], [65, 45, 49, 95, 126], [46, 46, 46], [99, 126, 116, 114, 105, 112, 126, 48], [57]]
/-- The name that a number describes. -/
def nm (c : UInt8) : Bs := nmL.getD (c.toNat % 8) []
def longS (l : List UInt8) : Bs := jn ((l.take 10).map nm)
theorem nm_mem (c : UInt8) : nm c ∈ nmL := by
  unfold nm
  have h : c.toNat % 8 < nmL.length := Nat.mod_lt _ (by decide)
  rw [List.getD_eq_getElem?_getD, List.getElem?_eq_getElem h]
  exact List.getElem_mem h
theorem nmL_ok : ∀ x ∈ nmL, vld x = true ∧ x.length ≤ 16 ∧ x ≠ [] ∧ 47 ∉ x := by decide
theorem nm_vld (c : UInt8) : vld (nm c) = true := (nmL_ok _ (nm_mem c)).1
theorem nm_len (c : UInt8) : (nm c).length ≤ 16 := (nmL_ok _ (nm_mem c)).2.1
theorem nm_ne (c : UInt8) : nm c ≠ [] := (nmL_ok _ (nm_mem c)).2.2.1
theorem nm_47 (c : UInt8) : 47 ∉ nm c := (nmL_ok _ (nm_mem c)).2.2.2
theorem jn_snoc (l : List Bs) (a : Bs) (hl : l ≠ []) : jn (l ++ [a]) = jn l ++ 47 :: a := by
  induction l with
  | nil => exact absurd rfl hl
  | cons b r ih =>
    by_cases hr : r = []
    · subst hr; rfl
    · rw [List.cons_append, jn_cons _ (by simp), ih hr, jn_cons _ hr]; simp
theorem long_step {l : List UInt8} {k : Nat} (h : k < l.length) : jn ((l.take (k + 1)).map nm) = if k = 0 then nm l[k] else jn ((l.take k).map nm) ++ 47 :: nm l[k] := by
  rw [List.take_succ_eq_append_getElem h, List.map_append]
  split
  · rename_i h0; subst h0; rfl
  · rename_i h0
    exact jn_snoc _ _ (fun e => by
      have := congrArg List.length e
      rw [List.length_map, List.length_take, List.length_nil] at this
      omega)
/-- The parts of a long path. -/
theorem cut_long (l : List UInt8) : cut (longS l) = (l.take 10).map nm := by
  by_cases h : (l.take 10).map nm = []
  · unfold longS; rw [h]; rfl
  · have hne : longS l ≠ [] := by
      intro e
      have hj : ∀ (m : List Bs), m ≠ [] → (∀ x ∈ m, x ≠ []) → jn m ≠ [] := by
        intro m hm hx
        match m, hm, hx with
        | [a], _, hx => simpa [jn] using hx a (by simp)
        | a :: b :: r, _, _ => simp [jn]
      exact hj _ h (by intro x hx; obtain ⟨c, _, rfl⟩ := List.mem_map.1 hx; exact nm_ne c) e
    rw [← cutGo_cut hne]
    exact cutGo_jn _ h (by intro x hx; obtain ⟨c, _, rfl⟩ := List.mem_map.1 hx; exact nm_47 c)
theorem isPath_long (l : List UInt8) : isPath (longS l) = decide ((l.take 10).length ≤ 8) := by
  unfold isPath
  rw [cut_long]
  have : ((l.take 10).map nm).all vld = true := by
    rw [List.all_eq_true]; intro x hx; obtain ⟨c, _, rfl⟩ := List.mem_map.1 hx; exact nm_vld c
  rw [this, List.length_map, Bool.true_and]
theorem jn_len : ∀ (m : List Bs), (∀ x ∈ m, x.length ≤ 16) → (jn m).length ≤ 17 * m.length
  | [], _ => by simp [jn]
  | [a], h => by have := h a (by simp); simp [jn]; omega
  | a :: b :: r, h => by
    have h1 := h a (by simp)
    have h2 := jn_len (b :: r) (fun x hx => h x (List.mem_cons_of_mem _ hx))
    simp [jn] at *
    omega
theorem long_len (l : List UInt8) : (longS l).length ≤ 170 := by
  unfold longS
  have h := jn_len ((l.take 10).map nm) (by intro x hx; obtain ⟨c, _, rfl⟩ := List.mem_map.1 hx; exact nm_len c)
  rw [List.length_map, List.length_take] at h
  omega

end Go.Proofs.YtimlfdlocjfgaaaDoor.Pl
