/-
  Plain mathematics on lists of bytes for layer 1, seventh part: a path is made of its parts again, one by one; joining and splitting. No program is imported here.
-/
import Derived.Test.YtdjiiemimbdklaaDoorPq
namespace Go.Proofs.YtdjiiemimbdklaaDoor.Pl

theorem vld_47 {x : Bs} (h : vld x = true) : 47 ∉ x := by
  intro hm
  simp only [vld, Bool.and_eq_true] at h
  have := List.all_eq_true.1 h.2 _ hm
  exact absurd this (by decide)
theorem jn_ne {m : List Bs} (hm : m ≠ []) (hx : ∀ x ∈ m, x ≠ []) : jn m ≠ [] := by
  match m, hm, hx with
  | [a], _, hx => simpa [jn] using hx a (by simp)
  | a :: b :: r, _, _ => simp [jn]
theorem cut_jn {m : List Bs} (hx : ∀ x ∈ m, vld x = true) : cut (jn m) = m := by
  by_cases h : m = []
  · subst h; rfl
  · have hne := jn_ne h (fun x hm => vld_ne (hx x hm))
    rw [← cutGo_cut hne]
    exact cutGo_jn m h (fun x hm => vld_47 (hx x hm))
theorem isPath_jn {m : List Bs} (hx : ∀ x ∈ m, vld x = true) : isPath (jn m) = decide (m.length ≤ 8) := by
  unfold isPath
  rw [cut_jn hx]
  have : m.all vld = true := List.all_eq_true.2 hx
  rw [this, Bool.true_and]
theorem jn_take_succ {m : List Bs} {k : Nat} (hk : k < m.length) (hx : ∀ x ∈ m, vld x = true) : jn (m.take (k + 1)) = under (jn (m.take k)) m[k] := by
  rw [List.take_succ_eq_append_getElem hk]
  by_cases h : m.take k = []
  · rw [h]; simp [jn, under]
  · rw [jn_snoc _ _ h]
    unfold under
    rw [if_neg (jn_ne h (fun x hm => vld_ne (hx x (List.mem_of_mem_take hm))))]
/-- One part more is joined. -/
theorem join_part {m : List Bs} {k : Nat} (hk : k < m.length) (h8 : m.length ≤ 8) (hx : ∀ x ∈ m, vld x = true) : joinS (jn (m.take k)) m[k] = (jn (m.take (k + 1)), 0) := by
  have hx' : ∀ x ∈ m.take k, vld x = true := fun x hm => hx x (List.mem_of_mem_take hm)
  have hp : isPath (jn (m.take k)) = true := by
    rw [isPath_jn hx']; simp; omega
  have hv : vld m[k] = true := hx _ (List.getElem_mem hk)
  unfold joinS
  rw [if_neg (by rw [hp]; simp), if_neg (by rw [hv]; simp), cut_jn hx', if_neg (by rw [List.length_take]; omega), jn_take_succ hk hx]
theorem jn_take_len {m : List Bs} (k : Nat) (h8 : m.length ≤ 8) (hx : ∀ x ∈ m, vld x = true) : (jn (m.take k)).length ≤ 136 := by
  have h := jn_len (m.take k) (fun x hm => vld_len (hx x (List.mem_of_mem_take hm)))
  rw [List.length_take] at h
  omega
theorem long_ne {l : List UInt8} (h : l ≠ []) : longS l ≠ [] := by
  unfold longS
  refine jn_ne (fun e => ?_) (fun x hx => by obtain ⟨c, _, rfl⟩ := List.mem_map.1 hx; exact nm_ne c)
  have := congrArg List.length e
  rw [List.length_map, List.length_take, List.length_nil] at this
  have : 0 < l.length := List.length_pos_iff.2 h
  omega

end Go.Proofs.YtdjiiemimbdklaaDoor.Pl
