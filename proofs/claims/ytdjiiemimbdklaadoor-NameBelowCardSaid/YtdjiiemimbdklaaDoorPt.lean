/-
  Plain facts of swapping the beginning of a path, there and back.
-/
import Derived.Test.YtdjiiemimbdklaaDoorPs
namespace Go.Proofs.YtdjiiemimbdklaaDoor.Pl
open Go.Proofs.YtdjiiemimbdklaaDoor

theorem long_end {l : List UInt8} {a : Bs} (h : longS l = a ++ [47]) : False := by
  have h1 := cut_long l
  rw [h] at h1
  have h2 : cut (a ++ [47]) = cutGo [] a ++ [[]] := by
    unfold cut
    rw [if_neg (by simp)]
    exact cutGo_app a [] []
  rw [h2] at h1
  have h3 : ([] : Bs) ∈ (l.take 10).map nm := by rw [← h1]; simp
  obtain ⟨c, _, hc⟩ := List.mem_map.1 h3
  exact nm_ne c hc

theorem below_pre {q f : Bs} (h : belowB q f = true) (hn : q ≠ f) (hf : f ≠ []) : ∃ r, q = f ++ 47 :: r := by
  unfold belowB at h
  rw [beq_eq_false_iff_ne.2 hn, beq_eq_false_iff_ne.2 hf] at h
  have h' : (f ++ [47]) <+: q := List.isPrefixOf_iff_prefix.1 (by simpa using h)
  obtain ⟨r, hr⟩ := h'
  exact ⟨r, by rw [← hr]; simp⟩
theorem below_app (t r : Bs) : belowB (t ++ 47 :: r) t = true := by
  unfold belowB
  have : (t ++ [47]) <+: (t ++ 47 :: r) := ⟨r, by simp⟩
  rw [List.isPrefixOf_iff_prefix.2 this]; simp
theorem below_nil (p : Bs) : belowB p [] = true := by unfold belowB; simp
theorem below_refl (p : Bs) : belowB p p = true := by unfold belowB; simp
theorem below_under (t r : Bs) : belowB (under t r) t = true := by
  unfold under
  split
  · next h => rw [h]; exact below_nil _
  · exact below_app t r
/-- Out of a path below t, back. -/
theorem swapS_under (t f r : Bs) (hr : r ≠ []) : swapS (under t r) t f = under f r := by
  unfold under swapS
  by_cases ht : t = []
  · subst ht
    rw [if_pos rfl, if_neg hr, if_pos rfl]; rfl
  · rw [if_neg ht, if_neg (by intro e; have := congrArg List.length e; simp at this), if_neg ht]
    have hd : (t ++ 47 :: r).drop (t.length + 1) = r := by
      rw [show t ++ 47 :: r = (t ++ [47]) ++ r by simp]
      exact List.drop_left' (by simp)
    rw [hd]; rfl
theorem swap_back {q f t : Bs} (h : belowB q f = true) (hq : ∀ a, q ≠ a ++ [47]) : belowB (swapS q f t) t = true ∧ swapS (swapS q f t) t f = q := by
  by_cases he : q = f
  · subst he
    have h1 : swapS q q t = t := by unfold swapS; rw [if_pos rfl]
    rw [h1]
    exact ⟨below_refl t, by unfold swapS; rw [if_pos rfl]⟩
  · by_cases hf : f = []
    · subst hf
      have h1 : swapS q [] t = under t q := by unfold swapS; rw [if_neg he, if_pos rfl]
      rw [h1]
      exact ⟨below_under t q, by rw [swapS_under t [] q he]; rfl⟩
    · obtain ⟨r, hr⟩ := below_pre h he hf
      have hrn : r ≠ [] := by rintro rfl; exact hq f hr
      have h1 : swapS q f t = under t r := by
        unfold swapS
        rw [if_neg he, if_neg hf]
        congr 1
        rw [hr, show f ++ 47 :: r = (f ++ [47]) ++ r by simp]
        exact List.drop_left' (by simp)
      rw [h1]
      refine ⟨below_under t r, ?_⟩
      rw [swapS_under t f r hrn, hr]
      unfold under; rw [if_neg hf]
theorem swap_len {q f t : Bs} : (swapS q f t).length ≤ t.length + 1 + q.length := by
  unfold swapS under
  split
  · omega
  · split <;> split <;> simp <;> omega
end Go.Proofs.YtdjiiemimbdklaaDoor.Pl
