/-
  Plain facts of paths below one another: a path is below another one where its names begin with the other's.
-/
import Derived.Test.YtdjiiemimbdklaaDoorPs
namespace Go.Proofs.YtdjiiemimbdklaaDoor.Pl
open Go.Proofs.YtdjiiemimbdklaaDoor

theorem jn_append {A C : List Bs} (hA : A ≠ []) (hC : C ≠ []) : jn (A ++ C) = jn A ++ 47 :: jn C := by
  induction A with
  | nil => exact absurd rfl hA
  | cons a A ih =>
    by_cases h : A = []
    · subst h
      rw [List.singleton_append, jn_cons a hC]; rfl
    · rw [List.cons_append, jn_cons a (by simp [h]), ih h, jn_cons a h]; simp
theorem below_cut (p q : Bs) : belowB p q = (cut q).isPrefixOf (cut p) := by
  rw [Bool.eq_iff_iff]
  constructor
  · intro h
    refine List.isPrefixOf_iff_prefix.2 ?_
    by_cases he : p = q
    · rw [he]; exact List.prefix_refl _
    · by_cases hq : q = []
      · rw [hq, cut_nil]; exact List.nil_prefix
      · unfold belowB at h
        rw [beq_eq_false_iff_ne.2 he, beq_eq_false_iff_ne.2 hq] at h
        have h' : (q ++ [47]) <+: p := List.isPrefixOf_iff_prefix.1 (by simpa using h)
        obtain ⟨r, hr⟩ := h'
        have hp : p = q ++ 47 :: r := by rw [← hr]; simp
        rw [hp, ← cutGo_cut (p := q ++ 47 :: r) (by simp), cutGo_app, cutGo_cut hq]
        exact List.prefix_append _ _
  · intro h
    obtain ⟨C, hC⟩ := List.isPrefixOf_iff_prefix.1 h
    unfold belowB
    by_cases hn : C = []
    · subst hn
      have : p = q := by rw [← jn_cut p, ← hC, List.append_nil, jn_cut]
      rw [this]; simp
    · by_cases hq : cut q = []
      · rw [cut_eq_nil.1 hq]; simp
      · have hp : p = q ++ 47 :: jn C := by
          have := jn_append hq hn
          rw [hC, jn_cut, jn_cut] at this
          exact this
        have h3 : (q ++ [47]) <+: p := ⟨jn C, by rw [hp]; simp⟩
        rw [List.isPrefixOf_iff_prefix.2 h3]; simp
theorem below_take (l : List UInt8) (i : Nat) : belowB (longS l) (longS (l.take i)) = true := by
  rw [below_cut, cut_long, cut_long]
  refine List.isPrefixOf_iff_prefix.2 (List.IsPrefix.map nm ?_)
  rw [List.take_take, Nat.min_comm, ← List.take_take]
  exact List.take_prefix _ _
theorem below_trans {p q r : Bs} (h : belowB p q = true) (h' : belowB q r = true) : belowB p r = true := by
  rw [below_cut] at h h' ⊢
  exact List.isPrefixOf_iff_prefix.2 ((List.isPrefixOf_iff_prefix.1 h').trans (List.isPrefixOf_iff_prefix.1 h))
theorem below_one (l : List UInt8) (i j : Nat) : belowB (longS (l.take i)) (longS (l.take j)) = true ∨ belowB (longS (l.take j)) (longS (l.take i)) = true := by
  rcases Nat.le_total j i with h | h
  · refine .inl ?_
    have := below_take (l.take i) j
    rwa [List.take_take, Nat.min_eq_left h] at this
  · refine .inr ?_
    have := below_take (l.take j) i
    rwa [List.take_take, Nat.min_eq_left h] at this
end Go.Proofs.YtdjiiemimbdklaaDoor.Pl
