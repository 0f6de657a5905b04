/-
  Plain facts of the names of copies.
-/
import Derived.Test.YtdjiiemimbdklaaDoorPr
import Derived.Test.YtdjiiemimbdklaaDoorPm
namespace Go.Proofs.YtdjiiemimbdklaaDoor.Pl
open Go.Proofs.YtdjiiemimbdklaaDoor

theorem last_at {x : UInt8} {a a' b b' : Bs} (hb : x ∉ b) (hb' : x ∉ b') (h : a ++ x :: b = a' ++ x :: b') : a = a' ∧ b = b' := by
  rcases List.append_eq_append_iff.1 h with ⟨c, h1, h2⟩ | ⟨c, h1, h2⟩
  · cases c with
    | nil => simp at h1 h2; exact ⟨h1.symm, h2⟩
    | cons y c =>
      rw [List.cons_append, List.cons.injEq] at h2
      exact absurd (by rw [h2.2]; simp) hb
  · cases c with
    | nil => simp at h1 h2; exact ⟨h1, h2.symm⟩
    | cons y c =>
      rw [List.cons_append, List.cons.injEq] at h2
      exact absurd (by rw [h2.2]; simp) hb'

theorem digs_ok : ∀ k, k < 100 → 126 ∉ digs k ∧ (digs k).all okb = true ∧ (digs k).foldl (fun a c => 10 * a + (c.toNat - 48)) 0 = k := by decide +kernel
theorem digs_inj {i j : Nat} (hi : i < 100) (hj : j < 100) (h : digs i = digs j) : i = j := by
  rw [← (digs_ok i hi).2.2, ← (digs_ok j hj).2.2, h]
theorem lett_okb {c : UInt8} (h : lett c = true) : okb c = true := by unfold okb; rw [h]; rfl
theorem vtag_all {t : Bs} (h : vtag t = true) : t.all lett = true := by unfold vtag at h; simp only [Bool.and_eq_true] at h; exact h.2
theorem vtag_126 {t : Bs} (h : vtag t = true) : 126 ∉ t := fun hm => absurd (List.all_eq_true.1 (vtag_all h) 126 hm) (by decide)
theorem vld_all {l : Bs} (h : vld l = true) : l.all okb = true := by unfold vld at h; simp only [Bool.and_eq_true] at h; exact h.2

/-- The form of a copy's name that is not empty. -/
theorem copy_is {n t : Bs} {k : Nat} (h : copyS n t (k : Int) ≠ []) :
    vld n = true ∧ vtag t = true ∧ k < 100 ∧ copyS n t (k : Int) = n.take (16 - (t.length + 2 + (digs k).length)) ++ 126 :: (t ++ 126 :: digs k) := by
  unfold copyS at h ⊢
  split at h
  · next hc =>
    rw [if_pos hc]
    exact ⟨hc.1, hc.2.1, by omega, by simp⟩
  · exact absurd rfl h
theorem copy_vld {n t : Bs} {k : Nat} (h : copyS n t (k : Int) ≠ []) : vld (copyS n t (k : Int)) = true := by
  obtain ⟨hn, ht, hk, hc⟩ := copy_is h
  rw [hc]
  have h4 := vtag_len ht
  have hd := digs_len k
  have hl : (n.take (16 - (t.length + 2 + (digs k).length)) ++ 126 :: (t ++ 126 :: digs k)).length ≤ 16 := by simp; omega
  have hm : (126 : UInt8) ∈ n.take (16 - (t.length + 2 + (digs k).length)) ++ 126 :: (t ++ 126 :: digs k) := by simp
  have ha : (n.take (16 - (t.length + 2 + (digs k).length)) ++ 126 :: (t ++ 126 :: digs k)).all okb = true := by
    rw [List.all_append, List.all_cons, List.all_append, List.all_cons, (digs_ok k hk).2.1]
    have h1 : (n.take (16 - (t.length + 2 + (digs k).length))).all okb = true := List.all_eq_true.2 fun x hx => List.all_eq_true.1 (vld_all hn) x (List.mem_of_mem_take hx)
    have h2 : t.all okb = true := List.all_eq_true.2 fun x hx => lett_okb (List.all_eq_true.1 (vtag_all ht) x hx)
    rw [h1, h2]; decide
  generalize n.take (16 - (t.length + 2 + (digs k).length)) ++ 126 :: (t ++ 126 :: digs k) = l at hl hm ha
  refine vld_yes ⟨List.ne_nil_of_mem hm, hl, ?_, ?_⟩ (by rw [List.take_length]; exact ha)
  · rintro rfl; exact absurd hm (by decide)
  · rintro rfl; exact absurd hm (by decide)
theorem copy_same {n t t' : Bs} {k k' : Nat} (h : copyS n t (k : Int) ≠ []) (h' : copyS n t' (k' : Int) ≠ []) (he : copyS n t (k : Int) = copyS n t' (k' : Int)) : t = t' ∧ k = k' := by
  obtain ⟨_, ht, hk, hc⟩ := copy_is h
  obtain ⟨_, ht', hk', hc'⟩ := copy_is h'
  rw [hc, hc'] at he
  have e : ∀ (a t d : Bs), a ++ (126 : UInt8) :: (t ++ 126 :: d) = (a ++ 126 :: t) ++ 126 :: d := by intro a t d; simp
  rw [e, e] at he
  obtain ⟨h1, h2⟩ := last_at (digs_ok k hk).1 (digs_ok k' hk').1 he
  obtain ⟨_, h3⟩ := last_at (vtag_126 ht) (vtag_126 ht') h1
  exact ⟨h3, digs_inj hk hk' h2⟩
theorem copy_again {n t : Bs} {k : Nat} (h : copyS n t (k : Int) ≠ []) : copyS (copyS n t (k : Int)) t (k : Int) ≠ [] := by
  obtain ⟨_, ht, hk, _⟩ := copy_is h
  have hv := copy_vld h
  generalize copyS n t (k : Int) = a at hv
  unfold copyS
  rw [if_pos ⟨hv, ht, by omega, by omega⟩]
  simp
theorem copy_longer {n t : Bs} {k : Nat} (h : copyS n t (k : Int) ≠ []) (he : copyS n t (k : Int) = n) : t.length + 3 ≤ n.length := by
  obtain ⟨_, _, _, hc⟩ := copy_is h
  have := congrArg List.length (hc.symm.trans he)
  have hd := digs_len k
  simp at this; omega
end Go.Proofs.YtdjiiemimbdklaaDoor.Pl
