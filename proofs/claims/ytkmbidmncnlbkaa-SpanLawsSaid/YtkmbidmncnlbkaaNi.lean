/-
  Plain facts of sets of ranges: where their ranges begin and end, how many there are, how many numbers they have.
-/
import Derived.Test.YtkmbidmncnlbkaaNa
namespace Go.Proofs.Ytkmbidmncnlbkaa
namespace Sn

theorem setFrom_bound : ∀ {l : List S} {h : Int}, setFrom (some h) l = true → ∀ s ∈ l, h < s.lo
  | [], _, _, _, hs => by cases hs
  | u :: l, h, h1, s, hs => by
    rw [setFrom_some] at h1
    rcases List.mem_cons.1 hs with rfl | hs
    · exact h1.1
    · have := setFrom_bound h1.2.2 s hs
      omega
theorem set_pair : ∀ {l : List S} {o : Option Int}, setFrom o l = true → (∀ s ∈ l, s.lo < s.hi) ∧ l.Pairwise (fun s t => s.hi < t.lo)
  | [], _, _ => ⟨(fun _ h => (by cases h)), List.Pairwise.nil⟩
  | u :: l, o, h => by
    have h2 : u.lo < u.hi ∧ setFrom (some u.hi) l = true := by
      cases o
      · exact setFrom_none.1 h
      · exact (setFrom_some.1 h).2
    obtain ⟨i1, i2⟩ := set_pair h2.2
    refine ⟨fun s hs => ?_, List.pairwise_cons.2 ⟨fun t ht => setFrom_bound h2.2 t ht, i2⟩⟩
    rcases List.mem_cons.1 hs with rfl | hs
    · exact h2.1
    · exact i1 s hs
theorem pair_any {α : Type} {R : α → α → Prop} : ∀ {l : List α}, l.Pairwise R → ∀ s ∈ l, ∀ t ∈ l, s = t ∨ R s t ∨ R t s
  | [], _, _, hs, _, _ => (by cases hs)
  | u :: l, h, s, hs, t, ht => by
    obtain ⟨h1, h2⟩ := List.pairwise_cons.1 h
    rcases List.mem_cons.1 hs with e | hs'
    · rcases List.mem_cons.1 ht with e2 | ht'
      · exact .inl (e.trans e2.symm)
      · rw [e]; exact .inr (.inl (h1 t ht'))
    · rcases List.mem_cons.1 ht with e2 | ht'
      · rw [e2]; exact .inr (.inr (h1 s hs'))
      · exact pair_any h2 s hs' t ht'
/-- Where a range of a set begins and ends, its numbers do. -/
theorem set_ends {l : List S} (h : setB l = true) {s : S} (hs : s ∈ l) : s.lo < s.hi ∧ hasB l s.lo = true ∧ hasB l (s.lo - 1) = false ∧ hasB l (s.hi - 1) = true ∧ hasB l s.hi = false := by
  obtain ⟨h1, h2⟩ := set_pair h
  have hlt := h1 s hs
  have no : ∀ x, (x = s.lo - 1 ∨ x = s.hi) → hasB l x = false := fun x hx => by
    cases hb : hasB l x
    · rfl
    · obtain ⟨t, ht, t1, t2⟩ := hasB_iff.1 hb
      have := h1 t ht
      rcases pair_any h2 s hs t ht with rfl | h3 | h3 <;> omega
  exact ⟨hlt, hasB_iff.2 ⟨s, hs, Int.le_refl _, hlt⟩, no _ (.inl rfl), hasB_iff.2 ⟨s, hs, by omega, by omega⟩, no _ (.inr rfl)⟩
theorem has_begin {l : List S} {x : Int} (h1 : hasB l x = true) (h2 : hasB l (x - 1) = false) : ∃ s ∈ l, s.lo = x := by
  obtain ⟨s, hs, a1, a2⟩ := hasB_iff.1 h1
  refine ⟨s, hs, ?_⟩
  rcases Int.lt_or_le s.lo x with h | h
  · have : hasB l (x - 1) = true := hasB_iff.2 ⟨s, hs, by omega, by omega⟩
    rw [h2] at this; cases this
  · omega
theorem has_end {l : List S} {x : Int} (h1 : hasB l x = false) (h2 : hasB l (x - 1) = true) : ∃ s ∈ l, s.hi = x := by
  obtain ⟨s, hs, a1, a2⟩ := hasB_iff.1 h2
  refine ⟨s, hs, ?_⟩
  rcases Int.lt_or_le x s.hi with h | h
  · have : hasB l x = true := hasB_iff.2 ⟨s, hs, by omega, h⟩
    rw [h1] at this; cases this
  · omega
/-- The list is the set of the numbers for which op holds. -/
def IsOp (op : Bool → Bool → Bool) (a b out : List S) : Prop := setB out = true ∧ ∀ x, hasB out x = op (hasB a x) (hasB b x)
theorem IsOp.same {op : Bool → Bool → Bool} {a b o1 o2 : List S} (h1 : IsOp op a b o1) (h2 : IsOp op a b o2) : o1 = o2 := set_same h1.1 h2.1 fun x => by rw [h1.2, h2.2]
theorem change_bound {l : List S} {x : Int} (h : hasB l x ≠ hasB l (x - 1)) : x ∈ bnds l := by
  cases h1 : hasB l x
  · cases h2 : hasB l (x - 1)
    · rw [h1, h2] at h; exact absurd rfl h
    · obtain ⟨s, hs, e⟩ := has_end h1 h2
      exact bnds_mem.2 ⟨s, hs, .inr e.symm⟩
  · cases h2 : hasB l (x - 1)
    · obtain ⟨s, hs, e⟩ := has_begin h1 h2
      exact bnds_mem.2 ⟨s, hs, .inl e.symm⟩
    · rw [h1, h2] at h; exact absurd rfl h
theorem IsOp.bound {op : Bool → Bool → Bool} {a b out : List S} (h : IsOp op a b out) {x : Int} (hx : x ∈ bnds out) : x ∈ bnds (a ++ b) := by
  obtain ⟨s, hs, e⟩ := bnds_mem.1 hx
  obtain ⟨_, e1, e2, e3, e4⟩ := set_ends h.1 hs
  have hne : hasB out x ≠ hasB out (x - 1) := by
    rcases e with rfl | rfl
    · rw [e1, e2]; decide
    · rw [e3, e4]; decide
  rw [h.2, h.2] at hne
  rw [bnds_append]
  by_cases ha : hasB a x = hasB a (x - 1)
  · by_cases hb : hasB b x = hasB b (x - 1)
    · rw [ha, hb] at hne; exact absurd rfl hne
    · exact List.mem_append_right _ (change_bound hb)
  · exact List.mem_append_left _ (change_bound ha)
theorem set_len {out : List S} (h : setB out = true) {xs : List Int} (hx : ∀ s ∈ out, s.lo ∈ xs) : out.length ≤ xs.length := by
  obtain ⟨h1, h2⟩ := set_pair h
  have hn : (out.map (·.lo)).Nodup := by
    rw [List.nodup_iff_pairwise_ne, List.pairwise_map]
    refine (List.Pairwise.and_mem.1 h2).imp fun ⟨hs, _, hlt⟩ => ?_
    have := h1 _ hs
    omega
  have := hn.length_le_of_subset (l₂ := xs) (fun y hy => by obtain ⟨s, hs, rfl⟩ := List.mem_map.1 hy; exact hx s hs)
  rwa [List.length_map] at this
theorem or_len {a b out : List S} (h : IsOp (· || ·) a b out) : out.length ≤ a.length + b.length := by
  have := set_len h.1 (xs := a.map (·.lo) ++ b.map (·.lo)) (fun s hs => by
    obtain ⟨_, e1, e2, _⟩ := set_ends h.1 hs
    rw [h.2] at e1 e2
    simp only [Bool.or_eq_true, Bool.or_eq_false_iff] at e1 e2
    rcases e1 with e | e
    · obtain ⟨t, ht, e⟩ := has_begin e e2.1
      exact List.mem_append_left _ (List.mem_map.2 ⟨t, ht, e⟩)
    · obtain ⟨t, ht, e⟩ := has_begin e e2.2
      exact List.mem_append_right _ (List.mem_map.2 ⟨t, ht, e⟩))
  simpa using this
theorem and_len {a b out : List S} (h : IsOp (· && ·) a b out) : out.length ≤ a.length + b.length := by
  have := set_len h.1 (xs := a.map (·.lo) ++ b.map (·.lo)) (fun s hs => by
    obtain ⟨_, e1, e2, _⟩ := set_ends h.1 hs
    rw [h.2] at e1 e2
    simp only [Bool.and_eq_true, Bool.and_eq_false_iff] at e1 e2
    rcases e2 with e | e
    · obtain ⟨t, ht, e⟩ := has_begin e1.1 e
      exact List.mem_append_left _ (List.mem_map.2 ⟨t, ht, e⟩)
    · obtain ⟨t, ht, e⟩ := has_begin e1.2 e
      exact List.mem_append_right _ (List.mem_map.2 ⟨t, ht, e⟩))
  simpa using this
theorem sub_len {a b out : List S} (h : IsOp (fun x y => x && !y) a b out) : out.length ≤ a.length + b.length := by
  have := set_len h.1 (xs := a.map (·.lo) ++ b.map (·.hi)) (fun s hs => by
    obtain ⟨_, e1, e2, _⟩ := set_ends h.1 hs
    rw [h.2] at e1 e2
    simp only [Bool.and_eq_true, Bool.and_eq_false_iff, Bool.not_eq_true', Bool.not_eq_false'] at e1 e2
    rcases e2 with e | e
    · obtain ⟨t, ht, e⟩ := has_begin e1.1 e
      exact List.mem_append_left _ (List.mem_map.2 ⟨t, ht, e⟩)
    · obtain ⟨t, ht, e⟩ := has_end e1.2 e
      exact List.mem_append_right _ (List.mem_map.2 ⟨t, ht, e⟩))
  simpa using this
/-- Norm: the set of one list. -/
def IsNorm (l out : List S) : Prop := setB out = true ∧ ∀ x, hasB out x = hasB l x
theorem IsNorm.op {l out : List S} (h : IsNorm l out) : IsOp (· || ·) l [] out := ⟨h.1, fun x => by rw [h.2]; simp [hasB]⟩
theorem IsNorm.same {l o1 o2 : List S} (h1 : IsNorm l o1) (h2 : IsNorm l o2) : o1 = o2 := set_same h1.1 h2.1 fun x => by rw [h1.2, h2.2]
theorem norm_len {l out : List S} (h : IsNorm l out) : out.length ≤ l.length := by have := or_len h.op; simpa using this
theorem IsNorm.self {l : List S} (h : setB l = true) : IsNorm l l := ⟨h, fun _ => rfl⟩
/-- How many numbers the ranges have. -/
def totalS : List S → Int
  | [] => 0
  | s :: l => (s.hi - s.lo) + totalS l
def b2i (b : Bool) : Int := if b then 1 else 0
/-- How many numbers from -22 to 22 there are of a kind. -/
def cnt (P : Int → Bool) : Nat → Int
  | 0 => 0
  | k + 1 => cnt P k + b2i (P ((k : Int) - 22))
theorem cnt_congr {P Q : Int → Bool} (h : ∀ x, P x = Q x) : ∀ k, cnt P k = cnt Q k
  | 0 => rfl
  | k + 1 => by unfold cnt; rw [cnt_congr h k, h]
theorem cnt_or {P Q : Int → Bool} : ∀ k, cnt (fun x => P x || Q x) k + cnt (fun x => P x && Q x) k = cnt P k + cnt Q k
  | 0 => rfl
  | k + 1 => by
    have := cnt_or (P := P) (Q := Q) k
    simp only [cnt]
    obtain ⟨p, hp⟩ : ∃ p, P ((k : Int) - 22) = p := ⟨_, rfl⟩
    obtain ⟨q, hq⟩ : ∃ q, Q ((k : Int) - 22) = q := ⟨_, rfl⟩
    rw [hp, hq]
    cases p <;> cases q <;> simp [b2i] <;> omega
theorem cnt_sub {P Q : Int → Bool} : ∀ k, cnt (fun x => P x && !Q x) k + cnt (fun x => P x && Q x) k = cnt P k
  | 0 => rfl
  | k + 1 => by
    have := cnt_sub (P := P) (Q := Q) k
    simp only [cnt]
    obtain ⟨p, hp⟩ : ∃ p, P ((k : Int) - 22) = p := ⟨_, rfl⟩
    obtain ⟨q, hq⟩ : ∃ q, Q ((k : Int) - 22) = q := ⟨_, rfl⟩
    rw [hp, hq]
    cases p <;> cases q <;> simp [b2i] <;> omega
theorem cnt_none {P : Int → Bool} (h : ∀ x, P x = false) : ∀ k, cnt P k = 0
  | 0 => rfl
  | k + 1 => by unfold cnt; rw [cnt_none h k, h]; rfl
theorem cnt_in {s : S} (h0 : -22 ≤ s.lo) (h1 : s.lo ≤ s.hi) : ∀ k : Nat, cnt (inB s) k = max 0 (min s.hi ((k : Int) - 22) - s.lo)
  | 0 => by unfold cnt; omega
  | k + 1 => by
    unfold cnt
    rw [cnt_in h0 h1 k]
    cases hb : inB s ((k : Int) - 22)
    · have : ¬ (s.lo ≤ (k : Int) - 22 ∧ (k : Int) - 22 < s.hi) := fun h => by rw [inB_iff.2 h] at hb; cases hb
      simp only [b2i, Bool.false_eq_true, if_false]
      push_cast
      omega
    · have := inB_iff.1 hb
      simp only [b2i, if_true]
      push_cast
      omega
theorem total_cnt : ∀ {l : List S} {o : Option Int}, setFrom o l = true → (∀ s ∈ l, -22 ≤ s.lo ∧ s.hi ≤ 23) → totalS l = cnt (hasB l) 45
  | [], _, _, _ => by rw [cnt_none (P := hasB []) (fun _ => rfl)]; rfl
  | s :: l, o, h, hb => by
    have h2 : s.lo < s.hi ∧ setFrom (some s.hi) l = true := by
      cases o
      · exact setFrom_none.1 h
      · exact (setFrom_some.1 h).2
    have ih := total_cnt h2.2 (fun t ht => hb t (by simp [ht]))
    have hs := hb s (by simp)
    have e1 := cnt_in (s := s) hs.1 (by omega) 45
    have e2 := cnt_or (P := inB s) (Q := hasB l) 45
    have e3 : cnt (fun x => inB s x && hasB l x) 45 = 0 := cnt_none (fun x => by
      cases h3 : inB s x
      · rfl
      · cases h4 : hasB l x
        · rfl
        · have a1 := inB_iff.1 h3
          have a2 := setFrom_lt h2.2 h4
          omega) 45
    have e4 : cnt (hasB (s :: l)) 45 = cnt (fun x => inB s x || hasB l x) 45 := cnt_congr (fun x => hasB_cons s l x) 45
    show (s.hi - s.lo) + totalS l = _
    rw [e4, ih]
    omega
/-- Whether all numbers of a range are there. -/
noncomputable def coversB (l : List S) (s : S) : Bool := @decide (∀ x, inB s x = true → hasB l x = true) (Classical.propDecidable _)
theorem covers_iff {l : List S} {s : S} : coversB l s = true ↔ ∀ x, s.lo ≤ x → x < s.hi → hasB l x = true := by
  refine (@decide_eq_true_iff _ (Classical.propDecidable _)).trans ?_
  exact ⟨fun h x h1 h2 => h x (inB_iff.2 ⟨h1, h2⟩), fun h x hx => h x (inB_iff.1 hx).1 (inB_iff.1 hx).2⟩
theorem covers_minus {l out : List S} {s : S} (h : IsOp (fun x y => x && !y) [s] l out) : coversB l s = decide (out = []) := by
  rw [Bool.eq_iff_iff, covers_iff, decide_eq_true_eq]
  constructor
  · intro hc
    refine set_same h.1 rfl fun x => ?_
    rw [h.2]
    show _ = false
    cases hx : hasB [s] x
    · rfl
    · obtain ⟨t, ht, t1, t2⟩ := hasB_iff.1 hx
      rw [List.mem_singleton.1 ht] at t1 t2
      rw [hc x t1 t2]; rfl
  · rintro rfl x h1 h2
    have := h.2 x
    rw [show hasB [s] x = true from hasB_iff.2 ⟨s, by simp, h1, h2⟩] at this
    cases hx : hasB l x
    · rw [hx] at this; cases this
    · rfl
end Sn
end Go.Proofs.Ytkmbidmncnlbkaa
