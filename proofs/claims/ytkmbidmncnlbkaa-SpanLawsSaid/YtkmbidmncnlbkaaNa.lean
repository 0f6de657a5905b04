/-
  Plain facts of sets of ranges: a set is known by its numbers; what the reference's choose makes.
-/
import Derived.Test.YtkmbidmncnlbkaaProg
namespace Go.Proofs.Ytkmbidmncnlbkaa
namespace Sn

/-- A range: the numbers from lo on that are less than hi. -/
structure S where
  lo : Int
  hi : Int
deriving DecidableEq
def inB (s : S) (n : Int) : Bool := decide (s.lo ≤ n) && decide (n < s.hi)
theorem inB_iff {s : S} {n : Int} : inB s n = true ↔ s.lo ≤ n ∧ n < s.hi := by simp [inB]
def hasB (l : List S) (n : Int) : Bool := l.any (inB · n)
theorem hasB_cons (s : S) (l : List S) (n : Int) : hasB (s :: l) n = (inB s n || hasB l n) := rfl
theorem hasB_append (l t : List S) (n : Int) : hasB (l ++ t) n = (hasB l n || hasB t n) := by simp [hasB]
theorem hasB_iff {l : List S} {n : Int} : hasB l n = true ↔ ∃ s ∈ l, s.lo ≤ n ∧ n < s.hi := by
  unfold hasB; rw [List.any_eq_true]
  constructor
  · rintro ⟨s, hs, h⟩; exact ⟨s, hs, inB_iff.1 h⟩
  · rintro ⟨s, hs, h⟩; exact ⟨s, hs, inB_iff.2 h⟩
/-- A set: each range has a number, and ends before the next one. -/
def setFrom : Option Int → List S → Bool
  | _, [] => true
  | none, s :: l => decide (s.lo < s.hi) && setFrom (some s.hi) l
  | some h, s :: l => decide (h < s.lo) && (decide (s.lo < s.hi) && setFrom (some s.hi) l)
def setB (l : List S) : Bool := setFrom none l
theorem setFrom_some {h : Int} {s : S} {l : List S} : setFrom (some h) (s :: l) = true ↔ h < s.lo ∧ s.lo < s.hi ∧ setFrom (some s.hi) l = true := by simp [setFrom]
theorem setFrom_none {s : S} {l : List S} : setFrom none (s :: l) = true ↔ s.lo < s.hi ∧ setFrom (some s.hi) l = true := by simp [setFrom]
theorem setFrom_weak {h : Int} {l : List S} (hs : setFrom (some h) l = true) : setFrom none l = true := by
  cases l with
  | nil => rfl
  | cons s l => rw [setFrom_some] at hs; exact setFrom_none.2 hs.2
/-- What a set has lies behind its beginning. -/
theorem setFrom_lt : ∀ {l : List S} {h n : Int}, setFrom (some h) l = true → hasB l n = true → h < n
  | [], _, _, _, h2 => by simp [hasB] at h2
  | s :: l, h, n, h1, h2 => by
    rw [setFrom_some] at h1
    rw [hasB_cons, Bool.or_eq_true, inB_iff] at h2
    rcases h2 with h2 | h2
    · omega
    · have := setFrom_lt h1.2.2 h2
      omega
theorem set_same_some : ∀ {l t : List S} {h h' : Int}, setFrom (some h) l = true → setFrom (some h') t = true → (∀ n, hasB l n = hasB t n) → l = t
  | [], [], _, _, _, _, _ => rfl
  | [], s :: t, _, _, _, h2, e => by
    rw [setFrom_some] at h2
    have := e s.lo
    rw [hasB_cons, show inB s s.lo = true from inB_iff.2 ⟨Int.le_refl _, h2.2.1⟩] at this
    simp [hasB] at this
  | s :: l, [], _, _, h1, _, e => by
    rw [setFrom_some] at h1
    have := e s.lo
    rw [hasB_cons, show inB s s.lo = true from inB_iff.2 ⟨Int.le_refl _, h1.2.1⟩] at this
    simp [hasB] at this
  | s :: l, u :: t, h, h', h1, h2, e => by
    rw [setFrom_some] at h1 h2
    obtain ⟨_, a1, a2⟩ := h1
    obtain ⟨_, b1, b2⟩ := h2
    have hs := e s.lo
    have hu := e u.lo
    have key : ∀ n, hasB (s :: l) n = true ↔ (s.lo ≤ n ∧ n < s.hi) ∨ hasB l n = true := fun n => by rw [hasB_cons, Bool.or_eq_true, inB_iff]
    have key' : ∀ n, hasB (u :: t) n = true ↔ (u.lo ≤ n ∧ n < u.hi) ∨ hasB t n = true := fun n => by rw [hasB_cons, Bool.or_eq_true, inB_iff]
    have lt1 : ∀ n, hasB l n = true → s.hi < n := fun n hn => setFrom_lt a2 hn
    have lt2 : ∀ n, hasB t n = true → u.hi < n := fun n hn => setFrom_lt b2 hn
    have e' : ∀ n, ((s.lo ≤ n ∧ n < s.hi) ∨ hasB l n = true) ↔ ((u.lo ≤ n ∧ n < u.hi) ∨ hasB t n = true) := fun n => by rw [← key, ← key', e]
    have hlo : s.lo = u.lo := by
      have p1 := (e' s.lo).1 (Or.inl ⟨Int.le_refl _, a1⟩)
      have p2 := (e' u.lo).2 (Or.inl ⟨Int.le_refl _, b1⟩)
      have q1 : u.lo ≤ s.lo := by
        rcases p1 with p | p
        · exact p.1
        · have := lt2 _ p; omega
      have q2 : s.lo ≤ u.lo := by
        rcases p2 with p | p
        · exact p.1
        · have := lt1 _ p; omega
      omega
    have hhi : s.hi = u.hi := by
      rcases Int.lt_trichotomy s.hi u.hi with h | h | h
      · have p := (e' s.hi).2 (Or.inl ⟨by omega, h⟩)
        rcases p with p | p
        · omega
        · have := lt1 _ p; omega
      · exact h
      · have p := (e' u.hi).1 (Or.inl ⟨by omega, h⟩)
        rcases p with p | p
        · omega
        · have := lt2 _ p; omega
    have hsu : s = u := by cases s; cases u; simp_all
    subst hsu
    rw [set_same_some a2 b2 (fun n => by
      have := e' n
      rcases Int.lt_or_le s.hi n with hn | hn
      · have h3 : ¬ (s.lo ≤ n ∧ n < s.hi) := by omega
        simp only [h3, false_or] at this
        exact Bool.eq_iff_iff.2 this
      · have h3 : ¬ hasB l n = true := fun h => by have := lt1 _ h; omega
        have h4 : ¬ hasB t n = true := fun h => by have := lt2 _ h; omega
        rw [Bool.not_eq_true] at h3 h4
        rw [h3, h4])]
/-- A set begins somewhere. -/
theorem setFrom_start {l : List S} (h : setB l = true) : ∃ a, setFrom (some a) l = true := by
  cases l with
  | nil => exact ⟨0, rfl⟩
  | cons s l => exact ⟨s.lo - 1, setFrom_some.2 ⟨by omega, setFrom_none.1 h⟩⟩
/-- Sets with the same numbers are equal. -/
theorem set_same {l t : List S} (h1 : setB l = true) (h2 : setB t = true) (e : ∀ n, hasB l n = hasB t n) : l = t := by
  obtain ⟨a, ha⟩ := setFrom_start h1
  obtain ⟨b, hb⟩ := setFrom_start h2
  exact set_same_some ha hb e

/-! ### The reference's sweep -/
/-- All bounds of a list. -/
def bnds : List S → List Int
  | [] => []
  | s :: l => s.lo :: s.hi :: bnds l
theorem bnds_append : ∀ (a b : List S), bnds (a ++ b) = bnds a ++ bnds b
  | [], b => rfl
  | s :: a, b => by simp [bnds, bnds_append a b]
theorem bnds_mem {l : List S} {x : Int} : x ∈ bnds l ↔ ∃ s ∈ l, x = s.lo ∨ x = s.hi := by
  induction l with
  | nil => simp [bnds]
  | cons s l ih => simp only [bnds, List.mem_cons, ih]; constructor
                   · rintro (h | h | ⟨t, ht, h⟩)
                     · exact ⟨s, Or.inl rfl, Or.inl h⟩
                     · exact ⟨s, Or.inl rfl, Or.inr h⟩
                     · exact ⟨t, Or.inr ht, h⟩
                   · rintro ⟨t, rfl | ht, h⟩
                     · rcases h with h | h
                       · exact Or.inl h
                       · exact Or.inr (Or.inl h)
                     · exact Or.inr (Or.inr ⟨t, ht, h⟩)
/-- Between two numbers with no bound behind the first and up to the second, all are alike. -/
theorem has_between {l : List S} {x n : Int} (hxn : x ≤ n) (h : ∀ y ∈ bnds l, x < y → n < y) : hasB l n = hasB l x := by
  rw [Bool.eq_iff_iff, hasB_iff, hasB_iff]
  constructor
  · rintro ⟨s, hs, h1, h2⟩
    refine ⟨s, hs, ?_, by omega⟩
    have := h s.lo (bnds_mem.2 ⟨s, hs, Or.inl rfl⟩)
    omega
  · rintro ⟨s, hs, h1, h2⟩
    refine ⟨s, hs, by omega, ?_⟩
    exact h s.hi (bnds_mem.2 ⟨s, hs, Or.inr rfl⟩) h2
/-- One step of the sweep: the range from x to y is taken. -/
def addS (out : List S) (x y : Int) : List S :=
  match out.getLast? with
  | some s => if s.hi = x then out.dropLast ++ [⟨s.lo, y⟩] else out ++ [⟨x, y⟩]
  | none => out ++ [⟨x, y⟩]
/-- What is taken out of the first i + 1 bounds. -/
def swp (P : Int → Bool) (l : List Int) : Nat → List S
  | 0 => []
  | i + 1 => if P (l[i]?.getD 0) then addS (swp P l i) (l[i]?.getD 0) (l[i + 1]?.getD 0) else swp P l i
/-- The numbers of a list in increasing order, each once. -/
def Inc (l : List Int) : Prop := l.Pairwise (· < ·)
theorem setFrom_snoc : ∀ {l : List S} {h : Option Int} {s : S}, setFrom h l = true → (∀ u ∈ l, u.hi < s.lo) → (∀ a, h = some a → a < s.lo) → s.lo < s.hi → setFrom h (l ++ [s]) = true
  | [], none, s, _, _, _, h3 => by simp [setFrom, h3]
  | [], some a, s, _, _, h2, h3 => by simp [setFrom, h3, h2 a rfl]
  | u :: l, none, s, h1, h2, _, h3 => by
    rw [setFrom_none] at h1
    exact setFrom_none.2 ⟨h1.1, setFrom_snoc h1.2 (fun v hv => h2 v (List.mem_cons_of_mem _ hv)) (fun a ha => by cases ha; exact h2 u List.mem_cons_self) h3⟩
  | u :: l, some a, s, h1, h2, _, h3 => by
    rw [setFrom_some] at h1
    exact setFrom_some.2 ⟨h1.1, h1.2.1, setFrom_snoc h1.2.2 (fun v hv => h2 v (List.mem_cons_of_mem _ hv)) (fun a ha => by cases ha; exact h2 u List.mem_cons_self) h3⟩
theorem setFrom_longer : ∀ {l : List S} {h : Option Int} {s : S} {y : Int}, setFrom h (l ++ [s]) = true → s.hi ≤ y → setFrom h (l ++ [⟨s.lo, y⟩]) = true
  | [], none, s, y, h1, h2 => by simp [setFrom] at h1 ⊢; omega
  | [], some a, s, y, h1, h2 => by simp [setFrom] at h1 ⊢; omega
  | u :: l, none, s, y, h1, h2 => by
    rw [List.cons_append, setFrom_none] at h1 ⊢
    exact ⟨h1.1, setFrom_longer h1.2 h2⟩
  | u :: l, some a, s, y, h1, h2 => by
    rw [List.cons_append, setFrom_some] at h1 ⊢
    exact ⟨h1.1, h1.2.1, setFrom_longer h1.2.2 h2⟩
theorem setFrom_last : ∀ {t : List S} {o : Option Int} {s : S}, setFrom o (t ++ [s]) = true → s.lo < s.hi
  | [], none, s, h => by simp [setFrom] at h; exact h
  | [], some a, s, h => by simp [setFrom] at h; exact h.2
  | u :: t, none, s, h => by rw [List.cons_append, setFrom_none] at h; exact setFrom_last h.2
  | u :: t, some a, s, h => by rw [List.cons_append, setFrom_some] at h; exact setFrom_last h.2.2
theorem addS_ok {out : List S} {x y : Int} (h1 : setB out = true) (h2 : ∀ u ∈ out, u.hi ≤ x) (hxy : x < y) :
    setB (addS out x y) = true ∧ (∀ u ∈ addS out x y, u.hi ≤ y) ∧ ∀ n, hasB (addS out x y) n = (hasB out n || inB ⟨x, y⟩ n) := by
  unfold addS
  cases hl : out.getLast? with
  | none =>
    have : out = [] := by simpa using hl
    subst this
    refine ⟨by simp [setB, setFrom, hxy], by simp, fun n => by simp [hasB]⟩
  | some s =>
    obtain ⟨t, rfl⟩ := List.getLast?_eq_some_iff.1 hl
    simp only []
    by_cases e : s.hi = x
    · rw [if_pos e, List.dropLast_concat]
      refine ⟨setFrom_longer h1 (by omega), ?_, fun n => ?_⟩
      · intro u hu
        rcases List.mem_append.1 hu with hu | hu
        · have := h2 u (List.mem_append.2 (Or.inl hu)); omega
        · obtain rfl : u = _ := by simpa using hu
          exact Int.le_refl _
      · rw [hasB_append, hasB_append, Bool.or_assoc]
        congr 1
        have hs : s.lo < s.hi := setFrom_last h1
        simp only [hasB, List.any_cons, List.any_nil, Bool.or_false]
        rw [Bool.eq_iff_iff, Bool.or_eq_true, inB_iff, inB_iff, inB_iff]
        simp only []
        omega
    · rw [if_neg e]
      refine ⟨setFrom_snoc h1 (fun u hu => ?_) (fun a ha => by cases ha) hxy, ?_, fun n => by rw [hasB_append]; simp [hasB]⟩
      · show u.hi < x
        rcases List.mem_append.1 hu with hu' | hu'
        · -- an earlier one ends before the last one begins
          have hle := h2 u hu
          have hls := h2 s (List.mem_append.2 (Or.inr List.mem_cons_self))
          rcases Int.lt_or_le u.hi x with h | h
          · exact h
          · exfalso
            have hux : u.hi = x := by omega
            have : setB (t ++ [s]) = true := h1
            clear h2 hl hle h
            unfold setB at this
            have key : ∀ (t : List S) (o : Option Int), setFrom o (t ++ [s]) = true → u ∈ t → u.hi < s.hi := by
              intro t
              induction t with
              | nil => intro o _ hu; cases hu
              | cons v t ih =>
                intro o ho hu
                have h3 : setFrom (some v.hi) (t ++ [s]) = true := by
                  cases o
                  · rw [List.cons_append, setFrom_none] at ho; exact ho.2
                  · rw [List.cons_append, setFrom_some] at ho; exact ho.2.2
                rcases List.mem_cons.1 hu with rfl | hu
                · have : hasB (t ++ [s]) (s.hi - 1) = true := by
                    have hs : s.lo < s.hi := setFrom_last h3
                    rw [hasB_iff]
                    exact ⟨s, List.mem_append.2 (Or.inr List.mem_cons_self), by omega, by omega⟩
                  have := setFrom_lt h3 this
                  omega
                · exact ih _ h3 hu
            have := key t none this hu'
            omega
        · obtain rfl : u = s := by simpa using hu'
          have := h2 u hu
          omega
      · intro u hu
        rcases List.mem_append.1 hu with hu | hu
        · have := h2 u hu; omega
        · obtain rfl : u = _ := by simpa using hu
          exact Int.le_refl _
theorem swp_ok {P : Int → Bool} {l : List Int} (hl : Inc l) : ∀ i, i < l.length → setB (swp P l i) = true ∧ (∀ u ∈ swp P l i, u.hi ≤ l[i]?.getD 0) ∧ ∀ n, hasB (swp P l i) n = true ↔ ∃ j, j < i ∧ P (l[j]?.getD 0) = true ∧ l[j]?.getD 0 ≤ n ∧ n < l[j + 1]?.getD 0
  | 0, _ => ⟨rfl, by simp [swp], fun n => by simp [swp, hasB]⟩
  | i + 1, hi => by
    obtain ⟨h1, h2, h3⟩ := swp_ok (P := P) hl i (by omega)
    have hlt : l[i]?.getD 0 < l[i + 1]?.getD 0 := by
      rw [List.getElem?_eq_getElem (by omega), List.getElem?_eq_getElem hi]
      exact List.pairwise_iff_getElem.1 hl i (i + 1) (by omega) hi (by omega)
    unfold swp
    by_cases hP : P (l[i]?.getD 0) = true
    · rw [if_pos hP]
      obtain ⟨g1, g2, g3⟩ := addS_ok h1 h2 hlt
      refine ⟨g1, g2, fun n => ?_⟩
      rw [g3, Bool.or_eq_true, h3, inB_iff]
      constructor
      · rintro (⟨j, hj, h⟩ | h)
        · exact ⟨j, by omega, h⟩
        · exact ⟨i, by omega, hP, h⟩
      · rintro ⟨j, hj, h⟩
        by_cases e : j = i
        · subst e; exact Or.inr h.2
        · exact Or.inl ⟨j, by omega, h⟩
    · rw [if_neg hP]
      refine ⟨h1, fun u hu => by have := h2 u hu; omega, fun n => ?_⟩
      rw [h3]
      constructor
      · rintro ⟨j, hj, h⟩; exact ⟨j, by omega, h⟩
      · rintro ⟨j, hj, h⟩
        by_cases e : j = i
        · subst e; exact absurd h.1 hP
        · exact ⟨j, by omega, h⟩
/-- The sweep over all bounds of two lists takes the numbers that are chosen. -/
theorem swp_all {a b : List S} {l : List Int} (hl : Inc l) (hm : ∀ x, x ∈ l ↔ x ∈ bnds (a ++ b)) (op : Bool → Bool → Bool) (hop : op false false = false) :
    setB (swp (fun x => op (hasB a x) (hasB b x)) l (l.length - 1)) = true ∧ ∀ n, hasB (swp (fun x => op (hasB a x) (hasB b x)) l (l.length - 1)) n = op (hasB a n) (hasB b n) := by
  by_cases h0 : l.length = 0
  · have hnil : l = [] := List.eq_nil_of_length_eq_zero h0
    subst hnil
    refine ⟨rfl, fun n => ?_⟩
    have hno : ∀ (c : List S), (∀ s ∈ c, s ∈ a ++ b) → hasB c n = false := fun c hc => by
      cases h : hasB c n
      · rfl
      · obtain ⟨s, hs, _⟩ := hasB_iff.1 h
        have := (hm s.lo).2 (bnds_mem.2 ⟨s, hc s hs, Or.inl rfl⟩)
        cases this
    rw [hno a (fun s hs => List.mem_append.2 (Or.inl hs)), hno b (fun s hs => List.mem_append.2 (Or.inr hs)), hop]
    rfl
  · obtain ⟨h1, _, h3⟩ := swp_ok (P := fun x => op (hasB a x) (hasB b x)) hl (l.length - 1) (by omega)
    refine ⟨h1, fun n => ?_⟩
    have sub : ∀ (c : List S), (∀ s ∈ c, s ∈ a ++ b) → ∀ (j : Nat), j + 1 < l.length → l[j]?.getD 0 ≤ n → n < l[j + 1]?.getD 0 → hasB c n = hasB c (l[j]?.getD 0) := fun c hc j hj hle hlt => by
      refine has_between hle (fun y hy hlt2 => ?_)
      obtain ⟨s, hs, hy⟩ := bnds_mem.1 hy
      have hyl := (hm y).2 (bnds_mem.2 ⟨s, hc s hs, hy⟩)
      obtain ⟨t, ht, rfl⟩ := List.mem_iff_getElem.1 hyl
      rw [List.getElem?_eq_getElem (show j < l.length by omega)] at hlt2
      rw [List.getElem?_eq_getElem hj] at hlt
      simp only [Option.getD_some] at hlt2 hlt
      have hjt : j < t := by
        rcases Nat.lt_or_ge j t with h | h
        · exact h
        · rcases Nat.eq_or_lt_of_le h with h | h
          · subst h; omega
          · have := List.pairwise_iff_getElem.1 hl t j ht (by omega) h; omega
      rcases Nat.eq_or_lt_of_le hjt with h | h
      · have h' : t = j + 1 := by omega
        subst h'; exact hlt
      · have := List.pairwise_iff_getElem.1 hl (j + 1) t hj ht h; omega
    have ina : ∀ s ∈ a, s ∈ a ++ b := fun s hs => List.mem_append.2 (Or.inl hs)
    have inb : ∀ s ∈ b, s ∈ a ++ b := fun s hs => List.mem_append.2 (Or.inr hs)
    rw [Bool.eq_iff_iff, h3]
    constructor
    · rintro ⟨j, hj, hP, hle, hlt⟩
      rw [sub a ina j (by omega) hle hlt, sub b inb j (by omega) hle hlt]
      exact hP
    · intro hop2
      -- n lies between two bounds that follow each other
      have hin : hasB a n = true ∨ hasB b n = true := by
        cases ha : hasB a n
        · cases hb : hasB b n
          · rw [ha, hb, hop] at hop2; cases hop2
          · exact Or.inr rfl
        · exact Or.inl rfl
      have hex : ∃ s ∈ a ++ b, s.lo ≤ n ∧ n < s.hi := by
        rcases hin with h | h
        · obtain ⟨s, hs, h⟩ := hasB_iff.1 h; exact ⟨s, ina s hs, h⟩
        · obtain ⟨s, hs, h⟩ := hasB_iff.1 h; exact ⟨s, inb s hs, h⟩
      obtain ⟨s, hs, hlo, hhi⟩ := hex
      have hlm := (hm s.lo).2 (bnds_mem.2 ⟨s, hs, Or.inl rfl⟩)
      have hhm := (hm s.hi).2 (bnds_mem.2 ⟨s, hs, Or.inr rfl⟩)
      obtain ⟨p, hp, hpe⟩ := List.mem_iff_getElem.1 hlm
      obtain ⟨q, hq, hqe⟩ := List.mem_iff_getElem.1 hhm
      have find : ∀ d, ∀ p, q - p = d → p < l.length → l[p]?.getD 0 ≤ n → n < l[q]?.getD 0 → ∃ j, j + 1 < l.length ∧ l[j]?.getD 0 ≤ n ∧ n < l[j + 1]?.getD 0 := by
        intro d
        induction d with
        | zero =>
          intro p hd hpl h4 h5
          exfalso
          have hqp : q ≤ p := by omega
          rcases Nat.eq_or_lt_of_le hqp with h | h
          · rw [h] at h5; omega
          · rw [List.getElem?_eq_getElem hpl] at h4
            rw [List.getElem?_eq_getElem hq] at h5
            simp only [Option.getD_some] at h4 h5
            have := List.pairwise_iff_getElem.1 hl q p hq hpl h
            omega
        | succ d ih =>
          intro p hd hpl h4 h5
          rcases Int.lt_or_le n (l[p + 1]?.getD 0) with h6 | h6
          · exact ⟨p, by omega, h4, h6⟩
          · exact ih (p + 1) (by omega) (by omega) h6 h5
      obtain ⟨j, hj, hle, hlt⟩ := find (q - p) p rfl hp (by rw [List.getElem?_eq_getElem hp, hpe]; exact hlo) (by rw [List.getElem?_eq_getElem hq, hqe]; exact hhi)
      refine ⟨j, by omega, ?_, hle, hlt⟩
      rw [sub a ina j hj hle hlt, sub b inb j hj hle hlt] at hop2
      exact hop2
end Sn
end Go.Proofs.Ytkmbidmncnlbkaa
