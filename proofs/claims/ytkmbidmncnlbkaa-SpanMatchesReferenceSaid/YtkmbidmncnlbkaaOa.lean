/-
  Plain facts of the landed sweep: bounds in order, how many spans are open behind them, and the set that is made of them.
-/
import Derived.Test.YtkmbidmncnlbkaaNi
namespace Go.Proofs.Ytkmbidmncnlbkaa
namespace Sn

/-- A bound: its number, whether it is of the second list, whether a span begins there. -/
structure Bd where
  x : Int
  j : Bool
  u : Bool
deriving Inhabited
def stp (u : Bool) : Int := if u then 1 else -1
/-- The bounds of a list, as it stands. -/
def raw (j : Bool) : List S → List Bd
  | [] => []
  | s :: l => if s.lo < s.hi then ⟨s.lo, j, true⟩ :: ⟨s.hi, j, false⟩ :: raw j l else raw j l
theorem raw_append (j : Bool) : ∀ (l m : List S), raw j (l ++ m) = raw j l ++ raw j m
  | [], m => rfl
  | s :: l, m => by
    simp only [List.cons_append, raw]
    rw [raw_append j l m]
    split <;> rfl
theorem raw_len (j : Bool) : ∀ (l : List S), (raw j l).length ≤ 2 * l.length
  | [] => by simp [raw]
  | s :: l => by
    have := raw_len j l
    simp only [raw]
    split <;> simp only [List.length_cons] <;> omega
theorem raw_lo {j : Bool} {l : List S} {s : S} (hs : s ∈ l) (h : s.lo < s.hi) : (⟨s.lo, j, true⟩ : Bd) ∈ raw j l ∧ (⟨s.hi, j, false⟩ : Bd) ∈ raw j l := by
  induction l with
  | nil => cases hs
  | cons t l ih =>
    simp only [raw]
    rcases List.mem_cons.1 hs with rfl | hs
    · rw [if_pos h]; simp
    · have := ih hs
      split
      · exact ⟨by simp [this.1], by simp [this.2]⟩
      · exact this
theorem raw_mem {j : Bool} {l : List S} {e : Bd} (he : e ∈ raw j l) : e.x ∈ bnds l := by
  induction l with
  | nil => cases he
  | cons t l ih =>
    simp only [raw] at he
    simp only [bnds]
    split at he
    · rcases List.mem_cons.1 he with rfl | he
      · simp
      · rcases List.mem_cons.1 he with rfl | he
        · simp
        · exact List.mem_cons_of_mem _ (List.mem_cons_of_mem _ (ih he))
    · exact List.mem_cons_of_mem _ (List.mem_cons_of_mem _ (ih he))
/-- How many spans of one of the lists are open behind these bounds. -/
def cntB (j : Bool) : List Bd → Int
  | [] => 0
  | b :: l => (if b.j = j then stp b.u else 0) + cntB j l
theorem cntB_append (j : Bool) : ∀ (l m : List Bd), cntB j (l ++ m) = cntB j l + cntB j m
  | [], m => by simp [cntB]
  | b :: l, m => by simp only [List.cons_append, cntB]; rw [cntB_append j l m]; omega
theorem cntB_perm {j : Bool} {l m : List Bd} (h : l.Perm m) : cntB j l = cntB j m := by
  induction h with
  | nil => rfl
  | cons b _ ih => simp only [cntB]; rw [ih]
  | swap a b l => simp only [cntB]; omega
  | trans _ _ h1 h2 => rw [h1, h2]
theorem cntB_bound (j : Bool) : ∀ (l : List Bd), -(l.length : Int) ≤ cntB j l ∧ cntB j l ≤ l.length
  | [] => by simp [cntB]
  | b :: l => by
    have := cntB_bound j l
    simp only [cntB, List.length_cons, stp]
    push_cast
    constructor <;> (split <;> (try split)) <;> omega
def upTo (X : Int) (l : List Bd) : List Bd := l.filter fun b => decide (b.x ≤ X)
theorem upTo_cons (X : Int) (b : Bd) (l : List Bd) : upTo X (b :: l) = if b.x ≤ X then b :: upTo X l else upTo X l := by
  unfold upTo
  rw [List.filter_cons]
  by_cases h : b.x ≤ X <;> simp [h]
theorem cnt_same (j : Bool) (X : Int) : ∀ (l : List S), cntB j (upTo X (raw j l)) = ((l.filter (inB · X)).length : Int)
  | [] => rfl
  | s :: l => by
    have ih := cnt_same j X l
    rw [List.filter_cons]
    simp only [raw]
    by_cases h : s.lo < s.hi
    · rw [if_pos h, upTo_cons, upTo_cons]
      simp only []
      by_cases h1 : s.lo ≤ X
      · by_cases h2 : s.hi ≤ X
        · have : inB s X = false := by cases hb : inB s X; rfl; have := inB_iff.1 hb; omega
          rw [if_pos h1, if_pos h2, this]
          simp only [cntB, if_true, stp, Bool.false_eq_true, if_false]
          omega
        · have : inB s X = true := inB_iff.2 ⟨h1, by omega⟩
          rw [if_pos h1, if_neg h2, this]
          simp only [cntB, if_true, stp, List.length_cons]
          push_cast
          omega
      · have : inB s X = false := by cases hb : inB s X; rfl; have := inB_iff.1 hb; omega
        rw [if_neg h1, if_neg (by omega), this]
        simpa using ih
    · have : inB s X = false := by cases hb : inB s X; rfl; have := inB_iff.1 hb; omega
      rw [if_neg h, this]
      simpa using ih
theorem cnt_other {j k : Bool} (hjk : k ≠ j) (X : Int) : ∀ (l : List S), cntB j (upTo X (raw k l)) = 0
  | [] => rfl
  | s :: l => by
    have ih := cnt_other hjk X l
    simp only [raw]
    split
    · rw [upTo_cons, upTo_cons]
      simp only []
      split <;> split <;> simp only [cntB, if_neg hjk, ih] <;> omega
    · exact ih
theorem cnt_pos (l : List S) (X : Int) : decide (0 < ((l.filter (inB · X)).length : Int)) = hasB l X := by
  rw [Bool.eq_iff_iff, decide_eq_true_eq, hasB_iff]
  constructor
  · intro h
    obtain ⟨s, hs⟩ := List.exists_mem_of_length_pos (show 0 < (l.filter (inB · X)).length by omega)
    obtain ⟨h1, h2⟩ := List.mem_filter.1 hs
    exact ⟨s, h1, inB_iff.1 h2⟩
  · rintro ⟨s, hs, h⟩
    have : 0 < (l.filter (inB · X)).length := List.length_pos_of_mem (List.mem_filter.2 ⟨hs, inB_iff.2 h⟩)
    omega
/-- Between two bounds all numbers are alike. -/
theorem raw_between {j : Bool} {l : List S} {X n : Int} (hXn : X ≤ n) (h : ∀ e ∈ raw j l, X < e.x → n < e.x) : hasB l n = hasB l X := by
  rw [Bool.eq_iff_iff, hasB_iff, hasB_iff]
  constructor
  · rintro ⟨s, hs, h1, h2⟩
    have h3 := h _ (raw_lo (j := j) hs (by omega)).1
    simp only [] at h3
    exact ⟨s, hs, by omega, by omega⟩
  · rintro ⟨s, hs, h1, h2⟩
    have h3 := h _ (raw_lo (j := j) hs (by omega)).2
    simp only [] at h3
    exact ⟨s, hs, by omega, by omega⟩
theorem raw_none {j : Bool} {l : List S} {n : Int} (h : (∀ e ∈ raw j l, n < e.x) ∨ ∀ e ∈ raw j l, e.x ≤ n) : hasB l n = false := by
  cases hb : hasB l n
  · rfl
  · obtain ⟨s, hs, h1, h2⟩ := hasB_iff.1 hb
    have e1 := raw_lo (j := j) hs (by omega)
    rcases h with h | h
    · have := h _ e1.1; simp only [] at this; omega
    · have := h _ e1.2; simp only [] at this; omega

/-! ### The sweep's states -/
structure St where
  o0 : Int
  o1 : Int
  tk : Bool
  set : List S
def setLast (l : List S) (y : Int) : List S :=
  match l.getLast? with
  | some s => l.dropLast ++ [⟨s.lo, y⟩]
  | none => l
theorem setLast_snoc (t : List S) (s : S) (y : Int) : setLast (t ++ [s]) y = t ++ [⟨s.lo, y⟩] := by
  unfold setLast
  rw [List.getLast?_concat, List.dropLast_concat]
def ov0 (s : St) (b : Bd) : Int := if b.j then s.o0 else s.o0 + stp b.u
def ov1 (s : St) (b : Bd) : Int := if b.j then s.o1 + stp b.u else s.o1
def pass (op : Bool → Bool → Bool) (s : St) (b : Bd) (last : Bool) : St :=
  if last && (op (decide (0 < ov0 s b)) (decide (0 < ov1 s b)) != s.tk) then ⟨ov0 s b, ov1 s b, !s.tk, if s.tk then setLast s.set b.x else s.set ++ [⟨b.x, 0⟩]⟩
  else ⟨ov0 s b, ov1 s b, s.tk, s.set⟩
def isLast (L : List Bd) (i : Nat) : Bool := decide (i + 1 = L.length) || decide ((L[i + 1]?.getD default).x ≠ (L[i]?.getD default).x)
def run (op : Bool → Bool → Bool) (L : List Bd) : Nat → St
  | 0 => ⟨0, 0, false, []⟩
  | i + 1 => pass op (run op L i) (L[i]?.getD default) (isLast L i)
theorem pass_o {op : Bool → Bool → Bool} (s : St) (b : Bd) (last : Bool) : (pass op s b last).o0 = ov0 s b ∧ (pass op s b last).o1 = ov1 s b := by
  unfold pass
  split <;> exact ⟨rfl, rfl⟩
theorem run_cnt (op : Bool → Bool → Bool) (L : List Bd) : ∀ i, i ≤ L.length → (run op L i).o0 = cntB false (L.take i) ∧ (run op L i).o1 = cntB true (L.take i)
  | 0, _ => by simp [run, cntB]
  | i + 1, hi => by
    obtain ⟨h0, h1⟩ := run_cnt op L i (by omega)
    have hL : L[i]?.getD default = L[i] := by rw [List.getElem?_eq_getElem (by omega)]; rfl
    have ht : L.take (i + 1) = L.take i ++ [L[i]] := List.take_succ_eq_append_getElem (by omega)
    show (pass op (run op L i) (L[i]?.getD default) (isLast L i)).o0 = _ ∧ (pass op (run op L i) (L[i]?.getD default) (isLast L i)).o1 = _
    rw [(pass_o _ _ _).1, (pass_o _ _ _).2, hL, ht, cntB_append, cntB_append]
    unfold ov0 ov1
    rw [h0, h1]
    obtain ⟨b, hb⟩ : ∃ b, L[i] = b := ⟨_, rfl⟩
    rw [hb]
    obtain ⟨x, j, u⟩ := b
    cases j <;> simp [cntB]
theorem run_bound (op : Bool → Bool → Bool) (L : List Bd) {i : Nat} (hi : i ≤ L.length) : (-(i : Int) ≤ (run op L i).o0 ∧ (run op L i).o0 ≤ i) ∧ -(i : Int) ≤ (run op L i).o1 ∧ (run op L i).o1 ≤ i := by
  obtain ⟨h0, h1⟩ := run_cnt op L i hi
  have e : (L.take i).length = i := by rw [List.length_take]; omega
  have b0 := cntB_bound false (L.take i)
  have b1 := cntB_bound true (L.take i)
  rw [e] at b0 b1
  rw [h0, h1]
  exact ⟨b0, b1⟩
theorem setLast_len (l : List S) (y : Int) : (setLast l y).length ≤ l.length := by
  rcases List.eq_nil_or_concat l with rfl | ⟨t, s, rfl⟩
  · exact Nat.le_refl _
  · rw [List.concat_eq_append, setLast_snoc]; simp
theorem run_len (op : Bool → Bool → Bool) (L : List Bd) : ∀ i, (run op L i).set.length ≤ i
  | 0 => Nat.le_refl _
  | i + 1 => by
    have ih := run_len op L i
    show (pass op (run op L i) (L[i]?.getD default) (isLast L i)).set.length ≤ _
    unfold pass
    split
    · simp only []
      split
      · have := setLast_len (run op L i).set (L[i]?.getD default).x
        omega
      · rw [List.length_append]; simp; omega
    · simp only []; omega
/-- What the sweep has made where all numbers up to X are done. -/
structure Done (F : Int → Bool) (X : Int) (tk : Bool) (set : List S) : Prop where
  val : tk = F X
  no : tk = false → setB set = true ∧ (∀ u ∈ set, u.hi ≤ X) ∧ ∀ n, n ≤ X → hasB set n = F n
  yes : tk = true → ∃ t lo, set = t ++ [⟨lo, 0⟩] ∧ lo ≤ X ∧ setB t = true ∧ (∀ u ∈ t, u.hi < lo) ∧ ∀ n, n ≤ X → F n = (hasB t n || decide (lo ≤ n))
theorem has_after {l : List S} {X n : Int} (h : ∀ u ∈ l, u.hi ≤ X) (hn : X ≤ n) : hasB l n = false := by
  cases hb : hasB l n
  · rfl
  · obtain ⟨s, hs, h1, h2⟩ := hasB_iff.1 hb
    have := h s hs
    omega
theorem Done.next {F : Int → Bool} {X Y : Int} {tk : Bool} {set : List S} (h : Done F X tk set) (hXY : X < Y) (hF : ∀ n, X ≤ n → n < Y → F n = F X) (v : Bool) (hv : v = F Y) :
    Done F Y v (if v != tk then (if tk then setLast set Y else set ++ [⟨Y, 0⟩]) else set) := by
  cases tk
  · obtain ⟨h1, h2, h3⟩ := h.no rfl
    have hX := h.val
    cases v
    · refine ⟨hv, fun _ => ⟨h1, fun u hu => by have := h2 u hu; omega, fun n hn => ?_⟩, fun e => by cases e⟩
      show hasB set n = F n
      rcases Int.lt_or_le X n with h4 | h4
      · rw [has_after h2 (by omega)]
        rcases Int.lt_or_le n Y with h5 | h5
        · rw [hF n (by omega) h5, ← hX]
        · rw [show n = Y by omega, ← hv]
      · exact h3 n h4
    · refine ⟨hv, (fun e => by cases e), fun _ => ⟨set, Y, rfl, Int.le_refl _, h1, fun u hu => by have := h2 u hu; omega, fun n hn => ?_⟩⟩
      rcases Int.lt_or_le X n with h4 | h4
      · rw [has_after h2 (by omega), Bool.false_or]
        rcases Int.lt_or_le n Y with h5 | h5
        · rw [hF n (by omega) h5, ← hX, decide_eq_false (by omega)]
        · rw [decide_eq_true h5, show n = Y by omega, ← hv]
      · rw [h3 n h4, decide_eq_false (by omega), Bool.or_false]
  · obtain ⟨t, lo, rfl, h1, h2, h3, h4⟩ := h.yes rfl
    have hX := h.val
    cases v
    · have e : (if (false != true) = true then (if true = true then setLast (t ++ [⟨lo, 0⟩]) Y else t ++ [⟨lo, 0⟩] ++ [⟨Y, 0⟩]) else t ++ [⟨lo, 0⟩]) = t ++ [⟨lo, Y⟩] := by
        simp only [bne_iff_ne, ne_eq, Bool.false_eq_true, not_false_eq_true, if_true]
        exact setLast_snoc t ⟨lo, 0⟩ Y
      rw [e]
      refine ⟨hv, fun _ => ⟨setFrom_snoc h2 (fun u hu => h3 u hu) (fun a ha => by cases ha) (by show lo < Y; omega), fun u hu => ?_, fun n hn => ?_⟩, fun e => by cases e⟩
      · rcases List.mem_append.1 hu with hu | hu
        · have := h3 u hu; omega
        · rw [List.mem_singleton.1 hu]; exact Int.le_refl _
      · have e2 : hasB [⟨lo, Y⟩] n = (decide (lo ≤ n) && decide (n < Y)) := by simp [hasB, inB]
        rw [hasB_append, e2]
        rcases Int.lt_or_le n Y with h5 | h5
        · rw [decide_eq_true h5, Bool.and_true]
          rcases Int.lt_or_le X n with h6 | h6
          · rw [hF n (by omega) h5, ← hX, decide_eq_true (show lo ≤ n by omega), Bool.or_true]
          · rw [h4 n h6]
        · rw [decide_eq_false (show ¬ n < Y by omega), Bool.and_false, Bool.or_false, has_after (X := Y) (fun u hu => by have := h3 u hu; omega) h5, show n = Y by omega, ← hv]
    · refine ⟨hv, (fun e => by cases e), fun _ => ⟨t, lo, rfl, by omega, h2, h3, fun n hn => ?_⟩⟩
      rcases Int.lt_or_le X n with h6 | h6
      · rw [decide_eq_true (show lo ≤ n by omega), Bool.or_true]
        rcases Int.lt_or_le n Y with h5 | h5
        · rw [hF n (by omega) h5, ← hX]
        · rw [show n = Y by omega, ← hv]
      · exact h4 n h6
theorem under_all : ∀ (L : List Bd), ∃ X : Int, ∀ e ∈ L, X < e.x
  | [] => ⟨0, fun _ h => (by cases h)⟩
  | b :: L => by
    obtain ⟨X, h⟩ := under_all L
    refine ⟨min X (b.x - 1), fun e he => ?_⟩
    rcases List.mem_cons.1 he with rfl | he
    · omega
    · have := h e he; omega
theorem upTo_take {L : List Bd} {X : Int} {i : Nat} (h1 : ∀ k (hk : k < L.length), k < i → L[k].x ≤ X) (h2 : ∀ k (hk : k < L.length), i ≤ k → X < L[k].x) : upTo X L = L.take i := by
  have e : upTo X L = upTo X (L.take i) ++ upTo X (L.drop i) := by
    unfold upTo; rw [← List.filter_append, List.take_append_drop]
  rw [e]
  have a1 : upTo X (L.take i) = L.take i := by
    unfold upTo
    rw [List.filter_eq_self]
    intro b hb
    obtain ⟨k, hk, rfl⟩ := List.mem_iff_getElem.1 hb
    rw [List.length_take] at hk
    rw [List.getElem_take]
    exact decide_eq_true (h1 k (by omega) (by omega))
  have a2 : upTo X (L.drop i) = [] := by
    unfold upTo
    rw [List.filter_eq_nil_iff]
    intro b hb
    obtain ⟨k, hk, rfl⟩ := List.mem_iff_getElem.1 hb
    rw [List.length_drop] at hk
    rw [List.getElem_drop]
    have := h2 (i + k) (by omega) (by omega)
    simp; omega
  rw [a1, a2, List.append_nil]
/-- The landed sweep over bounds in order makes the set. -/
theorem run_all {op : Bool → Bool → Bool} (hop : op false false = false) {a b : List S} {L : List Bd} (hs : L.Pairwise (fun d e => d.x ≤ e.x)) (hp : L.Perm (raw false a ++ raw true b)) :
    IsOp op a b (run op L L.length).set ∧ ∀ i, i < L.length → (run op L i).tk = true → (run op L i).set ≠ [] := by
  obtain ⟨F, hF⟩ : ∃ F : Int → Bool, F = fun n => op (hasB a n) (hasB b n) := ⟨_, rfl⟩
  have hFn : ∀ n, F n = op (hasB a n) (hasB b n) := fun n => by rw [hF]
  have ma : ∀ e ∈ raw false a, e ∈ L := fun e he => hp.mem_iff.2 (List.mem_append_left _ he)
  have mb : ∀ e ∈ raw true b, e ∈ L := fun e he => hp.mem_iff.2 (List.mem_append_right _ he)
  have le_of : ∀ i k (hi : i < L.length) (hk : k < L.length), i ≤ k → L[i].x ≤ L[k].x := fun i k hi hk hik => by
    rcases Nat.eq_or_lt_of_le hik with h | h
    · subst h; exact Int.le_refl _
    · exact List.pairwise_iff_getElem.1 hs i k hi hk h
  have key : ∀ i, i ≤ L.length → ∃ X, Done F X (run op L i).tk (run op L i).set ∧ (∀ k (hk : k < L.length), i ≤ k → X < L[k].x) ∧ ∀ k (hk : k < L.length), k < i → L[k].x ≤ X ∨ ∃ hi : i < L.length, L[k].x = L[i].x := by
    intro i
    induction i with
    | zero =>
      intro _
      obtain ⟨X, hX⟩ := under_all L
      have h0 : ∀ n, n ≤ X → F n = false := fun n hn => by
        rw [hFn, raw_none (j := false) (.inl fun e he => by have := hX e (ma e he); omega), raw_none (j := true) (.inl fun e he => by have := hX e (mb e he); omega), hop]
      exact ⟨X, ⟨(h0 X (Int.le_refl _)).symm, fun _ => ⟨rfl, (fun _ h => (by cases h)), fun n hn => by rw [h0 n hn]; rfl⟩, fun e => by cases e⟩, fun k hk _ => hX _ (List.getElem_mem hk), fun k _ h => by omega⟩
    | succ i ih =>
      intro hi
      obtain ⟨X, hD, h1, h2⟩ := ih (by omega)
      have hil : i < L.length := by omega
      have hL : L[i]?.getD default = L[i] := by rw [List.getElem?_eq_getElem hil]; rfl
      have hrun : run op L (i + 1) = pass op (run op L i) L[i] (isLast L i) := by
        show pass op (run op L i) (L[i]?.getD default) (isLast L i) = _
        rw [hL]
      cases hla : isLast L i
      · -- further bounds at this number
        unfold isLast at hla
        rw [Bool.or_eq_false_iff, decide_eq_false_iff_not, decide_eq_false_iff_not] at hla
        obtain ⟨n1, n2⟩ := hla
        have hi1 : i + 1 < L.length := by omega
        have hx : L[i + 1].x = L[i].x := by
          have := Classical.not_not.1 n2
          rw [List.getElem?_eq_getElem hi1, hL] at this
          exact this
        have e1 : (run op L (i + 1)).tk = (run op L i).tk ∧ (run op L (i + 1)).set = (run op L i).set := by
          rw [hrun]
          have hla2 : isLast L i = false := by
            unfold isLast
            rw [Bool.or_eq_false_iff, decide_eq_false_iff_not, decide_eq_false_iff_not]
            exact ⟨n1, n2⟩
          unfold pass
          rw [hla2]
          exact ⟨rfl, rfl⟩
        rw [e1.1, e1.2]
        refine ⟨X, hD, fun k hk hik => h1 k hk (by omega), fun k hk hki => ?_⟩
        rcases Nat.eq_or_lt_of_le (Nat.le_of_lt_succ hki) with h | h
        · subst h; exact .inr ⟨hi1, hx.symm⟩
        · rcases h2 k hk h with h3 | ⟨_, h3⟩
          · exact .inl h3
          · exact .inr ⟨hi1, h3.trans hx.symm⟩
      · have hXY : X < L[i].x := h1 i hil (Nat.le_refl _)
        have hgt : ∀ k (hk : k < L.length), i + 1 ≤ k → L[i].x < L[k].x := fun k hk hik => by
          have a1 := le_of i (i + 1) hil (by omega) (by omega)
          have a2 := le_of (i + 1) k (by omega) hk hik
          have a3 : L[i + 1].x ≠ L[i].x := fun e => by
            unfold isLast at hla
            rw [Bool.or_eq_true, decide_eq_true_eq, decide_eq_true_eq] at hla
            rcases hla with h | h
            · omega
            · rw [List.getElem?_eq_getElem (show i + 1 < L.length by omega), hL] at h
              exact h e
          omega
        have hle : ∀ k (hk : k < L.length), k < i + 1 → L[k].x ≤ L[i].x := fun k hk hki => le_of k i hk hil (by omega)
        have hup : upTo L[i].x L = L.take (i + 1) := upTo_take hle hgt
        have hbet : ∀ e ∈ L, ∀ n, n < L[i].x → X < e.x → n < e.x := fun e he n hn hXe => by
          obtain ⟨k, hk, rfl⟩ := List.mem_iff_getElem.1 he
          rcases Nat.lt_or_ge k i with h | h
          · rcases h2 k hk h with h3 | ⟨_, h3⟩ <;> omega
          · have := le_of i k hil hk h; omega
        have hFc : ∀ n, X ≤ n → n < L[i].x → F n = F X := fun n hn hlt => by
          rw [hFn, hFn, raw_between (j := false) hn (fun e he h => hbet e (ma e he) n hlt h), raw_between (j := true) hn (fun e he h => hbet e (mb e he) n hlt h)]
        have hcnt : ∀ j, cntB j (L.take (i + 1)) = cntB j (upTo L[i].x (raw false a)) + cntB j (upTo L[i].x (raw true b)) := fun j => by
          rw [← hup]
          have : (upTo L[i].x L).Perm (upTo L[i].x (raw false a ++ raw true b)) := hp.filter _
          rw [cntB_perm this]
          unfold upTo
          rw [List.filter_append, cntB_append]
        obtain ⟨c0, c1⟩ := run_cnt op L (i + 1) hi
        rw [hcnt, cnt_same, cnt_other (by decide), Int.add_zero, hrun, (pass_o _ _ _).1] at c0
        rw [hcnt, cnt_same, cnt_other (by decide), Int.zero_add, hrun, (pass_o _ _ _).2] at c1
        have hv : op (decide (0 < ov0 (run op L i) L[i])) (decide (0 < ov1 (run op L i) L[i])) = F L[i].x := by
          rw [c0, c1, cnt_pos, cnt_pos, hFn]
        have hN := hD.next hXY hFc _ hv
        refine ⟨L[i].x, ?_, fun k hk hik => hgt k hk hik, fun k hk hki => .inl (hle k hk hki)⟩
        rw [hrun]
        unfold pass
        rw [hla, Bool.true_and]
        by_cases hne : (op (decide (0 < ov0 (run op L i) L[i])) (decide (0 < ov1 (run op L i) L[i])) != (run op L i).tk) = true
        · rw [if_pos hne] at hN ⊢
          have hb : op (decide (0 < ov0 (run op L i) L[i])) (decide (0 < ov1 (run op L i) L[i])) = !(run op L i).tk := by
            revert hne
            cases op (decide (0 < ov0 (run op L i) L[i])) (decide (0 < ov1 (run op L i) L[i])) <;> cases (run op L i).tk <;> simp
          rw [hb] at hN
          exact hN
        · rw [if_neg hne] at hN ⊢
          have hb : op (decide (0 < ov0 (run op L i) L[i])) (decide (0 < ov1 (run op L i) L[i])) = (run op L i).tk := by
            revert hne
            cases op (decide (0 < ov0 (run op L i) L[i])) (decide (0 < ov1 (run op L i) L[i])) <;> cases (run op L i).tk <;> simp
          rw [hb] at hN
          exact hN
  constructor
  · obtain ⟨X, hD, _, h2⟩ := key L.length (Nat.le_refl _)
    have hle : ∀ e ∈ L, e.x ≤ X := fun e he => by
      obtain ⟨k, hk, rfl⟩ := List.mem_iff_getElem.1 he
      rcases h2 k hk hk with h | ⟨h, _⟩
      · exact h
      · omega
    have hz : ∀ n, X ≤ n → F n = false := fun n hn => by
      rw [hFn, raw_none (j := false) (.inr fun e he => by have := hle e (ma e he); omega), raw_none (j := true) (.inr fun e he => by have := hle e (mb e he); omega), hop]
    obtain ⟨g1, g2, g3⟩ := hD.no (hD.val.trans (hz X (Int.le_refl _)))
    refine ⟨g1, fun n => ?_⟩
    rw [← hFn]
    rcases Int.lt_or_le X n with h | h
    · rw [hz n (by omega), has_after g2 (by omega)]
    · exact g3 n h
  · intro i hi htk
    obtain ⟨X, hD, _, _⟩ := key i (by omega)
    obtain ⟨t, lo, e, _⟩ := hD.yes htk
    rw [e]
    simp
end Sn
end Go.Proofs.Ytkmbidmncnlbkaa
