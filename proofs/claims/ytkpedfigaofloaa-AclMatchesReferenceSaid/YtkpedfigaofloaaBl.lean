/-
  All ways of the program's Put; plain facts of the law AclLimits.
-/
import Derived.Test.YtkpedfigaofloaaBk
import Derived.Test.YtkpedfigaofloaaBd
namespace Go.Proofs.Ytkpedfigaofloaa
open Go.RowKit Ap
set_option maxHeartbeats 400000

/-- What Put gives: a list, and an error's number. -/
def putL (l : List Ac) (e : Ac) : List Ac × Int :=
  if putBad l e = true then ([], 20)
  else match placeN l e.mk0 with
    | some j => if e.rights = 0 then (l.eraseIdx j, 0) else (l.set j e, 0)
    | none => if e.rights = 0 then (l, 0) else if l.length + 1 ≤ 16 then (insL l (ownL l false).length e, 0) else ([], 2)
theorem put_any (A : Option Addr) (n c : Nat) (l : List Ac) (e : Ac) (hn : l.length = n) (hl : n ≤ 1000) (hok : ∀ a ∈ l, a.ok) (hs : A = none → n = 0 ∧ c = 0) (w : World) (hA : Aces w A l) :
    Calls Try.prog 25 #[.slice A n c, av e] w fun x w' => ∃ A' m c', x = .returned (.tuple #[.slice A' m c', .int .i64 (putL l e).2]) ∧ w'.ownsRow w.heap.size 31 5 (.slice A' m c') m (encs (putL l e).1) ∧ Below w.heap.size w w' := by
  unfold putL
  cases hb : putBad l e with
  | true =>
    rw [if_pos rfl]
    exact (put_bad A n c l e hn hl hok hb w hA).mono fun x w' ⟨h1, h2⟩ => ⟨none, 0, 0, h1, World.ownsRow_nil _ _ _ _, h2⟩
  | false =>
    rw [if_neg (by simp)]
    cases hj : placeN l e.mk0 with
    | some j =>
      dsimp only
      by_cases hr : e.rights = 0
      · rw [if_pos hr]
        exact (put_del A n c l e hn hok hs hb j hj hr w hA).mono fun x w' ⟨A', c', h1, h2, h3⟩ => ⟨A', _, c', h1, h2, h3⟩
      · rw [if_neg hr]
        exact (put_set A n c l e hn hok hs hb j hj hr w hA).mono fun x w' ⟨A', c', h1, h2, h3⟩ => ⟨A', _, c', h1, h2, h3⟩
    | none =>
      dsimp only
      by_cases hr : e.rights = 0
      · rw [if_pos hr]
        exact (put_none A n c l e hn hok hs hb hj hr w hA).mono fun x w' ⟨A', c', h1, h2, h3⟩ => ⟨A', _, c', h1, h2, h3⟩
      · rw [if_neg hr, hn]
        by_cases h16 : n + 1 ≤ 16
        · rw [if_pos h16]
          exact (put_ins A n c l e hn hok hs hb hj hr w hA).mono fun x w' h => by
            rw [if_pos h16] at h
            obtain ⟨A', c', h1, h2, h3⟩ := h
            exact ⟨A', _, c', h1, h2, h3⟩
        · rw [if_neg h16]
          exact (put_ins A n c l e hn hok hs hb hj hr w hA).mono fun x w' h => by
            rw [if_neg h16] at h
            exact ⟨none, 0, 0, h.1, World.ownsRow_nil _ _ _ _, h.2⟩

/-! ### AclLimits -/
def limE (i : Nat) : Ac := ⟨100 + (i : Int), true, 1 + (i : Int) % 15, 1 + (i : Int) % 3, decide (10 ≤ (i : Int))⟩
def limL (n : Nat) : List Ac := (List.range n).map limE
theorem limL_len (n : Nat) : (limL n).length = n := by simp [limL]
theorem limL_succ (n : Nat) : limL (n + 1) = limL n ++ [limE n] := by simp [limL, List.range_succ]
theorem limE_ok {i : Nat} (h : i < 20) : (limE i).ok := by unfold Ac.ok limE; dsimp only; omega
theorem limL_ok {n : Nat} (h : n < 20) : ∀ a ∈ limL n, a.ok := by
  intro a ha
  obtain ⟨i, hi, rfl⟩ := List.mem_map.1 ha
  exact limE_ok (by have := List.mem_range.1 hi; omega)
theorem lim_valid : ∀ n : _root_.Fin 20, validB (limL n.val) = decide (n.val ≤ 16) := by decide +kernel
theorem lim_two : ∀ n : _root_.Fin 20, 10 < n.val → validB [limE (n.val - 1), limE 0] = false := by decide +kernel
def putE : Ac := ⟨1, false, 1, 1, false⟩
theorem lim_put : ∀ n : _root_.Fin 20, (putL (limL n.val) putE).2 = if n.val = 16 then 2 else if 16 < n.val then 20 else 0 := by decide +kernel
theorem limL_get {n j : Nat} (h : j < n) : (limL n)[j]? = some (limE j) := by
  unfold limL
  rw [List.getElem?_map, List.getElem?_range h]; rfl
theorem valid_one (e : Ac) : validB [e] = right e := by
  unfold validB goV goV badV right inR
  have h1 : decide (([e] : List Ac).length ≤ 16) = true := rfl
  have h2 : decide (e.mk0 ∈ ([] : List Ac)) = false := by simp
  rw [h1, h2]
  simp only [Bool.true_and, Bool.false_and, Bool.or_false]
  by_cases h : e.rights = 0
  · have : (e.rights == 0) = true := by simp [h]
    rw [this]; simp [h]
  · have h0 : (e.rights == 0) = false := by simp [h]
    rw [h0]
    have h3 : decide (0 ≤ e.rights) = decide (1 ≤ e.rights) := by
      rw [Bool.eq_iff_iff]; simp only [decide_eq_true_eq]; omega
    rw [h3]
    cases decide (-2 ≤ e.who) <;> cases decide (e.who ≤ 999) <;> cases decide (1 ≤ e.rights) <;> cases decide (e.rights ≤ 15) <;> cases decide (1 ≤ e.reach) <;> cases decide (e.reach ≤ 3) <;> rfl
end Go.Proofs.Ytkpedfigaofloaa
