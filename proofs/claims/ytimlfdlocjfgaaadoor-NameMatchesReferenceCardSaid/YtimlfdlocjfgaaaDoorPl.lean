/-
  Plain mathematics on lists of bytes for layer 1 (names and paths): what a name, a path, its parts and its joins are. No program is imported here, and nothing is claimed of one.
-/
import Derived.Lib.IndexMore
import Derived.Lib.Strings
namespace Go.Proofs.YtimlfdlocjfgaaaDoor.Pl
abbrev Bs := List UInt8

def lett (c : UInt8) : Bool := (decide (97 ≤ c.toNat) && decide (c.toNat ≤ 122)) || (decide (65 ≤ c.toNat) && decide (c.toNat ≤ 90))
def okb (c : UInt8) : Bool := lett c || (decide (48 ≤ c.toNat) && decide (c.toNat ≤ 57)) || c == 46 || c == 95 || c == 45 || c == 126
def vld (l : Bs) : Bool := decide (1 ≤ l.length) && decide (l.length ≤ 16) && !(l == [46]) && !(l == [46, 46]) && l.all okb
def cutGo : Bs → Bs → List Bs
  | last, [] => [last]
  | last, c :: r => if c = 47 then last :: cutGo [] r else cutGo (last ++ [c]) r
def cut (p : Bs) : List Bs := if p = [] then [] else cutGo [] p
def isPath (p : Bs) : Bool := (cut p).all vld && decide ((cut p).length ≤ 8)

theorem vld_no {l : Bs} (h : ¬ (l ≠ [] ∧ l.length ≤ 16 ∧ l ≠ [46] ∧ l ≠ [46, 46])) : vld l = false := by
  rw [Bool.eq_false_iff]
  intro hv
  simp only [vld, Bool.and_eq_true, decide_eq_true_eq, Bool.not_eq_true', beq_eq_false_iff_ne] at hv
  exact h ⟨fun e => by rw [e] at hv; simp at hv, hv.1.1.1.2, hv.1.1.2, hv.1.2⟩
theorem vld_bad {l : Bs} {i : Nat} (hi : i < l.length) (h : okb l[i] = false) : vld l = false := by
  rw [Bool.eq_false_iff]
  intro hv
  simp only [vld, Bool.and_eq_true] at hv
  have := List.all_eq_true.1 hv.2 _ (List.getElem_mem hi)
  rw [h] at this; cases this
theorem vld_yes {l : Bs} (h : l ≠ [] ∧ l.length ≤ 16 ∧ l ≠ [46] ∧ l ≠ [46, 46]) (hok : (l.take l.length).all okb = true) : vld l = true := by
  obtain ⟨h1, h2, h3, h4⟩ := h
  have : 1 ≤ l.length := by cases l with | nil => exact absurd rfl h1 | cons => simp
  rw [List.take_length] at hok
  simp [vld, this, h2, h3, h4, hok]
/-- All bytes of the first k are right. -/
def Okto (l : Bs) (k : Nat) : Prop := (l.take k).all okb = true
theorem okto_zero (l : Bs) : Okto l 0 := by simp [Okto]
theorem okto_succ {l : Bs} {k : Nat} (h : Okto l k) (hk : k < l.length) (hb : okb l[k] = true) : Okto l (k + 1) := by
  unfold Okto at *
  rw [List.take_succ_eq_append_getElem hk, List.all_append, h]
  simp [hb]
/-- All bytes of the first k are letters. -/
def Letto (l : Bs) (k : Nat) : Prop := (l.take k).all lett = true
theorem letto_zero (l : Bs) : Letto l 0 := by simp [Letto]
theorem letto_succ {l : Bs} {k : Nat} (h : Letto l k) (hk : k < l.length) (hb : lett l[k] = true) : Letto l (k + 1) := by
  unfold Letto at *
  rw [List.take_succ_eq_append_getElem hk, List.all_append, h]
  simp [hb]
def vtag (l : Bs) : Bool := decide (1 ≤ l.length) && decide (l.length ≤ 4) && l.all lett
theorem vtag_no {l : Bs} (h : ¬ (l ≠ [] ∧ l.length ≤ 4)) : vtag l = false := by
  rw [Bool.eq_false_iff]
  intro hv
  simp only [vtag, Bool.and_eq_true, decide_eq_true_eq] at hv
  exact h ⟨fun e => by rw [e] at hv; simp at hv, hv.1.2⟩
theorem vtag_bad {l : Bs} {i : Nat} (hi : i < l.length) (h : lett l[i] = false) : vtag l = false := by
  rw [Bool.eq_false_iff]
  intro hv
  simp only [vtag, Bool.and_eq_true] at hv
  have := List.all_eq_true.1 hv.2 _ (List.getElem_mem hi)
  rw [h] at this; cases this
theorem vtag_yes {l : Bs} (h : l ≠ [] ∧ l.length ≤ 4) (hok : Letto l l.length) : vtag l = true := by
  obtain ⟨h1, h2⟩ := h
  have : 1 ≤ l.length := by cases l with | nil => exact absurd rfl h1 | cons => simp
  unfold Letto at hok
  rw [List.take_length] at hok
  simp [vtag, this, h2, hok]

end Go.Proofs.YtimlfdlocjfgaaaDoor.Pl
