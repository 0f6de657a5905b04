/-
  Plain mathematics on lists of bytes for layer 1, second part: joining, being below, swapping. No program is imported here.
-/
import Derived.Test.YtimlfdlocjfgaaaDoorPl
namespace Go.Proofs.YtimlfdlocjfgaaaDoor.Pl

/-- A list of bytes as a Go string. -/
def mk (l : Bs) : ByteArray := ⟨l.toArray⟩
@[simp] theorem mk_data (l : Bs) : (mk l).data.toList = l := rfl
@[simp] theorem mk_of (s : ByteArray) : mk s.data.toList = s := Lib.mk_data s
@[simp] theorem mk_size (l : Bs) : (mk l).size = l.length := by rw [Lib.size_eq, mk_data]
@[simp] theorem mk_toList (l : Bs) : (mk l).toList = l := by rw [Lib.toList_data, mk_data]
theorem mk_inj {a b : Bs} (h : mk a = mk b) : a = b := by have := congrArg (fun s : ByteArray => s.data.toList) h; simpa using this
theorem mk_eq {s : ByteArray} {l : Bs} (h : s.data.toList = l) : s = mk l := by rw [← h, mk_of]
theorem mk_append (a b : Bs) : mk a ++ mk b = mk (a ++ b) := by
  rw [← mk_of (mk a ++ mk b)]; congr 1
theorem append_data (s t : ByteArray) : (s ++ t).data.toList = s.data.toList ++ t.data.toList := by simp

def under (d p : Bs) : Bs := if d = [] then p else d ++ 47 :: p
def belowB (p q : Bs) : Bool := p == q || q == [] || (q ++ [47]).isPrefixOf p
def swapS (q f t : Bs) : Bs := if q = f then t else under t (if f = [] then q else q.drop (f.length + 1))

theorem below_of (p q : Bs) : belowB p q = (Lib.hasPrefix p q && (Lib.trimPrefix p q == [] || q == [] || Lib.hasPrefix (Lib.trimPrefix p q) [47])) := by
  unfold belowB Lib.trimPrefix
  by_cases h : Lib.hasPrefix p q = true
  · obtain ⟨r, rfl⟩ : q <+: p := by simpa [Lib.hasPrefix] using h
    simp only [h, if_true, Bool.true_and, List.drop_left]
    rw [Bool.eq_iff_iff]
    simp [Lib.hasPrefix, List.prefix_append_right_inj]
  · have h' : ¬ q <+: p := by simpa [Lib.hasPrefix] using h
    rw [Bool.not_eq_true] at h
    rw [h, Bool.false_and, Bool.eq_false_iff]
    intro hb
    simp only [Bool.or_eq_true, beq_iff_eq, List.isPrefixOf_iff_prefix] at hb
    rcases hb with (rfl | rfl) | hb
    · exact h' (List.prefix_refl _)
    · exact h' (List.nil_prefix)
    · exact h' ((List.prefix_append _ _).trans hb)

theorem below_len {q f : Bs} (h : belowB q f = true) (hne : q ≠ f) (hf : f ≠ []) : f.length + 1 ≤ q.length := by
  simp only [belowB, Bool.or_eq_true, beq_iff_eq, List.isPrefixOf_iff_prefix] at h
  rcases h with (h | h) | h
  · exact absurd h hne
  · exact absurd h hf
  · simpa using h.length_le

theorem vld_len {l : Bs} (h : vld l = true) : l.length ≤ 16 := by
  simp only [vld, Bool.and_eq_true, decide_eq_true_eq] at h; exact h.1.1.1.2
theorem vtag_len {l : Bs} (h : vtag l = true) : l.length ≤ 4 := by
  simp only [vtag, Bool.and_eq_true, decide_eq_true_eq] at h; exact h.1.2
def digs (k : Nat) : Bs := if k < 10 then [UInt8.ofNat (48 + k)] else [UInt8.ofNat (48 + k / 10), UInt8.ofNat (48 + k % 10)]
theorem digs_len (k : Nat) : 1 ≤ (digs k).length ∧ (digs k).length ≤ 2 := by unfold digs; split <;> simp
def copyS (n tag : Bs) (k : Int) : Bs :=
  if vld n = true ∧ vtag tag = true ∧ 0 ≤ k ∧ k ≤ 99 then
    n.take (16 - (tag.length + 2 + (digs k.toNat).length)) ++ (126 :: (tag ++ 126 :: digs k.toNat))
  else []

end Go.Proofs.YtimlfdlocjfgaaaDoor.Pl
