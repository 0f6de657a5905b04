/-
  Plain facts of entries of access lists: an entry as five fields, its value in memory, its mark. Nothing of the program is named here.
-/
import Derived.WalkKit
import Derived.Lib.Hide
namespace Go.Proofs.Ytkpedfigaofloaa
namespace Ap

structure Ac where
  who : Int
  allow : Bool
  rights : Int
  reach : Int
  given : Bool
  deriving DecidableEq

/-- An entry's five cells, and the entry as one value. -/
def enc (a : Ac) : List Value := [.int .i64 a.who, .bool a.allow, .int .i64 a.rights, .int .i64 a.reach, .bool a.given]
def av (a : Ac) : Value := .agg #[.int .i64 a.who, .bool a.allow, .int .i64 a.rights, .int .i64 a.reach, .bool a.given]
def encs (l : List Ac) : List Value := l.flatMap enc
/-- The entry's numbers are of Go's int. -/
def Ac.ok (a : Ac) : Prop := (-9223372036854775808 ≤ a.who ∧ a.who ≤ 9223372036854775807) ∧ (-9223372036854775808 ≤ a.rights ∧ a.rights ≤ 9223372036854775807) ∧ (-9223372036854775808 ≤ a.reach ∧ a.reach ≤ 9223372036854775807)
/-- The mark: the entry without its rights. -/
def Ac.mk0 (a : Ac) : Ac := { a with rights := 0 }
def Ac.put (a : Ac) (r : Int) : Ac := { a with rights := r }
theorem Ac.ok0 {a : Ac} (h : a.ok) : a.mk0.ok := ⟨h.1, by simp [Ac.mk0], h.2.2⟩

def inR (a : Ac) : Bool := decide (-2 ≤ a.who) && decide (a.who ≤ 999) && decide (0 ≤ a.rights) && decide (a.rights ≤ 15) && decide (1 ≤ a.reach) && decide (a.reach ≤ 3)
def right (a : Ac) : Bool := decide (-2 ≤ a.who) && decide (a.who ≤ 999) && decide (1 ≤ a.rights) && decide (a.rights ≤ 15) && decide (1 ≤ a.reach) && decide (a.reach ≤ 3)
def marked (a b : Ac) : Bool := a.who == b.who && a.allow == b.allow && a.reach == b.reach && a.given == b.given
def cnt (a : Ac) (who owner : Int) : Bool := (a.reach == 1 || a.reach == 2) && (a.who == who || a.who == -1 || (a.who == -2 && who == owner))
def outc (b m t : Int) : Int × Bool := if m = b then (t, true) else if t = b ∨ m = t then (m, true) else (0, false)
end Ap
end Go.Proofs.Ytkpedfigaofloaa
