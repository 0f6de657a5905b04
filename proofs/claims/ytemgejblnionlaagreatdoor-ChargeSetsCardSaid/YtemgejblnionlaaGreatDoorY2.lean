/-
  Texts QaPa, put together by program.
-/
import Derived.WalkKit
import Derived.Lib.Hide
namespace Go.Proofs.YtemgejblnionlaaGreatDoor.Acl
set_option maxRecDepth 100000
namespace Ap
structure Ac where
 who : Int
 allow : Bool
 rights : Int
 reach : Int
 given : Bool
 deriving DecidableEq
def enc (a : Ac) : List Value := [.int .i64 a.who, .bool a.allow, .int .i64 a.rights, .int .i64 a.reach, .bool a.given]
def av (a : Ac) : Value := .agg #[.int .i64 a.who, .bool a.allow, .int .i64 a.rights, .int .i64 a.reach, .bool a.given]
def encs (l : List Ac) : List Value := l.flatMap enc
def Ac.ok (a : Ac) : Prop := (-9223372036854775808 ≤ a.who ∧ a.who ≤ 9223372036854775807) ∧ (-9223372036854775808 ≤ a.rights ∧ a.rights ≤ 9223372036854775807) ∧ (-9223372036854775808 ≤ a.reach ∧ a.reach ≤ 9223372036854775807)
def Ac.mk0 (a : Ac) : Ac := { a with rights := 0 }
def Ac.put (a : Ac) (r : Int) : Ac := { a with rights := r }
def inR (a : Ac) : Bool := decide (-2 ≤ a.who) && decide (a.who ≤ 999) && decide (0 ≤ a.rights) && decide (a.rights ≤ 15) && decide (1 ≤ a.reach) && decide (a.reach ≤ 3)
def right (a : Ac) : Bool := decide (-2 ≤ a.who) && decide (a.who ≤ 999) && decide (1 ≤ a.rights) && decide (a.rights ≤ 15) && decide (1 ≤ a.reach) && decide (a.reach ≤ 3)
def marked (a b : Ac) : Bool := a.who == b.who && a.allow == b.allow && a.reach == b.reach && a.given == b.given
def cnt (a : Ac) (who owner : Int) : Bool := (a.reach == 1 || a.reach == 2) && (a.who == who || a.who == -1 || (a.who == -2 && who == owner))
end Ap
end Go.Proofs.YtemgejblnionlaaGreatDoor.Acl
