/-
  Plain facts of the rights that a list gives: as 64 bits, folded over the list.
-/
import Derived.Test.YtkpedfigaofloaaPa
import Derived.IntWalk
namespace Go.Proofs.Ytkpedfigaofloaa
namespace Ap
/-- A number of Go's int as its 64 bits. -/
def bv (x : Int) : BitVec 64 := BitVec.ofInt 64 x
theorem wrap_toNat (v : BitVec 64) : IntKind.i64.wrap (v.toNat : Int) = v.toInt := by
  rw [IntKind.wrap_i64]
  have h := v.isLt
  rw [BitVec.toInt_eq_toNat_cond]
  split <;> omega
theorem bv_toInt (v : BitVec 64) : bv v.toInt = v := by simp [bv]
theorem bits_and (x y : Int) : bits .and .i64 x y = (bv x &&& bv y).toInt := wrap_toNat _
theorem bits_or (x y : Int) : bits .or .i64 x y = (bv x ||| bv y).toInt := wrap_toNat _
theorem bits_andNot (x y : Int) : bits .andNot .i64 x y = (bv x &&& ~~~(bv y)).toInt := wrap_toNat _

def stepR (who owner : Int) (s : BitVec 64 × BitVec 64) (e : Ac) : BitVec 64 × BitVec 64 :=
  if cnt e who owner = true then (if e.allow = true then s.1 ||| (bv e.rights &&& s.2) else s.1, s.2 &&& ~~~(bv e.rights)) else s
def foldR (l : List Ac) (who owner : Int) : BitVec 64 × BitVec 64 := l.foldl (stepR who owner) (0, 15)
def rightsV (l : List Ac) (who owner : Int) : BitVec 64 := if who = 0 then 15 else if who = owner then (foldR l who owner).1 ||| 8 else (foldR l who owner).1
theorem foldR_snoc (l : List Ac) (e : Ac) (who owner : Int) : foldR (l ++ [e]) who owner = stepR who owner (foldR l who owner) e := by simp [foldR]
/-- A list is gone through: the marks that were seen, and whether the last entry was given. -/
def badV (seen : List Ac) (g : Bool) (a : Ac) : Bool := !inR a || a.rights == 0 || decide (a.mk0 ∈ seen) || (g && !a.given)
def goV : List Ac → Bool → List Ac → Bool
  | _, _, [] => true
  | seen, g, a :: l => if badV seen g a = true then false else goV (a.mk0 :: seen) a.given l
def validB (l : List Ac) : Bool := decide (l.length ≤ 16) && goV [] false l
end Ap
end Go.Proofs.Ytkpedfigaofloaa
