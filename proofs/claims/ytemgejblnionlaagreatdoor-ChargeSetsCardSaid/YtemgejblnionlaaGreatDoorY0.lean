/-
  Texts Pk, put together by program.
-/
import Derived.WalkKit
import Derived.BigRegion
import Derived.OrdersHeld
set_option maxRecDepth 100000
open Go
namespace Go.Proofs.YtemgejblnionlaaGreatDoor
universe u
theorem puts : (∀ {α : Type u} {xs : List α} {i : Nat} (h : i < xs.toArray.size), xs.toArray[i] = xs[i]'(by simpa using h)) ∧
 (∀ {α : Type u} {a : α} {as : List α} {i : Nat} (h : i + 1 < (a :: as).length), (a :: as)[i + 1] = as[i]'(Nat.lt_of_succ_lt_succ h)) ∧
 (∀ {α : Type u} {a : α} {as : List α} (h : 0 < (a :: as).length), (a :: as)[0] = a) ∧
 (∀ {α : Type u} (l : List α) (i : Nat) (a : α), l.toArray.setIfInBounds i a = (l.set i a).toArray) ∧
 (∀ {α : Type u} {x : α} {xs : List α} {a : α}, (x :: xs).set 0 a = a :: xs) ∧
 (∀ {α : Type u} {x : α} {xs : List α} {n : Nat} {a : α}, (x :: xs).set (n + 1) a = x :: xs.set n a) :=
 ⟨fun _ => List.getElem_toArray _, fun _ => List.getElem_cons_succ .., fun _ => List.getElem_cons_zero .., fun _ _ _ => List.setIfInBounds_toArray .., List.set_cons_zero .., List.set_cons_succ ..⟩
theorem takeH {P : Program} {md : Region.Mode} {ops : Array Oper} {Q : Exit → Act → World → Prop} {S : World → Prop} (i : Nat) (v : Value) {oi : Oper} {fuel : Nat}
 {listed : Array Bool} {a : Act} {w : World} (hi : ops[i]? = some oi) (hy : YieldsIf P ops S oi v a)
 (h : wpAnyH P md ops Q S fuel (listed.setIfInBounds i true) (a.put oi.dst v) w)
 (hs : Region.noSelect ops = true := by kernel_rfl) (hf : Region.free md ops listed i = true := by kernel_rfl)
 (hr : (Region.ready md ops listed).contains i = true := by kernel_rfl)
 (hQ : ∀ c a w, Q (.panic c) (a.put oi.dst v) w → Q (.panic c) a w := by exact fun _ _ _ h => h) (hS : S w := by assumption) :
 wpAnyH P md ops Q S (fuel + 1) listed a w := wpAnyH_take hi hs hf hr hQ hy hS h
end Go.Proofs.YtemgejblnionlaaGreatDoor
