/-
  What the walk of the law AclRights needs: the blocks of its arguments, an entry laid into a block, what stands between its regions.
-/
import Derived.Test.YtkpedfigaofloaaAw
import Derived.Test.YtkpedfigaofloaaPg
import Derived.Deep.DeepCutAuto
namespace Go.Proofs.Ytkpedfigaofloaa
open Go.RowKit Ap
set_option maxHeartbeats 400000

/-- The blocks of the two arrays of bytes. -/
def Rin (b : Nat) (x y z p q : UInt8) (w W : World) : Prop :=
  W.cell? ⟨b, 0, none⟩ = some (.int .u8 x.toNat) ∧ W.cell? ⟨b, 1, none⟩ = some (.int .u8 y.toNat) ∧ W.cell? ⟨b, 2, none⟩ = some (.int .u8 z.toNat) ∧ W.cell? ⟨b + 1, 0, none⟩ = some (.int .u8 p.toNat) ∧ W.cell? ⟨b + 1, 1, none⟩ = some (.int .u8 q.toNat) ∧ Below w.heap.size w W
theorem Rin.step {b : Nat} {x y z p q : UInt8} {w W W' : World} (h : Rin b x y z p q w W) (hb : Below W.heap.size W W') : Rin b x y z p q w W' :=
  ⟨(hb.cell (block_lt_of_cell h.1)).trans h.1, (hb.cell (block_lt_of_cell h.2.1)).trans h.2.1, (hb.cell (block_lt_of_cell h.2.2.1)).trans h.2.2.1, (hb.cell (block_lt_of_cell h.2.2.2.1)).trans h.2.2.2.1, (hb.cell (block_lt_of_cell h.2.2.2.2.1)).trans h.2.2.2.2.1, h.2.2.2.2.2.trans (hb.mono h.2.2.2.2.2.size)⟩
theorem Rin.drew {b : Nat} {x y z p q : UInt8} {w W : World} (h : Rin b x y z p q w W) : Rin b x y z p q w W.drew := ⟨h.1, h.2.1, h.2.2.1, h.2.2.2.1, h.2.2.2.2.1, h.2.2.2.2.2.drew⟩
theorem rin_new {x y z p q : UInt8} {w : World} : Rin w.heap.size x y z p q w ((w.alloc (.cells #[.int .u8 x.toNat, .int .u8 y.toNat, .int .u8 z.toNat] 45)).alloc (.cells #[.int .u8 p.toNat, .int .u8 q.toNat] 46)) := by
  have h0 := Go.heap_alloc_new w (.cells #[.int .u8 x.toNat, .int .u8 y.toNat, .int .u8 z.toNat] 45)
  have h1 := Go.heap_alloc_new (w.alloc (.cells #[.int .u8 x.toNat, .int .u8 y.toNat, .int .u8 z.toNat] 45)) (.cells #[.int .u8 p.toNat, .int .u8 q.toNat] 46)
  rw [show (w.alloc (.cells #[.int .u8 x.toNat, .int .u8 y.toNat, .int .u8 z.toNat] 45)).heap.size = w.heap.size + 1 by simp] at h1
  have d0 := fun i => cell_of_row _ w.heap.size i _ _ _ h0
  have d1 := fun i => cell_of_row _ (w.heap.size + 1) i _ _ _ h1
  exact ⟨alloc_keep (d0 0), alloc_keep (d0 1), alloc_keep (d0 2), d1 0, d1 1, by go_grown⟩
theorem alloc_drew_keep {W : World} {o : Obj} {p : Addr} {v : Value} (h : W.cell? p = some v) : (W.alloc o).drew.cell? p = some v := alloc_keep h
theorem undrew {X W : World} (hb : Below X.drew.heap.size X.drew W) : Below X.heap.size X W := ((Below.refl _ X).drew).trans hb
/-- Five cells of a block are set. -/
theorem five_far {W : World} {g b i : Nat} {u0 u1 u2 u3 u4 v : Value} (hne : b < g) (h : W.cell? ⟨b, i, none⟩ = some v) : (((((W.setCell ⟨g, 0, none⟩ u0).setCell ⟨g, 1, none⟩ u1).setCell ⟨g, 2, none⟩ u2).setCell ⟨g, 3, none⟩ u3).setCell ⟨g, 4, none⟩ u4).cell? ⟨b, i, none⟩ = some v := by
  have hk : ∀ (k : Nat), (⟨g, k, none⟩ : Addr) ≠ ⟨b, i, none⟩ := fun k e => by injection e; omega
  rw [World.cell?_setCell_other _ _ _ _ (hk 4), World.cell?_setCell_other _ _ _ _ (hk 3), World.cell?_setCell_other _ _ _ _ (hk 2), World.cell?_setCell_other _ _ _ _ (hk 1), World.cell?_setCell_other _ _ _ _ (hk 0)]
  exact h
theorem five_below {W V : World} {B g : Nat} {u0 u1 u2 u3 u4 : Value} (h : Below B V W) (hg : B ≤ g) : Below B V (((((W.setCell ⟨g, 0, none⟩ u0).setCell ⟨g, 1, none⟩ u1).setCell ⟨g, 2, none⟩ u2).setCell ⟨g, 3, none⟩ u3).setCell ⟨g, 4, none⟩ u4) :=
  ((((h.setCell (p := ⟨g, 0, none⟩) hg _).setCell (p := ⟨g, 1, none⟩) hg _).setCell (p := ⟨g, 2, none⟩) hg _).setCell (p := ⟨g, 3, none⟩) hg _).setCell (p := ⟨g, 4, none⟩) hg _
theorem five_near {W : World} {g : Nat} {e : Ac} {v0 v1 v2 v3 v4 : Value} (h0 : W.cell? ⟨g, 0, none⟩ = some v0) (h1 : W.cell? ⟨g, 1, none⟩ = some v1) (h2 : W.cell? ⟨g, 2, none⟩ = some v2) (h3 : W.cell? ⟨g, 3, none⟩ = some v3) (h4 : W.cell? ⟨g, 4, none⟩ = some v4) :
    Mk g e (((((W.setCell ⟨g, 0, none⟩ (.int .i64 e.who)).setCell ⟨g, 1, none⟩ (.bool e.allow)).setCell ⟨g, 2, none⟩ (.int .i64 e.rights)).setCell ⟨g, 3, none⟩ (.int .i64 e.reach)).setCell ⟨g, 4, none⟩ (.bool e.given)) := by
  have ne : ∀ {i j : Nat}, i ≠ j → (⟨g, i, none⟩ : Addr) ≠ ⟨g, j, none⟩ := fun h e => h (by injection e)
  have o := fun (V : World) (i j : Nat) (t : Value) (h : i ≠ j) => World.cell?_setCell_other V ⟨g, i, none⟩ ⟨g, j, none⟩ t (ne h)
  have sm := fun (V : World) (i : Nat) (t t' : Value) (h : V.cell? ⟨g, i, none⟩ = some t') => World.cell?_setCell_same V ⟨g, i, none⟩ t h
  refine ⟨?_, ?_, ?_, ?_, ?_⟩
  · rw [o _ 4 0 _ (by decide), o _ 3 0 _ (by decide), o _ 2 0 _ (by decide), o _ 1 0 _ (by decide)]; exact sm _ 0 _ _ h0
  · rw [o _ 4 1 _ (by decide), o _ 3 1 _ (by decide), o _ 2 1 _ (by decide)]; exact sm _ 1 _ _ (by rw [o _ 0 1 _ (by decide)]; exact h1)
  · rw [o _ 4 2 _ (by decide), o _ 3 2 _ (by decide)]; exact sm _ 2 _ _ (by rw [o _ 1 2 _ (by decide), o _ 0 2 _ (by decide)]; exact h2)
  · rw [o _ 4 3 _ (by decide)]; exact sm _ 3 _ _ (by rw [o _ 2 3 _ (by decide), o _ 1 3 _ (by decide), o _ 0 3 _ (by decide)]; exact h3)
  · exact sm _ 4 _ _ (by rw [o _ 3 4 _ (by decide), o _ 2 4 _ (by decide), o _ 1 4 _ (by decide), o _ 0 4 _ (by decide)]; exact h4)

/-- What stands after the entry and the list are made. -/
def Rmade (b : Nat) (x y z p q : UInt8) (A : Option Addr) (a : List Ac) (g : Nat) (e : Ac) (w W : World) : Prop := Rin b x y z p q w W ∧ Aces W A a ∧ Mk g e W

/-- What stands after the two longer lists are made. -/
abbrev Rall (Aa A2 A3 : Option Addr) (a : List Ac) (g : Nat) (e : Ac) (w W : World) : Prop := Aces W Aa a ∧ Aces W A2 (a ++ [e]) ∧ Aces W A3 (e :: a) ∧ Mk g e W ∧ Below w.heap.size w W
theorem rall_step {Aa A2 A3 : Option Addr} {a : List Ac} {g : Nat} {e : Ac} {w W W' : World} (h : Rall Aa A2 A3 a g e w W) (hb : Below W.heap.size W W') : Rall Aa A2 A3 a g e w W' :=
  ⟨h.1.below hb, h.2.1.below hb, h.2.2.1.below hb, h.2.2.2.1.step hb, h.2.2.2.2.trans (hb.mono h.2.2.2.2.size)⟩
theorem and_eight {v : BitVec 64} (h : v &&& 8 = 8) : bits .and .i64 v.toInt 8 = 8 := by
  rw [bits_and, bv_toInt, show bv 8 = (8 : BitVec 64) from rfl, h]; rfl

end Go.Proofs.Ytkpedfigaofloaa
