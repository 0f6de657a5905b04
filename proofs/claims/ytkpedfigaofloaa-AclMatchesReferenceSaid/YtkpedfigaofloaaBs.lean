/-
  The walk of the law AclMatchesReference.
-/
import Derived.Test.YtkpedfigaofloaaBp
import Derived.Test.YtkpedfigaofloaaRj
import Derived.Test.YtkpedfigaofloaaRc
import Derived.Test.YtkpedfigaofloaaRd
import Derived.Test.YtkpedfigaofloaaBq
namespace Go.Proofs.Ytkpedfigaofloaa
open Go.RowKit Ap
set_option maxHeartbeats 400000

/-- The blocks of the arrays of three slices and of four numbers. -/
def Bx (b d : Nat) (v0 v1 v2 : Value) (x y z u : Int) (w W : World) : Prop :=
  W.cell? ⟨b, 0, none⟩ = some v0 ∧ W.cell? ⟨b, 1, none⟩ = some v1 ∧ W.cell? ⟨b, 2, none⟩ = some v2 ∧ W.cell? ⟨d, 0, none⟩ = some (.int .i64 x) ∧ W.cell? ⟨d, 1, none⟩ = some (.int .i64 y) ∧ W.cell? ⟨d, 2, none⟩ = some (.int .i64 z) ∧ W.cell? ⟨d, 3, none⟩ = some (.int .i64 u) ∧ Below w.heap.size w W
theorem Bx.step {b d : Nat} {v0 v1 v2 : Value} {x y z u : Int} {w W W' : World} (h : Bx b d v0 v1 v2 x y z u w W) (hb : Below W.heap.size W W') : Bx b d v0 v1 v2 x y z u w W' := by
  obtain ⟨h0, h1, h2, h3, h4, h5, h6, h7⟩ := h
  exact ⟨(hb.cell (block_lt_of_cell h0)).trans h0, (hb.cell (block_lt_of_cell h1)).trans h1, (hb.cell (block_lt_of_cell h2)).trans h2, (hb.cell (block_lt_of_cell h3)).trans h3, (hb.cell (block_lt_of_cell h4)).trans h4, (hb.cell (block_lt_of_cell h5)).trans h5, (hb.cell (block_lt_of_cell h6)).trans h6, h7.trans (hb.mono h7.size)⟩
theorem Bx.bel {b d : Nat} {v0 v1 v2 : Value} {x y z u : Int} {w W : World} (h : Bx b d v0 v1 v2 x y z u w W) : Below w.heap.size w W := h.2.2.2.2.2.2.2
theorem Bx.fl {b d : Nat} {v0 v1 v2 : Value} {x y z u : Int} {w W : World} (h : Bx b d v0 v1 v2 x y z u w W) : W.cell? ⟨b, 0, none⟩ = some v0 ∧ W.cell? ⟨b, 1, none⟩ = some v1 ∧ W.cell? ⟨b, 2, none⟩ = some v2 := ⟨h.1, h.2.1, h.2.2.1⟩
theorem bx_new {v0 v1 v2 : Value} {x y z u : Int} {w : World} {t s : TypeId} : Bx w.heap.size (w.heap.size + 1) v0 v1 v2 x y z u w ((w.alloc (.cells #[v0, v1, v2] t)).alloc (.cells #[.int .i64 x, .int .i64 y, .int .i64 z, .int .i64 u] s)) := by
  have n1 := heap_alloc_new w (.cells #[v0, v1, v2] t)
  have n2 := heap_alloc_new (w.alloc (.cells #[v0, v1, v2] t)) (.cells #[.int .i64 x, .int .i64 y, .int .i64 z, .int .i64 u] s)
  have s1 : (w.alloc (.cells #[v0, v1, v2] t)).heap.size = w.heap.size + 1 := by simp
  rw [s1] at n2
  have k := fun i => cell_of_row _ (w.heap.size + 1) i _ s (0, 0) n2
  exact ⟨alloc_keep (cell_of_row _ w.heap.size 0 _ t (0, 0) n1), alloc_keep (cell_of_row _ w.heap.size 1 _ t (0, 0) n1), alloc_keep (cell_of_row _ w.heap.size 2 _ t (0, 0) n1), k 0, k 1, k 2, k 3, ((Below.refl _ w).alloc (Nat.le_refl _) _).alloc (by simp) _⟩
/-- The four lists, and their slices in the block of the slice of slices. -/
def Lst (g : Nat) (vr vb vm vt : Value) (Ar Ab Am At : Option Addr) (R B M T : List Ac) (W : World) : Prop :=
  (Aces W Ar R ∧ Aces W Ab B ∧ Aces W Am M ∧ Aces W At T) ∧ W.cell? ⟨g, 0, none⟩ = some vr ∧ W.cell? ⟨g, 1, none⟩ = some vb ∧ W.cell? ⟨g, 2, none⟩ = some vm ∧ W.cell? ⟨g, 3, none⟩ = some vt
theorem Lst.step {g : Nat} {vr vb vm vt : Value} {Ar Ab Am At : Option Addr} {R B M T : List Ac} {W W' : World} (h : Lst g vr vb vm vt Ar Ab Am At R B M T W) (hb : Below W.heap.size W W') : Lst g vr vb vm vt Ar Ab Am At R B M T W' := by
  obtain ⟨⟨a0, a1, a2, a3⟩, h0, h1, h2, h3⟩ := h
  exact ⟨⟨a0.below hb, a1.below hb, a2.below hb, a3.below hb⟩, (hb.cell (block_lt_of_cell h0)).trans h0, (hb.cell (block_lt_of_cell h1)).trans h1, (hb.cell (block_lt_of_cell h2)).trans h2, (hb.cell (block_lt_of_cell h3)).trans h3⟩
/-- A block of two cells, as it was made. -/
def Res2 (b : Nat) (W : World) : Prop := Res b W ∧ ∀ i, 2 ≤ i → W.cell? ⟨b, i, none⟩ = none
theorem Res2.step {b : Nat} {W W' : World} (h : Res2 b W) (hb : Below W.heap.size W W') : Res2 b W' := ⟨h.1.step hb, fun i hi => (hb.cell (p := ⟨b, i, none⟩) h.1.2.2.2.2).trans (h.2 i hi)⟩
theorem res2_new {w : World} {v u : Value} {t : TypeId} : Res2 w.heap.size (w.alloc (.cells #[v, u] t)) := by
  have n1 := heap_alloc_new w (.cells #[v, u] t)
  have k := fun i => cell_of_row _ w.heap.size i _ t (0, 0) n1
  have f := fun i => frozen_of_row _ w.heap.size i _ t n1
  exact ⟨⟨⟨_, k 0⟩, ⟨_, k 1⟩, f 0, f 1, by simp⟩, fun i hi => by rw [k i]; simp; omega⟩
theorem res2_next {w : World} {o : Obj} {v u : Value} {t : TypeId} : Res2 (w.heap.size + 1) ((w.alloc o).alloc (.cells #[v, u] t)) := by
  have h := res2_new (w := w.alloc o) (v := v) (u := u) (t := t)
  rwa [show (w.alloc o).heap.size = w.heap.size + 1 by simp] at h
theorem res2_ne {W : World} {b : Nat} {A : Option Addr} {l : List Ac} (h : Res2 b W) (hA : Aces W A l) (hn : l ≠ []) {g o : Nat} (he : A = some ⟨g, o, none⟩) : g ≠ b := by
  rintro rfl
  obtain ⟨g', o', hA', _, hc⟩ := hA hn
  rw [he] at hA'
  injection hA' with hA'
  injection hA' with h1 h2
  subst h1 h2
  have hp : 0 < l.length := List.length_pos_iff.2 hn
  obtain ⟨_, _, _, _, c4⟩ := hc 0 l[0] (List.getElem?_eq_getElem hp)
  rw [h.2 (o + 0 * 5 + 4) (by omega)] at c4
  cases c4
theorem Aces.put2 {W : World} {A : Option Addr} {l : List Ac} {b i : Nat} {v : Value} (h : Aces W A l) (hr : Res2 b W) : Aces (W.setCell ⟨b, i, none⟩ v) A l := fun hn => by
  obtain ⟨g, o, hA, hg, hc⟩ := h hn
  have hne := res2_ne hr h hn hA
  refine ⟨g, o, hA, by simpa using hg, fun j a ha => ?_⟩
  obtain ⟨c0, c1, c2, c3, c4⟩ := hc j a ha
  have k : ∀ (t : Nat) (u : Value), W.cell? ⟨g, t, none⟩ = some u → (W.setCell ⟨b, i, none⟩ v).cell? ⟨g, t, none⟩ = some u := fun t u hu => by
    rw [World.cell?_setCell_other _ _ _ _ (fun e => hne (by injection e with e1; exact e1.symm))]; exact hu
  exact ⟨k _ _ c0, k _ _ c1, k _ _ c2, k _ _ c3, k _ _ c4⟩
theorem c_bool {f : FuncId} {args : Array Value} {W : World} {b b' : Bool} (hb : b = b') (h : Calls Try.prog f args W fun e w' => e = .returned (.bool b) ∧ Below W.heap.size W w') : Calls Try.prog f args W fun e w' => e = .returned (.bool b') ∧ Below W.heap.size W w' := by subst hb; exact h
theorem c_int {f : FuncId} {args : Array Value} {W : World} {b b' : Int} (hb : b = b') (h : Calls Try.prog f args W fun e w' => e = .returned (.int .i64 b) ∧ Below W.heap.size W w') : Calls Try.prog f args W fun e w' => e = .returned (.int .i64 b') ∧ Below W.heap.size W w' := by subst hb; exact h
theorem gives_eq {f : FuncId} {args : Array Value} {W : World} {b : Nat} {X0 X : List Ac} {n : Nat} (hX : X0 = X) (hn : X.length = n) (h : Calls Try.prog f args W fun e w' => ∃ A' m c', e = .returned (.slice A' m c') ∧ w'.ownsRow b 31 5 (.slice A' m c') m (encs X0) ∧ Below W.heap.size W w') : Gives f args W X n := by
  subst hX
  exact gives_of hn h
/-- A call of Put: what it gives. -/
abbrev GivesP (f : FuncId) (args : Array Value) (W : World) (X : List Ac) (n : Nat) (pe : Int) : Prop :=
  Calls Try.prog f args W fun y w' => ∃ A2 c2, y = .returned (.tuple #[.slice A2 n c2, .int .i64 pe]) ∧ Aces w' A2 X ∧ Below W.heap.size W w'
theorem put_gives {f : FuncId} {args : Array Value} {W : World} {P : List Ac × Int} {X : List Ac} {n : Nat} {pe : Int} (hX : P.1 = X) (he : P.2 = pe) (hn : X.length = n)
    (h : Calls Try.prog f args W fun x w' => ∃ A' m c', x = .returned (.tuple #[.slice A' m c', .int .i64 P.2]) ∧ w'.ownsRow W.heap.size 31 5 (.slice A' m c') m (encs P.1) ∧ Below W.heap.size W w') : GivesP f args W X n pe :=
  h.mono fun y w' ⟨A5, m5, c5, h1, h2, h3⟩ => by
    subst hX he
    obtain rfl : n = m5 := by rw [← hn]; exact own_len h2
    exact ⟨A5, c5, h1, Aces.of_own h2, h3⟩
theorem putL_len (l : List Ac) (e : Ac) : (putL l e).1.length ≤ l.length + 1 := by
  unfold putL
  split
  · simp
  · split
    · split
      · simp only [List.length_eraseIdx]; split <;> omega
      · simp
    · split
      · simp
      · split
        · simp only []
          rw [insL_len (ownL_len l false)]
          omega
        · simp
/-- A call of the reference's Merge: what it gives. -/
abbrev GivesR (args : Array Value) (W : World) (X : List Ac) (n : Nat) (ok : Bool) : Prop :=
  Calls Try.prog 28 args W fun e w' => ∃ A c, e = .returned (.agg #[.slice A n c, .bool ok]) ∧ Aces w' A X ∧ Below W.heap.size W w'
theorem mres_gives {args : Array Value} {W : World} {P : List Ac × Bool} {X : List Ac} {n : Nat} {ok : Bool} (hP : P = (X, ok)) (hn : X.length = n) (h : Calls Try.prog 28 args W (MRes P W)) : GivesR args W X n ok :=
  h.mono fun e w' ⟨A', m, c', h1, h2, h3, h4⟩ => by
    subst hP
    obtain rfl : n = m := by rw [← hn]; exact h3
    exact ⟨A', c', h1, h2, h4⟩
theorem mergeS_len {B M T : List Ac} (hm : M.length ≤ 12) (ht : T.length ≤ 12) : (mergeS B M T).1.length ≤ 24 := by
  unfold mergeS
  split
  · dsimp only; omega
  · split
    · dsimp only; omega
    · unfold mergeM
      split
      · simp
      · split
        · simp
        · dsimp only; rw [List.length_append]; omega
theorem four_keep {W W' : World} {p0 p1 p2 p3 : Addr} {v0 v1 v2 v3 : Value} (h0 : W.cell? p0 = some v0) (h1 : W.cell? p1 = some v1) (h2 : W.cell? p2 = some v2) (h3 : W.cell? p3 = some v3) (hb : Below W.heap.size W W') : W'.cell? p0 = some v0 ∧ W'.cell? p1 = some v1 ∧ W'.cell? p2 = some v2 ∧ W'.cell? p3 = some v3 :=
  ⟨(hb.cell (World.block_lt_of_cell? _ _ h0)).trans h0, (hb.cell (World.block_lt_of_cell? _ _ h1)).trans h1, (hb.cell (World.block_lt_of_cell? _ _ h2)).trans h2, (hb.cell (World.block_lt_of_cell? _ _ h3)).trans h3⟩
theorem Res2.set {W : World} {b d i : Nat} {v : Value} (h : Res2 b W) (hi : i < 2) : Res2 b (W.setCell ⟨d, i, none⟩ v) := by
  obtain ⟨⟨⟨u0, h0⟩, ⟨u1, h1⟩, f0, f1, hl⟩, hn⟩ := h
  have ex : ∀ (j : Nat) (u : Value), W.cell? ⟨b, j, none⟩ = some u → ∃ u', (W.setCell ⟨d, i, none⟩ v).cell? ⟨b, j, none⟩ = some u' := fun j u hu => by
    by_cases he : (⟨d, i, none⟩ : Addr) = ⟨b, j, none⟩
    · injection he with e1 e2
      subst e1 e2
      exact ⟨v, World.cell?_setCell_same _ _ _ hu⟩
    · exact ⟨u, by rw [World.cell?_setCell_other _ _ _ _ he]; exact hu⟩
  refine ⟨⟨ex 0 u0 h0, ex 1 u1 h1, by simpa only [World.frozen?_setCell] using f0, by simpa only [World.frozen?_setCell] using f1, by simpa using hl⟩, fun j hj => ?_⟩
  rw [World.cell?_setCell_other _ _ _ _ (fun e => by injection e with _ e2; omega)]
  exact hn j hj
/-- What stands behind both merges. -/
def Fin16 (s16 s17 : Value) (XX : List Ac) (nx : Nat) (ok : Bool) (w wx : World) : Prop :=
  ∃ (b d : Nat) (P : Option Addr) (p : Nat) (R : Option Addr) (r : Nat), s16 = .pointer (some ⟨b, 0, none⟩) ∧ s17 = .pointer (some ⟨d, 0, none⟩) ∧ wx.cell? ⟨b, 0, none⟩ = some (.slice P nx p) ∧ wx.cell? ⟨b, 1, none⟩ = some (.bool ok) ∧ wx.cell? ⟨d, 0, none⟩ = some (.slice R nx r) ∧ wx.cell? ⟨d, 1, none⟩ = some (.bool ok) ∧ Aces wx P XX ∧ Aces wx R XX ∧ Below w.heap.size w wx
theorem fin_post {W w : World} {b d : Nat} {P R : Option Addr} {p r nx : Nat} {XX : List Ac} {ok : Bool} (hb : Res2 b W) (hd : Res2 d W) (hne : b ≠ d) (uP : Aces W P XX) (uR : Aces W R XX) (hbl : Below w.heap.size w W) (lb : w.heap.size ≤ b) (ld : w.heap.size ≤ d) :
    Fin16 (.pointer (some ⟨b, 0, none⟩)) (.pointer (some ⟨d, 0, none⟩)) XX nx ok w ((((W.setCell ⟨b, 0, none⟩ (.slice P nx p)).setCell ⟨b, 1, none⟩ (.bool ok)).setCell ⟨d, 0, none⟩ (.slice R nx r)).setCell ⟨d, 1, none⟩ (.bool ok)) := by
  have b1 := hb.set (d := b) (i := 0) (v := .slice P nx p) (by omega)
  have b2 := b1.set (d := b) (i := 1) (v := .bool ok) (by omega)
  have b3 := b2.set (d := d) (i := 0) (v := .slice R nx r) (by omega)
  have d1 := hd.set (d := b) (i := 0) (v := .slice P nx p) (by omega)
  have d2 := d1.set (d := b) (i := 1) (v := .bool ok) (by omega)
  have d3 := d2.set (d := d) (i := 0) (v := .slice R nx r) (by omega)
  have al : ∀ {A : Option Addr} {l : List Ac}, Aces W A l → Aces ((((W.setCell ⟨b, 0, none⟩ (.slice P nx p)).setCell ⟨b, 1, none⟩ (.bool ok)).setCell ⟨d, 0, none⟩ (.slice R nx r)).setCell ⟨d, 1, none⟩ (.bool ok)) A l := fun h =>
    (((h.put2 (i := 0) (v := .slice P nx p) hb).put2 (i := 1) (v := .bool ok) b1).put2 (i := 0) (v := .slice R nx r) d2).put2 (i := 1) (v := .bool ok) d3
  obtain ⟨⟨⟨x0, h0⟩, _⟩, _⟩ := hb
  obtain ⟨⟨_, ⟨x1, h1⟩, _⟩, _⟩ := b1
  obtain ⟨⟨⟨y0, k0⟩, _⟩, _⟩ := d2
  obtain ⟨⟨_, ⟨y1, k1⟩, _⟩, _⟩ := d3
  have o : ∀ {V : World} {g i h j : Nat} {u v : Value}, (⟨g, i, none⟩ : Addr) ≠ ⟨h, j, none⟩ → V.cell? ⟨h, j, none⟩ = some u → (V.setCell ⟨g, i, none⟩ v).cell? ⟨h, j, none⟩ = some u := fun hn hu => by
    rw [World.cell?_setCell_other _ _ _ _ hn]; exact hu
  have n1 : ∀ i j, (⟨d, i, none⟩ : Addr) ≠ ⟨b, j, none⟩ := fun i j e => hne (by injection e with e1; exact e1.symm)
  have nn : ∀ g : Nat, (⟨g, 1, none⟩ : Addr) ≠ ⟨g, 0, none⟩ := fun g e => by injection e with _ e2; cases e2
  have r0 := o (n1 1 0) (o (n1 0 0) (o (nn b) (World.cell?_setCell_same _ ⟨b, 0, none⟩ (.slice P nx p) h0) (v := .bool ok)) (v := .slice R nx r)) (v := .bool ok)
  have r1 := o (n1 1 1) (o (n1 0 1) (World.cell?_setCell_same _ ⟨b, 1, none⟩ (.bool ok) h1) (v := .slice R nx r)) (v := .bool ok)
  have r2 := o (nn d) (World.cell?_setCell_same _ ⟨d, 0, none⟩ (.slice R nx r) k0) (v := .bool ok)
  have r3 := World.cell?_setCell_same _ ⟨d, 1, none⟩ (.bool ok) k1
  exact ⟨b, d, P, p, R, r, rfl, rfl, r0, r1, r2, r3, al uP, al uR, (((hbl.setCell (p := ⟨b, 0, none⟩) lb _).setCell (p := ⟨b, 1, none⟩) lb _).setCell (p := ⟨d, 0, none⟩) ld _).setCell (p := ⟨d, 1, none⟩) ld _⟩
theorem fin_A {v w : World} {t : TypeId} {P R : Option Addr} {p r nx : Nat} {XX : List Ac} {ok : Bool} (uP : Aces v P XX) (uR : Aces v R XX) (hbl : Below w.heap.size w v) :
    Fin16 (.pointer (some ⟨v.heap.size, 0, none⟩)) (.pointer (some ⟨v.heap.size + 1, 0, none⟩)) XX nx ok w ((v.alloc (.cells #[.slice P nx p, .bool ok] t)).alloc (.cells #[.slice R nx r, .bool ok] t)) := by
  obtain ⟨hb, z0, z1, z2, z3⟩ := two_boxes (w := v) (t := t) (v7 := .slice P nx p) (u7 := .bool ok) (v8 := .slice R nx r) (u8 := .bool ok)
  exact ⟨_, _, P, p, R, r, rfl, rfl, z0, z1, z2, z3, uP.below hb, uR.below hb, hbl.trans (hb.mono hbl.size)⟩
theorem fin_A2 {v w : World} {t : TypeId} {P R : Option Addr} {p r nx : Nat} {XX : List Ac} {ok : Bool} (uP : Aces v P XX) (uR : Aces v R XX) (hbl : Below w.heap.size w v) :
    Fin16 (.pointer (some ⟨v.heap.size + 1, 0, none⟩)) (.pointer (some ⟨v.heap.size, 0, none⟩)) XX nx ok w ((v.alloc (.cells #[.slice R nx r, .bool ok] t)).alloc (.cells #[.slice P nx p, .bool ok] t)) := by
  obtain ⟨hb, z0, z1, z2, z3⟩ := two_boxes (w := v) (t := t) (v7 := .slice R nx r) (u7 := .bool ok) (v8 := .slice P nx p) (u8 := .bool ok)
  exact ⟨_, _, P, p, R, r, rfl, rfl, z2, z3, z0, z1, uP.below hb, uR.below hb, hbl.trans (hb.mono hbl.size)⟩
theorem two_set {W : World} {b : Nat} {v0 v1 : Value} (h : Res2 b W) :
    ((W.setCell ⟨b, 0, none⟩ v0).setCell ⟨b, 1, none⟩ v1).cell? ⟨b, 0, none⟩ = some v0 ∧ ((W.setCell ⟨b, 0, none⟩ v0).setCell ⟨b, 1, none⟩ v1).cell? ⟨b, 1, none⟩ = some v1 := by
  obtain ⟨⟨⟨u0, h0⟩, ⟨u1, h1⟩, _⟩, _⟩ := h
  have a1 : (W.setCell ⟨b, 0, none⟩ v0).cell? ⟨b, 1, none⟩ = some u1 := by rw [World.cell?_setCell_other _ _ _ _ (by simp)]; exact h1
  refine ⟨?_, World.cell?_setCell_same _ _ _ a1⟩
  rw [World.cell?_setCell_other _ _ _ _ (by simp)]
  exact World.cell?_setCell_same _ _ _ h0
theorem fin_B0 {v w : World} {t : TypeId} {b : Nat} {v0 v1 y0 y1 : Value} {P R : Option Addr} {XX : List Ac} (hr : Res2 b v) (lb : w.heap.size ≤ b) (uP : Aces v P XX) (uR : Aces v R XX) (hbl : Below w.heap.size w v) :
    (((v.setCell ⟨b, 0, none⟩ v0).setCell ⟨b, 1, none⟩ v1).alloc (.cells #[y0, y1] t)).cell? ⟨b, 0, none⟩ = some v0 ∧ (((v.setCell ⟨b, 0, none⟩ v0).setCell ⟨b, 1, none⟩ v1).alloc (.cells #[y0, y1] t)).cell? ⟨b, 1, none⟩ = some v1 ∧
    (((v.setCell ⟨b, 0, none⟩ v0).setCell ⟨b, 1, none⟩ v1).alloc (.cells #[y0, y1] t)).cell? ⟨v.heap.size, 0, none⟩ = some y0 ∧ (((v.setCell ⟨b, 0, none⟩ v0).setCell ⟨b, 1, none⟩ v1).alloc (.cells #[y0, y1] t)).cell? ⟨v.heap.size, 1, none⟩ = some y1 ∧
    Aces (((v.setCell ⟨b, 0, none⟩ v0).setCell ⟨b, 1, none⟩ v1).alloc (.cells #[y0, y1] t)) P XX ∧ Aces (((v.setCell ⟨b, 0, none⟩ v0).setCell ⟨b, 1, none⟩ v1).alloc (.cells #[y0, y1] t)) R XX ∧
    Below w.heap.size w (((v.setCell ⟨b, 0, none⟩ v0).setCell ⟨b, 1, none⟩ v1).alloc (.cells #[y0, y1] t)) := by
  have hs : ((v.setCell ⟨b, 0, none⟩ v0).setCell ⟨b, 1, none⟩ v1).heap.size = v.heap.size := by simp
  have n1 := heap_alloc_new ((v.setCell ⟨b, 0, none⟩ v0).setCell ⟨b, 1, none⟩ v1) (.cells #[y0, y1] t)
  rw [hs] at n1
  have k := fun i => cell_of_row _ v.heap.size i _ t (0, 0) n1
  have s1 := hr.set (d := b) (i := 0) (v := v0) (by omega)
  obtain ⟨c0, c1⟩ := two_set (v0 := v0) (v1 := v1) hr
  have hal := (Below.refl _ ((v.setCell ⟨b, 0, none⟩ v0).setCell ⟨b, 1, none⟩ v1)).alloc (Nat.le_refl _) (.cells #[y0, y1] t)
  exact ⟨alloc_keep c0, alloc_keep c1, k 0, k 1, ((uP.put2 hr).put2 s1).below hal, ((uR.put2 hr).put2 s1).below hal, ((hbl.setCell (p := ⟨b, 0, none⟩) lb _).setCell (p := ⟨b, 1, none⟩) lb _).alloc (by simpa using hbl.size) _⟩
theorem fin_B {v w : World} {t : TypeId} {b : Nat} {P R : Option Addr} {p r nx : Nat} {XX : List Ac} {ok : Bool} (hr : Res2 b v) (lb : w.heap.size ≤ b) (uP : Aces v P XX) (uR : Aces v R XX) (hbl : Below w.heap.size w v) :
    Fin16 (.pointer (some ⟨b, 0, none⟩)) (.pointer (some ⟨v.heap.size, 0, none⟩)) XX nx ok w (((v.setCell ⟨b, 0, none⟩ (.slice P nx p)).setCell ⟨b, 1, none⟩ (.bool ok)).alloc (.cells #[.slice R nx r, .bool ok] t)) := by
  obtain ⟨z0, z1, z2, z3, z4, z5, z6⟩ := fin_B0 (t := t) (v0 := .slice P nx p) (v1 := .bool ok) (y0 := .slice R nx r) (y1 := .bool ok) hr lb uP uR hbl
  exact ⟨_, _, P, p, R, r, rfl, rfl, z0, z1, z2, z3, z4, z5, z6⟩
theorem fin_B2 {v w : World} {t : TypeId} {d : Nat} {P R : Option Addr} {p r nx : Nat} {XX : List Ac} {ok : Bool} (hr : Res2 d v) (ld : w.heap.size ≤ d) (uP : Aces v P XX) (uR : Aces v R XX) (hbl : Below w.heap.size w v) :
    Fin16 (.pointer (some ⟨v.heap.size, 0, none⟩)) (.pointer (some ⟨d, 0, none⟩)) XX nx ok w (((v.setCell ⟨d, 0, none⟩ (.slice R nx r)).setCell ⟨d, 1, none⟩ (.bool ok)).alloc (.cells #[.slice P nx p, .bool ok] t)) := by
  obtain ⟨z0, z1, z2, z3, z4, z5, z6⟩ := fin_B0 (t := t) (v0 := .slice R nx r) (v1 := .bool ok) (y0 := .slice P nx p) (y1 := .bool ok) hr ld uP uR hbl
  exact ⟨_, _, P, p, R, r, rfl, rfl, z2, z3, z0, z1, z4, z5, z6⟩

set_option maxRecDepth 100000 in
set_option maxHeartbeats 16000000 in
theorem lawMatches_any (A : Option Addr) (n c : Nat) (raw : List Ac) (hn : raw.length = n) (hnc : n ≤ c) (hc : c ≤ 9223372036854775807) (hA0 : A = none → n = 0 ∧ c = 0) (hok : ∀ a ∈ raw, a.ok)
    (A0 : Option Addr) (n0 c0 : Nat) (l0 : List Tri) (A1 : Option Addr) (n1 c1 : Nat) (l1 : List Tri) (A2 : Option Addr) (n2 c2 : Nat) (l2 : List Tri) (e0 : l0.length = n0) (b0 : n0 ≤ 9223372036854775807) (e1 : l1.length = n1) (b1 : n1 ≤ 9223372036854775807) (e2 : l2.length = n2) (b2 : n2 ≤ 9223372036854775807)
    (x y z u : Int) (hz : -9223372036854775808 ≤ z ∧ z ≤ 9223372036854775807) (w : World) (hA : Aces w A raw) (y0 : Tris w A0 l0) (y1 : Tris w A1 l1) (y2 : Tris w A2 l2) :
    Calls Try.prog 3 #[.slice A n c, .agg #[.slice A0 n0 c0, .slice A1 n1 c1, .slice A2 n2 c2], .agg #[.int .i64 x, .int .i64 y, .int .i64 z, .int .i64 u]] w fun e w' => e = .returned (.bool true) ∧ Below w.heap.size w w' := by
  obtain ⟨R, hR⟩ : ∃ a, raw.take 20 = a := ⟨_, rfl⟩
  obtain ⟨B, hB⟩ : ∃ a, listL l0 = a := ⟨_, rfl⟩
  obtain ⟨M, hM⟩ : ∃ a, listL l1 = a := ⟨_, rfl⟩
  obtain ⟨T, hT⟩ : ∃ a, listL l2 = a := ⟨_, rfl⟩
  have lenR : R.length ≤ 20 := by rw [← hR, List.length_take]; omega
  have okR : ∀ a ∈ R, a.ok := fun a ha => hok a (List.mem_of_mem_take (by rw [hR]; exact ha))
  have lenB : B.length ≤ 12 := by rw [← hB]; exact listL_len _
  have lenM : M.length ≤ 12 := by rw [← hM]; exact listL_len _
  have lenT : T.length ≤ 12 := by rw [← hT]; exact listL_len _
  have gB : Ap.Good B := by rw [← hB]; exact listL_good _
  have gM : Ap.Good M := by rw [← hM]; exact listL_good _
  have gT : Ap.Good T := by rw [← hT]; exact listL_good _
  obtain ⟨nr, hnr⟩ : ∃ n, R.length = n := ⟨_, rfl⟩
  obtain ⟨nb, hnb⟩ : ∃ n, B.length = n := ⟨_, rfl⟩
  obtain ⟨nm, hnm⟩ : ∃ n, M.length = n := ⟨_, rfl⟩
  obtain ⟨nt, hnt⟩ : ∃ n, T.length = n := ⟨_, rfl⟩
  rw [hnr] at lenR
  rw [hnb] at lenB
  rw [hnm] at lenM
  rw [hnt] at lenT
  have C0 := Lib.hid (fun W (h : Below w.heap.size w W) => gives_of hnr (by have := short_any A n c raw hn hnc hc hA0 W (hA.below h); rw [hR] at this; exact this))
  have C1 := Lib.hid (fun W (h : Below w.heap.size w W) => gives_of hnb (by have := list_any A0 n0 c0 l0 e0 b0 W (y0.below h); rw [hB] at this; exact this))
  have C2 := Lib.hid (fun W (h : Below w.heap.size w W) => gives_of hnm (by have := list_any A1 n1 c1 l1 e1 b1 W (y1.below h); rw [hM] at this; exact this))
  have C3 := Lib.hid (fun W (h : Below w.heap.size w W) => gives_of hnt (by have := list_any A2 n2 c2 l2 e2 b2 W (y2.below h); rw [hT] at this; exact this))
  have HNR := Lib.hid hnr
  have HNB := Lib.hid hnb
  have HNM := Lib.hid hnm
  have HNT := Lib.hid hnt
  have OKR := Lib.hid okR
  have GB := Lib.hid gB
  have GM := Lib.hid gM
  have GT := Lib.hid gT
  have HZ := Lib.hid hz
  have X0 := Lib.hid (bx_new (v0 := .slice A0 n0 c0) (v1 := .slice A1 n1 c1) (v2 := .slice A2 n2 c2) (x := x) (y := y) (z := z) (u := u) (w := w) (t := 24) (s := 25))
  clear hR hB hM hT okR gB gM gT hnr hnb hnm hnt hn hnc hc hA0 hok e0 b0 e1 b1 e2 b2 hA y0 y1 y2 hz
  go_enter Try.func3, Try.ntmps3
  go_upto_region 2 with (go_at_call 10; refine (sanity_any _).mono ?_; rintro e w1 ⟨rfl, hb1⟩; have X1 := Lib.hid (X0.out.step hb1); clear hb1)
  have XD := Lib.hid (X1.out.step (Below.refl _ w1).drew)
  obtain ⟨q0, q1, q2⟩ := X1.out.fl
  go_cut [8] (fun s8 wx => ∃ (g8 : Nat) (Ar : Option Addr) (cr : Nat) (Ab : Option Addr) (cb : Nat) (Am : Option Addr) (cm : Nat) (At : Option Addr) (ct : Nat), s8 = .slice (some ⟨g8, 0, none⟩) 4 4 ∧ (Ar = none → nr = 0 ∧ cr = 0) ∧ (Ab = none → nb = 0 ∧ cb = 0) ∧ (Am = none → nm = 0 ∧ cm = 0) ∧ (At = none → nt = 0 ∧ ct = 0) ∧ Lst g8 (.slice Ar nr cr) (.slice Ab nb cb) (.slice Am nm cm) (.slice At nt ct) Ar Ab Am At R B M T wx ∧ Bx w.heap.size (w.heap.size + 1) (.slice A0 n0 c0) (.slice A1 n1 c1) (.slice A2 n2 c2) x y z u w wx)
  case first =>
    as_aux_lemma =>
    refine wp_region_held_drew (S := (fun W' => W'.cell? ⟨w.heap.size, 0, none⟩ = some (.slice A0 n0 c0) ∧ W'.cell? ⟨w.heap.size, 1, none⟩ = some (.slice A1 n1 c1) ∧ W'.cell? ⟨w.heap.size, 2, none⟩ = some (.slice A2 n2 c2))) (by kernel_rfl) (by exact XD.out.fl) (fun hHeld => ?_)
    refine wpAnyH_take (i := 0) (oi := { dst := some 19, op := Op.move (Operand.tmp 0), type := 22, pos := "law.go:35", after := #[], guard := none }) (v := ?_) rfl (by kernel_rfl) (by kernel_rfl) (by kernel_rfl) (fun _ _ _ h => h) (Or.inl ⟨by rfl, ?_⟩) (by assumption) ?_
    rotate_left
    · ((intro w' hSw); (try dsimp only at hSw); go_simp; all_goals (with_reducible rfl))
    simp only [Act.put, List.setIfInBounds_toArray, List.set_cons_zero, List.set_cons_succ]
    refine wpAnyH_take (i := 2) (oi := { dst := some 21, op := Op.indexAddr 24 (Operand.tmp 4) (Operand.const (Value.int IntKind.i64 0)), type := 0, pos := "law.go:35", after := #[], guard := none }) (v := ?_) rfl (by kernel_rfl) (by kernel_rfl) (by kernel_rfl) (fun _ _ _ h => h) (Or.inl ⟨by rfl, ?_⟩) (by assumption) ?_
    rotate_left
    · ((intro w' hSw); (try dsimp only at hSw); go_simp; all_goals (with_reducible rfl))
    simp only [Act.put, List.setIfInBounds_toArray, List.set_cons_zero, List.set_cons_succ]
    refine wpAnyH_take (i := 3) (oi := { dst := some 22, op := Op.load 23 (Operand.tmp 21), type := 23, pos := "law.go:35", after := #[{ on := 2, ground := Ground.data }], guard := none }) (v := ?_) rfl (by kernel_rfl) (by kernel_rfl) (by kernel_rfl) (fun _ _ _ h => h) (Or.inl ⟨by rfl, ?_⟩) (by assumption) ?_
    rotate_left
    · ((intro w' hSw); (try dsimp only at hSw); go_simp; all_goals (with_reducible rfl))
    simp only [Act.put, List.setIfInBounds_toArray, List.set_cons_zero, List.set_cons_succ]
    refine wpAnyH_take (i := 5) (oi := { dst := some 24, op := Op.indexAddr 24 (Operand.tmp 4) (Operand.const (Value.int IntKind.i64 1)), type := 0, pos := "law.go:35", after := #[], guard := none }) (v := ?_) rfl (by kernel_rfl) (by kernel_rfl) (by kernel_rfl) (fun _ _ _ h => h) (Or.inl ⟨by rfl, ?_⟩) (by assumption) ?_
    rotate_left
    · ((intro w' hSw); (try dsimp only at hSw); go_simp; all_goals (with_reducible rfl))
    simp only [Act.put, List.setIfInBounds_toArray, List.set_cons_zero, List.set_cons_succ]
    refine wpAnyH_take (i := 6) (oi := { dst := some 25, op := Op.load 23 (Operand.tmp 24), type := 23, pos := "law.go:35", after := #[{ on := 5, ground := Ground.data }], guard := none }) (v := ?_) rfl (by kernel_rfl) (by kernel_rfl) (by kernel_rfl) (fun _ _ _ h => h) (Or.inl ⟨by rfl, ?_⟩) (by assumption) ?_
    rotate_left
    · ((intro w' hSw); (try dsimp only at hSw); go_simp; all_goals (with_reducible rfl))
    simp only [Act.put, List.setIfInBounds_toArray, List.set_cons_zero, List.set_cons_succ]
    refine wpAnyH_take (i := 8) (oi := { dst := some 27, op := Op.indexAddr 24 (Operand.tmp 4) (Operand.const (Value.int IntKind.i64 2)), type := 0, pos := "law.go:35", after := #[], guard := none }) (v := ?_) rfl (by kernel_rfl) (by kernel_rfl) (by kernel_rfl) (fun _ _ _ h => h) (Or.inl ⟨by rfl, ?_⟩) (by assumption) ?_
    rotate_left
    · ((intro w' hSw); (try dsimp only at hSw); go_simp; all_goals (with_reducible rfl))
    simp only [Act.put, List.setIfInBounds_toArray, List.set_cons_zero, List.set_cons_succ]
    refine wpAnyH_take (i := 9) (oi := { dst := some 28, op := Op.load 23 (Operand.tmp 27), type := 23, pos := "law.go:35", after := #[{ on := 8, ground := Ground.data }], guard := none }) (v := ?_) rfl (by kernel_rfl) (by kernel_rfl) (by kernel_rfl) (fun _ _ _ h => h) (Or.inl ⟨by rfl, ?_⟩) (by assumption) ?_
    rotate_left
    · ((intro w' hSw); (try dsimp only at hSw); go_simp; all_goals (with_reducible rfl))
    simp only [Act.put, List.setIfInBounds_toArray, List.set_cons_zero, List.set_cons_succ]
    refine wpAnyH_ready (rs := [1]) (by kernel_rfl) (by simp) ?_
    refine AllReadyH.cons rfl (fun K hK => ?_) AllReadyH.nil
    go_simp
    go_wp2_with (go_at_call 11; (with_reducible refine (C0.out _ XD.out.bel).mono ?_); rintro e w2 ⟨Ar, cr, rfl, v, nv, hb⟩; have X2 := Lib.hid (XD.out.step hb); have UR2 := Lib.hid v; have NR := Lib.hid nv; clear v nv hb)
    refine hK.out _ _ ?_ (fun hHeld => ?_)
    · exact X2.out.fl
    clear hK K
    refine wpAnyH_ready (rs := [4]) (by kernel_rfl) (by simp) ?_
    refine AllReadyH.cons rfl (fun K hK => ?_) AllReadyH.nil
    go_simp
    go_wp2_with (go_at_call 12; (with_reducible refine (C1.out _ X2.out.bel).mono ?_); rintro e w3 ⟨Ab, cb, rfl, v, nv, hb⟩; have X3 := Lib.hid (X2.out.step hb); have UR3 := Lib.hid (UR2.out.below hb); have UB3 := Lib.hid v; have NB := Lib.hid nv; clear v nv hb)
    refine hK.out _ _ ?_ (fun hHeld => ?_)
    · exact X3.out.fl
    clear hK K
    refine wpAnyH_ready (rs := [7]) (by kernel_rfl) (by simp) ?_
    refine AllReadyH.cons rfl (fun K hK => ?_) AllReadyH.nil
    go_simp
    go_wp2_with (go_at_call 12; (with_reducible refine (C2.out _ X3.out.bel).mono ?_); rintro e w4 ⟨Am, cm, rfl, v, nv, hb⟩; have X4 := Lib.hid (X3.out.step hb); have UR4 := Lib.hid (UR3.out.below hb); have UB4 := Lib.hid (UB3.out.below hb); have UM4 := Lib.hid v; have NM := Lib.hid nv; clear v nv hb)
    refine hK.out _ _ ?_ (fun hHeld => ?_)
    · exact X4.out.fl
    clear hK K
    refine wpAnyH_ready (rs := [10]) (by kernel_rfl) (by simp) ?_
    refine AllReadyH.cons rfl (fun K hK => ?_) AllReadyH.nil
    go_simp
    go_wp2_with (go_at_call 12; (with_reducible refine (C3.out _ X4.out.bel).mono ?_); rintro e w5 ⟨At, ct, rfl, v, nv, hb⟩; have X5 := Lib.hid (X4.out.step hb); have UR5 := Lib.hid (UR4.out.below hb); have UB5 := Lib.hid (UB4.out.below hb); have UM5 := Lib.hid (UM4.out.below hb); have UT5 := Lib.hid v; have NT := Lib.hid nv; clear v nv hb)
    refine hK.out _ _ ?_ (fun hHeld => ?_)
    · exact X5.out.fl
    clear hK K
    refine wpAnyH_ready (rs := [11]) (by kernel_rfl) (by simp) ?_
    refine AllReadyH.cons rfl (fun K hK => ?_) AllReadyH.nil
    go_simp
    refine hK.out _ _ ?_ (fun hHeld => ?_)
    · exact (X5.out.step ((Below.refl _ w5).alloc (Nat.le_refl _) _)).fl
    clear hK K
    refine wpAnyH_take (i := 12) (oi := { dst := some 8, op := Op.assign (Operand.tmp 30), type := 29, pos := "law.go:35", after := #[{ on := 11, ground := Ground.data }, { on := 10, ground := Ground.chain }, { on := 0, ground := Ground.phase }, { on := 1, ground := Ground.phase }, { on := 2, ground := Ground.phase }, { on := 3, ground := Ground.phase }, { on := 4, ground := Ground.phase }, { on := 5, ground := Ground.phase }, { on := 6, ground := Ground.phase }, { on := 7, ground := Ground.phase }, { on := 8, ground := Ground.phase }, { on := 9, ground := Ground.phase }, { on := 10, ground := Ground.phase }, { on := 11, ground := Ground.phase }], guard := none }) (v := ?_) rfl (by kernel_rfl) (by kernel_rfl) (by kernel_rfl) (fun _ _ _ h => h) (Or.inl ⟨by rfl, ?_⟩) (by assumption) ?_
    rotate_left
    · ((intro w' hSw); (try dsimp only at hSw); go_simp; all_goals (with_reducible rfl))
    simp only [Act.put, List.setIfInBounds_toArray, List.set_cons_zero, List.set_cons_succ]
    refine wpAnyH_done (by kernel_rfl) ?_ _
    all_goals (go_wp2_with fail; go_meet)
    have hal := (Below.refl _ w5).alloc (Nat.le_refl _) (.cells #[.slice Ar nr cr, .slice Ab nb cb, .slice Am nm cm, .slice At nt ct] 22)
    have hh := heap_alloc_new w5 (.cells #[.slice Ar nr cr, .slice Ab nb cb, .slice Am nm cm, .slice At nt ct] 22)
    have k := fun i => cell_of_row _ w5.heap.size i _ 22 (0, 0) hh
    exact ⟨w5.heap.size, Ar, cr, Ab, cb, Am, cm, At, ct, rfl, NR.out, NB.out, NM.out, NT.out, ⟨⟨UR5.out.below hal, UB5.out.below hal, UM5.out.below hal, UT5.out.below hal⟩, k 0, k 1, k 2, k 3⟩, X5.out.step hal⟩
  case rest =>
    obtain ⟨g8, Ar, cr, Ab, cb, Am, cm, At, ct, rfl, nur, nub, num, nut, hL, hX⟩ := hcut
    have NR := Lib.hid nur
    have NB := Lib.hid nub
    have NM := Lib.hid num
    have NT := Lib.hid nut
    have HL := Lib.hid hL
    have HX := Lib.hid hX
    clear nur nub num nut hL hX q0 q1 q2 X0 X1 XD C0 C1 C2 C3
    go_upto_region 3 with fail
    obtain ⟨_, _, _, p0, p1, p2, p3, _⟩ := HX.out
    obtain ⟨ev, hev⟩ : ∃ v, (y.tmod 2 == 0) = v := ⟨_, rfl⟩
    go_cut [9] (fun s9 wx => ∃ g9, s9 = .pointer (some ⟨g9, 0, none⟩) ∧ Mk g9 ⟨x, ev, z, u, false⟩ wx ∧ Lst g8 (.slice Ar nr cr) (.slice Ab nb cb) (.slice Am nm cm) (.slice At nt ct) Ar Ab Am At R B M T wx ∧ Bx w.heap.size (w.heap.size + 1) (.slice A0 n0 c0) (.slice A1 n1 c1) (.slice A2 n2 c2) x y z u w wx)
    case first =>
      as_aux_lemma =>
      go_wp2
      go_meet
      have hal := (Below.refl _ wc).alloc (Nat.le_refl _) (.cells #[.int .i64 x, .bool ev, .int .i64 z, .int .i64 u, .bool false] 31)
      exact ⟨wc.heap.size, rfl, alloc_box, HL.out.step hal, HX.out.step hal⟩
    case rest =>
      obtain ⟨g9, rfl, hM, hL, hX⟩ := hcut
      obtain ⟨dv, hdv⟩ : ∃ v, (x.tmod 2 == 0) = v := ⟨_, rfl⟩
      obtain ⟨Q, hQ⟩ : ∃ Q : World → Prop, Q = fun W => Mk g9 ⟨x, ev, z, u, false⟩ W ∧ Lst g8 (.slice Ar nr cr) (.slice Ab nb cb) (.slice Am nm cm) (.slice At nt ct) Ar Ab Am At R B M T W ∧ Bx w.heap.size (w.heap.size + 1) (.slice A0 n0 c0) (.slice A1 n1 c1) (.slice A2 n2 c2) x y z u w W := ⟨_, rfl⟩
      have QO := Lib.hid (show ∀ W, Q W → Mk g9 ⟨x, ev, z, u, false⟩ W ∧ Lst g8 (.slice Ar nr cr) (.slice Ab nb cb) (.slice Am nm cm) (.slice At nt ct) Ar Ab Am At R B M T W ∧ Bx w.heap.size (w.heap.size + 1) (.slice A0 n0 c0) (.slice A1 n1 c1) (.slice A2 n2 c2) x y z u w W from fun W h => by rw [hQ] at h; exact h)
      have QS := Lib.hid (show ∀ W W', Q W → Below W.heap.size W W' → Q W' from fun W W' h hb => by rw [hQ] at h ⊢; exact ⟨h.1.step hb, h.2.1.step hb, h.2.2.step hb⟩)
      have QD := Lib.hid (show ∀ W, Q W → Q W.drew from fun W h => QS.out W _ h (Below.refl _ W).drew)
      have Q0 := Lib.hid (show Q wc by rw [hQ]; exact ⟨hM, hL, hX⟩)
      have SF := Lib.hid (show ∀ W', Q W' → W'.cell? ⟨w.heap.size + 1, 0, none⟩ = some (.int .i64 x) ∧ W'.cell? ⟨w.heap.size + 1, 1, none⟩ = some (.int .i64 y) ∧ W'.cell? ⟨w.heap.size + 1, 2, none⟩ = some (.int .i64 z) ∧ W'.cell? ⟨g8, 0, none⟩ = some (.slice Ar nr cr) ∧ W'.cell? ⟨g8, 1, none⟩ = some (.slice Ab nb cb) from fun W' h => by
        obtain ⟨_, ⟨_, r0, r1, _⟩, ⟨_, _, _, s0, s1, s2, _⟩⟩ := QO.out W' h
        exact ⟨s0, s1, s2, r0, r1⟩)
      have HFAM := Lib.hid (show ∀ i : Nat, i < 4 → ∃ (Ax : Option Addr) (nx cx : Nat) (X : List Ac), X.length = nx ∧ nx ≤ 20 ∧ (∀ a ∈ X, a.ok) ∧ (Ax = none → nx = 0 ∧ cx = 0) ∧ ∀ W, Q W → W.cell? ⟨g8, i, none⟩ = some (.slice Ax nx cx) ∧ Aces W Ax X from fun i hi => by
        match i, hi with
        | 0, _ => exact ⟨Ar, nr, cr, R, HNR.out, lenR, OKR.out, NR.out, fun W h => ⟨(QO.out W h).2.1.2.1, (QO.out W h).2.1.1.1⟩⟩
        | 1, _ => exact ⟨Ab, nb, cb, B, HNB.out, by omega, GB.out.ok, NB.out, fun W h => ⟨(QO.out W h).2.1.2.2.1, (QO.out W h).2.1.1.2.1⟩⟩
        | 2, _ => exact ⟨Am, nm, cm, M, HNM.out, by omega, GM.out.ok, NM.out, fun W h => ⟨(QO.out W h).2.1.2.2.2.1, (QO.out W h).2.1.1.2.2.1⟩⟩
        | 3, _ => exact ⟨At, nt, ct, T, HNT.out, by omega, GT.out.ok, NT.out, fun W h => ⟨(QO.out W h).2.1.2.2.2.2, (QO.out W h).2.1.1.2.2.2⟩⟩)
      clear hQ hM hL hX HL HX p0 p1 p2 p3 hev
      go_wp2
      go_loopw [10, 11, 12, 13, 14, 15] (fun s10 _ _ _ _ _ wr => ∃ i : Nat, i ≤ 4 ∧ s10 = .int .i64 i ∧ Q wr) (fun s10 _ _ _ _ _ _ => 4 - (intOf s10).toNat)
      case atStart => exact ⟨0, Nat.zero_le _, rfl, Q0.out⟩
      case round =>
        obtain ⟨i, hi, rfl, hq⟩ := hrel
        by_cases hlt : i < 4
        · obtain ⟨Ax, nx, cx, X, hlx, hnx, hkx, hnone, hQX⟩ := HFAM.out i hlt
          have aX := fun W (h : Q W) => (hQX W h).2
          have aB := fun W (h : Q W) => (QO.out W h).2.1.1.2.1
          have aR := fun W (h : Q W) => (QO.out W h).2.1.1.1
          obtain ⟨v, hv⟩ : ∃ v, validB X = v := ⟨_, rfl⟩
          obtain ⟨rv, hrv⟩ : ∃ v, (rightsV X x y).toInt = v := ⟨_, rfl⟩
          obtain ⟨al, hal⟩ : ∃ v, allowsB X x y z = v := ⟨_, rfl⟩
          obtain ⟨sm, hsm⟩ : ∃ v, decide (X = R) = v := ⟨_, rfl⟩
          have nx1 : nx ≤ 1000 := by omega
          have nr1 : nr ≤ 1000 := by omega
          have al2 : (bits .andNot .i64 z (rightsV X x y).toInt == 0) = al := (allows_same _ _ HZ.out).trans hal
          have V1 := Lib.hid (fun W (h : Q W) => c_bool hv (valid_any Ax nx cx X hlx nx1 hkx W (aX W h)))
          have V2 := Lib.hid (fun W (h : Q W) => c_bool hv (rvalid_any Ax nx cx X hlx nx1 W (aX W h)))
          have V3 := Lib.hid (fun W (h : Q W) => c_int hrv (rights_any Ax nx cx X hlx nx1 x y W (aX W h)))
          have V4 := Lib.hid (fun W (h : Q W) => c_int hrv (rrights_same Ax nx cx X hlx nx1 x y W (aX W h)))
          have V5 := Lib.hid (fun W (h : Q W) => c_bool hal (allows_any Ax nx cx X hlx nx1 x y z W (aX W h)))
          have V6 := Lib.hid (fun W (h : Q W) => c_bool al2 (rallows_any Ax nx cx X hlx nx1 x y z W (aX W h)))
          have V7 := Lib.hid (fun W (h : Q W) => c_bool hsm (same_any Ax Ar nx nr cx cr X R hlx HNR.out nx1 nr1 W (aX W h) (aR W h)))
          have V8 := Lib.hid (fun W (h : Q W) => c_bool hsm (rsame_any Ax Ar nx nr cx cr X R hlx HNR.out nx1 nr1 W (aX W h) (aR W h)))
          clear al2
          have rv0 : (rv != rv) = false := by simp
          have v0 : (v != v) = false := by simp
          have al0 : (al != al) = false := by simp
          have sm0 : (sm != sm) = false := by simp
          have KQ := Lib.hid hq
          have KD := Lib.hid (QD.out _ hq)
          have qx := (hQX wr hq).1
          have i0 : (0 : Int) ≤ (i : Int) := by omega
          have i1 : (i : Int) < 4 := by omega
          have AX := Lib.hid aX
          have AB := Lib.hid aB
          have HLX := Lib.hid hlx
          have HKX := Lib.hid hkx
          have HNX := Lib.hid hnone
          clear hq hQX aX aB aR hv hrv hal hsm hlx hkx hnone
          go_upto_region 8 with fail
          clear qx
          go_cut [101] (fun s101 wx => s101 = .bool false ∧ Q wx)
          case first =>
            as_aux_lemma =>
            refine wp_region_held_drew (S := (fun W' => W'.cell? ⟨w.heap.size + 1, 0, none⟩ = some (.int .i64 x) ∧ W'.cell? ⟨w.heap.size + 1, 1, none⟩ = some (.int .i64 y) ∧ W'.cell? ⟨w.heap.size + 1, 2, none⟩ = some (.int .i64 z) ∧ W'.cell? ⟨g8, 0, none⟩ = some (.slice Ar nr cr) ∧ W'.cell? ⟨g8, 1, none⟩ = some (.slice Ab nb cb))) (by kernel_rfl) (by exact SF.out _ KD.out) (fun hHeld => ?_)
            refine wpAnyH_take (i := 0) (oi := { dst := some 50, op := Op.move (Operand.tmp 11), type := 22, pos := "law.go:39", after := #[], guard := none }) (v := ?_) rfl (by kernel_rfl) (by kernel_rfl) (by kernel_rfl) (fun _ _ _ h => h) (Or.inl ⟨by rfl, ?_⟩) (by assumption) ?_
            rotate_left
            · ((intro w' hSw); (try dsimp only at hSw); go_simp; all_goals (with_reducible rfl))
            simp only [Act.put, List.setIfInBounds_toArray, List.set_cons_zero, List.set_cons_succ]
            refine wpAnyH_take (i := 2) (oi := { dst := some 52, op := Op.move (Operand.tmp 11), type := 22, pos := "law.go:39", after := #[], guard := none }) (v := ?_) rfl (by kernel_rfl) (by kernel_rfl) (by kernel_rfl) (fun _ _ _ h => h) (Or.inl ⟨by rfl, ?_⟩) (by assumption) ?_
            rotate_left
            · ((intro w' hSw); (try dsimp only at hSw); go_simp; all_goals (with_reducible rfl))
            simp only [Act.put, List.setIfInBounds_toArray, List.set_cons_zero, List.set_cons_succ]
            refine wpAnyH_ready (rs := [1]) (by kernel_rfl) (by simp) ?_
            refine AllReadyH.cons rfl (fun K hK => ?_) AllReadyH.nil
            go_simp
            go_wp2_with (go_at_call 13; (with_reducible refine (V1.out _ KD.out).mono ?_); rintro q w11 ⟨rfl, hb⟩; have K1 := Lib.hid (QS.out _ _ KD.out hb); clear hb)
            refine hK.out _ _ ?_ (fun hHeld => ?_)
            · exact SF.out _ K1.out
            clear hK K
            refine wpAnyH_ready (rs := [3]) (by kernel_rfl) (by simp) ?_
            refine AllReadyH.cons rfl (fun K hK => ?_) AllReadyH.nil
            go_simp
            go_wp2_with (go_at_call 14; (with_reducible refine (V2.out _ K1.out).mono ?_); rintro q w12 ⟨rfl, hb⟩; have K2 := Lib.hid (QS.out _ _ K1.out hb); clear hb)
            refine hK.out _ _ ?_ (fun hHeld => ?_)
            · exact SF.out _ K2.out
            clear hK K
            refine wpAnyH_take (i := 4) (oi := { dst := some 54, op := Op.binOp BinOp.neq 4 (Operand.tmp 51) (Operand.tmp 53) 4, type := 4, pos := "law.go:39", after := #[{ on := 1, ground := Ground.data }, { on := 3, ground := Ground.data }], guard := none }) (v := ?_) rfl (by kernel_rfl) (by kernel_rfl) (by kernel_rfl) (fun _ _ _ h => h) (Or.inl ⟨by rfl, ?_⟩) (by assumption) ?_
            rotate_left
            · ((intro w' hSw); (try dsimp only at hSw); go_simp; all_goals (with_reducible rfl))
            simp only [Act.put, List.setIfInBounds_toArray, List.set_cons_zero, List.set_cons_succ]
            refine wpAnyH_take (i := 5) (oi := { dst := some 55, op := Op.move (Operand.tmp 54), type := 4, pos := "law.go:39", after := #[{ on := 4, ground := Ground.data }, { on := 3, ground := Ground.chain }], guard := none }) (v := ?_) rfl (by kernel_rfl) (by kernel_rfl) (by kernel_rfl) (fun _ _ _ h => h) (Or.inl ⟨by rfl, ?_⟩) (by assumption) ?_
            rotate_left
            · ((intro w' hSw); (try dsimp only at hSw); go_simp; all_goals (with_reducible rfl))
            simp only [Act.put, List.setIfInBounds_toArray, List.set_cons_zero, List.set_cons_succ]
            refine wpAnyH_take (i := 6) (oi := { dst := some 56, op := Op.move (Operand.tmp 11), type := 22, pos := "law.go:39", after := #[{ on := 5, ground := Ground.guard }], guard := some (5, false) }) (v := ?_) rfl (by kernel_rfl) (by kernel_rfl) (by kernel_rfl) (fun _ _ _ h => h) (Or.inl ⟨by rfl, ?_⟩) (by assumption) ?_
            rotate_left
            · ((intro w' hSw); (try dsimp only at hSw); go_simp; all_goals (with_reducible rfl))
            simp only [Act.put, List.setIfInBounds_toArray, List.set_cons_zero, List.set_cons_succ]
            refine wpAnyH_take (i := 7) (oi := { dst := some 57, op := Op.indexAddr 25 (Operand.tmp 5) (Operand.const (Value.int IntKind.i64 0)), type := 0, pos := "law.go:39", after := #[{ on := 5, ground := Ground.guard }], guard := some (5, false) }) (v := ?_) rfl (by kernel_rfl) (by kernel_rfl) (by kernel_rfl) (fun _ _ _ h => h) (Or.inl ⟨by rfl, ?_⟩) (by assumption) ?_
            rotate_left
            · ((intro w' hSw); (try dsimp only at hSw); go_simp; all_goals (with_reducible rfl))
            simp only [Act.put, List.setIfInBounds_toArray, List.set_cons_zero, List.set_cons_succ]
            refine wpAnyH_take (i := 8) (oi := { dst := some 58, op := Op.load 3 (Operand.tmp 57), type := 3, pos := "law.go:39", after := #[{ on := 7, ground := Ground.data }, { on := 5, ground := Ground.guard }], guard := some (5, false) }) (v := ?_) rfl (by kernel_rfl) (by kernel_rfl) (by kernel_rfl) (fun _ _ _ h => h) (Or.inl ⟨by rfl, ?_⟩) (by assumption) ?_
            rotate_left
            · ((intro w' hSw); (try dsimp only at hSw); go_simp; all_goals (with_reducible rfl))
            simp only [Act.put, List.setIfInBounds_toArray, List.set_cons_zero, List.set_cons_succ]
            refine wpAnyH_take (i := 9) (oi := { dst := some 59, op := Op.indexAddr 25 (Operand.tmp 5) (Operand.const (Value.int IntKind.i64 1)), type := 0, pos := "law.go:39", after := #[{ on := 5, ground := Ground.guard }], guard := some (5, false) }) (v := ?_) rfl (by kernel_rfl) (by kernel_rfl) (by kernel_rfl) (fun _ _ _ h => h) (Or.inl ⟨by rfl, ?_⟩) (by assumption) ?_
            rotate_left
            · ((intro w' hSw); (try dsimp only at hSw); go_simp; all_goals (with_reducible rfl))
            simp only [Act.put, List.setIfInBounds_toArray, List.set_cons_zero, List.set_cons_succ]
            refine wpAnyH_take (i := 10) (oi := { dst := some 60, op := Op.load 3 (Operand.tmp 59), type := 3, pos := "law.go:39", after := #[{ on := 9, ground := Ground.data }, { on := 5, ground := Ground.guard }], guard := some (5, false) }) (v := ?_) rfl (by kernel_rfl) (by kernel_rfl) (by kernel_rfl) (fun _ _ _ h => h) (Or.inl ⟨by rfl, ?_⟩) (by assumption) ?_
            rotate_left
            · ((intro w' hSw); (try dsimp only at hSw); go_simp; all_goals (with_reducible rfl))
            simp only [Act.put, List.setIfInBounds_toArray, List.set_cons_zero, List.set_cons_succ]
            refine wpAnyH_take (i := 12) (oi := { dst := some 62, op := Op.move (Operand.tmp 11), type := 22, pos := "law.go:39", after := #[{ on := 5, ground := Ground.guard }], guard := some (5, false) }) (v := ?_) rfl (by kernel_rfl) (by kernel_rfl) (by kernel_rfl) (fun _ _ _ h => h) (Or.inl ⟨by rfl, ?_⟩) (by assumption) ?_
            rotate_left
            · ((intro w' hSw); (try dsimp only at hSw); go_simp; all_goals (with_reducible rfl))
            simp only [Act.put, List.setIfInBounds_toArray, List.set_cons_zero, List.set_cons_succ]
            refine wpAnyH_take (i := 13) (oi := { dst := some 63, op := Op.indexAddr 25 (Operand.tmp 5) (Operand.const (Value.int IntKind.i64 0)), type := 0, pos := "law.go:39", after := #[{ on := 5, ground := Ground.guard }], guard := some (5, false) }) (v := ?_) rfl (by kernel_rfl) (by kernel_rfl) (by kernel_rfl) (fun _ _ _ h => h) (Or.inl ⟨by rfl, ?_⟩) (by assumption) ?_
            rotate_left
            · ((intro w' hSw); (try dsimp only at hSw); go_simp; all_goals (with_reducible rfl))
            simp only [Act.put, List.setIfInBounds_toArray, List.set_cons_zero, List.set_cons_succ]
            refine wpAnyH_take (i := 14) (oi := { dst := some 64, op := Op.load 3 (Operand.tmp 63), type := 3, pos := "law.go:39", after := #[{ on := 13, ground := Ground.data }, { on := 5, ground := Ground.guard }], guard := some (5, false) }) (v := ?_) rfl (by kernel_rfl) (by kernel_rfl) (by kernel_rfl) (fun _ _ _ h => h) (Or.inl ⟨by rfl, ?_⟩) (by assumption) ?_
            rotate_left
            · ((intro w' hSw); (try dsimp only at hSw); go_simp; all_goals (with_reducible rfl))
            simp only [Act.put, List.setIfInBounds_toArray, List.set_cons_zero, List.set_cons_succ]
            refine wpAnyH_take (i := 15) (oi := { dst := some 65, op := Op.indexAddr 25 (Operand.tmp 5) (Operand.const (Value.int IntKind.i64 1)), type := 0, pos := "law.go:39", after := #[{ on := 5, ground := Ground.guard }], guard := some (5, false) }) (v := ?_) rfl (by kernel_rfl) (by kernel_rfl) (by kernel_rfl) (fun _ _ _ h => h) (Or.inl ⟨by rfl, ?_⟩) (by assumption) ?_
            rotate_left
            · ((intro w' hSw); (try dsimp only at hSw); go_simp; all_goals (with_reducible rfl))
            simp only [Act.put, List.setIfInBounds_toArray, List.set_cons_zero, List.set_cons_succ]
            refine wpAnyH_take (i := 16) (oi := { dst := some 66, op := Op.load 3 (Operand.tmp 65), type := 3, pos := "law.go:39", after := #[{ on := 15, ground := Ground.data }, { on := 5, ground := Ground.guard }], guard := some (5, false) }) (v := ?_) rfl (by kernel_rfl) (by kernel_rfl) (by kernel_rfl) (fun _ _ _ h => h) (Or.inl ⟨by rfl, ?_⟩) (by assumption) ?_
            rotate_left
            · ((intro w' hSw); (try dsimp only at hSw); go_simp; all_goals (with_reducible rfl))
            simp only [Act.put, List.setIfInBounds_toArray, List.set_cons_zero, List.set_cons_succ]
            refine wpAnyH_ready (rs := [11]) (by kernel_rfl) (by simp) ?_
            refine AllReadyH.cons rfl (fun K hK => ?_) AllReadyH.nil
            go_simp
            go_wp2_with (go_at_call 15; (with_reducible refine (V3.out _ K2.out).mono ?_); rintro q w13 ⟨rfl, hb⟩; have K3 := Lib.hid (QS.out _ _ K2.out hb); clear hb)
            refine hK.out _ _ ?_ (fun hHeld => ?_)
            · exact SF.out _ K3.out
            clear hK K
            refine wpAnyH_ready (rs := [17]) (by kernel_rfl) (by simp) ?_
            refine AllReadyH.cons rfl (fun K hK => ?_) AllReadyH.nil
            go_simp
            go_wp2_with (go_at_call 16; (with_reducible refine (V4.out _ K3.out).mono ?_); rintro q w14 ⟨rfl, hb⟩; have K4 := Lib.hid (QS.out _ _ K3.out hb); clear hb)
            refine hK.out _ _ ?_ (fun hHeld => ?_)
            · exact SF.out _ K4.out
            clear hK K
            refine wpAnyH_take (i := 18) (oi := { dst := some 68, op := Op.binOp BinOp.neq 3 (Operand.tmp 61) (Operand.tmp 67) 3, type := 4, pos := "law.go:39", after := #[{ on := 11, ground := Ground.data }, { on := 17, ground := Ground.data }, { on := 5, ground := Ground.guard }], guard := some (5, false) }) (v := ?_) rfl (by kernel_rfl) (by kernel_rfl) (by kernel_rfl) (fun _ _ _ h => h) (Or.inl ⟨by rfl, ?_⟩) (by assumption) ?_
            rotate_left
            · ((intro w' hSw); (try dsimp only at hSw); go_simp; all_goals (with_reducible rfl))
            simp only [Act.put, List.setIfInBounds_toArray, List.set_cons_zero, List.set_cons_succ]
            refine wpAnyH_take (i := 19) (oi := { dst := some 69, op := Op.pick (Operand.tmp 55) (Operand.const (Value.bool true)) (Operand.tmp 68), type := 4, pos := "law.go:39", after := #[{ on := 5, ground := Ground.data }, { on := 18, ground := Ground.data }], guard := none }) (v := ?_) rfl (by kernel_rfl) (by kernel_rfl) (by kernel_rfl) (fun _ _ _ h => h) (Or.inl ⟨by rfl, ?_⟩) (by assumption) ?_
            rotate_left
            · ((intro w' hSw); (try dsimp only at hSw); go_simp; all_goals (with_reducible rfl))
            simp only [Act.put, List.setIfInBounds_toArray, List.set_cons_zero, List.set_cons_succ]
            refine wpAnyH_take (i := 20) (oi := { dst := some 70, op := Op.move (Operand.tmp 69), type := 4, pos := "law.go:39", after := #[{ on := 19, ground := Ground.data }, { on := 17, ground := Ground.chain }], guard := none }) (v := ?_) rfl (by kernel_rfl) (by kernel_rfl) (by kernel_rfl) (fun _ _ _ h => h) (Or.inl ⟨by rfl, ?_⟩) (by assumption) ?_
            rotate_left
            · ((intro w' hSw); (try dsimp only at hSw); go_simp; all_goals (with_reducible rfl))
            simp only [Act.put, List.setIfInBounds_toArray, List.set_cons_zero, List.set_cons_succ]
            refine wpAnyH_take (i := 21) (oi := { dst := some 71, op := Op.move (Operand.tmp 11), type := 22, pos := "law.go:39", after := #[{ on := 20, ground := Ground.guard }], guard := some (20, false) }) (v := ?_) rfl (by kernel_rfl) (by kernel_rfl) (by kernel_rfl) (fun _ _ _ h => h) (Or.inl ⟨by rfl, ?_⟩) (by assumption) ?_
            rotate_left
            · ((intro w' hSw); (try dsimp only at hSw); go_simp; all_goals (with_reducible rfl))
            simp only [Act.put, List.setIfInBounds_toArray, List.set_cons_zero, List.set_cons_succ]
            refine wpAnyH_take (i := 22) (oi := { dst := some 72, op := Op.indexAddr 25 (Operand.tmp 5) (Operand.const (Value.int IntKind.i64 0)), type := 0, pos := "law.go:39", after := #[{ on := 20, ground := Ground.guard }], guard := some (20, false) }) (v := ?_) rfl (by kernel_rfl) (by kernel_rfl) (by kernel_rfl) (fun _ _ _ h => h) (Or.inl ⟨by rfl, ?_⟩) (by assumption) ?_
            rotate_left
            · ((intro w' hSw); (try dsimp only at hSw); go_simp; all_goals (with_reducible rfl))
            simp only [Act.put, List.setIfInBounds_toArray, List.set_cons_zero, List.set_cons_succ]
            refine wpAnyH_take (i := 23) (oi := { dst := some 73, op := Op.load 3 (Operand.tmp 72), type := 3, pos := "law.go:39", after := #[{ on := 22, ground := Ground.data }, { on := 20, ground := Ground.guard }], guard := some (20, false) }) (v := ?_) rfl (by kernel_rfl) (by kernel_rfl) (by kernel_rfl) (fun _ _ _ h => h) (Or.inl ⟨by rfl, ?_⟩) (by assumption) ?_
            rotate_left
            · ((intro w' hSw); (try dsimp only at hSw); go_simp; all_goals (with_reducible rfl))
            simp only [Act.put, List.setIfInBounds_toArray, List.set_cons_zero, List.set_cons_succ]
            refine wpAnyH_take (i := 24) (oi := { dst := some 74, op := Op.indexAddr 25 (Operand.tmp 5) (Operand.const (Value.int IntKind.i64 1)), type := 0, pos := "law.go:39", after := #[{ on := 20, ground := Ground.guard }], guard := some (20, false) }) (v := ?_) rfl (by kernel_rfl) (by kernel_rfl) (by kernel_rfl) (fun _ _ _ h => h) (Or.inl ⟨by rfl, ?_⟩) (by assumption) ?_
            rotate_left
            · ((intro w' hSw); (try dsimp only at hSw); go_simp; all_goals (with_reducible rfl))
            simp only [Act.put, List.setIfInBounds_toArray, List.set_cons_zero, List.set_cons_succ]
            refine wpAnyH_take (i := 25) (oi := { dst := some 75, op := Op.load 3 (Operand.tmp 74), type := 3, pos := "law.go:39", after := #[{ on := 24, ground := Ground.data }, { on := 20, ground := Ground.guard }], guard := some (20, false) }) (v := ?_) rfl (by kernel_rfl) (by kernel_rfl) (by kernel_rfl) (fun _ _ _ h => h) (Or.inl ⟨by rfl, ?_⟩) (by assumption) ?_
            rotate_left
            · ((intro w' hSw); (try dsimp only at hSw); go_simp; all_goals (with_reducible rfl))
            simp only [Act.put, List.setIfInBounds_toArray, List.set_cons_zero, List.set_cons_succ]
            refine wpAnyH_take (i := 26) (oi := { dst := some 76, op := Op.indexAddr 25 (Operand.tmp 5) (Operand.const (Value.int IntKind.i64 2)), type := 0, pos := "law.go:39", after := #[{ on := 20, ground := Ground.guard }], guard := some (20, false) }) (v := ?_) rfl (by kernel_rfl) (by kernel_rfl) (by kernel_rfl) (fun _ _ _ h => h) (Or.inl ⟨by rfl, ?_⟩) (by assumption) ?_
            rotate_left
            · ((intro w' hSw); (try dsimp only at hSw); go_simp; all_goals (with_reducible rfl))
            simp only [Act.put, List.setIfInBounds_toArray, List.set_cons_zero, List.set_cons_succ]
            refine wpAnyH_take (i := 27) (oi := { dst := some 77, op := Op.load 3 (Operand.tmp 76), type := 3, pos := "law.go:39", after := #[{ on := 26, ground := Ground.data }, { on := 20, ground := Ground.guard }], guard := some (20, false) }) (v := ?_) rfl (by kernel_rfl) (by kernel_rfl) (by kernel_rfl) (fun _ _ _ h => h) (Or.inl ⟨by rfl, ?_⟩) (by assumption) ?_
            rotate_left
            · ((intro w' hSw); (try dsimp only at hSw); go_simp; all_goals (with_reducible rfl))
            simp only [Act.put, List.setIfInBounds_toArray, List.set_cons_zero, List.set_cons_succ]
            refine wpAnyH_take (i := 29) (oi := { dst := some 79, op := Op.move (Operand.tmp 11), type := 22, pos := "law.go:39", after := #[{ on := 20, ground := Ground.guard }], guard := some (20, false) }) (v := ?_) rfl (by kernel_rfl) (by kernel_rfl) (by kernel_rfl) (fun _ _ _ h => h) (Or.inl ⟨by rfl, ?_⟩) (by assumption) ?_
            rotate_left
            · ((intro w' hSw); (try dsimp only at hSw); go_simp; all_goals (with_reducible rfl))
            simp only [Act.put, List.setIfInBounds_toArray, List.set_cons_zero, List.set_cons_succ]
            refine wpAnyH_take (i := 30) (oi := { dst := some 80, op := Op.indexAddr 25 (Operand.tmp 5) (Operand.const (Value.int IntKind.i64 0)), type := 0, pos := "law.go:39", after := #[{ on := 20, ground := Ground.guard }], guard := some (20, false) }) (v := ?_) rfl (by kernel_rfl) (by kernel_rfl) (by kernel_rfl) (fun _ _ _ h => h) (Or.inl ⟨by rfl, ?_⟩) (by assumption) ?_
            rotate_left
            · ((intro w' hSw); (try dsimp only at hSw); go_simp; all_goals (with_reducible rfl))
            simp only [Act.put, List.setIfInBounds_toArray, List.set_cons_zero, List.set_cons_succ]
            refine wpAnyH_take (i := 31) (oi := { dst := some 81, op := Op.load 3 (Operand.tmp 80), type := 3, pos := "law.go:39", after := #[{ on := 30, ground := Ground.data }, { on := 20, ground := Ground.guard }], guard := some (20, false) }) (v := ?_) rfl (by kernel_rfl) (by kernel_rfl) (by kernel_rfl) (fun _ _ _ h => h) (Or.inl ⟨by rfl, ?_⟩) (by assumption) ?_
            rotate_left
            · ((intro w' hSw); (try dsimp only at hSw); go_simp; all_goals (with_reducible rfl))
            simp only [Act.put, List.setIfInBounds_toArray, List.set_cons_zero, List.set_cons_succ]
            refine wpAnyH_take (i := 32) (oi := { dst := some 82, op := Op.indexAddr 25 (Operand.tmp 5) (Operand.const (Value.int IntKind.i64 1)), type := 0, pos := "law.go:39", after := #[{ on := 20, ground := Ground.guard }], guard := some (20, false) }) (v := ?_) rfl (by kernel_rfl) (by kernel_rfl) (by kernel_rfl) (fun _ _ _ h => h) (Or.inl ⟨by rfl, ?_⟩) (by assumption) ?_
            rotate_left
            · ((intro w' hSw); (try dsimp only at hSw); go_simp; all_goals (with_reducible rfl))
            simp only [Act.put, List.setIfInBounds_toArray, List.set_cons_zero, List.set_cons_succ]
            refine wpAnyH_take (i := 33) (oi := { dst := some 83, op := Op.load 3 (Operand.tmp 82), type := 3, pos := "law.go:39", after := #[{ on := 32, ground := Ground.data }, { on := 20, ground := Ground.guard }], guard := some (20, false) }) (v := ?_) rfl (by kernel_rfl) (by kernel_rfl) (by kernel_rfl) (fun _ _ _ h => h) (Or.inl ⟨by rfl, ?_⟩) (by assumption) ?_
            rotate_left
            · ((intro w' hSw); (try dsimp only at hSw); go_simp; all_goals (with_reducible rfl))
            simp only [Act.put, List.setIfInBounds_toArray, List.set_cons_zero, List.set_cons_succ]
            refine wpAnyH_take (i := 34) (oi := { dst := some 84, op := Op.indexAddr 25 (Operand.tmp 5) (Operand.const (Value.int IntKind.i64 2)), type := 0, pos := "law.go:39", after := #[{ on := 20, ground := Ground.guard }], guard := some (20, false) }) (v := ?_) rfl (by kernel_rfl) (by kernel_rfl) (by kernel_rfl) (fun _ _ _ h => h) (Or.inl ⟨by rfl, ?_⟩) (by assumption) ?_
            rotate_left
            · ((intro w' hSw); (try dsimp only at hSw); go_simp; all_goals (with_reducible rfl))
            simp only [Act.put, List.setIfInBounds_toArray, List.set_cons_zero, List.set_cons_succ]
            refine wpAnyH_take (i := 35) (oi := { dst := some 85, op := Op.load 3 (Operand.tmp 84), type := 3, pos := "law.go:39", after := #[{ on := 34, ground := Ground.data }, { on := 20, ground := Ground.guard }], guard := some (20, false) }) (v := ?_) rfl (by kernel_rfl) (by kernel_rfl) (by kernel_rfl) (fun _ _ _ h => h) (Or.inl ⟨by rfl, ?_⟩) (by assumption) ?_
            rotate_left
            · ((intro w' hSw); (try dsimp only at hSw); go_simp; all_goals (with_reducible rfl))
            simp only [Act.put, List.setIfInBounds_toArray, List.set_cons_zero, List.set_cons_succ]
            refine wpAnyH_ready (rs := [28]) (by kernel_rfl) (by simp) ?_
            refine AllReadyH.cons rfl (fun K hK => ?_) AllReadyH.nil
            go_simp
            go_wp2_with (go_at_call 17; (with_reducible refine (V5.out _ K4.out).mono ?_); rintro q w15 ⟨rfl, hb⟩; have K5 := Lib.hid (QS.out _ _ K4.out hb); clear hb)
            refine hK.out _ _ ?_ (fun hHeld => ?_)
            · exact SF.out _ K5.out
            clear hK K
            refine wpAnyH_ready (rs := [36]) (by kernel_rfl) (by simp) ?_
            refine AllReadyH.cons rfl (fun K hK => ?_) AllReadyH.nil
            go_simp
            go_wp2_with (go_at_call 18; (with_reducible refine (V6.out _ K5.out).mono ?_); rintro q w16 ⟨rfl, hb⟩; have K6 := Lib.hid (QS.out _ _ K5.out hb); clear hb)
            refine hK.out _ _ ?_ (fun hHeld => ?_)
            · exact SF.out _ K6.out
            clear hK K
            refine wpAnyH_take (i := 37) (oi := { dst := some 87, op := Op.binOp BinOp.neq 4 (Operand.tmp 78) (Operand.tmp 86) 4, type := 4, pos := "law.go:39", after := #[{ on := 28, ground := Ground.data }, { on := 36, ground := Ground.data }, { on := 20, ground := Ground.guard }], guard := some (20, false) }) (v := ?_) rfl (by kernel_rfl) (by kernel_rfl) (by kernel_rfl) (fun _ _ _ h => h) (Or.inl ⟨by rfl, ?_⟩) (by assumption) ?_
            rotate_left
            · ((intro w' hSw); (try dsimp only at hSw); go_simp; all_goals (with_reducible rfl))
            simp only [Act.put, List.setIfInBounds_toArray, List.set_cons_zero, List.set_cons_succ]
            refine wpAnyH_take (i := 38) (oi := { dst := some 88, op := Op.pick (Operand.tmp 70) (Operand.const (Value.bool true)) (Operand.tmp 87), type := 4, pos := "law.go:39", after := #[{ on := 20, ground := Ground.data }, { on := 37, ground := Ground.data }], guard := none }) (v := ?_) rfl (by kernel_rfl) (by kernel_rfl) (by kernel_rfl) (fun _ _ _ h => h) (Or.inl ⟨by rfl, ?_⟩) (by assumption) ?_
            rotate_left
            · ((intro w' hSw); (try dsimp only at hSw); go_simp; all_goals (with_reducible rfl))
            simp only [Act.put, List.setIfInBounds_toArray, List.set_cons_zero, List.set_cons_succ]
            refine wpAnyH_take (i := 39) (oi := { dst := some 89, op := Op.move (Operand.tmp 88), type := 4, pos := "law.go:39", after := #[{ on := 38, ground := Ground.data }, { on := 36, ground := Ground.chain }], guard := none }) (v := ?_) rfl (by kernel_rfl) (by kernel_rfl) (by kernel_rfl) (fun _ _ _ h => h) (Or.inl ⟨by rfl, ?_⟩) (by assumption) ?_
            rotate_left
            · ((intro w' hSw); (try dsimp only at hSw); go_simp; all_goals (with_reducible rfl))
            simp only [Act.put, List.setIfInBounds_toArray, List.set_cons_zero, List.set_cons_succ]
            refine wpAnyH_take (i := 40) (oi := { dst := some 90, op := Op.move (Operand.tmp 11), type := 22, pos := "law.go:39", after := #[{ on := 39, ground := Ground.guard }], guard := some (39, false) }) (v := ?_) rfl (by kernel_rfl) (by kernel_rfl) (by kernel_rfl) (fun _ _ _ h => h) (Or.inl ⟨by rfl, ?_⟩) (by assumption) ?_
            rotate_left
            · ((intro w' hSw); (try dsimp only at hSw); go_simp; all_goals (with_reducible rfl))
            simp only [Act.put, List.setIfInBounds_toArray, List.set_cons_zero, List.set_cons_succ]
            refine wpAnyH_take (i := 41) (oi := { dst := some 91, op := Op.move (Operand.tmp 8), type := 29, pos := "law.go:39", after := #[{ on := 39, ground := Ground.guard }], guard := some (39, false) }) (v := ?_) rfl (by kernel_rfl) (by kernel_rfl) (by kernel_rfl) (fun _ _ _ h => h) (Or.inl ⟨by rfl, ?_⟩) (by assumption) ?_
            rotate_left
            · ((intro w' hSw); (try dsimp only at hSw); go_simp; all_goals (with_reducible rfl))
            simp only [Act.put, List.setIfInBounds_toArray, List.set_cons_zero, List.set_cons_succ]
            refine wpAnyH_take (i := 42) (oi := { dst := some 92, op := Op.indexAddr 29 (Operand.tmp 91) (Operand.const (Value.int IntKind.i64 0)), type := 0, pos := "law.go:39", after := #[{ on := 41, ground := Ground.data }, { on := 39, ground := Ground.guard }], guard := some (39, false) }) (v := ?_) rfl (by kernel_rfl) (by kernel_rfl) (by kernel_rfl) (fun _ _ _ h => h) (Or.inl ⟨by rfl, ?_⟩) (by assumption) ?_
            rotate_left
            · ((intro w' hSw); (try dsimp only at hSw); go_simp; all_goals (with_reducible rfl))
            simp only [Act.put, List.setIfInBounds_toArray, List.set_cons_zero, List.set_cons_succ]
            refine wpAnyH_take (i := 43) (oi := { dst := some 93, op := Op.load 22 (Operand.tmp 92), type := 22, pos := "law.go:39", after := #[{ on := 42, ground := Ground.data }, { on := 39, ground := Ground.guard }], guard := some (39, false) }) (v := ?_) rfl (by kernel_rfl) (by kernel_rfl) (by kernel_rfl) (fun _ _ _ h => h) (Or.inl ⟨by rfl, ?_⟩) (by assumption) ?_
            rotate_left
            · ((intro w' hSw); (try dsimp only at hSw); go_simp; all_goals (with_reducible rfl))
            simp only [Act.put, List.setIfInBounds_toArray, List.set_cons_zero, List.set_cons_succ]
            refine wpAnyH_take (i := 45) (oi := { dst := some 95, op := Op.move (Operand.tmp 11), type := 22, pos := "law.go:39", after := #[{ on := 39, ground := Ground.guard }], guard := some (39, false) }) (v := ?_) rfl (by kernel_rfl) (by kernel_rfl) (by kernel_rfl) (fun _ _ _ h => h) (Or.inl ⟨by rfl, ?_⟩) (by assumption) ?_
            rotate_left
            · ((intro w' hSw); (try dsimp only at hSw); go_simp; all_goals (with_reducible rfl))
            simp only [Act.put, List.setIfInBounds_toArray, List.set_cons_zero, List.set_cons_succ]
            refine wpAnyH_take (i := 46) (oi := { dst := some 96, op := Op.move (Operand.tmp 8), type := 29, pos := "law.go:39", after := #[{ on := 39, ground := Ground.guard }], guard := some (39, false) }) (v := ?_) rfl (by kernel_rfl) (by kernel_rfl) (by kernel_rfl) (fun _ _ _ h => h) (Or.inl ⟨by rfl, ?_⟩) (by assumption) ?_
            rotate_left
            · ((intro w' hSw); (try dsimp only at hSw); go_simp; all_goals (with_reducible rfl))
            simp only [Act.put, List.setIfInBounds_toArray, List.set_cons_zero, List.set_cons_succ]
            refine wpAnyH_take (i := 47) (oi := { dst := some 97, op := Op.indexAddr 29 (Operand.tmp 96) (Operand.const (Value.int IntKind.i64 0)), type := 0, pos := "law.go:39", after := #[{ on := 46, ground := Ground.data }, { on := 39, ground := Ground.guard }], guard := some (39, false) }) (v := ?_) rfl (by kernel_rfl) (by kernel_rfl) (by kernel_rfl) (fun _ _ _ h => h) (Or.inl ⟨by rfl, ?_⟩) (by assumption) ?_
            rotate_left
            · ((intro w' hSw); (try dsimp only at hSw); go_simp; all_goals (with_reducible rfl))
            simp only [Act.put, List.setIfInBounds_toArray, List.set_cons_zero, List.set_cons_succ]
            refine wpAnyH_take (i := 48) (oi := { dst := some 98, op := Op.load 22 (Operand.tmp 97), type := 22, pos := "law.go:39", after := #[{ on := 47, ground := Ground.data }, { on := 39, ground := Ground.guard }], guard := some (39, false) }) (v := ?_) rfl (by kernel_rfl) (by kernel_rfl) (by kernel_rfl) (fun _ _ _ h => h) (Or.inl ⟨by rfl, ?_⟩) (by assumption) ?_
            rotate_left
            · ((intro w' hSw); (try dsimp only at hSw); go_simp; all_goals (with_reducible rfl))
            simp only [Act.put, List.setIfInBounds_toArray, List.set_cons_zero, List.set_cons_succ]
            refine wpAnyH_ready (rs := [44]) (by kernel_rfl) (by simp) ?_
            refine AllReadyH.cons rfl (fun K hK => ?_) AllReadyH.nil
            go_simp
            go_wp2_with (go_at_call 19; (with_reducible refine (V7.out _ K6.out).mono ?_); rintro q w17 ⟨rfl, hb⟩; have K7 := Lib.hid (QS.out _ _ K6.out hb); clear hb)
            refine hK.out _ _ ?_ (fun hHeld => ?_)
            · exact SF.out _ K7.out
            clear hK K
            refine wpAnyH_ready (rs := [49]) (by kernel_rfl) (by simp) ?_
            refine AllReadyH.cons rfl (fun K hK => ?_) AllReadyH.nil
            go_simp
            go_wp2_with (go_at_call 20; (with_reducible refine (V8.out _ K7.out).mono ?_); rintro q w18 ⟨rfl, hb⟩; have K8 := Lib.hid (QS.out _ _ K7.out hb); clear hb)
            refine hK.out _ _ ?_ (fun hHeld => ?_)
            · exact SF.out _ K8.out
            clear hK K
            refine wpAnyH_take (i := 50) (oi := { dst := some 100, op := Op.binOp BinOp.neq 4 (Operand.tmp 94) (Operand.tmp 99) 4, type := 4, pos := "law.go:39", after := #[{ on := 44, ground := Ground.data }, { on := 49, ground := Ground.data }, { on := 39, ground := Ground.guard }], guard := some (39, false) }) (v := ?_) rfl (by kernel_rfl) (by kernel_rfl) (by kernel_rfl) (fun _ _ _ h => h) (Or.inl ⟨by rfl, ?_⟩) (by assumption) ?_
            rotate_left
            · ((intro w' hSw); (try dsimp only at hSw); go_simp; all_goals (with_reducible rfl))
            simp only [Act.put, List.setIfInBounds_toArray, List.set_cons_zero, List.set_cons_succ]
            refine wpAnyH_take (i := 51) (oi := { dst := some 101, op := Op.pick (Operand.tmp 89) (Operand.const (Value.bool true)) (Operand.tmp 100), type := 4, pos := "law.go:39", after := #[{ on := 39, ground := Ground.data }, { on := 50, ground := Ground.data }], guard := none }) (v := ?_) rfl (by kernel_rfl) (by kernel_rfl) (by kernel_rfl) (fun _ _ _ h => h) (Or.inl ⟨by rfl, ?_⟩) (by assumption) ?_
            rotate_left
            · ((intro w' hSw); (try dsimp only at hSw); go_simp; all_goals (with_reducible rfl))
            simp only [Act.put, List.setIfInBounds_toArray, List.set_cons_zero, List.set_cons_succ]
            refine wpAnyH_done (by kernel_rfl) ?_ _
            all_goals (go_wp2_with fail; go_meet)
            all_goals exact ⟨rfl, K8.out⟩
          case rest =>
            obtain ⟨rfl, hq⟩ := hcut
            have KQ := Lib.hid hq
            have KD := Lib.hid (QD.out _ hq)
            clear hq V1 V2 V3 V4 V5 V6 V7 V8 rv0 v0 al0 sm0
            obtain ⟨CH, hCH⟩ : ∃ v, childL X (rcOf true) = v := ⟨_, rfl⟩
            obtain ⟨CF, hCF⟩ : ∃ v, childL X (rcOf false) = v := ⟨_, rfl⟩
            obtain ⟨AG, hAG⟩ : ∃ v, againL X B dv = v := ⟨_, rfl⟩
            have l1 : CH.length ≤ 20 := by rw [← hCH]; exact Nat.le_trans (childL_len _ _) (by rw [HLX.out]; exact hnx)
            have l2 : CF.length ≤ 20 := by rw [← hCF]; exact Nat.le_trans (childL_len _ _) (by rw [HLX.out]; exact hnx)
            have l3 : AG.length ≤ 32 := by
              rw [← hAG]
              unfold againL
              rw [List.length_append]
              have t1 := ownL_len X false
              have t2 := childL_len B (rcOf dv)
              rw [HLX.out] at t1
              rw [HNB.out] at t2
              omega
            obtain ⟨k1, hk1⟩ : ∃ v, CH.length = v := ⟨_, rfl⟩
            obtain ⟨k2, hk2⟩ : ∃ v, CF.length = v := ⟨_, rfl⟩
            obtain ⟨k3, hk3⟩ : ∃ v, AG.length = v := ⟨_, rfl⟩
            rw [hk1] at l1
            rw [hk2] at l2
            rw [hk3] at l3
            have nb1 : nb ≤ 1000 := by omega
            have k11 : k1 ≤ 1000 := by omega
            have k21 : k2 ≤ 1000 := by omega
            have k31 : k3 ≤ 1000 := by omega
            have G1 := Lib.hid (fun W (h : Q W) => gives_eq hCH hk1 (child_any Ax nx cx X HLX.out nx1 HKX.out true W (AX.out W h)))
            have G2 := Lib.hid (fun W (h : Q W) => gives_eq hCH hk1 (rchild_any Ax nx cx X HLX.out nx1 true W (AX.out W h)))
            have G3 := Lib.hid (fun W (h : Q W) => gives_eq hCF hk2 (child_any Ax nx cx X HLX.out nx1 HKX.out false W (AX.out W h)))
            have G4 := Lib.hid (fun W (h : Q W) => gives_eq hCF hk2 (rchild_any Ax nx cx X HLX.out nx1 false W (AX.out W h)))
            have G5 := Lib.hid (fun W (h : Q W) => gives_eq hAG hk3 (again_any Ax Ab nx cx nb cb X B HLX.out nx1 HNB.out nb1 GB.out.ok dv W (AX.out W h) (AB.out W h)))
            have G6 := Lib.hid (fun W (h : Q W) => gives_eq hAG hk3 (ragain_any Ax Ab nx cx nb cb X B HLX.out nx1 HNB.out nb1 dv W (AX.out W h) (AB.out W h)))
            have E1 := Lib.hid (fun (A A' : Option Addr) (c c' : Nat) W (h : Aces W A CH) (h' : Aces W A' CH) => rs_true A A' c c' k1 CH hk1 k11 W h h')
            have E2 := Lib.hid (fun (A A' : Option Addr) (c c' : Nat) W (h : Aces W A CF) (h' : Aces W A' CF) => rs_true A A' c c' k2 CF hk2 k21 W h h')
            have E3 := Lib.hid (fun (A A' : Option Addr) (c c' : Nat) W (h : Aces W A AG) (h' : Aces W A' AG) => rs_true A A' c c' k3 AG hk3 k31 W h h')
            clear hCH hCF hAG hk1 hk2 hk3
            go_upto_region 10 with fail
            go_cut [137] (fun s137 wx => s137 = .bool false ∧ Q wx)
            case first =>
              as_aux_lemma =>
              refine wp_region_held_drew (S := (fun W' => W'.cell? ⟨w.heap.size + 1, 0, none⟩ = some (.int .i64 x) ∧ W'.cell? ⟨w.heap.size + 1, 1, none⟩ = some (.int .i64 y) ∧ W'.cell? ⟨w.heap.size + 1, 2, none⟩ = some (.int .i64 z) ∧ W'.cell? ⟨g8, 0, none⟩ = some (.slice Ar nr cr) ∧ W'.cell? ⟨g8, 1, none⟩ = some (.slice Ab nb cb))) (by kernel_rfl) (by exact SF.out _ KD.out) (fun hHeld => ?_)
              refine wpAnyH_take (i := 0) (oi := { dst := some 102, op := Op.move (Operand.tmp 11), type := 22, pos := "law.go:42", after := #[], guard := none }) (v := ?_) rfl (by kernel_rfl) (by kernel_rfl) (by kernel_rfl) (fun _ _ _ h => h) (Or.inl ⟨by rfl, ?_⟩) (by assumption) ?_
              rotate_left
              · ((intro w' hSw); (try dsimp only at hSw); go_simp; all_goals (with_reducible rfl))
              simp only [Act.put, List.setIfInBounds_toArray, List.set_cons_zero, List.set_cons_succ]
              refine wpAnyH_take (i := 2) (oi := { dst := some 104, op := Op.move (Operand.tmp 11), type := 22, pos := "law.go:42", after := #[], guard := none }) (v := ?_) rfl (by kernel_rfl) (by kernel_rfl) (by kernel_rfl) (fun _ _ _ h => h) (Or.inl ⟨by rfl, ?_⟩) (by assumption) ?_
              rotate_left
              · ((intro w' hSw); (try dsimp only at hSw); go_simp; all_goals (with_reducible rfl))
              simp only [Act.put, List.setIfInBounds_toArray, List.set_cons_zero, List.set_cons_succ]
              refine wpAnyH_ready (rs := [1]) (by kernel_rfl) (by simp) ?_
              refine AllReadyH.cons rfl (fun K hK => ?_) AllReadyH.nil
              go_simp
              go_wp2_with (go_at_call 21; (with_reducible refine (G1.out _ KD.out).mono ?_); rintro q w11 ⟨B1, e1, rfl, v, _, hb⟩; have K1 := Lib.hid (QS.out _ _ KD.out hb); have U1 := Lib.hid v; clear v hb)
              refine hK.out _ _ ?_ (fun hHeld => ?_)
              · exact SF.out _ K1.out
              clear hK K
              refine wpAnyH_ready (rs := [3]) (by kernel_rfl) (by simp) ?_
              refine AllReadyH.cons rfl (fun K hK => ?_) AllReadyH.nil
              go_simp
              go_wp2_with (go_at_call 22; (with_reducible refine (G2.out _ K1.out).mono ?_); rintro q w12 ⟨B2, e2, rfl, v, _, hb⟩; have K2 := Lib.hid (QS.out _ _ K1.out hb); have U12 := Lib.hid (U1.out.below hb); have U2 := Lib.hid v; clear v hb)
              refine hK.out _ _ ?_ (fun hHeld => ?_)
              · exact SF.out _ K2.out
              clear hK K
              refine wpAnyH_ready (rs := [4]) (by kernel_rfl) (by simp) ?_
              refine AllReadyH.cons rfl (fun K hK => ?_) AllReadyH.nil
              go_simp
              go_wp2_with (go_at_call 20; (with_reducible refine (E1.out _ _ _ _ _ U12.out U2.out).mono ?_); rintro q w13 ⟨rfl, hb⟩; have K3 := Lib.hid (QS.out _ _ K2.out hb); clear hb)
              refine hK.out _ _ ?_ (fun hHeld => ?_)
              · exact SF.out _ K3.out
              clear hK K
              refine wpAnyH_take (i := 5) (oi := { dst := some 107, op := Op.unOp UnOp.not 4 (Operand.tmp 106), type := 4, pos := "law.go:42", after := #[{ on := 4, ground := Ground.data }], guard := none }) (v := ?_) rfl (by kernel_rfl) (by kernel_rfl) (by kernel_rfl) (fun _ _ _ h => h) (Or.inl ⟨by rfl, ?_⟩) (by assumption) ?_
              rotate_left
              · ((intro w' hSw); (try dsimp only at hSw); go_simp; all_goals (with_reducible rfl))
              simp only [Act.put, List.setIfInBounds_toArray, List.set_cons_zero, List.set_cons_succ]
              refine wpAnyH_take (i := 6) (oi := { dst := some 108, op := Op.move (Operand.tmp 107), type := 4, pos := "law.go:42", after := #[{ on := 5, ground := Ground.data }, { on := 4, ground := Ground.chain }], guard := none }) (v := ?_) rfl (by kernel_rfl) (by kernel_rfl) (by kernel_rfl) (fun _ _ _ h => h) (Or.inl ⟨by rfl, ?_⟩) (by assumption) ?_
              rotate_left
              · ((intro w' hSw); (try dsimp only at hSw); go_simp; all_goals (with_reducible rfl))
              simp only [Act.put, List.setIfInBounds_toArray, List.set_cons_zero, List.set_cons_succ]
              refine wpAnyH_take (i := 7) (oi := { dst := some 109, op := Op.move (Operand.tmp 11), type := 22, pos := "law.go:42", after := #[{ on := 6, ground := Ground.guard }], guard := some (6, false) }) (v := ?_) rfl (by kernel_rfl) (by kernel_rfl) (by kernel_rfl) (fun _ _ _ h => h) (Or.inl ⟨by rfl, ?_⟩) (by assumption) ?_
              rotate_left
              · ((intro w' hSw); (try dsimp only at hSw); go_simp; all_goals (with_reducible rfl))
              simp only [Act.put, List.setIfInBounds_toArray, List.set_cons_zero, List.set_cons_succ]
              refine wpAnyH_take (i := 9) (oi := { dst := some 111, op := Op.move (Operand.tmp 11), type := 22, pos := "law.go:42", after := #[{ on := 6, ground := Ground.guard }], guard := some (6, false) }) (v := ?_) rfl (by kernel_rfl) (by kernel_rfl) (by kernel_rfl) (fun _ _ _ h => h) (Or.inl ⟨by rfl, ?_⟩) (by assumption) ?_
              rotate_left
              · ((intro w' hSw); (try dsimp only at hSw); go_simp; all_goals (with_reducible rfl))
              simp only [Act.put, List.setIfInBounds_toArray, List.set_cons_zero, List.set_cons_succ]
              refine wpAnyH_ready (rs := [8]) (by kernel_rfl) (by simp) ?_
              refine AllReadyH.cons rfl (fun K hK => ?_) AllReadyH.nil
              go_simp
              go_wp2_with (go_at_call 21; (with_reducible refine (G3.out _ K3.out).mono ?_); rintro q w14 ⟨B3, e3, rfl, v, _, hb⟩; have K4 := Lib.hid (QS.out _ _ K3.out hb); have U3 := Lib.hid v; clear v hb)
              refine hK.out _ _ ?_ (fun hHeld => ?_)
              · exact SF.out _ K4.out
              clear hK K
              refine wpAnyH_ready (rs := [10]) (by kernel_rfl) (by simp) ?_
              refine AllReadyH.cons rfl (fun K hK => ?_) AllReadyH.nil
              go_simp
              go_wp2_with (go_at_call 22; (with_reducible refine (G4.out _ K4.out).mono ?_); rintro q w15 ⟨B4, e4, rfl, v, _, hb⟩; have K5 := Lib.hid (QS.out _ _ K4.out hb); have U34 := Lib.hid (U3.out.below hb); have U4 := Lib.hid v; clear v hb)
              refine hK.out _ _ ?_ (fun hHeld => ?_)
              · exact SF.out _ K5.out
              clear hK K
              refine wpAnyH_ready (rs := [11]) (by kernel_rfl) (by simp) ?_
              refine AllReadyH.cons rfl (fun K hK => ?_) AllReadyH.nil
              go_simp
              go_wp2_with (go_at_call 20; (with_reducible refine (E2.out _ _ _ _ _ U34.out U4.out).mono ?_); rintro q w16 ⟨rfl, hb⟩; have K6 := Lib.hid (QS.out _ _ K5.out hb); clear hb)
              refine hK.out _ _ ?_ (fun hHeld => ?_)
              · exact SF.out _ K6.out
              clear hK K
              refine wpAnyH_take (i := 12) (oi := { dst := some 114, op := Op.unOp UnOp.not 4 (Operand.tmp 113), type := 4, pos := "law.go:42", after := #[{ on := 11, ground := Ground.data }, { on := 6, ground := Ground.guard }], guard := some (6, false) }) (v := ?_) rfl (by kernel_rfl) (by kernel_rfl) (by kernel_rfl) (fun _ _ _ h => h) (Or.inl ⟨by rfl, ?_⟩) (by assumption) ?_
              rotate_left
              · ((intro w' hSw); (try dsimp only at hSw); go_simp; all_goals (with_reducible rfl))
              simp only [Act.put, List.setIfInBounds_toArray, List.set_cons_zero, List.set_cons_succ]
              refine wpAnyH_take (i := 13) (oi := { dst := some 115, op := Op.pick (Operand.tmp 108) (Operand.const (Value.bool true)) (Operand.tmp 114), type := 4, pos := "law.go:42", after := #[{ on := 6, ground := Ground.data }, { on := 12, ground := Ground.data }], guard := none }) (v := ?_) rfl (by kernel_rfl) (by kernel_rfl) (by kernel_rfl) (fun _ _ _ h => h) (Or.inl ⟨by rfl, ?_⟩) (by assumption) ?_
              rotate_left
              · ((intro w' hSw); (try dsimp only at hSw); go_simp; all_goals (with_reducible rfl))
              simp only [Act.put, List.setIfInBounds_toArray, List.set_cons_zero, List.set_cons_succ]
              refine wpAnyH_take (i := 14) (oi := { dst := some 116, op := Op.move (Operand.tmp 115), type := 4, pos := "law.go:42", after := #[{ on := 13, ground := Ground.data }, { on := 11, ground := Ground.chain }], guard := none }) (v := ?_) rfl (by kernel_rfl) (by kernel_rfl) (by kernel_rfl) (fun _ _ _ h => h) (Or.inl ⟨by rfl, ?_⟩) (by assumption) ?_
              rotate_left
              · ((intro w' hSw); (try dsimp only at hSw); go_simp; all_goals (with_reducible rfl))
              simp only [Act.put, List.setIfInBounds_toArray, List.set_cons_zero, List.set_cons_succ]
              refine wpAnyH_take (i := 15) (oi := { dst := some 117, op := Op.move (Operand.tmp 11), type := 22, pos := "law.go:42", after := #[{ on := 14, ground := Ground.guard }], guard := some (14, false) }) (v := ?_) rfl (by kernel_rfl) (by kernel_rfl) (by kernel_rfl) (fun _ _ _ h => h) (Or.inl ⟨by rfl, ?_⟩) (by assumption) ?_
              rotate_left
              · ((intro w' hSw); (try dsimp only at hSw); go_simp; all_goals (with_reducible rfl))
              simp only [Act.put, List.setIfInBounds_toArray, List.set_cons_zero, List.set_cons_succ]
              refine wpAnyH_take (i := 16) (oi := { dst := some 118, op := Op.move (Operand.tmp 8), type := 29, pos := "law.go:42", after := #[{ on := 14, ground := Ground.guard }], guard := some (14, false) }) (v := ?_) rfl (by kernel_rfl) (by kernel_rfl) (by kernel_rfl) (fun _ _ _ h => h) (Or.inl ⟨by rfl, ?_⟩) (by assumption) ?_
              rotate_left
              · ((intro w' hSw); (try dsimp only at hSw); go_simp; all_goals (with_reducible rfl))
              simp only [Act.put, List.setIfInBounds_toArray, List.set_cons_zero, List.set_cons_succ]
              refine wpAnyH_take (i := 17) (oi := { dst := some 119, op := Op.indexAddr 29 (Operand.tmp 118) (Operand.const (Value.int IntKind.i64 1)), type := 0, pos := "law.go:42", after := #[{ on := 16, ground := Ground.data }, { on := 14, ground := Ground.guard }], guard := some (14, false) }) (v := ?_) rfl (by kernel_rfl) (by kernel_rfl) (by kernel_rfl) (fun _ _ _ h => h) (Or.inl ⟨by rfl, ?_⟩) (by assumption) ?_
              rotate_left
              · ((intro w' hSw); (try dsimp only at hSw); go_simp; all_goals (with_reducible rfl))
              simp only [Act.put, List.setIfInBounds_toArray, List.set_cons_zero, List.set_cons_succ]
              refine wpAnyH_take (i := 18) (oi := { dst := some 120, op := Op.load 22 (Operand.tmp 119), type := 22, pos := "law.go:42", after := #[{ on := 17, ground := Ground.data }, { on := 14, ground := Ground.guard }], guard := some (14, false) }) (v := ?_) rfl (by kernel_rfl) (by kernel_rfl) (by kernel_rfl) (fun _ _ _ h => h) (Or.inl ⟨by rfl, ?_⟩) (by assumption) ?_
              rotate_left
              · ((intro w' hSw); (try dsimp only at hSw); go_simp; all_goals (with_reducible rfl))
              simp only [Act.put, List.setIfInBounds_toArray, List.set_cons_zero, List.set_cons_succ]
              refine wpAnyH_take (i := 19) (oi := { dst := some 121, op := Op.indexAddr 25 (Operand.tmp 5) (Operand.const (Value.int IntKind.i64 0)), type := 0, pos := "law.go:42", after := #[{ on := 14, ground := Ground.guard }], guard := some (14, false) }) (v := ?_) rfl (by kernel_rfl) (by kernel_rfl) (by kernel_rfl) (fun _ _ _ h => h) (Or.inl ⟨by rfl, ?_⟩) (by assumption) ?_
              rotate_left
              · ((intro w' hSw); (try dsimp only at hSw); go_simp; all_goals (with_reducible rfl))
              simp only [Act.put, List.setIfInBounds_toArray, List.set_cons_zero, List.set_cons_succ]
              refine wpAnyH_take (i := 20) (oi := { dst := some 122, op := Op.load 3 (Operand.tmp 121), type := 3, pos := "law.go:42", after := #[{ on := 19, ground := Ground.data }, { on := 14, ground := Ground.guard }], guard := some (14, false) }) (v := ?_) rfl (by kernel_rfl) (by kernel_rfl) (by kernel_rfl) (fun _ _ _ h => h) (Or.inl ⟨by rfl, ?_⟩) (by assumption) ?_
              rotate_left
              · ((intro w' hSw); (try dsimp only at hSw); go_simp; all_goals (with_reducible rfl))
              simp only [Act.put, List.setIfInBounds_toArray, List.set_cons_zero, List.set_cons_succ]
              refine wpAnyH_take (i := 21) (oi := { dst := some 123, op := Op.binOp BinOp.rem 3 (Operand.tmp 122) (Operand.const (Value.int IntKind.i64 2)) 3, type := 3, pos := "law.go:42", after := #[{ on := 20, ground := Ground.data }, { on := 14, ground := Ground.guard }], guard := some (14, false) }) (v := ?_) rfl (by kernel_rfl) (by kernel_rfl) (by kernel_rfl) (fun _ _ _ h => h) (Or.inl ⟨by rfl, ?_⟩) (by assumption) ?_
              rotate_left
              · ((intro w' hSw); (try dsimp only at hSw); go_simp; all_goals (with_reducible rfl))
              simp only [Act.put, List.setIfInBounds_toArray, List.set_cons_zero, List.set_cons_succ]
              refine wpAnyH_take (i := 22) (oi := { dst := some 124, op := Op.binOp BinOp.eql 3 (Operand.tmp 123) (Operand.const (Value.int IntKind.i64 0)) 3, type := 4, pos := "law.go:42", after := #[{ on := 21, ground := Ground.data }, { on := 14, ground := Ground.guard }], guard := some (14, false) }) (v := ?_) rfl (by kernel_rfl) (by kernel_rfl) (by kernel_rfl) (fun _ _ _ h => h) (Or.inl ⟨by rfl, ?_⟩) (by assumption) ?_
              rotate_left
              · ((intro w' hSw); (try dsimp only at hSw); go_simp; all_goals (with_reducible rfl))
              simp only [Act.put, List.setIfInBounds_toArray, List.set_cons_zero, List.set_cons_succ]
              refine wpAnyH_take (i := 24) (oi := { dst := some 126, op := Op.move (Operand.tmp 11), type := 22, pos := "law.go:42", after := #[{ on := 14, ground := Ground.guard }], guard := some (14, false) }) (v := ?_) rfl (by kernel_rfl) (by kernel_rfl) (by kernel_rfl) (fun _ _ _ h => h) (Or.inl ⟨by rfl, ?_⟩) (by assumption) ?_
              rotate_left
              · ((intro w' hSw); (try dsimp only at hSw); go_simp; all_goals (with_reducible rfl))
              simp only [Act.put, List.setIfInBounds_toArray, List.set_cons_zero, List.set_cons_succ]
              refine wpAnyH_take (i := 25) (oi := { dst := some 127, op := Op.move (Operand.tmp 8), type := 29, pos := "law.go:42", after := #[{ on := 14, ground := Ground.guard }], guard := some (14, false) }) (v := ?_) rfl (by kernel_rfl) (by kernel_rfl) (by kernel_rfl) (fun _ _ _ h => h) (Or.inl ⟨by rfl, ?_⟩) (by assumption) ?_
              rotate_left
              · ((intro w' hSw); (try dsimp only at hSw); go_simp; all_goals (with_reducible rfl))
              simp only [Act.put, List.setIfInBounds_toArray, List.set_cons_zero, List.set_cons_succ]
              refine wpAnyH_take (i := 26) (oi := { dst := some 128, op := Op.indexAddr 29 (Operand.tmp 127) (Operand.const (Value.int IntKind.i64 1)), type := 0, pos := "law.go:42", after := #[{ on := 25, ground := Ground.data }, { on := 14, ground := Ground.guard }], guard := some (14, false) }) (v := ?_) rfl (by kernel_rfl) (by kernel_rfl) (by kernel_rfl) (fun _ _ _ h => h) (Or.inl ⟨by rfl, ?_⟩) (by assumption) ?_
              rotate_left
              · ((intro w' hSw); (try dsimp only at hSw); go_simp; all_goals (with_reducible rfl))
              simp only [Act.put, List.setIfInBounds_toArray, List.set_cons_zero, List.set_cons_succ]
              refine wpAnyH_take (i := 27) (oi := { dst := some 129, op := Op.load 22 (Operand.tmp 128), type := 22, pos := "law.go:42", after := #[{ on := 26, ground := Ground.data }, { on := 14, ground := Ground.guard }], guard := some (14, false) }) (v := ?_) rfl (by kernel_rfl) (by kernel_rfl) (by kernel_rfl) (fun _ _ _ h => h) (Or.inl ⟨by rfl, ?_⟩) (by assumption) ?_
              rotate_left
              · ((intro w' hSw); (try dsimp only at hSw); go_simp; all_goals (with_reducible rfl))
              simp only [Act.put, List.setIfInBounds_toArray, List.set_cons_zero, List.set_cons_succ]
              refine wpAnyH_take (i := 28) (oi := { dst := some 130, op := Op.indexAddr 25 (Operand.tmp 5) (Operand.const (Value.int IntKind.i64 0)), type := 0, pos := "law.go:42", after := #[{ on := 14, ground := Ground.guard }], guard := some (14, false) }) (v := ?_) rfl (by kernel_rfl) (by kernel_rfl) (by kernel_rfl) (fun _ _ _ h => h) (Or.inl ⟨by rfl, ?_⟩) (by assumption) ?_
              rotate_left
              · ((intro w' hSw); (try dsimp only at hSw); go_simp; all_goals (with_reducible rfl))
              simp only [Act.put, List.setIfInBounds_toArray, List.set_cons_zero, List.set_cons_succ]
              refine wpAnyH_take (i := 29) (oi := { dst := some 131, op := Op.load 3 (Operand.tmp 130), type := 3, pos := "law.go:42", after := #[{ on := 28, ground := Ground.data }, { on := 14, ground := Ground.guard }], guard := some (14, false) }) (v := ?_) rfl (by kernel_rfl) (by kernel_rfl) (by kernel_rfl) (fun _ _ _ h => h) (Or.inl ⟨by rfl, ?_⟩) (by assumption) ?_
              rotate_left
              · ((intro w' hSw); (try dsimp only at hSw); go_simp; all_goals (with_reducible rfl))
              simp only [Act.put, List.setIfInBounds_toArray, List.set_cons_zero, List.set_cons_succ]
              refine wpAnyH_take (i := 30) (oi := { dst := some 132, op := Op.binOp BinOp.rem 3 (Operand.tmp 131) (Operand.const (Value.int IntKind.i64 2)) 3, type := 3, pos := "law.go:42", after := #[{ on := 29, ground := Ground.data }, { on := 14, ground := Ground.guard }], guard := some (14, false) }) (v := ?_) rfl (by kernel_rfl) (by kernel_rfl) (by kernel_rfl) (fun _ _ _ h => h) (Or.inl ⟨by rfl, ?_⟩) (by assumption) ?_
              rotate_left
              · ((intro w' hSw); (try dsimp only at hSw); go_simp; all_goals (with_reducible rfl))
              simp only [Act.put, List.setIfInBounds_toArray, List.set_cons_zero, List.set_cons_succ]
              refine wpAnyH_take (i := 31) (oi := { dst := some 133, op := Op.binOp BinOp.eql 3 (Operand.tmp 132) (Operand.const (Value.int IntKind.i64 0)) 3, type := 4, pos := "law.go:42", after := #[{ on := 30, ground := Ground.data }, { on := 14, ground := Ground.guard }], guard := some (14, false) }) (v := ?_) rfl (by kernel_rfl) (by kernel_rfl) (by kernel_rfl) (fun _ _ _ h => h) (Or.inl ⟨by rfl, ?_⟩) (by assumption) ?_
              rotate_left
              · ((intro w' hSw); (try dsimp only at hSw); go_simp; all_goals (with_reducible rfl))
              simp only [Act.put, List.setIfInBounds_toArray, List.set_cons_zero, List.set_cons_succ]
              refine wpAnyH_ready (rs := [23]) (by kernel_rfl) (by simp) ?_
              refine AllReadyH.cons rfl (fun K hK => ?_) AllReadyH.nil
              go_simp
              go_wp2_with (go_at_call 23; (with_reducible refine (G5.out _ K6.out).mono ?_); rintro q w17 ⟨B5, e5, rfl, v, _, hb⟩; have K7 := Lib.hid (QS.out _ _ K6.out hb); have U5 := Lib.hid v; clear v hb)
              refine hK.out _ _ ?_ (fun hHeld => ?_)
              · exact SF.out _ K7.out
              clear hK K
              refine wpAnyH_ready (rs := [32]) (by kernel_rfl) (by simp) ?_
              refine AllReadyH.cons rfl (fun K hK => ?_) AllReadyH.nil
              go_simp
              go_wp2_with (go_at_call 24; (with_reducible refine (G6.out _ K7.out).mono ?_); rintro q w18 ⟨B6, e6, rfl, v, _, hb⟩; have K8 := Lib.hid (QS.out _ _ K7.out hb); have U56 := Lib.hid (U5.out.below hb); have U6 := Lib.hid v; clear v hb)
              refine hK.out _ _ ?_ (fun hHeld => ?_)
              · exact SF.out _ K8.out
              clear hK K
              refine wpAnyH_ready (rs := [33]) (by kernel_rfl) (by simp) ?_
              refine AllReadyH.cons rfl (fun K hK => ?_) AllReadyH.nil
              go_simp
              go_wp2_with (go_at_call 20; (with_reducible refine (E3.out _ _ _ _ _ U56.out U6.out).mono ?_); rintro q w19 ⟨rfl, hb⟩; have K9 := Lib.hid (QS.out _ _ K8.out hb); clear hb)
              refine hK.out _ _ ?_ (fun hHeld => ?_)
              · exact SF.out _ K9.out
              clear hK K
              refine wpAnyH_take (i := 34) (oi := { dst := some 136, op := Op.unOp UnOp.not 4 (Operand.tmp 135), type := 4, pos := "law.go:42", after := #[{ on := 33, ground := Ground.data }, { on := 14, ground := Ground.guard }], guard := some (14, false) }) (v := ?_) rfl (by kernel_rfl) (by kernel_rfl) (by kernel_rfl) (fun _ _ _ h => h) (Or.inl ⟨by rfl, ?_⟩) (by assumption) ?_
              rotate_left
              · ((intro w' hSw); (try dsimp only at hSw); go_simp; all_goals (with_reducible rfl))
              simp only [Act.put, List.setIfInBounds_toArray, List.set_cons_zero, List.set_cons_succ]
              refine wpAnyH_take (i := 35) (oi := { dst := some 137, op := Op.pick (Operand.tmp 116) (Operand.const (Value.bool true)) (Operand.tmp 136), type := 4, pos := "law.go:42", after := #[{ on := 14, ground := Ground.data }, { on := 34, ground := Ground.data }], guard := none }) (v := ?_) rfl (by kernel_rfl) (by kernel_rfl) (by kernel_rfl) (fun _ _ _ h => h) (Or.inl ⟨by rfl, ?_⟩) (by assumption) ?_
              rotate_left
              · ((intro w' hSw); (try dsimp only at hSw); go_simp; all_goals (with_reducible rfl))
              simp only [Act.put, List.setIfInBounds_toArray, List.set_cons_zero, List.set_cons_succ]
              refine wpAnyH_done (by kernel_rfl) ?_ _
              all_goals (go_wp2_with fail; go_meet)
              all_goals exact ⟨rfl, K9.out⟩
            case rest =>
              obtain ⟨rfl, hq⟩ := hcut
              have KQ := Lib.hid hq
              clear hq G1 G2 G3 G4 G5 G6 E1 E2 E3 KD
              obtain ⟨PL, hPL⟩ : ∃ v, (putL X ⟨x, ev, z, u, false⟩).1 = v := ⟨_, rfl⟩
              obtain ⟨pe, hpe⟩ : ∃ v, (putL X ⟨x, ev, z, u, false⟩).2 = v := ⟨_, rfl⟩
              obtain ⟨np, hnp⟩ : ∃ v, PL.length = v := ⟨_, rfl⟩
              have lp : np ≤ 21 := by rw [← hnp, ← hPL]; exact Nat.le_trans (putL_len _ _) (by rw [HLX.out]; omega)
              have np1 : np ≤ 1000 := by omega
              have P1 : Hid (∀ W : World, Q W → GivesP 25 #[.slice Ax nx cx, .agg #[.int .i64 x, .bool ev, .int .i64 z, .int .i64 u, .bool false]] W PL np pe) := Lib.hid (fun W (h : Q W) => put_gives hPL hpe hnp (put_any Ax nx cx X ⟨x, ev, z, u, false⟩ HLX.out nx1 HKX.out HNX.out W (AX.out W h)))
              have P2 : Hid (∀ W : World, Q W → GivesP 26 #[.slice Ax nx cx, .agg #[.int .i64 x, .bool ev, .int .i64 z, .int .i64 u, .bool false]] W PL np pe) := Lib.hid (fun W (h : Q W) => put_gives hPL hpe hnp (rput_any Ax nx cx X ⟨x, ev, z, u, false⟩ HLX.out nx1 W (AX.out W h)))
              have E4 := Lib.hid (fun (A A' : Option Addr) (c c' : Nat) W (h : Aces W A PL) (h' : Aces W A' PL) => rs_true A A' c c' np PL hnp np1 W h h')
              have pe0 : (pe != pe) = false := by simp
              clear hPL hpe hnp
              obtain ⟨m0, m1, m2, m3, m4⟩ := (QO.out _ KQ.out).1
              dsimp only at m0 m1 m2 m3 m4
              go_wp2_with (first
                | (go_at_call 25; (with_reducible refine (P1.out _ KQ.out).mono ?_); rintro q w2 ⟨B1, d1, rfl, v, hb⟩; have K1 := Lib.hid (QS.out _ _ KQ.out hb); have U1 := Lib.hid v; obtain ⟨m0, m1, m2, m3, m4⟩ := (QO.out _ K1.out).1; dsimp only at m0 m1 m2 m3 m4; clear v hb)
                | (go_at_call 26; (with_reducible refine (P2.out _ K1.out).mono ?_); rintro q w3 ⟨B2, d2, rfl, v, hb⟩; have K2 := Lib.hid (QS.out _ _ K1.out hb); have U12 := Lib.hid (U1.out.below hb); have U2 := Lib.hid v; clear v hb)
                | (go_at_call 20; (with_reducible refine (E4.out _ _ _ _ _ U12.out U2.out).mono ?_); rintro q w4 ⟨rfl, hb⟩; have K3 := Lib.hid (QS.out _ _ K2.out hb); clear hb))
              go_roundw
              case rel => exact ⟨i + 1, by omega, by go_num, K3.out⟩
              case measure => simp [intOf]; omega
        · obtain rfl : i = 4 := by omega
          have KQ := Lib.hid hq
          clear hq HFAM SF
          go_upto_region 16 with fail
          obtain ⟨XX, hXX⟩ : ∃ v, (mergeS B M T).1 = v := ⟨_, rfl⟩
          obtain ⟨ok, hok⟩ : ∃ v, (mergeS B M T).2 = v := ⟨_, rfl⟩
          obtain ⟨nx, hnx⟩ : ∃ v, XX.length = v := ⟨_, rfl⟩
          have hme : mergeS B M T = (XX, ok) := by rw [← hXX, ← hok]
          have lx : nx ≤ 24 := by
            rw [← hnx, ← hXX]
            exact mergeS_len (by rw [HNM.out]; exact lenM) (by rw [HNT.out]; exact lenT)
          have nb1 : nb ≤ 1000 := by omega
          have nm1 : nm ≤ 1000 := by omega
          have nt1 : nt ≤ 1000 := by omega
          have nx1 : nx ≤ 1000 := by omega
          have GM1 := Lib.hid (fun W (h : Q W) => merged_gives Ab Am At nb cb nm cm nt ct B M T HNB.out nb1 HNM.out nm1 HNT.out nt1 GB.out GM.out GT.out NM.out NT.out XX ok nx hme hnx W (QO.out W h).2.1.1.2.1 (QO.out W h).2.1.1.2.2.1 (QO.out W h).2.1.1.2.2.2)
          have GM2 := Lib.hid (fun W (h : Q W) => mres_gives hme hnx (rmerge_any Ab Am At nb cb nm cm nt ct B M T HNB.out lenB HNM.out lenM HNT.out lenT GB.out GM.out GT.out NM.out W (QO.out W h).2.1.1.2.1 (QO.out W h).2.1.1.2.2.1 (QO.out W h).2.1.1.2.2.2))
          have ES := Lib.hid (fun (A A' : Option Addr) (c c' : Nat) W (h : Aces W A XX) (h' : Aces W A' XX) => rs_true A A' c c' nx XX hnx nx1 W h h')
          have SG := Lib.hid (show ∀ W', Q W' → W'.cell? ⟨g8, 1, none⟩ = some (.slice Ab nb cb) ∧ W'.cell? ⟨g8, 2, none⟩ = some (.slice Am nm cm) ∧ W'.cell? ⟨g8, 3, none⟩ = some (.slice At nt ct) from fun W' h => by
            obtain ⟨_, ⟨_, _, r1, r2, r3⟩, _⟩ := QO.out W' h
            exact ⟨r1, r2, r3⟩)
          have HBW := Lib.hid (QO.out _ KQ.out).2.2.bel
          clear hXX hok hnx hme
          obtain ⟨wv, hwv⟩ : ∃ W, W = wr := ⟨_, rfl⟩
          subst hwv
          have KD := KQ
          have KE := Lib.hid (QD.out _ KQ.out)
          have HE := Lib.hid (Below.refl wv.heap.size wv).drew
          go_cut [16, 17] (fun s16 s17 wx => Fin16 s16 s17 XX nx ok w wx)
          case first =>
            as_aux_lemma =>
            refine wp_region_held_drew (S := (fun W' => W'.cell? ⟨g8, 1, none⟩ = some (.slice Ab nb cb) ∧ W'.cell? ⟨g8, 2, none⟩ = some (.slice Am nm cm) ∧ W'.cell? ⟨g8, 3, none⟩ = some (.slice At nt ct))) (by kernel_rfl) (by exact SG.out _ KE.out) (fun hHeld => ?_)
            refine wpAnyH_take (i := 0) (oi := { dst := some 159, op := Op.move (Operand.tmp 8), type := 29, pos := "law.go:51", after := #[], guard := none }) (v := ?_) rfl (by kernel_rfl) (by kernel_rfl) (by kernel_rfl) (fun _ _ _ h => h) (Or.inl ⟨by rfl, ?_⟩) (by assumption) ?_
            rotate_left
            · ((intro w' hSw); (try dsimp only at hSw); go_simp; all_goals (with_reducible rfl))
            simp only [Act.put, List.setIfInBounds_toArray, List.set_cons_zero, List.set_cons_succ]
            refine wpAnyH_take (i := 1) (oi := { dst := some 160, op := Op.indexAddr 29 (Operand.tmp 159) (Operand.const (Value.int IntKind.i64 1)), type := 0, pos := "law.go:51", after := #[{ on := 0, ground := Ground.data }], guard := none }) (v := ?_) rfl (by kernel_rfl) (by kernel_rfl) (by kernel_rfl) (fun _ _ _ h => h) (Or.inl ⟨by rfl, ?_⟩) (by assumption) ?_
            rotate_left
            · ((intro w' hSw); (try dsimp only at hSw); go_simp; all_goals (with_reducible rfl))
            simp only [Act.put, List.setIfInBounds_toArray, List.set_cons_zero, List.set_cons_succ]
            refine wpAnyH_take (i := 2) (oi := { dst := some 161, op := Op.load 22 (Operand.tmp 160), type := 22, pos := "law.go:51", after := #[{ on := 1, ground := Ground.data }], guard := none }) (v := ?_) rfl (by kernel_rfl) (by kernel_rfl) (by kernel_rfl) (fun _ _ _ h => h) (Or.inl ⟨by rfl, ?_⟩) (by assumption) ?_
            rotate_left
            · ((intro w' hSw); (try dsimp only at hSw); go_simp; all_goals (with_reducible rfl))
            simp only [Act.put, List.setIfInBounds_toArray, List.set_cons_zero, List.set_cons_succ]
            refine wpAnyH_take (i := 3) (oi := { dst := some 162, op := Op.move (Operand.tmp 8), type := 29, pos := "law.go:51", after := #[], guard := none }) (v := ?_) rfl (by kernel_rfl) (by kernel_rfl) (by kernel_rfl) (fun _ _ _ h => h) (Or.inl ⟨by rfl, ?_⟩) (by assumption) ?_
            rotate_left
            · ((intro w' hSw); (try dsimp only at hSw); go_simp; all_goals (with_reducible rfl))
            simp only [Act.put, List.setIfInBounds_toArray, List.set_cons_zero, List.set_cons_succ]
            refine wpAnyH_take (i := 4) (oi := { dst := some 163, op := Op.indexAddr 29 (Operand.tmp 162) (Operand.const (Value.int IntKind.i64 2)), type := 0, pos := "law.go:51", after := #[{ on := 3, ground := Ground.data }], guard := none }) (v := ?_) rfl (by kernel_rfl) (by kernel_rfl) (by kernel_rfl) (fun _ _ _ h => h) (Or.inl ⟨by rfl, ?_⟩) (by assumption) ?_
            rotate_left
            · ((intro w' hSw); (try dsimp only at hSw); go_simp; all_goals (with_reducible rfl))
            simp only [Act.put, List.setIfInBounds_toArray, List.set_cons_zero, List.set_cons_succ]
            refine wpAnyH_take (i := 5) (oi := { dst := some 164, op := Op.load 22 (Operand.tmp 163), type := 22, pos := "law.go:51", after := #[{ on := 4, ground := Ground.data }], guard := none }) (v := ?_) rfl (by kernel_rfl) (by kernel_rfl) (by kernel_rfl) (fun _ _ _ h => h) (Or.inl ⟨by rfl, ?_⟩) (by assumption) ?_
            rotate_left
            · ((intro w' hSw); (try dsimp only at hSw); go_simp; all_goals (with_reducible rfl))
            simp only [Act.put, List.setIfInBounds_toArray, List.set_cons_zero, List.set_cons_succ]
            refine wpAnyH_take (i := 6) (oi := { dst := some 165, op := Op.move (Operand.tmp 8), type := 29, pos := "law.go:51", after := #[], guard := none }) (v := ?_) rfl (by kernel_rfl) (by kernel_rfl) (by kernel_rfl) (fun _ _ _ h => h) (Or.inl ⟨by rfl, ?_⟩) (by assumption) ?_
            rotate_left
            · ((intro w' hSw); (try dsimp only at hSw); go_simp; all_goals (with_reducible rfl))
            simp only [Act.put, List.setIfInBounds_toArray, List.set_cons_zero, List.set_cons_succ]
            refine wpAnyH_take (i := 7) (oi := { dst := some 166, op := Op.indexAddr 29 (Operand.tmp 165) (Operand.const (Value.int IntKind.i64 3)), type := 0, pos := "law.go:51", after := #[{ on := 6, ground := Ground.data }], guard := none }) (v := ?_) rfl (by kernel_rfl) (by kernel_rfl) (by kernel_rfl) (fun _ _ _ h => h) (Or.inl ⟨by rfl, ?_⟩) (by assumption) ?_
            rotate_left
            · ((intro w' hSw); (try dsimp only at hSw); go_simp; all_goals (with_reducible rfl))
            simp only [Act.put, List.setIfInBounds_toArray, List.set_cons_zero, List.set_cons_succ]
            refine wpAnyH_take (i := 8) (oi := { dst := some 167, op := Op.load 22 (Operand.tmp 166), type := 22, pos := "law.go:51", after := #[{ on := 7, ground := Ground.data }], guard := none }) (v := ?_) rfl (by kernel_rfl) (by kernel_rfl) (by kernel_rfl) (fun _ _ _ h => h) (Or.inl ⟨by rfl, ?_⟩) (by assumption) ?_
            rotate_left
            · ((intro w' hSw); (try dsimp only at hSw); go_simp; all_goals (with_reducible rfl))
            simp only [Act.put, List.setIfInBounds_toArray, List.set_cons_zero, List.set_cons_succ]
            refine wpAnyH_take (i := 10) (oi := { dst := some 169, op := Op.move (Operand.tmp 8), type := 29, pos := "law.go:51", after := #[], guard := none }) (v := ?_) rfl (by kernel_rfl) (by kernel_rfl) (by kernel_rfl) (fun _ _ _ h => h) (Or.inl ⟨by rfl, ?_⟩) (by assumption) ?_
            rotate_left
            · ((intro w' hSw); (try dsimp only at hSw); go_simp; all_goals (with_reducible rfl))
            simp only [Act.put, List.setIfInBounds_toArray, List.set_cons_zero, List.set_cons_succ]
            refine wpAnyH_take (i := 11) (oi := { dst := some 170, op := Op.indexAddr 29 (Operand.tmp 169) (Operand.const (Value.int IntKind.i64 1)), type := 0, pos := "law.go:51", after := #[{ on := 10, ground := Ground.data }], guard := none }) (v := ?_) rfl (by kernel_rfl) (by kernel_rfl) (by kernel_rfl) (fun _ _ _ h => h) (Or.inl ⟨by rfl, ?_⟩) (by assumption) ?_
            rotate_left
            · ((intro w' hSw); (try dsimp only at hSw); go_simp; all_goals (with_reducible rfl))
            simp only [Act.put, List.setIfInBounds_toArray, List.set_cons_zero, List.set_cons_succ]
            refine wpAnyH_take (i := 12) (oi := { dst := some 171, op := Op.load 22 (Operand.tmp 170), type := 22, pos := "law.go:51", after := #[{ on := 11, ground := Ground.data }], guard := none }) (v := ?_) rfl (by kernel_rfl) (by kernel_rfl) (by kernel_rfl) (fun _ _ _ h => h) (Or.inl ⟨by rfl, ?_⟩) (by assumption) ?_
            rotate_left
            · ((intro w' hSw); (try dsimp only at hSw); go_simp; all_goals (with_reducible rfl))
            simp only [Act.put, List.setIfInBounds_toArray, List.set_cons_zero, List.set_cons_succ]
            refine wpAnyH_take (i := 13) (oi := { dst := some 172, op := Op.move (Operand.tmp 8), type := 29, pos := "law.go:51", after := #[], guard := none }) (v := ?_) rfl (by kernel_rfl) (by kernel_rfl) (by kernel_rfl) (fun _ _ _ h => h) (Or.inl ⟨by rfl, ?_⟩) (by assumption) ?_
            rotate_left
            · ((intro w' hSw); (try dsimp only at hSw); go_simp; all_goals (with_reducible rfl))
            simp only [Act.put, List.setIfInBounds_toArray, List.set_cons_zero, List.set_cons_succ]
            refine wpAnyH_take (i := 14) (oi := { dst := some 173, op := Op.indexAddr 29 (Operand.tmp 172) (Operand.const (Value.int IntKind.i64 2)), type := 0, pos := "law.go:51", after := #[{ on := 13, ground := Ground.data }], guard := none }) (v := ?_) rfl (by kernel_rfl) (by kernel_rfl) (by kernel_rfl) (fun _ _ _ h => h) (Or.inl ⟨by rfl, ?_⟩) (by assumption) ?_
            rotate_left
            · ((intro w' hSw); (try dsimp only at hSw); go_simp; all_goals (with_reducible rfl))
            simp only [Act.put, List.setIfInBounds_toArray, List.set_cons_zero, List.set_cons_succ]
            refine wpAnyH_take (i := 15) (oi := { dst := some 174, op := Op.load 22 (Operand.tmp 173), type := 22, pos := "law.go:51", after := #[{ on := 14, ground := Ground.data }], guard := none }) (v := ?_) rfl (by kernel_rfl) (by kernel_rfl) (by kernel_rfl) (fun _ _ _ h => h) (Or.inl ⟨by rfl, ?_⟩) (by assumption) ?_
            rotate_left
            · ((intro w' hSw); (try dsimp only at hSw); go_simp; all_goals (with_reducible rfl))
            simp only [Act.put, List.setIfInBounds_toArray, List.set_cons_zero, List.set_cons_succ]
            refine wpAnyH_take (i := 16) (oi := { dst := some 175, op := Op.move (Operand.tmp 8), type := 29, pos := "law.go:51", after := #[], guard := none }) (v := ?_) rfl (by kernel_rfl) (by kernel_rfl) (by kernel_rfl) (fun _ _ _ h => h) (Or.inl ⟨by rfl, ?_⟩) (by assumption) ?_
            rotate_left
            · ((intro w' hSw); (try dsimp only at hSw); go_simp; all_goals (with_reducible rfl))
            simp only [Act.put, List.setIfInBounds_toArray, List.set_cons_zero, List.set_cons_succ]
            refine wpAnyH_take (i := 17) (oi := { dst := some 176, op := Op.indexAddr 29 (Operand.tmp 175) (Operand.const (Value.int IntKind.i64 3)), type := 0, pos := "law.go:51", after := #[{ on := 16, ground := Ground.data }], guard := none }) (v := ?_) rfl (by kernel_rfl) (by kernel_rfl) (by kernel_rfl) (fun _ _ _ h => h) (Or.inl ⟨by rfl, ?_⟩) (by assumption) ?_
            rotate_left
            · ((intro w' hSw); (try dsimp only at hSw); go_simp; all_goals (with_reducible rfl))
            simp only [Act.put, List.setIfInBounds_toArray, List.set_cons_zero, List.set_cons_succ]
            refine wpAnyH_take (i := 18) (oi := { dst := some 177, op := Op.load 22 (Operand.tmp 176), type := 22, pos := "law.go:51", after := #[{ on := 17, ground := Ground.data }], guard := none }) (v := ?_) rfl (by kernel_rfl) (by kernel_rfl) (by kernel_rfl) (fun _ _ _ h => h) (Or.inl ⟨by rfl, ?_⟩) (by assumption) ?_
            rotate_left
            · ((intro w' hSw); (try dsimp only at hSw); go_simp; all_goals (with_reducible rfl))
            simp only [Act.put, List.setIfInBounds_toArray, List.set_cons_zero, List.set_cons_succ]
            refine wpAnyH_ready (rs := [9, 20, 21]) (by kernel_rfl) (by simp) ?_
            refine (AllReadyH.cons rfl (fun K hK => ?_) (AllReadyH.cons rfl (fun K hK => ?_) (AllReadyH.cons rfl (fun K hK => ?_) AllReadyH.nil)))
            · go_simp
              go_wp2_with (go_at_call 27; (with_reducible refine (GM1.out _ KE.out).mono ?_); rintro q v1 ⟨P1, p1, rfl, v, hb⟩; have Kq1 := Lib.hid (QS.out _ _ KE.out hb); have Hb1 := Lib.hid (HE.out.trans (hb.mono HE.out.size)); have Zu161 := Lib.hid v; clear v hb)
              refine hK.out _ _ ?_ (fun hHeld => ?_)
              · exact SG.out _ Kq1.out
              clear hK K
              as_aux_lemma =>
              refine wpAnyH_ready (rs := [19, 20, 21]) (by kernel_rfl) (by simp) ?_
              refine (AllReadyH.cons rfl (fun K hK => ?_) (AllReadyH.cons rfl (fun K hK => ?_) (AllReadyH.cons rfl (fun K hK => ?_) AllReadyH.nil)))
              · go_simp
                go_wp2_with (go_at_call 28; (with_reducible refine (GM2.out _ Kq1.out).mono ?_); rintro q v2 ⟨P2, p2, rfl, v, hb⟩; have Kq2 := Lib.hid (QS.out _ _ Kq1.out hb); have Hb2 := Lib.hid (Hb1.out.trans (hb.mono Hb1.out.size)); have Zu162 := Lib.hid (Zu161.out.below hb); have Zu172 := Lib.hid v; clear v hb)
                refine hK.out _ _ ?_ (fun hHeld => ?_)
                · exact SG.out _ Kq2.out
                clear hK K
                as_aux_lemma =>
                refine wpAnyH_ready (rs := [20, 21]) (by kernel_rfl) (by simp) ?_
                refine (AllReadyH.cons rfl (fun K hK => ?_) (AllReadyH.cons rfl (fun K hK => ?_) AllReadyH.nil))
                · go_simp
                  have Kq3 := Lib.hid (show Q (v2.alloc (.cells #[.slice none 0 0, .bool false] 42)) from QS.out _ _ Kq2.out ((Below.refl _ v2).alloc (Nat.le_refl _) _))
                  have Hb3 := Lib.hid (show Below wv.heap.size wv (v2.alloc (.cells #[.slice none 0 0, .bool false] 42)) from Hb2.out.alloc Hb2.out.size _)
                  have Zu163 := Lib.hid (Zu162.out.below ((Below.refl _ v2).alloc (Nat.le_refl _) (.cells #[.slice none 0 0, .bool false] 42)))
                  have Zu173 := Lib.hid (Zu172.out.below ((Below.refl _ v2).alloc (Nat.le_refl _) (.cells #[.slice none 0 0, .bool false] 42)))
                  have Zr163 := Lib.hid (show Res2 v2.heap.size (v2.alloc (.cells #[.slice none 0 0, .bool false] 42)) from res2_new)
                  have Zl163 := Lib.hid (show wv.heap.size ≤ v2.heap.size from Hb2.out.size)
                  refine hK.out _ _ ?_ (fun hHeld => ?_)
                  · exact SG.out _ Kq3.out
                  clear hK K
                  as_aux_lemma =>
                  refine wpAnyH_ready (rs := [21]) (by kernel_rfl) (by simp) ?_
                  refine (AllReadyH.cons rfl (fun K hK => ?_) AllReadyH.nil)
                  · go_simp
                    have Kq4 := Lib.hid (show Q ((v2.alloc (.cells #[.slice none 0 0, .bool false] 42)).alloc (.cells #[.slice none 0 0, .bool false] 42)) from QS.out _ _ Kq3.out ((Below.refl _ (v2.alloc (.cells #[.slice none 0 0, .bool false] 42))).alloc (Nat.le_refl _) _))
                    have Hb4 := Lib.hid (show Below wv.heap.size wv ((v2.alloc (.cells #[.slice none 0 0, .bool false] 42)).alloc (.cells #[.slice none 0 0, .bool false] 42)) from Hb3.out.alloc Hb3.out.size _)
                    have Zu164 := Lib.hid (Zu163.out.below ((Below.refl _ (v2.alloc (.cells #[.slice none 0 0, .bool false] 42))).alloc (Nat.le_refl _) (.cells #[.slice none 0 0, .bool false] 42)))
                    have Zu174 := Lib.hid (Zu173.out.below ((Below.refl _ (v2.alloc (.cells #[.slice none 0 0, .bool false] 42))).alloc (Nat.le_refl _) (.cells #[.slice none 0 0, .bool false] 42)))
                    have Zr164 := Lib.hid (Zr163.out.step ((Below.refl _ (v2.alloc (.cells #[.slice none 0 0, .bool false] 42))).alloc (Nat.le_refl _) (.cells #[.slice none 0 0, .bool false] 42)))
                    have Zr174 := Lib.hid (show Res2 (v2.heap.size + 1) ((v2.alloc (.cells #[.slice none 0 0, .bool false] 42)).alloc (.cells #[.slice none 0 0, .bool false] 42)) from res2_next)
                    have Zl174 := Lib.hid (show wv.heap.size ≤ (v2.heap.size + 1) from Nat.le_succ_of_le Zl163.out)
                    have Zn4 := Lib.hid (show v2.heap.size ≠ (v2.heap.size + 1) from fun e => by have := Zr163.out.1.2.2.2.2; omega)
                    refine hK.out _ _ ?_ (fun hHeld => ?_)
                    · exact SG.out _ Kq4.out
                    clear hK K
                    have ne1 : v2.heap.size ≠ (v2.heap.size + 1) := Zn4.out
                    have ne2 : (v2.heap.size + 1) ≠ v2.heap.size := fun e => ne1 e.symm
                    refine wpAnyH_ready (rs := [22]) (by kernel_rfl) (by simp) ?_
                    refine AllReadyH.cons rfl (fun K hK => ?_) AllReadyH.nil
                    go_simp
                    refine hK.out _ _ ?_ (fun hHeld => ?_)
                    · exact SG.out _ (QS.out _ _ KD.out ((Hb2.out.alloc Hb2.out.size _).alloc (Nat.le_trans Hb2.out.size (by simp)) _))
                    clear hK K
                    refine wpAnyH_ready (rs := [23]) (by kernel_rfl) (by simp) ?_
                    refine AllReadyH.cons rfl (fun K hK => ?_) AllReadyH.nil
                    go_simp
                    refine hK.out _ _ ?_ (fun hHeld => ?_)
                    · exact SG.out _ (QS.out _ _ KD.out ((Hb2.out.alloc Hb2.out.size _).alloc (Nat.le_trans Hb2.out.size (by simp)) _))
                    clear hK K
                    refine wpAnyH_done (by kernel_rfl) ?_ _
                    go_wp2_with fail
                    go_meet
                    with_reducible exact fin_A Zu162.out Zu172.out (HBW.out.trans (Hb2.out.mono HBW.out.size))
                · go_simp
                  have Kq5 := Lib.hid (show Q (v2.alloc (.cells #[.slice none 0 0, .bool false] 42)) from QS.out _ _ Kq2.out ((Below.refl _ v2).alloc (Nat.le_refl _) _))
                  have Hb5 := Lib.hid (show Below wv.heap.size wv (v2.alloc (.cells #[.slice none 0 0, .bool false] 42)) from Hb2.out.alloc Hb2.out.size _)
                  have Zu165 := Lib.hid (Zu162.out.below ((Below.refl _ v2).alloc (Nat.le_refl _) (.cells #[.slice none 0 0, .bool false] 42)))
                  have Zu175 := Lib.hid (Zu172.out.below ((Below.refl _ v2).alloc (Nat.le_refl _) (.cells #[.slice none 0 0, .bool false] 42)))
                  have Zr175 := Lib.hid (show Res2 v2.heap.size (v2.alloc (.cells #[.slice none 0 0, .bool false] 42)) from res2_new)
                  have Zl175 := Lib.hid (show wv.heap.size ≤ v2.heap.size from Hb2.out.size)
                  refine hK.out _ _ ?_ (fun hHeld => ?_)
                  · exact SG.out _ Kq5.out
                  clear hK K
                  as_aux_lemma =>
                  refine wpAnyH_ready (rs := [20]) (by kernel_rfl) (by simp) ?_
                  refine (AllReadyH.cons rfl (fun K hK => ?_) AllReadyH.nil)
                  · go_simp
                    have Kq6 := Lib.hid (show Q ((v2.alloc (.cells #[.slice none 0 0, .bool false] 42)).alloc (.cells #[.slice none 0 0, .bool false] 42)) from QS.out _ _ Kq5.out ((Below.refl _ (v2.alloc (.cells #[.slice none 0 0, .bool false] 42))).alloc (Nat.le_refl _) _))
                    have Hb6 := Lib.hid (show Below wv.heap.size wv ((v2.alloc (.cells #[.slice none 0 0, .bool false] 42)).alloc (.cells #[.slice none 0 0, .bool false] 42)) from Hb5.out.alloc Hb5.out.size _)
                    have Zu166 := Lib.hid (Zu165.out.below ((Below.refl _ (v2.alloc (.cells #[.slice none 0 0, .bool false] 42))).alloc (Nat.le_refl _) (.cells #[.slice none 0 0, .bool false] 42)))
                    have Zu176 := Lib.hid (Zu175.out.below ((Below.refl _ (v2.alloc (.cells #[.slice none 0 0, .bool false] 42))).alloc (Nat.le_refl _) (.cells #[.slice none 0 0, .bool false] 42)))
                    have Zr176 := Lib.hid (Zr175.out.step ((Below.refl _ (v2.alloc (.cells #[.slice none 0 0, .bool false] 42))).alloc (Nat.le_refl _) (.cells #[.slice none 0 0, .bool false] 42)))
                    have Zr166 := Lib.hid (show Res2 (v2.heap.size + 1) ((v2.alloc (.cells #[.slice none 0 0, .bool false] 42)).alloc (.cells #[.slice none 0 0, .bool false] 42)) from res2_next)
                    have Zl166 := Lib.hid (show wv.heap.size ≤ (v2.heap.size + 1) from Nat.le_succ_of_le Zl175.out)
                    have Zn6 := Lib.hid (show (v2.heap.size + 1) ≠ v2.heap.size from fun e => by have := Zr175.out.1.2.2.2.2; omega)
                    refine hK.out _ _ ?_ (fun hHeld => ?_)
                    · exact SG.out _ Kq6.out
                    clear hK K
                    have ne1 : (v2.heap.size + 1) ≠ v2.heap.size := Zn6.out
                    have ne2 : v2.heap.size ≠ (v2.heap.size + 1) := fun e => ne1 e.symm
                    refine wpAnyH_ready (rs := [22]) (by kernel_rfl) (by simp) ?_
                    refine AllReadyH.cons rfl (fun K hK => ?_) AllReadyH.nil
                    go_simp
                    refine hK.out _ _ ?_ (fun hHeld => ?_)
                    · exact SG.out _ (QS.out _ _ KD.out ((Hb2.out.alloc Hb2.out.size _).alloc (Nat.le_trans Hb2.out.size (by simp)) _))
                    clear hK K
                    refine wpAnyH_ready (rs := [23]) (by kernel_rfl) (by simp) ?_
                    refine AllReadyH.cons rfl (fun K hK => ?_) AllReadyH.nil
                    go_simp
                    refine hK.out _ _ ?_ (fun hHeld => ?_)
                    · exact SG.out _ (QS.out _ _ KD.out ((Hb2.out.alloc Hb2.out.size _).alloc (Nat.le_trans Hb2.out.size (by simp)) _))
                    clear hK K
                    refine wpAnyH_done (by kernel_rfl) ?_ _
                    go_wp2_with fail
                    go_meet
                    with_reducible exact fin_A2 Zu162.out Zu172.out (HBW.out.trans (Hb2.out.mono HBW.out.size))
              · go_simp
                have Kq7 := Lib.hid (show Q (v1.alloc (.cells #[.slice none 0 0, .bool false] 42)) from QS.out _ _ Kq1.out ((Below.refl _ v1).alloc (Nat.le_refl _) _))
                have Hb7 := Lib.hid (show Below wv.heap.size wv (v1.alloc (.cells #[.slice none 0 0, .bool false] 42)) from Hb1.out.alloc Hb1.out.size _)
                have Zu167 := Lib.hid (Zu161.out.below ((Below.refl _ v1).alloc (Nat.le_refl _) (.cells #[.slice none 0 0, .bool false] 42)))
                have Zr167 := Lib.hid (show Res2 v1.heap.size (v1.alloc (.cells #[.slice none 0 0, .bool false] 42)) from res2_new)
                have Zl167 := Lib.hid (show wv.heap.size ≤ v1.heap.size from Hb1.out.size)
                refine hK.out _ _ ?_ (fun hHeld => ?_)
                · exact SG.out _ Kq7.out
                clear hK K
                as_aux_lemma =>
                refine wpAnyH_ready (rs := [19, 21]) (by kernel_rfl) (by simp) ?_
                refine (AllReadyH.cons rfl (fun K hK => ?_) (AllReadyH.cons rfl (fun K hK => ?_) AllReadyH.nil))
                · go_simp
                  go_wp2_with (go_at_call 28; (with_reducible refine (GM2.out _ Kq7.out).mono ?_); rintro q v8 ⟨P8, p8, rfl, v, hb⟩; have Kq8 := Lib.hid (QS.out _ _ Kq7.out hb); have Hb8 := Lib.hid (Hb7.out.trans (hb.mono Hb7.out.size)); have Zu168 := Lib.hid (Zu167.out.below hb); have Zr168 := Lib.hid (Zr167.out.step hb); have Zu178 := Lib.hid v; clear v hb)
                  refine hK.out _ _ ?_ (fun hHeld => ?_)
                  · exact SG.out _ Kq8.out
                  clear hK K
                  as_aux_lemma =>
                  refine wpAnyH_ready (rs := [21]) (by kernel_rfl) (by simp) ?_
                  refine (AllReadyH.cons rfl (fun K hK => ?_) AllReadyH.nil)
                  · go_simp
                    have Kq9 := Lib.hid (show Q (v8.alloc (.cells #[.slice none 0 0, .bool false] 42)) from QS.out _ _ Kq8.out ((Below.refl _ v8).alloc (Nat.le_refl _) _))
                    have Hb9 := Lib.hid (show Below wv.heap.size wv (v8.alloc (.cells #[.slice none 0 0, .bool false] 42)) from Hb8.out.alloc Hb8.out.size _)
                    have Zu169 := Lib.hid (Zu168.out.below ((Below.refl _ v8).alloc (Nat.le_refl _) (.cells #[.slice none 0 0, .bool false] 42)))
                    have Zu179 := Lib.hid (Zu178.out.below ((Below.refl _ v8).alloc (Nat.le_refl _) (.cells #[.slice none 0 0, .bool false] 42)))
                    have Zr169 := Lib.hid (Zr168.out.step ((Below.refl _ v8).alloc (Nat.le_refl _) (.cells #[.slice none 0 0, .bool false] 42)))
                    have Zr179 := Lib.hid (show Res2 v8.heap.size (v8.alloc (.cells #[.slice none 0 0, .bool false] 42)) from res2_new)
                    have Zl179 := Lib.hid (show wv.heap.size ≤ v8.heap.size from Hb8.out.size)
                    have Zn9 := Lib.hid (show v1.heap.size ≠ v8.heap.size from fun e => by have := Zr168.out.1.2.2.2.2; omega)
                    refine hK.out _ _ ?_ (fun hHeld => ?_)
                    · exact SG.out _ Kq9.out
                    clear hK K
                    obtain ⟨⟨⟨x0, h0⟩, ⟨x1, h1⟩, f0, f1, hl0⟩, hn0⟩ := Zr168.out
                    have ne1 : v1.heap.size ≠ v8.heap.size := Zn9.out
                    have hlt : v1.heap.size < v8.heap.size := Zr168.out.1.2.2.2.2
                    have ne2 : v8.heap.size ≠ v1.heap.size := fun e => ne1 e.symm
                    refine wpAnyH_ready (rs := [22]) (by kernel_rfl) (by simp) ?_
                    refine AllReadyH.cons rfl (fun K hK => ?_) AllReadyH.nil
                    go_simp
                    refine hK.out _ _ ?_ (fun hHeld => ?_)
                    · exact SG.out _ (QS.out _ _ KD.out (((Hb8.out.setCell Zl167.out _).setCell Zl167.out _).alloc (Nat.le_trans Hb8.out.size (by simp)) _))
                    clear hK K
                    refine wpAnyH_ready (rs := [23]) (by kernel_rfl) (by simp) ?_
                    refine AllReadyH.cons rfl (fun K hK => ?_) AllReadyH.nil
                    go_simp
                    refine hK.out _ _ ?_ (fun hHeld => ?_)
                    · exact SG.out _ (QS.out _ _ KD.out (((Hb8.out.setCell Zl167.out _).setCell Zl167.out _).alloc (Nat.le_trans Hb8.out.size (by simp)) _))
                    clear hK K
                    refine wpAnyH_done (by kernel_rfl) ?_ _
                    go_wp2_with fail
                    go_meet
                    with_reducible exact fin_B Zr168.out (Nat.le_trans HBW.out.size Zl167.out) Zu168.out Zu178.out (HBW.out.trans (Hb8.out.mono HBW.out.size))
                · go_simp
                  have Kq10 := Lib.hid (show Q ((v1.alloc (.cells #[.slice none 0 0, .bool false] 42)).alloc (.cells #[.slice none 0 0, .bool false] 42)) from QS.out _ _ Kq7.out ((Below.refl _ (v1.alloc (.cells #[.slice none 0 0, .bool false] 42))).alloc (Nat.le_refl _) _))
                  have Hb10 := Lib.hid (show Below wv.heap.size wv ((v1.alloc (.cells #[.slice none 0 0, .bool false] 42)).alloc (.cells #[.slice none 0 0, .bool false] 42)) from Hb7.out.alloc Hb7.out.size _)
                  have Zu1610 := Lib.hid (Zu167.out.below ((Below.refl _ (v1.alloc (.cells #[.slice none 0 0, .bool false] 42))).alloc (Nat.le_refl _) (.cells #[.slice none 0 0, .bool false] 42)))
                  have Zr1610 := Lib.hid (Zr167.out.step ((Below.refl _ (v1.alloc (.cells #[.slice none 0 0, .bool false] 42))).alloc (Nat.le_refl _) (.cells #[.slice none 0 0, .bool false] 42)))
                  have Zr1710 := Lib.hid (show Res2 (v1.heap.size + 1) ((v1.alloc (.cells #[.slice none 0 0, .bool false] 42)).alloc (.cells #[.slice none 0 0, .bool false] 42)) from res2_next)
                  have Zl1710 := Lib.hid (show wv.heap.size ≤ (v1.heap.size + 1) from Nat.le_succ_of_le Zl167.out)
                  have Zn10 := Lib.hid (show v1.heap.size ≠ (v1.heap.size + 1) from fun e => by have := Zr167.out.1.2.2.2.2; omega)
                  refine hK.out _ _ ?_ (fun hHeld => ?_)
                  · exact SG.out _ Kq10.out
                  clear hK K
                  as_aux_lemma =>
                  refine wpAnyH_ready (rs := [19]) (by kernel_rfl) (by simp) ?_
                  refine (AllReadyH.cons rfl (fun K hK => ?_) AllReadyH.nil)
                  · go_simp
                    go_wp2_with (go_at_call 28; (with_reducible refine (GM2.out _ Kq10.out).mono ?_); rintro q v11 ⟨P11, p11, rfl, v, hb⟩; have Kq11 := Lib.hid (QS.out _ _ Kq10.out hb); have Hb11 := Lib.hid (Hb10.out.trans (hb.mono Hb10.out.size)); have Zu1611 := Lib.hid (Zu1610.out.below hb); have Zr1611 := Lib.hid (Zr1610.out.step hb); have Zr1711 := Lib.hid (Zr1710.out.step hb); have Zu1711 := Lib.hid v; clear v hb)
                    refine hK.out _ _ ?_ (fun hHeld => ?_)
                    · exact SG.out _ Kq11.out
                    clear hK K
                    obtain ⟨⟨⟨x0, h0⟩, ⟨x1, h1⟩, f0, f1, hl0⟩, hn0⟩ := Zr1611.out
                    obtain ⟨⟨⟨y0, k0⟩, ⟨y1, k1⟩, g0, g1, hl1⟩, hn1⟩ := Zr1711.out
                    have ne1 : v1.heap.size ≠ (v1.heap.size + 1) := Zn10.out
                    have ne2 : (v1.heap.size + 1) ≠ v1.heap.size := fun e => ne1 e.symm
                    refine wpAnyH_ready (rs := [22]) (by kernel_rfl) (by simp) ?_
                    refine AllReadyH.cons rfl (fun K hK => ?_) AllReadyH.nil
                    go_simp
                    refine hK.out _ _ ?_ (fun hHeld => ?_)
                    · exact SG.out _ (QS.out _ _ KD.out ((Hb11.out.setCell Zl167.out _).setCell Zl167.out _))
                    clear hK K
                    refine wpAnyH_ready (rs := [23]) (by kernel_rfl) (by simp) ?_
                    refine AllReadyH.cons rfl (fun K hK => ?_) AllReadyH.nil
                    go_simp
                    refine hK.out _ _ ?_ (fun hHeld => ?_)
                    · exact SG.out _ (QS.out _ _ KD.out ((((Hb11.out.setCell Zl167.out _).setCell Zl167.out _).setCell Zl1710.out _).setCell Zl1710.out _))
                    clear hK K
                    refine wpAnyH_done (by kernel_rfl) ?_ _
                    go_wp2_with fail
                    go_meet
                    with_reducible exact fin_post Zr1611.out Zr1711.out Zn10.out Zu1611.out Zu1711.out (HBW.out.trans (Hb11.out.mono HBW.out.size)) (Nat.le_trans HBW.out.size Zl167.out) (Nat.le_trans HBW.out.size Zl1710.out)
              · go_simp
                have Kq12 := Lib.hid (show Q (v1.alloc (.cells #[.slice none 0 0, .bool false] 42)) from QS.out _ _ Kq1.out ((Below.refl _ v1).alloc (Nat.le_refl _) _))
                have Hb12 := Lib.hid (show Below wv.heap.size wv (v1.alloc (.cells #[.slice none 0 0, .bool false] 42)) from Hb1.out.alloc Hb1.out.size _)
                have Zu1612 := Lib.hid (Zu161.out.below ((Below.refl _ v1).alloc (Nat.le_refl _) (.cells #[.slice none 0 0, .bool false] 42)))
                have Zr1712 := Lib.hid (show Res2 v1.heap.size (v1.alloc (.cells #[.slice none 0 0, .bool false] 42)) from res2_new)
                have Zl1712 := Lib.hid (show wv.heap.size ≤ v1.heap.size from Hb1.out.size)
                refine hK.out _ _ ?_ (fun hHeld => ?_)
                · exact SG.out _ Kq12.out
                clear hK K
                as_aux_lemma =>
                refine wpAnyH_ready (rs := [19, 20]) (by kernel_rfl) (by simp) ?_
                refine (AllReadyH.cons rfl (fun K hK => ?_) (AllReadyH.cons rfl (fun K hK => ?_) AllReadyH.nil))
                · go_simp
                  go_wp2_with (go_at_call 28; (with_reducible refine (GM2.out _ Kq12.out).mono ?_); rintro q v13 ⟨P13, p13, rfl, v, hb⟩; have Kq13 := Lib.hid (QS.out _ _ Kq12.out hb); have Hb13 := Lib.hid (Hb12.out.trans (hb.mono Hb12.out.size)); have Zu1613 := Lib.hid (Zu1612.out.below hb); have Zr1713 := Lib.hid (Zr1712.out.step hb); have Zu1713 := Lib.hid v; clear v hb)
                  refine hK.out _ _ ?_ (fun hHeld => ?_)
                  · exact SG.out _ Kq13.out
                  clear hK K
                  as_aux_lemma =>
                  refine wpAnyH_ready (rs := [20]) (by kernel_rfl) (by simp) ?_
                  refine (AllReadyH.cons rfl (fun K hK => ?_) AllReadyH.nil)
                  · go_simp
                    have Kq14 := Lib.hid (show Q (v13.alloc (.cells #[.slice none 0 0, .bool false] 42)) from QS.out _ _ Kq13.out ((Below.refl _ v13).alloc (Nat.le_refl _) _))
                    have Hb14 := Lib.hid (show Below wv.heap.size wv (v13.alloc (.cells #[.slice none 0 0, .bool false] 42)) from Hb13.out.alloc Hb13.out.size _)
                    have Zu1614 := Lib.hid (Zu1613.out.below ((Below.refl _ v13).alloc (Nat.le_refl _) (.cells #[.slice none 0 0, .bool false] 42)))
                    have Zu1714 := Lib.hid (Zu1713.out.below ((Below.refl _ v13).alloc (Nat.le_refl _) (.cells #[.slice none 0 0, .bool false] 42)))
                    have Zr1714 := Lib.hid (Zr1713.out.step ((Below.refl _ v13).alloc (Nat.le_refl _) (.cells #[.slice none 0 0, .bool false] 42)))
                    have Zr1614 := Lib.hid (show Res2 v13.heap.size (v13.alloc (.cells #[.slice none 0 0, .bool false] 42)) from res2_new)
                    have Zl1614 := Lib.hid (show wv.heap.size ≤ v13.heap.size from Hb13.out.size)
                    have Zn14 := Lib.hid (show v13.heap.size ≠ v1.heap.size from fun e => by have := Zr1713.out.1.2.2.2.2; omega)
                    refine hK.out _ _ ?_ (fun hHeld => ?_)
                    · exact SG.out _ Kq14.out
                    clear hK K
                    obtain ⟨⟨⟨y0, k0⟩, ⟨y1, k1⟩, g0, g1, hl1⟩, hn1⟩ := Zr1713.out
                    have ne1 : v13.heap.size ≠ v1.heap.size := Zn14.out
                    have hlt : v1.heap.size < v13.heap.size := Zr1713.out.1.2.2.2.2
                    have ne2 : v1.heap.size ≠ v13.heap.size := fun e => ne1 e.symm
                    refine wpAnyH_ready (rs := [22]) (by kernel_rfl) (by simp) ?_
                    refine AllReadyH.cons rfl (fun K hK => ?_) AllReadyH.nil
                    go_simp
                    refine hK.out _ _ ?_ (fun hHeld => ?_)
                    · exact SG.out _ (QS.out _ _ KD.out (Hb13.out.alloc Hb13.out.size _))
                    clear hK K
                    refine wpAnyH_ready (rs := [23]) (by kernel_rfl) (by simp) ?_
                    refine AllReadyH.cons rfl (fun K hK => ?_) AllReadyH.nil
                    go_simp
                    refine hK.out _ _ ?_ (fun hHeld => ?_)
                    · exact SG.out _ (QS.out _ _ KD.out (((Hb13.out.setCell Zl1712.out _).setCell Zl1712.out _).alloc (Nat.le_trans Hb13.out.size (by simp)) _))
                    clear hK K
                    refine wpAnyH_done (by kernel_rfl) ?_ _
                    go_wp2_with fail
                    go_meet
                    with_reducible exact fin_B2 Zr1713.out (Nat.le_trans HBW.out.size Zl1712.out) Zu1613.out Zu1713.out (HBW.out.trans (Hb13.out.mono HBW.out.size))
                · go_simp
                  have Kq15 := Lib.hid (show Q ((v1.alloc (.cells #[.slice none 0 0, .bool false] 42)).alloc (.cells #[.slice none 0 0, .bool false] 42)) from QS.out _ _ Kq12.out ((Below.refl _ (v1.alloc (.cells #[.slice none 0 0, .bool false] 42))).alloc (Nat.le_refl _) _))
                  have Hb15 := Lib.hid (show Below wv.heap.size wv ((v1.alloc (.cells #[.slice none 0 0, .bool false] 42)).alloc (.cells #[.slice none 0 0, .bool false] 42)) from Hb12.out.alloc Hb12.out.size _)
                  have Zu1615 := Lib.hid (Zu1612.out.below ((Below.refl _ (v1.alloc (.cells #[.slice none 0 0, .bool false] 42))).alloc (Nat.le_refl _) (.cells #[.slice none 0 0, .bool false] 42)))
                  have Zr1715 := Lib.hid (Zr1712.out.step ((Below.refl _ (v1.alloc (.cells #[.slice none 0 0, .bool false] 42))).alloc (Nat.le_refl _) (.cells #[.slice none 0 0, .bool false] 42)))
                  have Zr1615 := Lib.hid (show Res2 (v1.heap.size + 1) ((v1.alloc (.cells #[.slice none 0 0, .bool false] 42)).alloc (.cells #[.slice none 0 0, .bool false] 42)) from res2_next)
                  have Zl1615 := Lib.hid (show wv.heap.size ≤ (v1.heap.size + 1) from Nat.le_succ_of_le Zl1712.out)
                  have Zn15 := Lib.hid (show (v1.heap.size + 1) ≠ v1.heap.size from fun e => by have := Zr1712.out.1.2.2.2.2; omega)
                  refine hK.out _ _ ?_ (fun hHeld => ?_)
                  · exact SG.out _ Kq15.out
                  clear hK K
                  as_aux_lemma =>
                  refine wpAnyH_ready (rs := [19]) (by kernel_rfl) (by simp) ?_
                  refine (AllReadyH.cons rfl (fun K hK => ?_) AllReadyH.nil)
                  · go_simp
                    go_wp2_with (go_at_call 28; (with_reducible refine (GM2.out _ Kq15.out).mono ?_); rintro q v16 ⟨P16, p16, rfl, v, hb⟩; have Kq16 := Lib.hid (QS.out _ _ Kq15.out hb); have Hb16 := Lib.hid (Hb15.out.trans (hb.mono Hb15.out.size)); have Zu1616 := Lib.hid (Zu1615.out.below hb); have Zr1616 := Lib.hid (Zr1615.out.step hb); have Zr1716 := Lib.hid (Zr1715.out.step hb); have Zu1716 := Lib.hid v; clear v hb)
                    refine hK.out _ _ ?_ (fun hHeld => ?_)
                    · exact SG.out _ Kq16.out
                    clear hK K
                    obtain ⟨⟨⟨x0, h0⟩, ⟨x1, h1⟩, f0, f1, hl0⟩, hn0⟩ := Zr1616.out
                    obtain ⟨⟨⟨y0, k0⟩, ⟨y1, k1⟩, g0, g1, hl1⟩, hn1⟩ := Zr1716.out
                    have ne1 : (v1.heap.size + 1) ≠ v1.heap.size := Zn15.out
                    have ne2 : v1.heap.size ≠ (v1.heap.size + 1) := fun e => ne1 e.symm
                    refine wpAnyH_ready (rs := [22]) (by kernel_rfl) (by simp) ?_
                    refine AllReadyH.cons rfl (fun K hK => ?_) AllReadyH.nil
                    go_simp
                    refine hK.out _ _ ?_ (fun hHeld => ?_)
                    · exact SG.out _ (QS.out _ _ KD.out ((Hb16.out.setCell Zl1615.out _).setCell Zl1615.out _))
                    clear hK K
                    refine wpAnyH_ready (rs := [23]) (by kernel_rfl) (by simp) ?_
                    refine AllReadyH.cons rfl (fun K hK => ?_) AllReadyH.nil
                    go_simp
                    refine hK.out _ _ ?_ (fun hHeld => ?_)
                    · exact SG.out _ (QS.out _ _ KD.out ((((Hb16.out.setCell Zl1615.out _).setCell Zl1615.out _).setCell Zl1712.out _).setCell Zl1712.out _))
                    clear hK K
                    refine wpAnyH_done (by kernel_rfl) ?_ _
                    go_wp2_with fail
                    go_meet
                    with_reducible exact fin_post Zr1616.out Zr1716.out Zn15.out Zu1616.out Zu1716.out (HBW.out.trans (Hb16.out.mono HBW.out.size)) (Nat.le_trans HBW.out.size Zl1615.out) (Nat.le_trans HBW.out.size Zl1712.out)
            · go_simp
              have Kq17 := Lib.hid (show Q (wv.alloc (.cells #[.slice none 0 0, .bool false] 42)).drew from QS.out _ _ KE.out ((Below.refl _ wv.drew).alloc (Nat.le_refl _) _))
              have Hb17 := Lib.hid (show Below wv.heap.size wv (wv.alloc (.cells #[.slice none 0 0, .bool false] 42)).drew from HE.out.alloc HE.out.size _)
              have Zr1617 := Lib.hid (show Res2 wv.heap.size (wv.alloc (.cells #[.slice none 0 0, .bool false] 42)).drew from res2_new)
              have Zl1617 := Lib.hid (show wv.heap.size ≤ wv.heap.size from HE.out.size)
              refine hK.out _ _ ?_ (fun hHeld => ?_)
              · exact SG.out _ Kq17.out
              clear hK K
              as_aux_lemma =>
              refine wpAnyH_ready (rs := [9, 21]) (by kernel_rfl) (by simp) ?_
              refine (AllReadyH.cons rfl (fun K hK => ?_) (AllReadyH.cons rfl (fun K hK => ?_) AllReadyH.nil))
              · go_simp
                go_wp2_with (go_at_call 27; (with_reducible refine (GM1.out _ Kq17.out).mono ?_); rintro q v18 ⟨P18, p18, rfl, v, hb⟩; have Kq18 := Lib.hid (QS.out _ _ Kq17.out hb); have Hb18 := Lib.hid (Hb17.out.trans (hb.mono Hb17.out.size)); have Zr1618 := Lib.hid (Zr1617.out.step hb); have Zu1618 := Lib.hid v; clear v hb)
                refine hK.out _ _ ?_ (fun hHeld => ?_)
                · exact SG.out _ Kq18.out
                clear hK K
                as_aux_lemma =>
                refine wpAnyH_ready (rs := [19, 21]) (by kernel_rfl) (by simp) ?_
                refine (AllReadyH.cons rfl (fun K hK => ?_) (AllReadyH.cons rfl (fun K hK => ?_) AllReadyH.nil))
                · go_simp
                  go_wp2_with (go_at_call 28; (with_reducible refine (GM2.out _ Kq18.out).mono ?_); rintro q v19 ⟨P19, p19, rfl, v, hb⟩; have Kq19 := Lib.hid (QS.out _ _ Kq18.out hb); have Hb19 := Lib.hid (Hb18.out.trans (hb.mono Hb18.out.size)); have Zu1619 := Lib.hid (Zu1618.out.below hb); have Zr1619 := Lib.hid (Zr1618.out.step hb); have Zu1719 := Lib.hid v; clear v hb)
                  refine hK.out _ _ ?_ (fun hHeld => ?_)
                  · exact SG.out _ Kq19.out
                  clear hK K
                  as_aux_lemma =>
                  refine wpAnyH_ready (rs := [21]) (by kernel_rfl) (by simp) ?_
                  refine (AllReadyH.cons rfl (fun K hK => ?_) AllReadyH.nil)
                  · go_simp
                    have Kq20 := Lib.hid (show Q (v19.alloc (.cells #[.slice none 0 0, .bool false] 42)) from QS.out _ _ Kq19.out ((Below.refl _ v19).alloc (Nat.le_refl _) _))
                    have Hb20 := Lib.hid (show Below wv.heap.size wv (v19.alloc (.cells #[.slice none 0 0, .bool false] 42)) from Hb19.out.alloc Hb19.out.size _)
                    have Zu1620 := Lib.hid (Zu1619.out.below ((Below.refl _ v19).alloc (Nat.le_refl _) (.cells #[.slice none 0 0, .bool false] 42)))
                    have Zu1720 := Lib.hid (Zu1719.out.below ((Below.refl _ v19).alloc (Nat.le_refl _) (.cells #[.slice none 0 0, .bool false] 42)))
                    have Zr1620 := Lib.hid (Zr1619.out.step ((Below.refl _ v19).alloc (Nat.le_refl _) (.cells #[.slice none 0 0, .bool false] 42)))
                    have Zr1720 := Lib.hid (show Res2 v19.heap.size (v19.alloc (.cells #[.slice none 0 0, .bool false] 42)) from res2_new)
                    have Zl1720 := Lib.hid (show wv.heap.size ≤ v19.heap.size from Hb19.out.size)
                    have Zn20 := Lib.hid (show wv.heap.size ≠ v19.heap.size from fun e => by have := Zr1619.out.1.2.2.2.2; omega)
                    refine hK.out _ _ ?_ (fun hHeld => ?_)
                    · exact SG.out _ Kq20.out
                    clear hK K
                    obtain ⟨⟨⟨x0, h0⟩, ⟨x1, h1⟩, f0, f1, hl0⟩, hn0⟩ := Zr1619.out
                    have ne1 : wv.heap.size ≠ v19.heap.size := Zn20.out
                    have hlt : wv.heap.size < v19.heap.size := Zr1619.out.1.2.2.2.2
                    have ne2 : v19.heap.size ≠ wv.heap.size := fun e => ne1 e.symm
                    refine wpAnyH_ready (rs := [22]) (by kernel_rfl) (by simp) ?_
                    refine AllReadyH.cons rfl (fun K hK => ?_) AllReadyH.nil
                    go_simp
                    refine hK.out _ _ ?_ (fun hHeld => ?_)
                    · exact SG.out _ (QS.out _ _ KD.out (((Hb19.out.setCell Zl1617.out _).setCell Zl1617.out _).alloc (Nat.le_trans Hb19.out.size (by simp)) _))
                    clear hK K
                    refine wpAnyH_ready (rs := [23]) (by kernel_rfl) (by simp) ?_
                    refine AllReadyH.cons rfl (fun K hK => ?_) AllReadyH.nil
                    go_simp
                    refine hK.out _ _ ?_ (fun hHeld => ?_)
                    · exact SG.out _ (QS.out _ _ KD.out (((Hb19.out.setCell Zl1617.out _).setCell Zl1617.out _).alloc (Nat.le_trans Hb19.out.size (by simp)) _))
                    clear hK K
                    refine wpAnyH_done (by kernel_rfl) ?_ _
                    go_wp2_with fail
                    go_meet
                    with_reducible exact fin_B Zr1619.out (Nat.le_trans HBW.out.size Zl1617.out) Zu1619.out Zu1719.out (HBW.out.trans (Hb19.out.mono HBW.out.size))
                · go_simp
                  have Kq21 := Lib.hid (show Q (v18.alloc (.cells #[.slice none 0 0, .bool false] 42)) from QS.out _ _ Kq18.out ((Below.refl _ v18).alloc (Nat.le_refl _) _))
                  have Hb21 := Lib.hid (show Below wv.heap.size wv (v18.alloc (.cells #[.slice none 0 0, .bool false] 42)) from Hb18.out.alloc Hb18.out.size _)
                  have Zu1621 := Lib.hid (Zu1618.out.below ((Below.refl _ v18).alloc (Nat.le_refl _) (.cells #[.slice none 0 0, .bool false] 42)))
                  have Zr1621 := Lib.hid (Zr1618.out.step ((Below.refl _ v18).alloc (Nat.le_refl _) (.cells #[.slice none 0 0, .bool false] 42)))
                  have Zr1721 := Lib.hid (show Res2 v18.heap.size (v18.alloc (.cells #[.slice none 0 0, .bool false] 42)) from res2_new)
                  have Zl1721 := Lib.hid (show wv.heap.size ≤ v18.heap.size from Hb18.out.size)
                  have Zn21 := Lib.hid (show wv.heap.size ≠ v18.heap.size from fun e => by have := Zr1618.out.1.2.2.2.2; omega)
                  refine hK.out _ _ ?_ (fun hHeld => ?_)
                  · exact SG.out _ Kq21.out
                  clear hK K
                  as_aux_lemma =>
                  refine wpAnyH_ready (rs := [19]) (by kernel_rfl) (by simp) ?_
                  refine (AllReadyH.cons rfl (fun K hK => ?_) AllReadyH.nil)
                  · go_simp
                    go_wp2_with (go_at_call 28; (with_reducible refine (GM2.out _ Kq21.out).mono ?_); rintro q v22 ⟨P22, p22, rfl, v, hb⟩; have Kq22 := Lib.hid (QS.out _ _ Kq21.out hb); have Hb22 := Lib.hid (Hb21.out.trans (hb.mono Hb21.out.size)); have Zu1622 := Lib.hid (Zu1621.out.below hb); have Zr1622 := Lib.hid (Zr1621.out.step hb); have Zr1722 := Lib.hid (Zr1721.out.step hb); have Zu1722 := Lib.hid v; clear v hb)
                    refine hK.out _ _ ?_ (fun hHeld => ?_)
                    · exact SG.out _ Kq22.out
                    clear hK K
                    obtain ⟨⟨⟨x0, h0⟩, ⟨x1, h1⟩, f0, f1, hl0⟩, hn0⟩ := Zr1622.out
                    obtain ⟨⟨⟨y0, k0⟩, ⟨y1, k1⟩, g0, g1, hl1⟩, hn1⟩ := Zr1722.out
                    have ne1 : wv.heap.size ≠ v18.heap.size := Zn21.out
                    have ne2 : v18.heap.size ≠ wv.heap.size := fun e => ne1 e.symm
                    refine wpAnyH_ready (rs := [22]) (by kernel_rfl) (by simp) ?_
                    refine AllReadyH.cons rfl (fun K hK => ?_) AllReadyH.nil
                    go_simp
                    refine hK.out _ _ ?_ (fun hHeld => ?_)
                    · exact SG.out _ (QS.out _ _ KD.out ((Hb22.out.setCell Zl1617.out _).setCell Zl1617.out _))
                    clear hK K
                    refine wpAnyH_ready (rs := [23]) (by kernel_rfl) (by simp) ?_
                    refine AllReadyH.cons rfl (fun K hK => ?_) AllReadyH.nil
                    go_simp
                    refine hK.out _ _ ?_ (fun hHeld => ?_)
                    · exact SG.out _ (QS.out _ _ KD.out ((((Hb22.out.setCell Zl1617.out _).setCell Zl1617.out _).setCell Zl1721.out _).setCell Zl1721.out _))
                    clear hK K
                    refine wpAnyH_done (by kernel_rfl) ?_ _
                    go_wp2_with fail
                    go_meet
                    with_reducible exact fin_post Zr1622.out Zr1722.out Zn21.out Zu1622.out Zu1722.out (HBW.out.trans (Hb22.out.mono HBW.out.size)) (Nat.le_trans HBW.out.size Zl1617.out) (Nat.le_trans HBW.out.size Zl1721.out)
              · go_simp
                have Kq23 := Lib.hid (show Q ((wv.alloc (.cells #[.slice none 0 0, .bool false] 42)).alloc (.cells #[.slice none 0 0, .bool false] 42)).drew from QS.out _ _ Kq17.out ((Below.refl _ (wv.alloc (.cells #[.slice none 0 0, .bool false] 42)).drew).alloc (Nat.le_refl _) _))
                have Hb23 := Lib.hid (show Below wv.heap.size wv ((wv.alloc (.cells #[.slice none 0 0, .bool false] 42)).alloc (.cells #[.slice none 0 0, .bool false] 42)).drew from Hb17.out.alloc Hb17.out.size _)
                have Zr1623 := Lib.hid (Zr1617.out.step ((Below.refl _ (wv.alloc (.cells #[.slice none 0 0, .bool false] 42)).drew).alloc (Nat.le_refl _) (.cells #[.slice none 0 0, .bool false] 42)))
                have Zr1723 := Lib.hid (show Res2 (wv.heap.size + 1) ((wv.alloc (.cells #[.slice none 0 0, .bool false] 42)).alloc (.cells #[.slice none 0 0, .bool false] 42)).drew from res2_next)
                have Zl1723 := Lib.hid (show wv.heap.size ≤ (wv.heap.size + 1) from Nat.le_succ_of_le Zl1617.out)
                have Zn23 := Lib.hid (show wv.heap.size ≠ (wv.heap.size + 1) from fun e => by have := Zr1617.out.1.2.2.2.2; omega)
                refine hK.out _ _ ?_ (fun hHeld => ?_)
                · exact SG.out _ Kq23.out
                clear hK K
                as_aux_lemma =>
                refine wpAnyH_ready (rs := [9]) (by kernel_rfl) (by simp) ?_
                refine (AllReadyH.cons rfl (fun K hK => ?_) AllReadyH.nil)
                · go_simp
                  go_wp2_with (go_at_call 27; (with_reducible refine (GM1.out _ Kq23.out).mono ?_); rintro q v24 ⟨P24, p24, rfl, v, hb⟩; have Kq24 := Lib.hid (QS.out _ _ Kq23.out hb); have Hb24 := Lib.hid (Hb23.out.trans (hb.mono Hb23.out.size)); have Zr1624 := Lib.hid (Zr1623.out.step hb); have Zr1724 := Lib.hid (Zr1723.out.step hb); have Zu1624 := Lib.hid v; clear v hb)
                  refine hK.out _ _ ?_ (fun hHeld => ?_)
                  · exact SG.out _ Kq24.out
                  clear hK K
                  refine wpAnyH_ready (rs := [19]) (by kernel_rfl) (by simp) ?_
                  refine (AllReadyH.cons rfl (fun K hK => ?_) AllReadyH.nil)
                  · go_simp
                    go_wp2_with (go_at_call 28; (with_reducible refine (GM2.out _ Kq24.out).mono ?_); rintro q v25 ⟨P25, p25, rfl, v, hb⟩; have Kq25 := Lib.hid (QS.out _ _ Kq24.out hb); have Hb25 := Lib.hid (Hb24.out.trans (hb.mono Hb24.out.size)); have Zu1625 := Lib.hid (Zu1624.out.below hb); have Zr1625 := Lib.hid (Zr1624.out.step hb); have Zr1725 := Lib.hid (Zr1724.out.step hb); have Zu1725 := Lib.hid v; clear v hb)
                    refine hK.out _ _ ?_ (fun hHeld => ?_)
                    · exact SG.out _ Kq25.out
                    clear hK K
                    obtain ⟨⟨⟨x0, h0⟩, ⟨x1, h1⟩, f0, f1, hl0⟩, hn0⟩ := Zr1625.out
                    obtain ⟨⟨⟨y0, k0⟩, ⟨y1, k1⟩, g0, g1, hl1⟩, hn1⟩ := Zr1725.out
                    have ne1 : wv.heap.size ≠ (wv.heap.size + 1) := Zn23.out
                    have ne2 : (wv.heap.size + 1) ≠ wv.heap.size := fun e => ne1 e.symm
                    refine wpAnyH_ready (rs := [22]) (by kernel_rfl) (by simp) ?_
                    refine AllReadyH.cons rfl (fun K hK => ?_) AllReadyH.nil
                    go_simp
                    refine hK.out _ _ ?_ (fun hHeld => ?_)
                    · exact SG.out _ (QS.out _ _ KD.out ((Hb25.out.setCell Zl1617.out _).setCell Zl1617.out _))
                    clear hK K
                    refine wpAnyH_ready (rs := [23]) (by kernel_rfl) (by simp) ?_
                    refine AllReadyH.cons rfl (fun K hK => ?_) AllReadyH.nil
                    go_simp
                    refine hK.out _ _ ?_ (fun hHeld => ?_)
                    · exact SG.out _ (QS.out _ _ KD.out ((((Hb25.out.setCell Zl1617.out _).setCell Zl1617.out _).setCell Zl1723.out _).setCell Zl1723.out _))
                    clear hK K
                    refine wpAnyH_done (by kernel_rfl) ?_ _
                    go_wp2_with fail
                    go_meet
                    with_reducible exact fin_post Zr1625.out Zr1725.out Zn23.out Zu1625.out Zu1725.out (HBW.out.trans (Hb25.out.mono HBW.out.size)) (Nat.le_trans HBW.out.size Zl1617.out) (Nat.le_trans HBW.out.size Zl1723.out)
            · go_simp
              have Kq26 := Lib.hid (show Q (wv.alloc (.cells #[.slice none 0 0, .bool false] 42)).drew from QS.out _ _ KE.out ((Below.refl _ wv.drew).alloc (Nat.le_refl _) _))
              have Hb26 := Lib.hid (show Below wv.heap.size wv (wv.alloc (.cells #[.slice none 0 0, .bool false] 42)).drew from HE.out.alloc HE.out.size _)
              have Zr1726 := Lib.hid (show Res2 wv.heap.size (wv.alloc (.cells #[.slice none 0 0, .bool false] 42)).drew from res2_new)
              have Zl1726 := Lib.hid (show wv.heap.size ≤ wv.heap.size from HE.out.size)
              refine hK.out _ _ ?_ (fun hHeld => ?_)
              · exact SG.out _ Kq26.out
              clear hK K
              as_aux_lemma =>
              refine wpAnyH_ready (rs := [9, 20]) (by kernel_rfl) (by simp) ?_
              refine (AllReadyH.cons rfl (fun K hK => ?_) (AllReadyH.cons rfl (fun K hK => ?_) AllReadyH.nil))
              · go_simp
                go_wp2_with (go_at_call 27; (with_reducible refine (GM1.out _ Kq26.out).mono ?_); rintro q v27 ⟨P27, p27, rfl, v, hb⟩; have Kq27 := Lib.hid (QS.out _ _ Kq26.out hb); have Hb27 := Lib.hid (Hb26.out.trans (hb.mono Hb26.out.size)); have Zr1727 := Lib.hid (Zr1726.out.step hb); have Zu1627 := Lib.hid v; clear v hb)
                refine hK.out _ _ ?_ (fun hHeld => ?_)
                · exact SG.out _ Kq27.out
                clear hK K
                as_aux_lemma =>
                refine wpAnyH_ready (rs := [19, 20]) (by kernel_rfl) (by simp) ?_
                refine (AllReadyH.cons rfl (fun K hK => ?_) (AllReadyH.cons rfl (fun K hK => ?_) AllReadyH.nil))
                · go_simp
                  go_wp2_with (go_at_call 28; (with_reducible refine (GM2.out _ Kq27.out).mono ?_); rintro q v28 ⟨P28, p28, rfl, v, hb⟩; have Kq28 := Lib.hid (QS.out _ _ Kq27.out hb); have Hb28 := Lib.hid (Hb27.out.trans (hb.mono Hb27.out.size)); have Zu1628 := Lib.hid (Zu1627.out.below hb); have Zr1728 := Lib.hid (Zr1727.out.step hb); have Zu1728 := Lib.hid v; clear v hb)
                  refine hK.out _ _ ?_ (fun hHeld => ?_)
                  · exact SG.out _ Kq28.out
                  clear hK K
                  as_aux_lemma =>
                  refine wpAnyH_ready (rs := [20]) (by kernel_rfl) (by simp) ?_
                  refine (AllReadyH.cons rfl (fun K hK => ?_) AllReadyH.nil)
                  · go_simp
                    have Kq29 := Lib.hid (show Q (v28.alloc (.cells #[.slice none 0 0, .bool false] 42)) from QS.out _ _ Kq28.out ((Below.refl _ v28).alloc (Nat.le_refl _) _))
                    have Hb29 := Lib.hid (show Below wv.heap.size wv (v28.alloc (.cells #[.slice none 0 0, .bool false] 42)) from Hb28.out.alloc Hb28.out.size _)
                    have Zu1629 := Lib.hid (Zu1628.out.below ((Below.refl _ v28).alloc (Nat.le_refl _) (.cells #[.slice none 0 0, .bool false] 42)))
                    have Zu1729 := Lib.hid (Zu1728.out.below ((Below.refl _ v28).alloc (Nat.le_refl _) (.cells #[.slice none 0 0, .bool false] 42)))
                    have Zr1729 := Lib.hid (Zr1728.out.step ((Below.refl _ v28).alloc (Nat.le_refl _) (.cells #[.slice none 0 0, .bool false] 42)))
                    have Zr1629 := Lib.hid (show Res2 v28.heap.size (v28.alloc (.cells #[.slice none 0 0, .bool false] 42)) from res2_new)
                    have Zl1629 := Lib.hid (show wv.heap.size ≤ v28.heap.size from Hb28.out.size)
                    have Zn29 := Lib.hid (show v28.heap.size ≠ wv.heap.size from fun e => by have := Zr1728.out.1.2.2.2.2; omega)
                    refine hK.out _ _ ?_ (fun hHeld => ?_)
                    · exact SG.out _ Kq29.out
                    clear hK K
                    obtain ⟨⟨⟨y0, k0⟩, ⟨y1, k1⟩, g0, g1, hl1⟩, hn1⟩ := Zr1728.out
                    have ne1 : v28.heap.size ≠ wv.heap.size := Zn29.out
                    have hlt : wv.heap.size < v28.heap.size := Zr1728.out.1.2.2.2.2
                    have ne2 : wv.heap.size ≠ v28.heap.size := fun e => ne1 e.symm
                    refine wpAnyH_ready (rs := [22]) (by kernel_rfl) (by simp) ?_
                    refine AllReadyH.cons rfl (fun K hK => ?_) AllReadyH.nil
                    go_simp
                    refine hK.out _ _ ?_ (fun hHeld => ?_)
                    · exact SG.out _ (QS.out _ _ KD.out (Hb28.out.alloc Hb28.out.size _))
                    clear hK K
                    refine wpAnyH_ready (rs := [23]) (by kernel_rfl) (by simp) ?_
                    refine AllReadyH.cons rfl (fun K hK => ?_) AllReadyH.nil
                    go_simp
                    refine hK.out _ _ ?_ (fun hHeld => ?_)
                    · exact SG.out _ (QS.out _ _ KD.out (((Hb28.out.setCell Zl1726.out _).setCell Zl1726.out _).alloc (Nat.le_trans Hb28.out.size (by simp)) _))
                    clear hK K
                    refine wpAnyH_done (by kernel_rfl) ?_ _
                    go_wp2_with fail
                    go_meet
                    with_reducible exact fin_B2 Zr1728.out (Nat.le_trans HBW.out.size Zl1726.out) Zu1628.out Zu1728.out (HBW.out.trans (Hb28.out.mono HBW.out.size))
                · go_simp
                  have Kq30 := Lib.hid (show Q (v27.alloc (.cells #[.slice none 0 0, .bool false] 42)) from QS.out _ _ Kq27.out ((Below.refl _ v27).alloc (Nat.le_refl _) _))
                  have Hb30 := Lib.hid (show Below wv.heap.size wv (v27.alloc (.cells #[.slice none 0 0, .bool false] 42)) from Hb27.out.alloc Hb27.out.size _)
                  have Zu1630 := Lib.hid (Zu1627.out.below ((Below.refl _ v27).alloc (Nat.le_refl _) (.cells #[.slice none 0 0, .bool false] 42)))
                  have Zr1730 := Lib.hid (Zr1727.out.step ((Below.refl _ v27).alloc (Nat.le_refl _) (.cells #[.slice none 0 0, .bool false] 42)))
                  have Zr1630 := Lib.hid (show Res2 v27.heap.size (v27.alloc (.cells #[.slice none 0 0, .bool false] 42)) from res2_new)
                  have Zl1630 := Lib.hid (show wv.heap.size ≤ v27.heap.size from Hb27.out.size)
                  have Zn30 := Lib.hid (show v27.heap.size ≠ wv.heap.size from fun e => by have := Zr1727.out.1.2.2.2.2; omega)
                  refine hK.out _ _ ?_ (fun hHeld => ?_)
                  · exact SG.out _ Kq30.out
                  clear hK K
                  as_aux_lemma =>
                  refine wpAnyH_ready (rs := [19]) (by kernel_rfl) (by simp) ?_
                  refine (AllReadyH.cons rfl (fun K hK => ?_) AllReadyH.nil)
                  · go_simp
                    go_wp2_with (go_at_call 28; (with_reducible refine (GM2.out _ Kq30.out).mono ?_); rintro q v31 ⟨P31, p31, rfl, v, hb⟩; have Kq31 := Lib.hid (QS.out _ _ Kq30.out hb); have Hb31 := Lib.hid (Hb30.out.trans (hb.mono Hb30.out.size)); have Zu1631 := Lib.hid (Zu1630.out.below hb); have Zr1631 := Lib.hid (Zr1630.out.step hb); have Zr1731 := Lib.hid (Zr1730.out.step hb); have Zu1731 := Lib.hid v; clear v hb)
                    refine hK.out _ _ ?_ (fun hHeld => ?_)
                    · exact SG.out _ Kq31.out
                    clear hK K
                    obtain ⟨⟨⟨x0, h0⟩, ⟨x1, h1⟩, f0, f1, hl0⟩, hn0⟩ := Zr1631.out
                    obtain ⟨⟨⟨y0, k0⟩, ⟨y1, k1⟩, g0, g1, hl1⟩, hn1⟩ := Zr1731.out
                    have ne1 : v27.heap.size ≠ wv.heap.size := Zn30.out
                    have ne2 : wv.heap.size ≠ v27.heap.size := fun e => ne1 e.symm
                    refine wpAnyH_ready (rs := [22]) (by kernel_rfl) (by simp) ?_
                    refine AllReadyH.cons rfl (fun K hK => ?_) AllReadyH.nil
                    go_simp
                    refine hK.out _ _ ?_ (fun hHeld => ?_)
                    · exact SG.out _ (QS.out _ _ KD.out ((Hb31.out.setCell Zl1630.out _).setCell Zl1630.out _))
                    clear hK K
                    refine wpAnyH_ready (rs := [23]) (by kernel_rfl) (by simp) ?_
                    refine AllReadyH.cons rfl (fun K hK => ?_) AllReadyH.nil
                    go_simp
                    refine hK.out _ _ ?_ (fun hHeld => ?_)
                    · exact SG.out _ (QS.out _ _ KD.out ((((Hb31.out.setCell Zl1630.out _).setCell Zl1630.out _).setCell Zl1726.out _).setCell Zl1726.out _))
                    clear hK K
                    refine wpAnyH_done (by kernel_rfl) ?_ _
                    go_wp2_with fail
                    go_meet
                    with_reducible exact fin_post Zr1631.out Zr1731.out Zn30.out Zu1631.out Zu1731.out (HBW.out.trans (Hb31.out.mono HBW.out.size)) (Nat.le_trans HBW.out.size Zl1630.out) (Nat.le_trans HBW.out.size Zl1726.out)
              · go_simp
                have Kq32 := Lib.hid (show Q ((wv.alloc (.cells #[.slice none 0 0, .bool false] 42)).alloc (.cells #[.slice none 0 0, .bool false] 42)).drew from QS.out _ _ Kq26.out ((Below.refl _ (wv.alloc (.cells #[.slice none 0 0, .bool false] 42)).drew).alloc (Nat.le_refl _) _))
                have Hb32 := Lib.hid (show Below wv.heap.size wv ((wv.alloc (.cells #[.slice none 0 0, .bool false] 42)).alloc (.cells #[.slice none 0 0, .bool false] 42)).drew from Hb26.out.alloc Hb26.out.size _)
                have Zr1732 := Lib.hid (Zr1726.out.step ((Below.refl _ (wv.alloc (.cells #[.slice none 0 0, .bool false] 42)).drew).alloc (Nat.le_refl _) (.cells #[.slice none 0 0, .bool false] 42)))
                have Zr1632 := Lib.hid (show Res2 (wv.heap.size + 1) ((wv.alloc (.cells #[.slice none 0 0, .bool false] 42)).alloc (.cells #[.slice none 0 0, .bool false] 42)).drew from res2_next)
                have Zl1632 := Lib.hid (show wv.heap.size ≤ (wv.heap.size + 1) from Nat.le_succ_of_le Zl1726.out)
                have Zn32 := Lib.hid (show (wv.heap.size + 1) ≠ wv.heap.size from fun e => by have := Zr1726.out.1.2.2.2.2; omega)
                refine hK.out _ _ ?_ (fun hHeld => ?_)
                · exact SG.out _ Kq32.out
                clear hK K
                as_aux_lemma =>
                refine wpAnyH_ready (rs := [9]) (by kernel_rfl) (by simp) ?_
                refine (AllReadyH.cons rfl (fun K hK => ?_) AllReadyH.nil)
                · go_simp
                  go_wp2_with (go_at_call 27; (with_reducible refine (GM1.out _ Kq32.out).mono ?_); rintro q v33 ⟨P33, p33, rfl, v, hb⟩; have Kq33 := Lib.hid (QS.out _ _ Kq32.out hb); have Hb33 := Lib.hid (Hb32.out.trans (hb.mono Hb32.out.size)); have Zr1633 := Lib.hid (Zr1632.out.step hb); have Zr1733 := Lib.hid (Zr1732.out.step hb); have Zu1633 := Lib.hid v; clear v hb)
                  refine hK.out _ _ ?_ (fun hHeld => ?_)
                  · exact SG.out _ Kq33.out
                  clear hK K
                  refine wpAnyH_ready (rs := [19]) (by kernel_rfl) (by simp) ?_
                  refine (AllReadyH.cons rfl (fun K hK => ?_) AllReadyH.nil)
                  · go_simp
                    go_wp2_with (go_at_call 28; (with_reducible refine (GM2.out _ Kq33.out).mono ?_); rintro q v34 ⟨P34, p34, rfl, v, hb⟩; have Kq34 := Lib.hid (QS.out _ _ Kq33.out hb); have Hb34 := Lib.hid (Hb33.out.trans (hb.mono Hb33.out.size)); have Zu1634 := Lib.hid (Zu1633.out.below hb); have Zr1634 := Lib.hid (Zr1633.out.step hb); have Zr1734 := Lib.hid (Zr1733.out.step hb); have Zu1734 := Lib.hid v; clear v hb)
                    refine hK.out _ _ ?_ (fun hHeld => ?_)
                    · exact SG.out _ Kq34.out
                    clear hK K
                    obtain ⟨⟨⟨x0, h0⟩, ⟨x1, h1⟩, f0, f1, hl0⟩, hn0⟩ := Zr1634.out
                    obtain ⟨⟨⟨y0, k0⟩, ⟨y1, k1⟩, g0, g1, hl1⟩, hn1⟩ := Zr1734.out
                    have ne1 : (wv.heap.size + 1) ≠ wv.heap.size := Zn32.out
                    have ne2 : wv.heap.size ≠ (wv.heap.size + 1) := fun e => ne1 e.symm
                    refine wpAnyH_ready (rs := [22]) (by kernel_rfl) (by simp) ?_
                    refine AllReadyH.cons rfl (fun K hK => ?_) AllReadyH.nil
                    go_simp
                    refine hK.out _ _ ?_ (fun hHeld => ?_)
                    · exact SG.out _ (QS.out _ _ KD.out ((Hb34.out.setCell Zl1632.out _).setCell Zl1632.out _))
                    clear hK K
                    refine wpAnyH_ready (rs := [23]) (by kernel_rfl) (by simp) ?_
                    refine AllReadyH.cons rfl (fun K hK => ?_) AllReadyH.nil
                    go_simp
                    refine hK.out _ _ ?_ (fun hHeld => ?_)
                    · exact SG.out _ (QS.out _ _ KD.out ((((Hb34.out.setCell Zl1632.out _).setCell Zl1632.out _).setCell Zl1726.out _).setCell Zl1726.out _))
                    clear hK K
                    refine wpAnyH_done (by kernel_rfl) ?_ _
                    go_wp2_with fail
                    go_meet
                    with_reducible exact fin_post Zr1634.out Zr1734.out Zn32.out Zu1634.out Zu1734.out (HBW.out.trans (Hb34.out.mono HBW.out.size)) (Nat.le_trans HBW.out.size Zl1632.out) (Nat.le_trans HBW.out.size Zl1726.out)
          case rest =>
            obtain ⟨b, d, P, p, R', r', rfl, rfl, k0, k1, k2, k3, uP, uR, hbl⟩ := hcut
            have UP := Lib.hid uP
            have UR := Lib.hid uR
            have HB := Lib.hid hbl
            clear uP uR hbl GM1 GM2 SG
            go_wp2_with (go_at_call 20; (with_reducible refine (ES.out _ _ _ _ _ UP.out UR.out).mono ?_); rintro q w9 ⟨rfl, hb⟩; obtain ⟨j0, j1, j2, j3⟩ := four_keep k0 k1 k2 k3 hb; have HB9 := Lib.hid (HB.out.trans (hb.mono HB.out.size)); clear hb)
            go_ret
            exact ⟨rfl, HB9.out⟩
end Go.Proofs.Ytkpedfigaofloaa
