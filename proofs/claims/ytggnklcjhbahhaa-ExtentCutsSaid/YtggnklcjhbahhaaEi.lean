/-
  What the laws ask of the program's functions; walks of the law file's put, cut, same and sane.
-/
import Derived.Test.YtggnklcjhbahhaaEh
namespace Go.Proofs.Ytggnklcjhbahhaa
open Go.RowKit Ex
set_option maxHeartbeats 400000
set_option maxRecDepth 100000

/-- The cells from A on hold these numbers, in a block from lo on. -/
def CellsN (lo : Nat) (w : World) (A : Option Addr) (xs : List Int) : Prop :=
  xs ≠ [] → ∃ g o, A = some ⟨g, o, none⟩ ∧ lo ≤ g ∧ g < w.heap.size ∧ ∀ (j : Nat) (x : Int), xs[j]? = some x → w.cell? ⟨g, o + j, none⟩ = some (.int .i64 x)
section
variable {lo lo' n c : Nat} {w w' : World} {A : Option Addr} {xs : List Int} {l : List Pc}
theorem CellsN.cells (h : CellsN lo w A xs) : Cells w A xs := fun hn => by
  obtain ⟨g, o, h1, _, h2, h3⟩ := h hn
  exact ⟨g, o, h1, h2, h3⟩
theorem CellsN.below (h : CellsN lo w A xs) (hb : Below w.heap.size w w') : CellsN lo w' A xs := fun hn => by
  obtain ⟨g, o, hA, hk, hg, hc⟩ := h hn
  exact ⟨g, o, hA, hk, Nat.lt_of_lt_of_le hg hb.size, fun j x hx => (hb.cell (p := ⟨g, o + j, none⟩) hg).trans (hc j x hx)⟩
theorem CellsN.mono (h : CellsN lo w A xs) (hl : lo' ≤ lo) : CellsN lo' w A xs := fun hn => by
  obtain ⟨g, o, h1, h0, h2, h3⟩ := h hn
  exact ⟨g, o, h1, Nat.le_trans hl h0, h2, h3⟩
theorem CellsN.set (h : CellsN lo w A xs) {p : Addr} (hp : p.block < lo) (u : Value) : CellsN lo (w.setCell p u) A xs := fun hn => by
  obtain ⟨g, o, hA, hk, hg, hc⟩ := h hn
  exact ⟨g, o, hA, hk, by simpa [World.setCell] using hg, fun j x hx => (World.cell?_setCell_other w p ⟨g, o + j, none⟩ u (fun e => by rw [e] at hp; simp only [] at hp; omega)).trans (hc j x hx)⟩
theorem Cells.toN (h : Cells w A xs) : CellsN 0 w A xs := fun hn => by
  obtain ⟨g, o, h1, h2, h3⟩ := h hn
  exact ⟨g, o, h1, Nat.zero_le _, h2, h3⟩
theorem CellsN.of_own {base s : Nat} {e : TypeId} (h : w.ownsRow base e s (.slice A n c) n (ints xs)) : CellsN base w A xs := fun hn => by
  obtain ⟨g, o, hA, h2, h3⟩ := Cells.of_own h hn
  subst hA
  exact ⟨g, o, rfl, (h.lt g rfl).1, h2, h3⟩
/-- A slice of numbers; a slice of pieces. -/
structure Si (lo : Nat) (w : World) (A : Option Addr) (n c s : Nat) (xs : List Int) : Prop where
  len : xs.length = n * s
  cap : n ≤ c
  max : c ≤ 9223372036854775807
  nil : A = none → c = 0
  cells : CellsN lo w A xs
abbrev Sp (lo : Nat) (w : World) (A : Option Addr) (n c : Nat) (l : List Pc) : Prop := Si lo w A n c 3 (flat3 l)
theorem Si.below {s : Nat} (h : Si lo w A n c s xs) (hb : Below w.heap.size w w') : Si lo w' A n c s xs := ⟨h.len, h.cap, h.max, h.nil, h.cells.below hb⟩
theorem Si.mono {s : Nat} (h : Si lo w A n c s xs) (hl : lo' ≤ lo) : Si lo' w A n c s xs := ⟨h.len, h.cap, h.max, h.nil, h.cells.mono hl⟩
theorem Si.set {s : Nat} (h : Si lo w A n c s xs) {p : Addr} (hp : p.block < lo) (u : Value) : Si lo (w.setCell p u) A n c s xs := ⟨h.len, h.cap, h.max, h.nil, h.cells.set hp u⟩
theorem Si.own {base s : Nat} {e : TypeId} (h : w.ownsRow base e s (.slice A n c) n (ints xs)) : Si base w A n c s xs :=
  ⟨by have := own_slen h; rwa [ints_length] at this, (own_cap h).1, (own_cap h).2, own_none h, CellsN.of_own h⟩
theorem Sp.plen (h : Sp lo w A n c l) : l.length = n := by have := h.len; rw [flat3_len] at this; omega
theorem Sp.pcs (h : Sp lo w A n c l) : Pcs w A l := h.cells.cells
end
/-! ### What the functions give, in bytes -/
def partB (bs : List (Int × Int)) (off n : Int) : List (Int × Int) := if 0 < n then (bs.take (off + n).toNat).drop off.toNat else []
def putB (bs : List (Int × Int)) (off id n : Int) : List (Int × Int) := (List.range (max bs.length (off.toNat + n.toNat))).map fun i => if off.toNat ≤ i ∧ i < off.toNat + n.toNat then (id, ((i - off.toNat : Nat) : Int)) else bs[i]?.getD (0, 0)
def cutB (bs : List (Int × Int)) (n : Int) : List (Int × Int) := (List.range n.toNat).map fun i => bs[i]?.getD (0, 0)
def eraseB (bs : List (Int × Int)) (ids : List Int) : List (Int × Int) := bs.map fun x => if 0 < x.1 ∧ x.1 ∈ ids then (-1, 0) else x
/-- The numbers of a piece are Go's. -/
def Pc.ok (p : Pc) : Prop := (Lit.int .i64 p.id).wf = true ∧ (Lit.int .i64 p.fr).wf = true ∧ (Lit.int .i64 p.n).wf = true
/-- The functions of the package do as they should, in each world in which the program's own variables lie. -/
structure Prg (Env : World → Prop) : Prop where
  env : ∀ {W W' : World}, Env W → Below W.heap.size W W' → Env W'
  valid : ∀ (A : Option Addr) (n c : Nat) (b : List Pc) (W : World), Env W → Sp 0 W A n c b → n ≤ 100 → (∀ p ∈ b, Pc.ok p) →
    Calls Try.prog 31 #[.slice A n c] W fun e w' => e = .returned (.bool (validL b)) ∧ Below W.heap.size W w'
  size : ∀ (A : Option Addr) (n c : Nat) (b : List Pc) (W : World), Env W → Sp 0 W A n c b → validL b = true →
    Calls Try.prog 19 #[.slice A n c] W fun e w' => e = .returned (.int .i64 (sizeL b)) ∧ Below W.heap.size W w'
  part : ∀ (A : Option Addr) (n c : Nat) (b : List Pc) (off k : Int) (W : World), Env W → Sp 0 W A n c b → validL b = true → (Lit.int .i64 off).wf = true → (Lit.int .i64 k).wf = true →
    Calls Try.prog 13 #[.slice A n c, .int .i64 off, .int .i64 k] W fun e w' => ∃ A' m c' r, e = .returned (.slice A' m c') ∧ Sp W.heap.size w' A' m c' r ∧ validL r = true ∧ eachL r = partB (eachL b) off k ∧ Below W.heap.size W w'
  putArg : ∀ (A : Option Addr) (n c : Nat) (b : List Pc) (off id k : Int) (W : World), Env W → Sp 0 W A n c b → validL b = true → (Lit.int .i64 off).wf = true → (Lit.int .i64 id).wf = true → (Lit.int .i64 k).wf = true → ¬ (1 ≤ id ∧ id < 4096 ∧ 0 ≤ off ∧ 1 ≤ k) →
    Calls Try.prog 39 #[.slice A n c, .int .i64 off, .int .i64 id, .int .i64 k] W fun e w' => ∃ A' c', e = .returned (.tuple #[.slice A' 0 c', .int .i64 1]) ∧ Below W.heap.size W w'
  putBig : ∀ (A : Option Addr) (n c : Nat) (b : List Pc) (off id k : Int) (W : World), Env W → Sp 0 W A n c b → validL b = true → (Lit.int .i64 off).wf = true → (Lit.int .i64 id).wf = true → (Lit.int .i64 k).wf = true → 1 ≤ id → id < 4096 → 0 ≤ off → 1 ≤ k → 1048576 < off + k →
    Calls Try.prog 39 #[.slice A n c, .int .i64 off, .int .i64 id, .int .i64 k] W fun e w' => ∃ A' c', e = .returned (.tuple #[.slice A' 0 c', .int .i64 2]) ∧ Below W.heap.size W w'
  putYes : ∀ (A : Option Addr) (n c : Nat) (b : List Pc) (off id k : Int) (W : World), Env W → Sp 0 W A n c b → validL b = true → 1 ≤ id → id < 4096 → 0 ≤ off → 1 ≤ k → off + k ≤ 1048576 →
    Calls Try.prog 39 #[.slice A n c, .int .i64 off, .int .i64 id, .int .i64 k] W fun e w' => ∃ A' m c' r, e = .returned (.tuple #[.slice A' m c', .int .i64 0]) ∧ Sp W.heap.size w' A' m c' r ∧ validL r = true ∧ eachL r = putB (eachL b) off id k ∧ Below W.heap.size W w'
  cutArg : ∀ (A : Option Addr) (n c : Nat) (b : List Pc) (k : Int) (W : World), Env W → Sp 0 W A n c b → validL b = true → (Lit.int .i64 k).wf = true → k < 0 →
    Calls Try.prog 40 #[.slice A n c, .int .i64 k] W fun e w' => ∃ A' c', e = .returned (.tuple #[.slice A' 0 c', .int .i64 1]) ∧ Below W.heap.size W w'
  cutBig : ∀ (A : Option Addr) (n c : Nat) (b : List Pc) (k : Int) (W : World), Env W → Sp 0 W A n c b → validL b = true → (Lit.int .i64 k).wf = true → 1048576 < k →
    Calls Try.prog 40 #[.slice A n c, .int .i64 k] W fun e w' => ∃ A' c', e = .returned (.tuple #[.slice A' 0 c', .int .i64 2]) ∧ Below W.heap.size W w'
  cutYes : ∀ (A : Option Addr) (n c : Nat) (b : List Pc) (k : Int) (W : World), Env W → Sp 0 W A n c b → validL b = true → 0 ≤ k → k ≤ 1048576 →
    Calls Try.prog 40 #[.slice A n c, .int .i64 k] W fun e w' => ∃ A' m c' r, e = .returned (.tuple #[.slice A' m c', .int .i64 0]) ∧ Sp W.heap.size w' A' m c' r ∧ validL r = true ∧ eachL r = cutB (eachL b) k ∧ Below W.heap.size W w'
  used : ∀ (A : Option Addr) (n c : Nat) (b : List Pc) (W : World), Env W → Sp 0 W A n c b → validL b = true →
    Calls Try.prog 26 #[.slice A n c] W fun e w' => ∃ A' m c' us, e = .returned (.slice A' m c') ∧ Si W.heap.size w' A' m c' 1 us ∧ us.Pairwise (· < ·) ∧ (∀ x, x ∈ us ↔ 0 < x ∧ ∃ p ∈ b, p.id = x) ∧ Below W.heap.size W w'
  erase : ∀ (A A2 : Option Addr) (n c n2 c2 : Nat) (b : List Pc) (ids : List Int) (W : World), Env W → Sp 0 W A n c b → validL b = true → Si 0 W A2 n2 c2 1 ids → n2 ≤ 100 →
    Calls Try.prog 24 #[.slice A n c, .slice A2 n2 c2] W fun e w' => ∃ A' m c' r, e = .returned (.slice A' m c') ∧ Sp W.heap.size w' A' m c' r ∧ validL r = true ∧ eachL r = eraseB (eachL b) ids ∧ Below W.heap.size W w'
  same : ∀ (A A2 : Option Addr) (n c n2 c2 : Nat) (b b2 : List Pc) (W : World), Env W → Sp 0 W A n c b → Sp 0 W A2 n2 c2 b2 →
    Calls Try.prog 30 #[.slice A n c, .slice A2 n2 c2] W fun e w' => e = .returned (.bool (decide (b = b2))) ∧ Below W.heap.size W w'
/-! ### The wrapper's own variable -/
def RBox (w : World) (t : TypeId) (W : World) : Prop := (∃ v u, W.heap[w.heap.size]? = some (.cells #[v, u] t (0, 0))) ∧ Below w.heap.size w W
theorem rbox_start (w : World) (t : TypeId) : RBox w t (w.alloc (.cells #[.slice none 0 0, .int .i64 0] t)) := ⟨⟨_, _, heap_alloc_new w _⟩, (Below.refl _ w).alloc (Nat.le_refl _) _⟩
theorem box_size (w : World) (t : TypeId) : (w.alloc (.cells #[.slice none 0 0, .int .i64 0] t)).heap.size = w.heap.size + 1 := by simp
theorem RBox.step {w W W' : World} {t : TypeId} (h : RBox w t W) (hb : Below W.heap.size W W') : RBox w t W' := by
  obtain ⟨⟨v, u, h1⟩, h2⟩ := h
  exact ⟨⟨v, u, (hb.block _ (Array.getElem?_eq_some_iff.1 h1).1).trans h1⟩, h2.trans (hb.mono h2.size)⟩
theorem RBox.cells {w W : World} {t : TypeId} (h : RBox w t W) : (∃ v, W.cell? ⟨w.heap.size, 0, none⟩ = some v) ∧ (∃ u, W.cell? ⟨w.heap.size, 1, none⟩ = some u) ∧ W.frozen? ⟨w.heap.size, 0, none⟩ = false ∧ W.frozen? ⟨w.heap.size, 1, none⟩ = false := by
  obtain ⟨⟨v, u, h1⟩, _⟩ := h
  exact ⟨⟨v, cell_of_row W _ 0 _ _ _ h1⟩, ⟨u, cell_of_row W _ 1 _ _ _ h1⟩, frozen_of_row W _ 0 _ _ h1, frozen_of_row W _ 1 _ _ h1⟩
theorem set_results {w W : World} {t : TypeId} (hb : RBox w t W) (v : Value) (hv : Int) : ((W.setCell ⟨w.heap.size, 0, none⟩ v).setCell ⟨w.heap.size, 1, none⟩ (.int .i64 hv)).cell? ⟨w.heap.size, 0, none⟩ = some v ∧ ((W.setCell ⟨w.heap.size, 0, none⟩ v).setCell ⟨w.heap.size, 1, none⟩ (.int .i64 hv)).cell? ⟨w.heap.size, 1, none⟩ = some (.int .i64 hv) := by
  obtain ⟨⟨_, z0⟩, ⟨_, z1⟩, _, _⟩ := hb.cells
  constructor
  · rw [World.cell?_setCell_other _ _ _ _ (by simp)]
    exact World.cell?_setCell_same _ _ _ z0
  · exact World.cell?_setCell_same _ _ _ ((World.cell?_setCell_other _ _ _ _ (by simp)).trans z1)
theorem rbox_end {w W : World} {t : TypeId} (hB : RBox w t W) (v : Value) (er : Int) : Below w.heap.size w ((W.setCell ⟨w.heap.size, 0, none⟩ v).setCell ⟨w.heap.size, 1, none⟩ (.int .i64 er)) := (hB.2.setCell (Nat.le_refl _) _).setCell (Nat.le_refl _) _
theorem wrap_put (A : Option Addr) (nb cb : Nat) (off id n : Int) (w : World) (R : Value → Int → World → Prop)
    (hC : Calls Try.prog 39 #[.slice A nb cb, .int .i64 off, .int .i64 id, .int .i64 n] (w.alloc (.cells #[.slice none 0 0, .int .i64 0] 40)) fun e w' => ∃ A' m c' er, e = .returned (.tuple #[.slice A' m c', .int .i64 er]) ∧ R (.slice A' m c') er w' ∧ Below (w.heap.size + 1) (w.alloc (.cells #[.slice none 0 0, .int .i64 0] 40)) w') :
    Calls Try.prog 20 #[.slice A nb cb, .int .i64 off, .int .i64 id, .int .i64 n] w fun e w' => ∃ v er W, e = .returned (.agg #[v, .int .i64 er]) ∧ R v er W ∧ w' = (W.setCell ⟨w.heap.size, 0, none⟩ v).setCell ⟨w.heap.size, 1, none⟩ (.int .i64 er) ∧ RBox w 40 W := by
  have HB := Lib.hid (rbox_start w 40)
  have HC := Lib.hid hC
  clear hC
  go_enter Try.func20, Try.ntmps20
  go_wp2_with (go_at_call 39; refine HC.out.mono ?_; rintro e w1 ⟨A', m, c', er, rfl, hR, hb1⟩; have hB1 := HB.out.step (hb1.mono (by rw [box_size]; exact Nat.le_refl _)); obtain ⟨⟨z0, e0⟩, ⟨z1, e1⟩, f0, f1⟩ := hB1.cells; have hls := hB1.2.size; have HB1 := Lib.hid hB1; have HR := Lib.hid hR)
  have hd := set_results HB1.out (.slice A' m c') er
  refine bodyPost_ret (v := .agg #[.slice A' m c', .int .i64 er]) ?_ rfl ⟨_, _, w1, rfl, HR.out, rfl, HB1.out⟩
  simp [results, Try.results20, go_sem, hd.1, hd.2]
end Go.Proofs.Ytggnklcjhbahhaa
