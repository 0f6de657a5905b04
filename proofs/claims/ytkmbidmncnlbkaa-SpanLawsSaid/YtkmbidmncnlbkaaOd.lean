/-
  Contracts of the landed package: the step of its sweep (a closure over what is open, what is taken and the set).
-/
import Derived.Test.YtkmbidmncnlbkaaOa
import Derived.Test.YtkmbidmncnlbkaaOb
import Derived.Shelf.Abstract
namespace Go.Proofs.Ytkmbidmncnlbkaa
open Go.RowKit Sn
attribute [local go_sem] Oper.semAt_some
set_option maxHeartbeats 400000
set_option maxRecDepth 100000

abbrev bi (j : Bool) : Int := if j then 1 else 0
theorem own_low_set {w : World} {base : Nat} {e : TypeId} {s : Nat} {v : Value} {n : Nat} {xs : List Value} (h : w.ownsRow base e s v n xs) {p : Addr} (hp : p.block < base) (u : Value) : (w.setCell p u).ownsRow base e s v n xs := by
  rcases h with ⟨h1, h2 | ⟨g, cap, cur, h2, h3, h4, h5⟩⟩
  · exact ⟨h1, .inl h2⟩
  · exact ⟨h1, .inr ⟨g, cap, cur, h2, h3, (heap_setCell_other w p g u (by omega)).trans h4, h5⟩⟩
/-- What the sweep has in memory: the operation, the set, what is open, what is taken; and a block beside them. -/
structure Swp (W : World) (g ft K : Nat) (ob : Obj) (s : St) (A' : Option Addr) (m c' : Nat) : Prop where
  tks : W.heap[g]? = some (.cells #[.func (.func ft) #[] #[]] 45 (0, 0))
  set : W.heap[g + 1]? = some (.cells #[.slice A' m c'] 22 (0, 0))
  ovr : W.heap[g + 2]? = some (.cells #[.int .i64 s.o0, .int .i64 s.o1] 55 (0, 0))
  tkn : W.heap[g + 3]? = some (.cells #[.bool s.tk] 4 (0, 0))
  row : W.ownsRow (g + 4) 24 2 (.slice A' m c') m (ints (flat2 s.set))
  obj : W.heap[K]? = some ob
  far : g + 4 ≤ K
  ne : ∀ o, A' = some o → o.block ≠ K
section
variable {W W' : World} {g ft K : Nat} {ob : Obj} {s : St} {A' : Option Addr} {m c' : Nat}
theorem Swp.lt (h : Swp W g ft K ob s A' m c') : g + 4 ≤ W.heap.size := by
  have h1 := (Array.getElem?_eq_some_iff.1 h.tkn).1
  omega
theorem Swp.ltK (h : Swp W g ft K ob s A' m c') : K < W.heap.size := (Array.getElem?_eq_some_iff.1 h.obj).1
theorem Swp.below (h : Swp W g ft K ob s A' m c') (hb : Below W.heap.size W W') : Swp W' g ft K ob s A' m c' :=
  have l := h.lt
  ⟨(hb.block g (by omega)).trans h.tks, (hb.block _ (by omega)).trans h.set, (hb.block _ (by omega)).trans h.ovr, (hb.block _ (by omega)).trans h.tkn, own_keep h.row hb, (hb.block K h.ltK).trans h.obj, h.far, h.ne⟩
theorem Swp.open0 (h : Swp W g ft K ob s A' m c') (x : Int) : Swp (W.setCell ⟨g + 2, 0, none⟩ (.int .i64 x)) g ft K ob { s with o0 := x } A' m c' :=
  have f := h.far
  ⟨(heap_setCell_other _ _ _ _ (by simp only []; omega)).trans h.tks, (heap_setCell_other _ _ _ _ (by simp only []; omega)).trans h.set, heap_setCell_same _ _ _ _ _ _ h.ovr, (heap_setCell_other _ _ _ _ (by simp only []; omega)).trans h.tkn,
    own_low_set h.row (by simp only []; omega) _, (heap_setCell_other _ _ _ _ (by simp only []; omega)).trans h.obj, h.far, h.ne⟩
theorem Swp.open1 (h : Swp W g ft K ob s A' m c') (x : Int) : Swp (W.setCell ⟨g + 2, 1, none⟩ (.int .i64 x)) g ft K ob { s with o1 := x } A' m c' :=
  have f := h.far
  ⟨(heap_setCell_other _ _ _ _ (by simp only []; omega)).trans h.tks, (heap_setCell_other _ _ _ _ (by simp only []; omega)).trans h.set, heap_setCell_same _ _ _ _ _ _ h.ovr, (heap_setCell_other _ _ _ _ (by simp only []; omega)).trans h.tkn,
    own_low_set h.row (by simp only []; omega) _, (heap_setCell_other _ _ _ _ (by simp only []; omega)).trans h.obj, h.far, h.ne⟩
theorem Swp.take (h : Swp W g ft K ob s A' m c') (x : Bool) : Swp (W.setCell ⟨g + 3, 0, none⟩ (.bool x)) g ft K ob { s with tk := x } A' m c' :=
  have f := h.far
  ⟨(heap_setCell_other _ _ _ _ (by simp only []; omega)).trans h.tks, (heap_setCell_other _ _ _ _ (by simp only []; omega)).trans h.set, (heap_setCell_other _ _ _ _ (by simp only []; omega)).trans h.ovr, heap_setCell_same _ _ _ _ _ _ h.tkn,
    own_low_set h.row (by simp only []; omega) _, (heap_setCell_other _ _ _ _ (by simp only []; omega)).trans h.obj, h.far, h.ne⟩
theorem Swp.cells (h : Swp W g ft K ob s A' m c') : W.cell? ⟨g, 0, none⟩ = some (.func (.func ft) #[] #[]) ∧ W.cell? ⟨g + 1, 0, none⟩ = some (.slice A' m c') ∧ W.cell? ⟨g + 2, 0, none⟩ = some (.int .i64 s.o0) ∧ W.cell? ⟨g + 2, 1, none⟩ = some (.int .i64 s.o1) ∧ W.cell? ⟨g + 3, 0, none⟩ = some (.bool s.tk) :=
  ⟨cell_of_row W g 0 _ _ (0, 0) h.tks, cell_of_row W (g + 1) 0 _ _ (0, 0) h.set, cell_of_row W (g + 2) 0 _ _ (0, 0) h.ovr, cell_of_row W (g + 2) 1 _ _ (0, 0) h.ovr, cell_of_row W (g + 3) 0 _ _ (0, 0) h.tkn⟩
theorem Swp.free (h : Swp W g ft K ob s A' m c') : W.frozen? ⟨g + 1, 0, none⟩ = false ∧ W.frozen? ⟨g + 2, 0, none⟩ = false ∧ W.frozen? ⟨g + 2, 1, none⟩ = false ∧ W.frozen? ⟨g + 3, 0, none⟩ = false :=
  ⟨frozen_of_row W (g + 1) 0 _ _ h.set, frozen_of_row W (g + 2) 0 _ _ h.ovr, frozen_of_row W (g + 2) 1 _ _ h.ovr, frozen_of_row W (g + 3) 0 _ _ h.tkn⟩
end
abbrev bx3 (w : World) (x j u : Int) : World := w.alloc (.cells #[.int .i64 x, .int .i64 j, .int .i64 u] 57)
theorem box_three (w : World) (x j u : Int) : (bx3 w x j u).cell? ⟨w.heap.size, 0, none⟩ = some (.int .i64 x) ∧ (bx3 w x j u).cell? ⟨w.heap.size, 1, none⟩ = some (.int .i64 j) ∧ (bx3 w x j u).cell? ⟨w.heap.size, 2, none⟩ = some (.int .i64 u) := by
  have h := fun k => cell_of_row (bx3 w x j u) w.heap.size k _ _ (0, 0) (heap_alloc_new w _)
  exact ⟨h 0, h 1, h 2⟩
theorem box_low3 (w : World) (x j u : Int) : Below w.heap.size w (bx3 w x j u) := (Below.refl _ w).alloc (Nat.le_refl _) _
/-- What may have changed: nothing of the worlds below. -/
abbrev Lows (g : Nat) (W W' : World) : Prop := ∀ w0 : World, w0.heap.size ≤ g → Below w0.heap.size w0 W → Below w0.heap.size w0 W'

/-- The rest of a step: the last bound at a number. -/
def fin (op : Bool → Bool → Bool) (s : St) (x : Int) (last : Bool) : St :=
  if last && (op (decide (0 < s.o0)) (decide (0 < s.o1)) != s.tk) then { s with tk := !s.tk, set := if s.tk then setLast s.set x else s.set ++ [⟨x, 0⟩] } else s
theorem fin_true {op : Bool → Bool → Bool} {s : St} (x : Int) {v tk : Bool} (hv : op (decide (0 < s.o0)) (decide (0 < s.o1)) = v) (ht : s.tk = tk) :
    fin op s x true = if v = tk then s else { s with tk := v, set := if tk then setLast s.set x else s.set ++ [⟨x, 0⟩] } := by
  unfold fin
  rw [hv, ht]
  cases v <;> cases tk <;> rfl
theorem Lows.trans {g : Nat} {W W1 W2 : World} (h : Lows g W W1) (hb : Below W1.heap.size W1 W2) : Lows g W W2 := fun w0 hw0 h0 => (h w0 hw0 h0).trans (hb.mono (h w0 hw0 h0).size)
theorem Lows.set {g : Nat} {W W1 : World} (h : Lows g W W1) {p : Addr} (hp : g ≤ p.block) (u : Value) : Lows g W (W1.setCell p u) := fun w0 hw0 h0 => (h w0 hw0 h0).setCell (by omega) _
theorem Lows.grown {g ft K m c' : Nat} {W W1 w7 : World} {ob o : Obj} {s : St} {A' : Option Addr} (h : Lows g W W1) (hS : Swp W1 g ft K ob s A' m c') (hg : (W1.alloc o).grownBy w7 (Value.slice A' m c').ownBlock) : Lows g W w7 := fun w0 hw0 h0 =>
  ((h w0 hw0 h0).alloc (h w0 hw0 h0).size o).grown hg (by have := (h w0 hw0 h0).size; simp; omega) fun t ht => by have := (hS.row.lt t ht).1; omega
/-- Behind an append to the set: it is not stored yet. -/
structure Grown (w7 : World) (g ft K : Nat) (ob : Obj) (s : St) (A' : Option Addr) (m c' g7 c7 : Nat) (x : Int) : Prop where
  tks : w7.heap[g]? = some (.cells #[.func (.func ft) #[] #[]] 45 (0, 0))
  set : w7.heap[g + 1]? = some (.cells #[.slice A' m c'] 22 (0, 0))
  ovr : w7.heap[g + 2]? = some (.cells #[.int .i64 s.o0, .int .i64 s.o1] 55 (0, 0))
  tkn : w7.heap[g + 3]? = some (.cells #[.bool s.tk] 4 (0, 0))
  row : w7.ownsRow (g + 4) 24 2 (.slice (some ⟨g7, 0, none⟩) (m + 1) c7) (m + 1) (ints (flat2 (s.set ++ [⟨x, 0⟩])))
  obj : w7.heap[K]? = some ob
  far : g + 4 ≤ K
  ne : ∀ o, (some ⟨g7, 0, none⟩ : Option Addr) = some o → o.block ≠ K
theorem Swp.grown {w7 W2 : World} {g ft K : Nat} {ob o : Obj} {s : St} {A' : Option Addr} {m c' g7 c7 : Nat} {x : Int} (h : Swp W2 g ft K ob s A' m c') (hg : (W2.alloc o).grownBy w7 (Value.slice A' m c').ownBlock)
    (hown : w7.ownsRow (g + 4) 24 2 (.slice (some ⟨g7, 0, none⟩) (m + 1) c7) (m + 1) (ints (flat2 s.set) ++ [.int .i64 x, .int .i64 0])) (hat : (Value.slice A' m c').ownBlock = some g7 ∨ g7 = W2.heap.size + 1) :
    Grown w7 g ft K ob s A' m c' g7 c7 x :=
  have l := h.lt
  have k := h.ltK
  have far : ∀ t, t < W2.heap.size → (Value.slice A' m c').ownBlock ≠ some t → w7.heap[t]? = W2.heap[t]? := fun t ht hne => (hg.block t (by simp; omega) (fun e => hne e.symm)).trans (heap_alloc_old _ _ ht)
  have low : ∀ t, t < g + 4 → (Value.slice A' m c').ownBlock ≠ some t := fun t ht e => by have := (h.row.lt t e).1; omega
  have hK : (Value.slice A' m c').ownBlock ≠ some K := fun e => by
    cases A' with
    | none => cases e
    | some a => exact h.ne a rfl (by injection e)
  ⟨(far g (by omega) (low g (by omega))).trans h.tks, (far _ (by omega) (low _ (by omega))).trans h.set, (far _ (by omega) (low _ (by omega))).trans h.ovr, (far _ (by omega) (low _ (by omega))).trans h.tkn,
    by rw [flat2_append, ints_append]; exact hown, (far K k hK).trans h.obj, h.far, fun a e => by
      injection e with e
      subst e
      rcases hat with h1 | h1
      · intro e; exact hK (by rw [h1, ← e])
      · simp only []; omega⟩
theorem Grown.free {w7 : World} {g ft K : Nat} {ob : Obj} {s : St} {A' : Option Addr} {m c' g7 c7 : Nat} {x : Int} (h : Grown w7 g ft K ob s A' m c' g7 c7 x) : w7.cell? ⟨g + 1, 0, none⟩ = some (.slice A' m c') ∧ w7.frozen? ⟨g + 1, 0, none⟩ = false :=
  ⟨cell_of_row w7 (g + 1) 0 _ _ (0, 0) h.set, frozen_of_row w7 (g + 1) 0 _ _ h.set⟩
theorem Grown.new {w7 : World} {g ft K : Nat} {ob : Obj} {s : St} {A' : Option Addr} {m c' g7 c7 : Nat} {x : Int} (h : Grown w7 g ft K ob s A' m c' g7 c7 x) :
    Swp (w7.setCell ⟨g + 1, 0, none⟩ (.slice (some ⟨g7, 0, none⟩) (m + 1) c7)) g ft K ob ⟨s.o0, s.o1, s.tk, s.set ++ [⟨x, 0⟩]⟩ (some ⟨g7, 0, none⟩) (m + 1) c7 :=
  have f := h.far
  ⟨(heap_setCell_other _ _ _ _ (by simp only []; omega)).trans h.tks, heap_setCell_same _ _ _ _ _ _ h.set, (heap_setCell_other _ _ _ _ (by simp only []; omega)).trans h.ovr, (heap_setCell_other _ _ _ _ (by simp only []; omega)).trans h.tkn,
    own_low_set h.row (by simp only []; omega) _, (heap_setCell_other _ _ _ _ (by simp only []; omega)).trans h.obj, h.far, h.ne⟩
theorem Swp.last {W : World} {g ft K : Nat} {ob : Obj} {s : St} {A' : Option Addr} {m c' : Nat} (h : Swp W g ft K ob s A' m c') (hne : s.set ≠ []) :
    ∃ gr m', A' = some ⟨gr, 0, none⟩ ∧ m = m' + 1 ∧ s.set.length = m' + 1 ∧ (∃ v, W.cell? ⟨gr, m' * 2 + 1, none⟩ = some v) ∧ W.frozen? ⟨gr, m' * 2 + 1, none⟩ = false := by
  have hl := own_plen h.row
  obtain ⟨m', rfl⟩ : ∃ k, m = k + 1 := ⟨m - 1, by have := List.length_pos_iff.2 hne; omega⟩
  obtain ⟨gr, cap, hv, _, _⟩ := h.row.form (Nat.succ_pos m')
  injection hv with hA
  subst hA
  have hg : s.set[m']? = some s.set[m'] := List.getElem?_eq_getElem (by omega)
  have h1 := own_at h.row (ints_get (flat2_get hg).2)
  exact ⟨gr, m', rfl, rfl, hl, ⟨_, h1.1⟩, h1.2⟩
theorem Swp.shut {W : World} {g ft K : Nat} {ob : Obj} {s : St} {gr m' c' : Nat} {x : Int} (h : Swp W g ft K ob s (some ⟨gr, 0, none⟩) (m' + 1) c') :
    Swp (W.setCell ⟨gr, m' * 2 + 1, none⟩ (.int .i64 x)) g ft K ob { s with set := setLast s.set x } (some ⟨gr, 0, none⟩) (m' + 1) c' := by
  have hgr := (h.row.lt gr rfl).1
  have hK : gr ≠ K := h.ne _ rfl
  have hl := own_plen h.row
  have hrow : (W.setCell ⟨gr, m' * 2 + 1, none⟩ (.int .i64 x)).ownsRow (g + 4) 24 2 (.slice (some ⟨gr, 0, none⟩) (m' + 1) c') (m' + 1) (ints (flat2 (setLast s.set x))) := by
    rcases List.eq_nil_or_concat s.set with e | ⟨t, q, e⟩
    · rw [e] at hl; cases hl
    · rw [List.concat_eq_append] at e
      have hr := h.row
      rw [e] at hl hr ⊢
      rw [setLast_snoc, flat2_set, ints_set, show t.length = m' by rw [List.length_append] at hl; simpa using hl]
      exact own_store hr _ _
  exact ⟨(heap_setCell_other _ _ _ _ (by simp only []; omega)).trans h.tks, (heap_setCell_other _ _ _ _ (by simp only []; omega)).trans h.set, (heap_setCell_other _ _ _ _ (by simp only []; omega)).trans h.ovr, (heap_setCell_other _ _ _ _ (by simp only []; omega)).trans h.tkn,
    hrow, (heap_setCell_other _ _ _ _ (by simp only []; omega)).trans h.obj, h.far, h.ne⟩

set_option maxHeartbeats 4000000 in
theorem step_any {op : Bool → Bool → Bool} (ft : Nat) (eg : ∀ args w, (callFunc ft args).run Try.prog w = .ok (.enter ft args) w)
    (CT : ∀ (x y : Bool) W, Calls Try.prog ft #[.bool x, .bool y] W fun e w' => e = .returned (.bool (op x y)) ∧ w' = W)
    (W : World) (g K : Nat) (ob : Obj) (s : St) (A' : Option Addr) (m c' : Nat) (h : Swp W g ft K ob s A' m c') (b : Bd) (last : Bool)
    (h0 : -1000 ≤ s.o0 ∧ s.o0 ≤ 1000) (h1 : -1000 ≤ s.o1 ∧ s.o1 ≤ 1000) (hs : s.tk = true → s.set ≠ []) (hm : m ≤ 1000) :
    Calls Try.prog 37 #[.agg #[.int .i64 b.x, .int .i64 (bi b.j), .int .i64 (stp b.u)], .bool last, .pointer (some ⟨g + 2, 0, none⟩), .pointer (some ⟨g, 0, none⟩), .pointer (some ⟨g + 3, 0, none⟩), .pointer (some ⟨g + 1, 0, none⟩)] W fun e w' =>
      e = .returned (.tuple #[]) ∧ ∃ A2 m2 c2, Swp w' g ft K ob (pass op s b last) A2 m2 c2 ∧ Lows g W w' := by
  obtain ⟨x, j, u⟩ := b
  have hst : stp u = 1 ∨ stp u = -1 := by cases u <;> simp [stp]
  obtain ⟨i0, hi, hz0, hz1, hz2⟩ := info_parts info_span
  cases j
  · have e1 : bi false = 0 := rfl
    simp only [e1]
    obtain ⟨t, ht⟩ : ∃ t, stp u = t := ⟨_, rfl⟩
    have HT := Lib.hid ht
    rw [ht] at hst ⊢
    have w1' : IntKind.i64.wrap (s.o0 + t) = s.o0 + t := IntWalk.i64_in _ (by omega)
    obtain ⟨WX, hWX⟩ : ∃ X, W.alloc (.cells #[.int .i64 x, .int .i64 0, .int .i64 t] 57) = X := ⟨_, rfl⟩
    have hWX' : bx3 W x 0 t = WX := hWX
    obtain ⟨b0, b1, b2⟩ := box_three W x 0 t
    have hlow := box_low3 W x 0 t
    have hbw : Below (W.heap.size + 1) WX WX := Below.refl _ _
    rw [hWX'] at b0 b1 b2 hlow
    have hpX : W.heap.size < WX.heap.size := by rw [← hWX]; simp
    have hgW := h.lt
    have HX := Lib.hid (h.below hlow)
    obtain ⟨q0, q1, q2, q3, q4⟩ := HX.out.cells
    obtain ⟨f1, f2, f3, f4⟩ := HX.out.free
    have qq' : WX.drew.cell? ⟨g + 2, 0, none⟩ = some (.int .i64 s.o0) := q2
    have ff' : WX.drew.frozen? ⟨g + 2, 0, none⟩ = false := f2
    have hlt := HX.out.lt
    obtain ⟨W1, hW1⟩ : ∃ X, WX.drew.setCell ⟨g + 2, 0, none⟩ (.int .i64 (s.o0 + t)) = X := ⟨_, rfl⟩
    have HD := Lib.hid (HX.out.below (below_drewN WX 1))
    have H1 := Lib.hid (HD.out.open0 (s.o0 + t))
    rw [show (WX.drewN 1).setCell ⟨g + 2, 0, none⟩ (.int .i64 (s.o0 + t)) = W1 from hW1] at H1
    have HL := Lib.hid (show Lows g W W1 from fun w0 hw0 hb => by
      rw [← hW1]
      exact ((hb.trans (hlow.mono hb.size)).trans ((below_drewN WX 1).mono (Nat.le_trans hb.size hlow.size))).setCell (p := ⟨g + 2, 0, none⟩) (by simp only []; omega) _)
    have c0 : W1.cell? ⟨W.heap.size, 0, none⟩ = some (.int .i64 x) := by
      rw [← hW1, World.cell?_setCell_other _ _ _ _ (fun e => by injection e with e; omega)]; exact b0
    have hpp : W.heap.size < W1.heap.size := by rw [← hW1, World.size_setCell]; exact hpX
    have hp0 : pass op s ⟨x, false, u⟩ last = fin op { s with o0 := s.o0 + t } x last := by rw [← ht]; rfl
    have HNE := Lib.hid (show ({ s with o0 := s.o0 + t } : St).tk = true → ({ s with o0 := s.o0 + t } : St).set ≠ [] from hs)
    rw [hp0]
    obtain ⟨s1, hs1⟩ : ∃ S : St, { s with o0 := s.o0 + t } = S := ⟨_, rfl⟩
    rw [hs1] at H1 HNE ⊢
    go_enter Try.func37, Try.ntmps37
    go_wp2
    go_still_tail 7, (by kernel_rfl)
    change wpList _ _ _ _ _ WX.drew
    clear h hWX' hlow hs hp0
    go_wp2
    clear qq' ff' q0 q1 q2 q3 q4 f1 f2 f3 f4 b0 b1 b2 HX HD hWX hs1 hst w1'
    obtain ⟨q0, q1, q2, q3, q4⟩ := H1.out.cells
    cases last
    · have HP := Lib.hid (show fin op s1 x false = s1 from rfl)
      go_quiet (fail)
      go_wp2
      (try simp only [Exit.inBlock, Exit.then]); refine bodyPost_ret (results_none rfl _ _ _) rfl ?_
      refine ⟨rfl, A', m, c', ?_, HL.out.trans (below_drewN W1 _)⟩
      rw [HP.out]
      exact H1.out.below (below_drewN W1 _)
    · obtain ⟨v, hv⟩ : ∃ v, op (decide (0 < s1.o0)) (decide (0 < s1.o1)) = v := ⟨_, rfl⟩
      have CT' := fun W => CT (decide (0 < s1.o0)) (decide (0 < s1.o1)) W
      rw [hv] at CT'
      obtain ⟨tk, htk⟩ : ∃ b, s1.tk = b := ⟨_, rfl⟩
      have HP := Lib.hid (fin_true x hv htk)
      have HTK := Lib.hid htk
      rw [htk] at q4
      clear hv htk
      cases v
      · cases tk
        · go_wp2
          go_quiet ((go_at_fn ft; exact Calls.quiet_of_same (CT' _)))
          go_wp2
          (try simp only [Exit.inBlock, Exit.then]); refine bodyPost_ret (results_none rfl _ _ _) rfl ?_
          refine ⟨rfl, A', m, c', ?_, HL.out.trans (below_drewN W1 _)⟩
          rw [HP.out]
          exact H1.out.below (below_drewN W1 _)
        · replace HNE := Lib.hid (HNE.out HTK.out)
          go_wp2
          go_quiet ((go_at_fn ft; exact Calls.quiet_of_same (CT' _)))
          have HQ := Lib.hid (H1.out.below (below_drewN W1 nq))
          have HLq := Lib.hid (HL.out.trans (below_drewN W1 nq))
          have c0q : (W1.drewN nq).cell? ⟨W.heap.size, 0, none⟩ = some (.int .i64 x) := c0
          have hpq : W.heap.size < (W1.drewN nq).heap.size := hpp
          obtain ⟨Wq, hWq⟩ : ∃ X, W1.drewN nq = X := ⟨_, rfl⟩
          rw [hWq] at HQ HLq c0q hpq ⊢
          obtain ⟨k0, k1, k2, k3, k4⟩ := HQ.out.cells
          obtain ⟨z1, z2, z3, z4⟩ := HQ.out.free
          rw [HTK.out] at k4
          obtain ⟨W2, hW2⟩ : ∃ X, Wq.setCell ⟨g + 3, 0, none⟩ (.bool false) = X := ⟨_, rfl⟩
          have H2 := Lib.hid (HQ.out.take false)
          rw [hW2] at H2
          have HL2 := Lib.hid (HLq.out.set (p := ⟨g + 3, 0, none⟩) (by simp only []; omega) (.bool false))
          rw [hW2] at HL2
          have c02 : W2.cell? ⟨W.heap.size, 0, none⟩ = some (.int .i64 x) := by
            rw [← hW2, World.cell?_setCell_other _ _ _ _ (fun e => by injection e with e; omega)]; exact c0q
          have hp2 : W.heap.size < W2.heap.size := by rw [← hW2, World.size_setCell]; exact hpq
          clear c0q hpq hWq c0 hpp hW1 k0 k1 k2 k3 z1 z2 z3
          obtain ⟨l0, l1, l2, l3, l4⟩ := H2.out.cells
          obtain ⟨y1, y2, y3, y4⟩ := H2.out.free
          clear l0 l2 l3 y2 y3
          obtain ⟨gr, m', rfl, rfl, hm1, ⟨v0, hc1⟩, hf1⟩ := H2.out.last HNE.out
          have z3' : IntKind.i64.wrap (((m' + 1 : Nat) : Int) - 1) = (m' : Int) := by rw [IntWalk.i64_in _ (by omega)]; omega
          have z4' : ((m' + 1 : Nat) : Int) - 1 = (m' : Int) := by omega
          have j0' : (0 : Int) ≤ (m' : Int) := Int.natCast_nonneg m'
          have jn' : (m' : Int) < ((m' + 1 : Nat) : Int) := by omega
          have hlt2 := H2.out.lt
          have hgr : g + 4 ≤ gr := (H2.out.row.lt gr rfl).1
          go_wp2
          go_end0
          refine ⟨rfl, ⟨some ⟨gr, 0, none⟩, m' + 1, c', ?_⟩, HL2.out.set (p := ⟨gr, m' * 2 + 1, none⟩) (by simp only []; omega) _⟩
          rw [HP.out]
          exact H2.out.shut
      · cases tk
        · go_wp2
          go_quiet ((go_at_fn ft; exact Calls.quiet_of_same (CT' _)))
          have HQ := Lib.hid (H1.out.below (below_drewN W1 nq))
          have HLq := Lib.hid (HL.out.trans (below_drewN W1 nq))
          have c0q : (W1.drewN nq).cell? ⟨W.heap.size, 0, none⟩ = some (.int .i64 x) := c0
          have hpq : W.heap.size < (W1.drewN nq).heap.size := hpp
          obtain ⟨Wq, hWq⟩ : ∃ X, W1.drewN nq = X := ⟨_, rfl⟩
          rw [hWq] at HQ HLq c0q hpq ⊢
          obtain ⟨k0, k1, k2, k3, k4⟩ := HQ.out.cells
          obtain ⟨z1, z2, z3, z4⟩ := HQ.out.free
          rw [HTK.out] at k4
          obtain ⟨W2, hW2⟩ : ∃ X, Wq.setCell ⟨g + 3, 0, none⟩ (.bool true) = X := ⟨_, rfl⟩
          have H2 := Lib.hid (HQ.out.take true)
          rw [hW2] at H2
          have HL2 := Lib.hid (HLq.out.set (p := ⟨g + 3, 0, none⟩) (by simp only []; omega) (.bool true))
          rw [hW2] at HL2
          have c02 : W2.cell? ⟨W.heap.size, 0, none⟩ = some (.int .i64 x) := by
            rw [← hW2, World.cell?_setCell_other _ _ _ _ (fun e => by injection e with e; omega)]; exact c0q
          have hp2 : W.heap.size < W2.heap.size := by rw [← hW2, World.size_setCell]; exact hpq
          clear c0q hpq hWq c0 hpp hW1 k0 k1 k2 k3 z1 z2 z3
          obtain ⟨l0, l1, l2, l3, l4⟩ := H2.out.cells
          obtain ⟨y1, y2, y3, y4⟩ := H2.out.free
          clear l0 l2 l3 y2 y3
          have hrow := H2.out.row
          have hlt2 := H2.out.lt
          go_wp2_with (at_builtin; refine wpList_append_lies _ rfl _ _ 22 rfl (g + 4) 24 i0 _ 2 16 Try.underlying22 hi hz0 hz1 hz2 rfl (by decide) _ _ _ rfl (hrow.alloc _) ⟨W2.heap.size, 0, none⟩ 1 1 [.int .i64 x, .int .i64 0] rfl rfl (cells_new _ _ _) (by simp [Value.oneCell']) (by decide) (by unfold maxLen; omega) (by omega) (by simp; omega) (W2.heap.size + 1) (by simp) ?_; intro g7 c7 w7 hown7 hgrow7 hat7 hlt7; have H7 := Lib.hid (H2.out.grown hgrow7 hown7 hat7); have HL7 := Lib.hid (HL2.out.grown H2.out hgrow7); obtain ⟨n1, r1⟩ := H7.out.free)
          go_end0
          refine ⟨rfl, ⟨some ⟨g7, 0, none⟩, m + 1, c7, ?_⟩, HL7.out.set (p := ⟨g + 1, 0, none⟩) (by simp only []; omega) _⟩
          rw [HP.out]
          exact H7.out.new
        · go_wp2
          go_quiet ((go_at_fn ft; exact Calls.quiet_of_same (CT' _)))
          go_wp2
          (try simp only [Exit.inBlock, Exit.then]); refine bodyPost_ret (results_none rfl _ _ _) rfl ?_
          refine ⟨rfl, A', m, c', ?_, HL.out.trans (below_drewN W1 _)⟩
          rw [HP.out]
          exact H1.out.below (below_drewN W1 _)
  · have e1 : bi true = 1 := rfl
    simp only [e1]
    obtain ⟨t, ht⟩ : ∃ t, stp u = t := ⟨_, rfl⟩
    have HT := Lib.hid ht
    rw [ht] at hst ⊢
    have w1' : IntKind.i64.wrap (s.o1 + t) = s.o1 + t := IntWalk.i64_in _ (by omega)
    obtain ⟨WX, hWX⟩ : ∃ X, W.alloc (.cells #[.int .i64 x, .int .i64 1, .int .i64 t] 57) = X := ⟨_, rfl⟩
    have hWX' : bx3 W x 1 t = WX := hWX
    obtain ⟨b0, b1, b2⟩ := box_three W x 1 t
    have hlow := box_low3 W x 1 t
    have hbw : Below (W.heap.size + 1) WX WX := Below.refl _ _
    rw [hWX'] at b0 b1 b2 hlow
    have hpX : W.heap.size < WX.heap.size := by rw [← hWX]; simp
    have hgW := h.lt
    have HX := Lib.hid (h.below hlow)
    obtain ⟨q0, q1, q2, q3, q4⟩ := HX.out.cells
    obtain ⟨f1, f2, f3, f4⟩ := HX.out.free
    have qq' : WX.drew.cell? ⟨g + 2, 1, none⟩ = some (.int .i64 s.o1) := q3
    have ff' : WX.drew.frozen? ⟨g + 2, 1, none⟩ = false := f3
    have hlt := HX.out.lt
    obtain ⟨W1, hW1⟩ : ∃ X, WX.drew.setCell ⟨g + 2, 1, none⟩ (.int .i64 (s.o1 + t)) = X := ⟨_, rfl⟩
    have HD := Lib.hid (HX.out.below (below_drewN WX 1))
    have H1 := Lib.hid (HD.out.open1 (s.o1 + t))
    rw [show (WX.drewN 1).setCell ⟨g + 2, 1, none⟩ (.int .i64 (s.o1 + t)) = W1 from hW1] at H1
    have HL := Lib.hid (show Lows g W W1 from fun w0 hw0 hb => by
      rw [← hW1]
      exact ((hb.trans (hlow.mono hb.size)).trans ((below_drewN WX 1).mono (Nat.le_trans hb.size hlow.size))).setCell (p := ⟨g + 2, 1, none⟩) (by simp only []; omega) _)
    have c0 : W1.cell? ⟨W.heap.size, 0, none⟩ = some (.int .i64 x) := by
      rw [← hW1, World.cell?_setCell_other _ _ _ _ (fun e => by injection e with e; omega)]; exact b0
    have hpp : W.heap.size < W1.heap.size := by rw [← hW1, World.size_setCell]; exact hpX
    have hp0 : pass op s ⟨x, true, u⟩ last = fin op { s with o1 := s.o1 + t } x last := by rw [← ht]; rfl
    have HNE := Lib.hid (show ({ s with o1 := s.o1 + t } : St).tk = true → ({ s with o1 := s.o1 + t } : St).set ≠ [] from hs)
    rw [hp0]
    obtain ⟨s1, hs1⟩ : ∃ S : St, { s with o1 := s.o1 + t } = S := ⟨_, rfl⟩
    rw [hs1] at H1 HNE ⊢
    go_enter Try.func37, Try.ntmps37
    go_wp2
    go_still_tail 7, (by kernel_rfl)
    change wpList _ _ _ _ _ WX.drew
    clear h hWX' hlow hs hp0
    go_wp2
    clear qq' ff' q0 q1 q2 q3 q4 f1 f2 f3 f4 b0 b1 b2 HX HD hWX hs1 hst w1'
    obtain ⟨q0, q1, q2, q3, q4⟩ := H1.out.cells
    cases last
    · have HP := Lib.hid (show fin op s1 x false = s1 from rfl)
      go_quiet (fail)
      go_wp2
      (try simp only [Exit.inBlock, Exit.then]); refine bodyPost_ret (results_none rfl _ _ _) rfl ?_
      refine ⟨rfl, A', m, c', ?_, HL.out.trans (below_drewN W1 _)⟩
      rw [HP.out]
      exact H1.out.below (below_drewN W1 _)
    · obtain ⟨v, hv⟩ : ∃ v, op (decide (0 < s1.o0)) (decide (0 < s1.o1)) = v := ⟨_, rfl⟩
      have CT' := fun W => CT (decide (0 < s1.o0)) (decide (0 < s1.o1)) W
      rw [hv] at CT'
      obtain ⟨tk, htk⟩ : ∃ b, s1.tk = b := ⟨_, rfl⟩
      have HP := Lib.hid (fin_true x hv htk)
      have HTK := Lib.hid htk
      rw [htk] at q4
      clear hv htk
      cases v
      · cases tk
        · go_wp2
          go_quiet ((go_at_fn ft; exact Calls.quiet_of_same (CT' _)))
          go_wp2
          (try simp only [Exit.inBlock, Exit.then]); refine bodyPost_ret (results_none rfl _ _ _) rfl ?_
          refine ⟨rfl, A', m, c', ?_, HL.out.trans (below_drewN W1 _)⟩
          rw [HP.out]
          exact H1.out.below (below_drewN W1 _)
        · replace HNE := Lib.hid (HNE.out HTK.out)
          go_wp2
          go_quiet ((go_at_fn ft; exact Calls.quiet_of_same (CT' _)))
          have HQ := Lib.hid (H1.out.below (below_drewN W1 nq))
          have HLq := Lib.hid (HL.out.trans (below_drewN W1 nq))
          have c0q : (W1.drewN nq).cell? ⟨W.heap.size, 0, none⟩ = some (.int .i64 x) := c0
          have hpq : W.heap.size < (W1.drewN nq).heap.size := hpp
          obtain ⟨Wq, hWq⟩ : ∃ X, W1.drewN nq = X := ⟨_, rfl⟩
          rw [hWq] at HQ HLq c0q hpq ⊢
          obtain ⟨k0, k1, k2, k3, k4⟩ := HQ.out.cells
          obtain ⟨z1, z2, z3, z4⟩ := HQ.out.free
          rw [HTK.out] at k4
          obtain ⟨W2, hW2⟩ : ∃ X, Wq.setCell ⟨g + 3, 0, none⟩ (.bool false) = X := ⟨_, rfl⟩
          have H2 := Lib.hid (HQ.out.take false)
          rw [hW2] at H2
          have HL2 := Lib.hid (HLq.out.set (p := ⟨g + 3, 0, none⟩) (by simp only []; omega) (.bool false))
          rw [hW2] at HL2
          have c02 : W2.cell? ⟨W.heap.size, 0, none⟩ = some (.int .i64 x) := by
            rw [← hW2, World.cell?_setCell_other _ _ _ _ (fun e => by injection e with e; omega)]; exact c0q
          have hp2 : W.heap.size < W2.heap.size := by rw [← hW2, World.size_setCell]; exact hpq
          clear c0q hpq hWq c0 hpp hW1 k0 k1 k2 k3 z1 z2 z3
          obtain ⟨l0, l1, l2, l3, l4⟩ := H2.out.cells
          obtain ⟨y1, y2, y3, y4⟩ := H2.out.free
          clear l0 l2 l3 y2 y3
          obtain ⟨gr, m', rfl, rfl, hm1, ⟨v0, hc1⟩, hf1⟩ := H2.out.last HNE.out
          have z3' : IntKind.i64.wrap (((m' + 1 : Nat) : Int) - 1) = (m' : Int) := by rw [IntWalk.i64_in _ (by omega)]; omega
          have z4' : ((m' + 1 : Nat) : Int) - 1 = (m' : Int) := by omega
          have j0' : (0 : Int) ≤ (m' : Int) := Int.natCast_nonneg m'
          have jn' : (m' : Int) < ((m' + 1 : Nat) : Int) := by omega
          have hlt2 := H2.out.lt
          have hgr : g + 4 ≤ gr := (H2.out.row.lt gr rfl).1
          go_wp2
          go_end0
          refine ⟨rfl, ⟨some ⟨gr, 0, none⟩, m' + 1, c', ?_⟩, HL2.out.set (p := ⟨gr, m' * 2 + 1, none⟩) (by simp only []; omega) _⟩
          rw [HP.out]
          exact H2.out.shut
      · cases tk
        · go_wp2
          go_quiet ((go_at_fn ft; exact Calls.quiet_of_same (CT' _)))
          have HQ := Lib.hid (H1.out.below (below_drewN W1 nq))
          have HLq := Lib.hid (HL.out.trans (below_drewN W1 nq))
          have c0q : (W1.drewN nq).cell? ⟨W.heap.size, 0, none⟩ = some (.int .i64 x) := c0
          have hpq : W.heap.size < (W1.drewN nq).heap.size := hpp
          obtain ⟨Wq, hWq⟩ : ∃ X, W1.drewN nq = X := ⟨_, rfl⟩
          rw [hWq] at HQ HLq c0q hpq ⊢
          obtain ⟨k0, k1, k2, k3, k4⟩ := HQ.out.cells
          obtain ⟨z1, z2, z3, z4⟩ := HQ.out.free
          rw [HTK.out] at k4
          obtain ⟨W2, hW2⟩ : ∃ X, Wq.setCell ⟨g + 3, 0, none⟩ (.bool true) = X := ⟨_, rfl⟩
          have H2 := Lib.hid (HQ.out.take true)
          rw [hW2] at H2
          have HL2 := Lib.hid (HLq.out.set (p := ⟨g + 3, 0, none⟩) (by simp only []; omega) (.bool true))
          rw [hW2] at HL2
          have c02 : W2.cell? ⟨W.heap.size, 0, none⟩ = some (.int .i64 x) := by
            rw [← hW2, World.cell?_setCell_other _ _ _ _ (fun e => by injection e with e; omega)]; exact c0q
          have hp2 : W.heap.size < W2.heap.size := by rw [← hW2, World.size_setCell]; exact hpq
          clear c0q hpq hWq c0 hpp hW1 k0 k1 k2 k3 z1 z2 z3
          obtain ⟨l0, l1, l2, l3, l4⟩ := H2.out.cells
          obtain ⟨y1, y2, y3, y4⟩ := H2.out.free
          clear l0 l2 l3 y2 y3
          have hrow := H2.out.row
          have hlt2 := H2.out.lt
          go_wp2_with (at_builtin; refine wpList_append_lies _ rfl _ _ 22 rfl (g + 4) 24 i0 _ 2 16 Try.underlying22 hi hz0 hz1 hz2 rfl (by decide) _ _ _ rfl (hrow.alloc _) ⟨W2.heap.size, 0, none⟩ 1 1 [.int .i64 x, .int .i64 0] rfl rfl (cells_new _ _ _) (by simp [Value.oneCell']) (by decide) (by unfold maxLen; omega) (by omega) (by simp; omega) (W2.heap.size + 1) (by simp) ?_; intro g7 c7 w7 hown7 hgrow7 hat7 hlt7; have H7 := Lib.hid (H2.out.grown hgrow7 hown7 hat7); have HL7 := Lib.hid (HL2.out.grown H2.out hgrow7); obtain ⟨n1, r1⟩ := H7.out.free)
          go_end0
          refine ⟨rfl, ⟨some ⟨g7, 0, none⟩, m + 1, c7, ?_⟩, HL7.out.set (p := ⟨g + 1, 0, none⟩) (by simp only []; omega) _⟩
          rw [HP.out]
          exact H7.out.new
        · go_wp2
          go_quiet ((go_at_fn ft; exact Calls.quiet_of_same (CT' _)))
          go_wp2
          (try simp only [Exit.inBlock, Exit.then]); refine bodyPost_ret (results_none rfl _ _ _) rfl ?_
          refine ⟨rfl, A', m, c', ?_, HL.out.trans (below_drewN W1 _)⟩
          rw [HP.out]
          exact H1.out.below (below_drewN W1 _)
end Go.Proofs.Ytkmbidmncnlbkaa
