/-
  Walk of the law NameMatchesReference: it returns true for every three texts, every list of numbers and every int. The world must hold the program's table of kinds, and the numbers.
-/
import Derived.Test.YtimlfdlocjfgaaaDoorQ
import Derived.Deep.RegionHeld3
import Derived.Deep.DeepCutAuto
import Derived.Test.YtimlfdlocjfgaaaDoorO
import Derived.Test.YtimlfdlocjfgaaaDoorK
import Derived.Test.YtimlfdlocjfgaaaDoorL
import Derived.Test.YtimlfdlocjfgaaaDoorM
import Derived.Test.YtimlfdlocjfgaaaDoorN
namespace Go.Proofs.YtimlfdlocjfgaaaDoor
open Go.RowKit Pl
set_option maxHeartbeats 400000

/-- The box of the law's three texts. -/
def Box3 (w : World) (a b d : ByteArray) (W : World) : Prop :=
  W.cell? ⟨w.heap.size, 0, none⟩ = some (.string a) ∧ W.cell? ⟨w.heap.size, 1, none⟩ = some (.string b) ∧ W.cell? ⟨w.heap.size, 2, none⟩ = some (.string d) ∧ Below w.heap.size w W
theorem Box3.step {w : World} {a b d : ByteArray} {W W' : World} (h : Box3 w a b d W) (hb : Below W.heap.size W W') : Box3 w a b d W' :=
  ⟨(hb.cell (block_lt_of_cell h.1)).trans h.1, (hb.cell (block_lt_of_cell h.2.1)).trans h.2.1, (hb.cell (block_lt_of_cell h.2.2.1)).trans h.2.2.1, h.2.2.2.trans (hb.mono h.2.2.2.size)⟩
theorem Box3.drew {w : World} {a b d : ByteArray} {W : World} (h : Box3 w a b d W) : Box3 w a b d W.drew := h.step (Below.refl _ _).drew
theorem box3_start (w : World) (a b d : ByteArray) : Box3 w a b d (w.alloc (.cells #[.string a, .string b, .string d] 22)) := by
  refine ⟨?_, ?_, ?_, ?_⟩
  · go_cell
  · go_cell
  · go_cell
  · exact (Below.refl _ w).alloc (Nat.le_refl _) _
/-- It, and the box of the four texts. -/
def Box7 (w : World) (g : Nat) (a b d x : ByteArray) (W : World) : Prop :=
  Box3 w a b d W ∧ W.cell? ⟨g, 0, none⟩ = some (.string a) ∧ W.cell? ⟨g, 1, none⟩ = some (.string b) ∧ W.cell? ⟨g, 2, none⟩ = some (.string d) ∧ W.cell? ⟨g, 3, none⟩ = some (.string x)
theorem Box7.step {w : World} {g : Nat} {a b d x : ByteArray} {W W' : World} (h : Box7 w g a b d x W) (hb : Below W.heap.size W W') : Box7 w g a b d x W' :=
  ⟨h.1.step hb, (hb.cell (block_lt_of_cell h.2.1)).trans h.2.1, (hb.cell (block_lt_of_cell h.2.2.1)).trans h.2.2.1, (hb.cell (block_lt_of_cell h.2.2.2.1)).trans h.2.2.2.1, (hb.cell (block_lt_of_cell h.2.2.2.2)).trans h.2.2.2.2⟩
theorem Box7.drew {w : World} {g : Nat} {a b d x : ByteArray} {W : World} (h : Box7 w g a b d x W) : Box7 w g a b d x W.drew := h.step (Below.refl _ _).drew
theorem box7_start {w : World} {a b d x : ByteArray} {W : World} (h : Box3 w a b d W) : Box7 w W.heap.size a b d x (W.alloc (.cells #[.string a, .string b, .string d, .string x] 26)) := by
  refine ⟨h.step ((Below.refl _ W).alloc (Nat.le_refl _) _), ?_, ?_, ?_, ?_⟩
  · go_cell
  · go_cell
  · go_cell
  · go_cell

theorem after4 {w w1 : World} {x y z u : Value} {t : TypeId} (hb : Below (w.alloc (.cells #[x, y, z, u] t)).drew.heap.size (w.alloc (.cells #[x, y, z, u] t)).drew w1) :
    w1.cell? ⟨w.heap.size, 0, none⟩ = some x ∧ w1.cell? ⟨w.heap.size, 1, none⟩ = some y ∧ w1.cell? ⟨w.heap.size, 2, none⟩ = some z ∧ w1.cell? ⟨w.heap.size, 3, none⟩ = some u ∧ w1.frozen? ⟨w.heap.size, 0, none⟩ = false ∧ w1.frozen? ⟨w.heap.size, 1, none⟩ = false ∧ w1.frozen? ⟨w.heap.size, 2, none⟩ = false ∧ w1.frozen? ⟨w.heap.size, 3, none⟩ = false ∧ w.heap.size < w1.heap.size := by
  have hn := heap_alloc_new w (.cells #[x, y, z, u] t)
  have hl : w.heap.size < (w.alloc (.cells #[x, y, z, u] t)).drew.heap.size := by simp
  have hc : ∀ (i : Nat) (v : Value), #[x, y, z, u][i]? = some v → (w.alloc (.cells #[x, y, z, u] t)).drew.cell? ⟨w.heap.size, i, none⟩ = some v := fun i v hv => by
    have h0 := cell_of_row (w.alloc (.cells #[x, y, z, u] t)) w.heap.size i #[x, y, z, u] t (0, 0) hn
    rw [hv] at h0
    exact h0
  have hf : ∀ (i : Nat), (w.alloc (.cells #[x, y, z, u] t)).drew.frozen? ⟨w.heap.size, i, none⟩ = false := fun i => frozen_of_row (w.alloc (.cells #[x, y, z, u] t)) w.heap.size i #[x, y, z, u] t hn
  exact ⟨(hb.cell (p := ⟨w.heap.size, 0, none⟩) hl).trans (hc 0 x rfl), (hb.cell (p := ⟨w.heap.size, 1, none⟩) hl).trans (hc 1 y rfl), (hb.cell (p := ⟨w.heap.size, 2, none⟩) hl).trans (hc 2 z rfl), (hb.cell (p := ⟨w.heap.size, 3, none⟩) hl).trans (hc 3 u rfl),
    (hb.frozen (p := ⟨w.heap.size, 0, none⟩) hl).trans (hf 0), (hb.frozen (p := ⟨w.heap.size, 1, none⟩) hl).trans (hf 1), (hb.frozen (p := ⟨w.heap.size, 2, none⟩) hl).trans (hf 2), (hb.frozen (p := ⟨w.heap.size, 3, none⟩) hl).trans (hf 3), Nat.lt_of_lt_of_le hl hb.size⟩

theorem four_far {W : World} {g b i : Nat} {x y z u v : Value} (hne : b < g) (h : W.cell? ⟨b, i, none⟩ = some v) :
    ((((W.setCell ⟨g, 0, none⟩ x).setCell ⟨g, 1, none⟩ y).setCell ⟨g, 2, none⟩ z).setCell ⟨g, 3, none⟩ u).cell? ⟨b, i, none⟩ = some v := by
  have hk : ∀ (k : Nat), (⟨g, k, none⟩ : Addr) ≠ ⟨b, i, none⟩ := fun k e => by injection e; omega
  rw [World.cell?_setCell_other _ _ _ _ (hk 3), World.cell?_setCell_other _ _ _ _ (hk 2), World.cell?_setCell_other _ _ _ _ (hk 1), World.cell?_setCell_other _ _ _ _ (hk 0)]
  exact h
theorem alloc_keep {W : World} {o : Obj} {p : Addr} {v : Value} (h : W.cell? p = some v) : (W.alloc o).cell? p = some v :=
  (((Below.refl _ W).alloc (Nat.le_refl _) o).cell (block_lt_of_cell h)).trans h

theorem four_near {W : World} {g : Nat} {x y z u x' y' z' u' : Value} (h0 : W.cell? ⟨g, 0, none⟩ = some x') (h1 : W.cell? ⟨g, 1, none⟩ = some y') (h2 : W.cell? ⟨g, 2, none⟩ = some z') (h3 : W.cell? ⟨g, 3, none⟩ = some u') :
    ((((W.setCell ⟨g, 0, none⟩ x).setCell ⟨g, 1, none⟩ y).setCell ⟨g, 2, none⟩ z).setCell ⟨g, 3, none⟩ u).cell? ⟨g, 0, none⟩ = some x ∧ ((((W.setCell ⟨g, 0, none⟩ x).setCell ⟨g, 1, none⟩ y).setCell ⟨g, 2, none⟩ z).setCell ⟨g, 3, none⟩ u).cell? ⟨g, 1, none⟩ = some y ∧
    ((((W.setCell ⟨g, 0, none⟩ x).setCell ⟨g, 1, none⟩ y).setCell ⟨g, 2, none⟩ z).setCell ⟨g, 3, none⟩ u).cell? ⟨g, 2, none⟩ = some z ∧ ((((W.setCell ⟨g, 0, none⟩ x).setCell ⟨g, 1, none⟩ y).setCell ⟨g, 2, none⟩ z).setCell ⟨g, 3, none⟩ u).cell? ⟨g, 3, none⟩ = some u := by
  have ne : ∀ {i j : Nat}, i ≠ j → (⟨g, i, none⟩ : Addr) ≠ ⟨g, j, none⟩ := fun h e => h (by injection e)
  have o := fun (V : World) (i j : Nat) (t : Value) (h : i ≠ j) => World.cell?_setCell_other V ⟨g, i, none⟩ ⟨g, j, none⟩ t (ne h)
  have sm := fun (V : World) (i : Nat) (t t' : Value) (h : V.cell? ⟨g, i, none⟩ = some t') => World.cell?_setCell_same V ⟨g, i, none⟩ t h
  refine ⟨?_, ?_, ?_, ?_⟩
  · rw [o _ 3 0 _ (by decide), o _ 2 0 _ (by decide), o _ 1 0 _ (by decide)]; exact sm _ 0 _ _ h0
  · rw [o _ 3 1 _ (by decide), o _ 2 1 _ (by decide)]; exact sm _ 1 _ _ (by rw [o _ 0 1 _ (by decide)]; exact h1)
  · rw [o _ 3 2 _ (by decide)]; exact sm _ 2 _ _ (by rw [o _ 1 2 _ (by decide), o _ 0 2 _ (by decide)]; exact h2)
  · exact sm _ 3 _ _ (by rw [o _ 2 3 _ (by decide), o _ 1 3 _ (by decide), o _ 0 3 _ (by decide)]; exact h3)
theorem box7_store {w : World} {g : Nat} {a b d x : ByteArray} {W : World} {x' y' z' u' : Value} (h : Box3 w a b d W) (hg : w.heap.size < g) (h0 : W.cell? ⟨g, 0, none⟩ = some x') (h1 : W.cell? ⟨g, 1, none⟩ = some y') (h2 : W.cell? ⟨g, 2, none⟩ = some z') (h3 : W.cell? ⟨g, 3, none⟩ = some u') :
    Box7 w g a b d x ((((W.setCell ⟨g, 0, none⟩ (.string a)).setCell ⟨g, 1, none⟩ (.string b)).setCell ⟨g, 2, none⟩ (.string d)).setCell ⟨g, 3, none⟩ (.string x)) := by
  obtain ⟨c0, c1, c2, hw⟩ := h
  exact ⟨⟨four_far hg c0, four_far hg c1, four_far hg c2, (((hw.setCell (p := ⟨g, 0, none⟩) (Nat.le_of_lt hg) _).setCell (p := ⟨g, 1, none⟩) (Nat.le_of_lt hg) _).setCell (p := ⟨g, 2, none⟩) (Nat.le_of_lt hg) _).setCell (p := ⟨g, 3, none⟩) (Nat.le_of_lt hg) _⟩, four_near h0 h1 h2 h3⟩
/-- A contract in a world of the boxes, and what is left of them. -/
theorem kept {Bx : World → Prop} (step : ∀ W W' : World, Bx W → Below W.heap.size W W' → Bx W') {c : World → Option Value} {d : Value} (cell : ∀ W : World, Bx W → c W = some d) {f : FuncId} {args : Array Value} {e : Ending} {W : World} (h : Calls Tryd.prog f args W fun x w' => x = e ∧ Below W.heap.size W w') (hx : Bx W) :
    Calls Tryd.prog f args W fun x w' => x = e ∧ c w' = some d ∧ Bx w' :=
  h.mono fun _ _ ⟨he, hb⟩ => ⟨he, cell _ (step _ _ hx hb), step _ _ hx hb⟩
theorem kept0 {Bx : World → Prop} {c : World → Option Value} {d : Value} (cell : ∀ W : World, Bx W → c W = some d) {f : FuncId} {args : Array Value} {e : Ending} {W : World} (h : Calls Tryd.prog f args W fun x w' => x = e ∧ W = w') (hx : Bx W) :
    Calls Tryd.prog f args W fun x w' => x = e ∧ c w' = some d ∧ Bx w' :=
  h.mono fun _ _ ⟨he, hb⟩ => by subst hb; exact ⟨he, cell _ hx, hx⟩
theorem below_drewN (W : World) (n : Nat) : Below W.heap.size W (W.drewN n) :=
  have h := Below.refl W.heap.size W
  ⟨h.os, h.tape, h.output, h.size, h.block⟩
theorem alloc_drew_keep {W : World} {o : Obj} {p : Addr} {v : Value} (h : W.cell? p = some v) : (W.alloc o).drew.cell? p = some v := alloc_keep h

set_option maxRecDepth 100000 in
set_option maxHeartbeats 4000000 in
theorem matches_any (a b d : ByteArray) (ha : a.size ≤ maxLen) (hb : b.size ≤ maxLen) (hd : d.size ≤ maxLen) (A : Option Addr) (n c : Nat) (l : List UInt8) (hn : l.length = n) (hn63 : n ≤ 9223372036854775807) (_ : n ≤ c) (_ : c ≤ 9223372036854775807) (k : Int) (_ : (Lit.int .i64 k).wf = true) (w : World) (hE : Env w) (hA : Byts w A l) :
    Calls Tryd.prog 3 #[.agg #[.string a, .string b, .string d], .slice A n c, .int .i64 k] w fun e w' => e = .returned (.bool true) ∧ Below w.heap.size w w' := by
  unfold maxLen at ha hb hd
  have B0 := Lib.hid (box3_start w a b d)
  have cSan := fun (W : World) (hx : Box3 w a b d W) => (sanity_any W (hE.below hx.2.2.2)).mono (R' := fun e w' => e = .returned (.bool true) ∧ Box3 w a b d w') fun _ _ ⟨he, hb'⟩ => ⟨he, hx.step hb'⟩
  have CSan := Lib.hid cSan
  clear cSan
  by_cases a200 : a.size ≤ 200
  · have da : decide (200 < (a.size : Int)) = false := by simp; omega
    by_cases b200 : b.size ≤ 200
    · have db : decide (200 < (b.size : Int)) = false := by simp; omega
      by_cases d200 : d.size ≤ 200
      · have dd : decide (200 < (d.size : Int)) = false := by simp; omega
        obtain ⟨x, hx⟩ : ∃ x, mk (longS l) = x := ⟨_, rfl⟩
        have hxs : x.size ≤ 170 := by rw [← hx, mk_size]; exact long_len l
        have cL := fun (W : World) (h : Box3 w a b d W) => (long_any A n c l hn hn63 W.drew (hA.below h.drew.2.2.2)).mono (R' := fun e w' => e = .returned (.string x) ∧ Box3 w a b d w') fun _ _ ⟨he, hb'⟩ => ⟨by rw [he, hx], h.drew.step hb'⟩
        have cM := fun (W : World) (h : Box3 w a b d W) => (long_any A n c l hn hn63 (W.alloc (.cells #[.string ⟨#[]⟩, .string ⟨#[]⟩, .string ⟨#[]⟩, .string ⟨#[]⟩] 26)).drew (hA.below (h.step ((Below.refl _ _).alloc (Nat.le_refl _) _)).drew.2.2.2)).mono
          (R' := fun e w' => e = .returned (.string x) ∧ Box3 w a b d w' ∧ w'.cell? ⟨W.heap.size, 0, none⟩ = some (.string ⟨#[]⟩) ∧ w'.cell? ⟨W.heap.size, 1, none⟩ = some (.string ⟨#[]⟩) ∧ w'.cell? ⟨W.heap.size, 2, none⟩ = some (.string ⟨#[]⟩) ∧ w'.cell? ⟨W.heap.size, 3, none⟩ = some (.string ⟨#[]⟩) ∧ w'.frozen? ⟨W.heap.size, 0, none⟩ = false ∧ w'.frozen? ⟨W.heap.size, 1, none⟩ = false ∧ w'.frozen? ⟨W.heap.size, 2, none⟩ = false ∧ w'.frozen? ⟨W.heap.size, 3, none⟩ = false ∧ W.heap.size < w'.heap.size)
          fun _ _ ⟨he, hb'⟩ => ⟨by rw [he, hx], (h.step ((Below.refl _ _).alloc (Nat.le_refl _) _)).drew.step hb', after4 hb'⟩
        have CM := Lib.hid cM
        have CL := Lib.hid cL
        clear cM
        clear cL hx hn
        go_enter Tryd.func3, Tryd.ntmps3
        go_upto_region 4 with (go_at_call 11; refine (CSan.out _ B0.out).mono ?_; rintro e w1 ⟨rfl, t0, t1, t2, bw⟩)
        have HB1 := Lib.hid (show Box3 w a b d w1 from ⟨t0, t1, t2, bw⟩)
        clear B0
        have D0 := Lib.hid (show w1.drew.cell? ⟨w.heap.size, 0, none⟩ = some (.string a) from HB1.out.drew.1)
        have D1 := Lib.hid (show w1.drew.cell? ⟨w.heap.size, 1, none⟩ = some (.string b) from HB1.out.drew.2.1)
        have D2 := Lib.hid (show w1.drew.cell? ⟨w.heap.size, 2, none⟩ = some (.string d) from HB1.out.drew.2.2.1)
        have E0 := Lib.hid t0
        have E1 := Lib.hid t1
        have E2 := Lib.hid t2
        have hlt1 : w.heap.size < w1.heap.size := block_lt_of_cell t0
        go_cut [8] (fun s8 wx => ∃ g : Nat, s8 = .pointer (some ⟨g, 0, none⟩) ∧ Box7 w g a b d x wx)
        case first =>
          (go_region_held (fun W' => W'.cell? ⟨w.heap.size, 0, none⟩ = some (.string a) ∧ W'.cell? ⟨w.heap.size, 1, none⟩ = some (.string b) ∧ W'.cell? ⟨w.heap.size, 2, none⟩ = some (.string d)) (first | with_reducible exact ⟨D0.out, D1.out, D2.out⟩ | with_reducible exact ⟨t0, t1, t2⟩ | with_reducible exact ⟨alloc_keep t0, alloc_keep t1, alloc_keep t2⟩ | with_reducible exact ⟨alloc_drew_keep E0.out, alloc_drew_keep E1.out, alloc_drew_keep E2.out⟩ | with_reducible exact ⟨alloc_keep D0.out, alloc_keep D1.out, alloc_keep D2.out⟩ | with_reducible exact ⟨four_far hlt1 t0, four_far hlt1 t1, four_far hlt1 t2⟩ | fail) (first | (go_at_call 12; first | ((with_reducible refine (CM.out _ HB1.out).mono ?_); rintro e w2 ⟨rfl, ⟨t0, t1, t2, bw⟩, u0, u1, u2, u3, f0, f1, f2, f3, hlt⟩) | ((with_reducible refine (CL.out _ HB1.out).mono ?_); rintro e w2 ⟨rfl, t0, t1, t2, bw⟩))))
          all_goals (go_wp2_with fail; go_meet)
          · exact ⟨w2.heap.size, rfl, box7_start ⟨t0, t1, t2, bw⟩⟩
          · exact ⟨w1.heap.size, rfl, box7_store ⟨t0, t1, t2, bw⟩ hlt1 u0 u1 u2 u3⟩
        case rest =>
          obtain ⟨g, rfl, hx⟩ := hcut
          have HX := Lib.hid hx
          clear t0 t1 t2 bw D0 D1 D2 E0 E1 E2 hx CM CL CSan HB1 hlt1 da db dd
          have st : ∀ W W' : World, Box7 w g a b d x W → Below W.heap.size W W' → Box7 w g a b d x W' := fun _ _ h hb' => h.step hb'
          have ce : ∀ W : World, Box7 w g a b d x W → W.cell? ⟨w.heap.size, 2, none⟩ = some (.string d) := fun _ h => h.1.2.2.1
          have en : ∀ W : World, Box7 w g a b d x W → Env W := fun _ h => hE.below h.1.2.2.2
          have EN := Lib.hid en
          have ST := Lib.hid st
          have CE := Lib.hid ce
          clear st ce en
          go_wp2_with fail
          go_loopw [9, 10, 11] (fun i _ _ wr => ∃ j : Nat, j ≤ 4 ∧ i = .int .i64 j ∧ Box7 w g a b d x wr) (fun i _ _ _ => 4 - (intOf i).toNat)
          case atStart => exact ⟨0, by omega, rfl, HX.out⟩
          case round =>
            obtain ⟨j, hj, rfl, hx⟩ := hrel
            obtain ⟨wo, rfl⟩ : ∃ wo : World, wo = wr := ⟨_, rfl⟩
            clear HX
            by_cases hlt : j < 4
            · obtain ⟨u, v, r, hu, hv, hr, hjr, c1, c2⟩ : ∃ (u v : ByteArray) (r : Nat), u.size ≤ 200 ∧ v.size ≤ 200 ∧ r < 4 ∧ ((j : Int) + 1).tmod 4 = (r : Int) ∧ wo.cell? ⟨g, j, none⟩ = some (.string u) ∧ wo.cell? ⟨g, r, none⟩ = some (.string v) := by
                obtain ⟨_, c0, c1, c2, c3⟩ := hx
                match j, hlt with
                | 0, _ => exact ⟨a, b, 1, a200, b200, by omega, rfl, c0, c1⟩
                | 1, _ => exact ⟨b, d, 2, b200, d200, by omega, rfl, c1, c2⟩
                | 2, _ => exact ⟨d, x, 3, d200, by omega, by omega, rfl, c2, c3⟩
                | 3, _ => exact ⟨x, a, 0, by omega, a200, by omega, rfl, c3, c0⟩
              have HX := Lib.hid hx
              have wj : IntKind.i64.wrap ((j : Int) + 1) = (j : Int) + 1 := IntWalk.i64_in _ (by omega)
              have j0 : (0 : Int) ≤ (j : Int) := by omega
              have j4 : (j : Int) < 4 := by omega
              have r0 : (0 : Int) ≤ (r : Int) := by omega
              have r4 : (r : Int) < 4 := by omega
              clear hx
              obtain ⟨V, hV⟩ : ∃ V, vld u.data.toList = V := ⟨_, rfl⟩
              obtain ⟨L, hL⟩ : ∃ L, (partsS u.data.toList).1 = L := ⟨_, rfl⟩
              obtain ⟨er, her⟩ : ∃ er, (partsS u.data.toList).2 = er := ⟨_, rfl⟩
              obtain ⟨m, hm⟩ : ∃ m, L.length = m := ⟨_, rfl⟩
              obtain ⟨J, hJ⟩ : ∃ J, mk (joinS u.data.toList v.data.toList).1 = J := ⟨_, rfl⟩
              obtain ⟨Je, hJe⟩ : ∃ J, (joinS u.data.toList v.data.toList).2 = J := ⟨_, rfl⟩
              obtain ⟨S, hS⟩ : ∃ S, mk (splitS u.data.toList).1 = S := ⟨_, rfl⟩
              obtain ⟨S2, hS2⟩ : ∃ S, mk (splitS u.data.toList).2.1 = S := ⟨_, rfl⟩
              obtain ⟨Se, hSe⟩ : ∃ S, (splitS u.data.toList).2.2 = S := ⟨_, rfl⟩
              obtain ⟨P, hP⟩ : ∃ P, mk (parseS u.data.toList).1 = P := ⟨_, rfl⟩
              obtain ⟨Pe, hPe⟩ : ∃ P, (parseS u.data.toList).2 = P := ⟨_, rfl⟩
              obtain ⟨T, hT⟩ : ∃ T, mk (parseS ((⟨#[47]⟩ : ByteArray) ++ u).data.toList).1 = T := ⟨_, rfl⟩
              obtain ⟨Te, hTe⟩ : ∃ T, (parseS ((⟨#[47]⟩ : ByteArray) ++ u).data.toList).2 = T := ⟨_, rfl⟩
              obtain ⟨B, hB⟩ : ∃ B, belowB u.data.toList v.data.toList = B := ⟨_, rfl⟩
              obtain ⟨X, hX⟩ : ∃ X, mk (swapT u.data.toList v.data.toList d.data.toList) = X := ⟨_, rfl⟩
              obtain ⟨C, hC⟩ : ∃ C, mk (copyS u.data.toList v.data.toList k) = C := ⟨_, rfl⟩
              have hZ : ((⟨#[47]⟩ : ByteArray) ++ u).size ≤ 201 := by rw [ByteArray.size_append]; show 1 + u.size ≤ 201; omega
              have hmk : mk (47 :: u.data.toList) = (⟨#[47]⟩ : ByteArray) ++ u := by
                rw [← mk_of ((⟨#[47]⟩ : ByteArray) ++ u), append_data]; rfl
              have hm200 : m ≤ 4294967295 := by
                rw [← hm, ← hL]; unfold partsS
                split
                · rename_i hi; have := isPath_len hi; simp only; omega
                · simp
              have c1 := fun W h => kept ST.out CE.out (Valid_any u (by unfold maxLen; omega) W (EN.out W h)) h
              have c2 := fun W h => kept0 (Bx := Box7 w g a b d x) CE.out (rvalid_any u (by unfold maxLen; omega) W) h
              have c3 := fun W (h : Box7 w g a b d x W) => (lparts_any u (by omega) W (EN.out W h)).mono (R' := fun e w' => ∃ A c, e = .returned (.agg #[.slice A (partsS u.data.toList).1.length c, .int .i64 (partsS u.data.toList).2]) ∧ Strs 0 w' A (partsS u.data.toList).1 ∧ Box7 w g a b d x w')
                fun _ _ ⟨A, c, he, hs, hb'⟩ => ⟨A, c, he, hs.mono (Nat.zero_le _), ST.out _ _ h hb'⟩
              have c4 := fun W (h : Box7 w g a b d x W) => (partsOf_any u (by omega) W).mono (R' := fun e w' => ∃ A c, e = .returned (.agg #[.slice A (partsS u.data.toList).1.length c, .int .i64 (partsS u.data.toList).2]) ∧ Strs 0 w' A (partsS u.data.toList).1 ∧ Below W.heap.size W w' ∧ Box7 w g a b d x w')
                fun _ _ ⟨A, c, he, hs, hb'⟩ => ⟨A, c, he, hs.mono (Nat.zero_le _), hb', ST.out _ _ h hb'⟩
              have c5 := fun (A A' : Option Addr) (c c' : Nat) W (h : Box7 w g a b d x W) (s1 : Strs 0 W A L) (s2 : Strs 0 W A' L) => kept ST.out CE.out (same_any A A' m m c c' er er L L hm hm hm200 W s1 s2) h
              have c6 := fun W h => kept ST.out CE.out (ljoin_any u v (by omega) (by omega) W (EN.out W h)) h
              have c7 := fun W h => kept ST.out CE.out (joinOf_any u v (by omega) (by omega) W) h
              have c8 := fun W h => kept ST.out CE.out (lsplit_any u (by omega) W (EN.out W h)) h
              have c9 := fun W h => kept ST.out CE.out (splitOf_any u (by omega) W) h
              have c10 := fun W h => kept ST.out CE.out (lparse_any u (by omega) W (EN.out W h)) h
              have c11 := fun W h => kept ST.out CE.out (rparse_any u (by omega) W) h
              have c12 := fun W h => kept ST.out CE.out (lparse_any ((⟨#[47]⟩ : ByteArray) ++ u) (by omega) W (EN.out W h)) h
              have c13 := fun W h => kept ST.out CE.out (rparse_any ((⟨#[47]⟩ : ByteArray) ++ u) (by omega) W) h
              have c14 := fun W h => kept0 (Bx := Box7 w g a b d x) CE.out (below_any u v W) h
              have c15 := fun W h => kept0 (Bx := Box7 w g a b d x) CE.out (rbelow_any u v (by unfold maxLen; omega) W) h
              have c16 := fun W h => kept ST.out CE.out (lswap_any u v d W (by omega)) h
              have c17 := fun W h => kept ST.out CE.out (rswap_any u v d W (by unfold maxLen; omega) (by unfold maxLen; omega) (by omega)) h
              have c18 := fun W h => kept ST.out CE.out (copy_any u v k (by unfold maxLen; omega) (by unfold maxLen; omega) W (EN.out W h)) h
              have c19 := fun W h => kept ST.out CE.out (rcopy_any u v k (by unfold maxLen; omega) (by unfold maxLen; omega) W) h
              have c20 := fun W h => kept0 (Bx := Box7 w g a b d x) CE.out (print_any u W (by omega)) h
              rw [hV] at c1 c2
              rw [hL, her, hm] at c3 c4
              rw [show sameB L er L er = true by simp [sameB]] at c5
              rw [hJ, hJe] at c6 c7
              rw [hS, hS2, hSe] at c8 c9
              rw [hP, hPe] at c10 c11
              rw [hT, hTe] at c12 c13
              rw [hB] at c14 c15 c16 c17
              rw [hX] at c16 c17
              rw [hC] at c18 c19
              rw [hmk] at c20
              have D1 := Lib.hid c1
              have D2 := Lib.hid c2
              have D3 := Lib.hid c3
              have D4 := Lib.hid c4
              have D5 := Lib.hid c5
              have D6 := Lib.hid c6
              have D7 := Lib.hid c7
              have D8 := Lib.hid c8
              have D9 := Lib.hid c9
              have D10 := Lib.hid c10
              have D11 := Lib.hid c11
              have D12 := Lib.hid c12
              have D13 := Lib.hid c13
              have D14 := Lib.hid c14
              have D15 := Lib.hid c15
              have D16 := Lib.hid c16
              have D17 := Lib.hid c17
              have D18 := Lib.hid c18
              have D19 := Lib.hid c19
              have D20 := Lib.hid c20
              have bs : ∀ s : ByteArray, (s.toList == s.toList) = true := fun s => by simp
              have bn : ∀ s : ByteArray, (s.toList != s.toList) = false := fun s => by simp
              have bi : ∀ i : Int, (i == i) = true := fun i => by simp
              have bV : (V != V) = false := by simp
              have bB : (B != B) = false := by simp
              have bB2 : (B == B) = true := by simp
              clear c1 c2 c3 c4 c5 c6 c7 c8 c9 c10 c11 c12 c13 c14 c15 c16 c17 c18 c19 c20 hV hL her hm hJ hJe hS hS2 hSe hP hPe hT hTe hB hX hC hmk
              go_wp2
              go_quiet (fail)
              go_wp2_with (first | (go_at_call 13; refine (D1.out _ (HX.out.step (below_drewN _ _))).mono ?_; rintro e w1 ⟨rfl, t2, hx⟩) | (go_at_call 14; refine (D2.out _ hx).mono ?_; rintro e w2 ⟨rfl, t2, hx⟩) | (go_at_call 16; refine (D3.out _ hx).mono ?_; rintro e w3 ⟨A3, c3, rfl, s3, hx⟩) | (go_at_call 17; refine (D4.out _ hx).mono ?_; rintro e w4 ⟨A4, c4, rfl, s4, hb4, hx⟩; have s3 := Strs.below s3 hb4; clear hb4) | (go_at_call 15; refine (D5.out _ _ _ _ _ hx s3 s4).mono ?_; rintro e w5 ⟨rfl, t2, hx⟩) | (go_at_call 18; refine (D6.out _ hx).mono ?_; rintro e w6 ⟨rfl, t2, hx⟩) | (go_at_call 19; refine (D7.out _ hx).mono ?_; rintro e w7 ⟨rfl, t2, hx⟩) | (go_at_call 20; refine (D8.out _ hx).mono ?_; rintro e w8 ⟨rfl, t2, hx⟩) | (go_at_call 21; refine (D9.out _ hx).mono ?_; rintro e w9 ⟨rfl, t2, hx⟩) | (go_at_call 22; first | ((with_reducible refine (D10.out _ hx).mono ?_); rintro e w10 ⟨rfl, t2, hx⟩) | ((with_reducible refine (D12.out _ hx).mono ?_); rintro e w12 ⟨rfl, t2, hx⟩)) | (go_at_call 23; first | ((with_reducible refine (D11.out _ hx).mono ?_); rintro e w11 ⟨rfl, t2, hx⟩) | ((with_reducible refine (D13.out _ hx).mono ?_); rintro e w13 ⟨rfl, t2, hx⟩)))
              have G0 := Lib.hid (And.intro (CE.out _ hx.drew) hx.drew)
              have G1 := Lib.hid hx.drew
              first | (go_region_held (fun W' => W'.cell? ⟨w.heap.size, 2, none⟩ = some (.string d) ∧ Box7 w g a b d x W') (first | with_reducible exact G0.out | with_reducible exact ⟨t2, hx⟩ | fail) (first | (go_at_call 24; refine (D14.out _ ?_).mono ?_; (first | with_reducible exact hx | with_reducible exact G1.out); rintro e w14 ⟨rfl, t2, hx⟩) | (go_at_call 25; refine (D15.out _ ?_).mono ?_; (first | with_reducible exact hx | with_reducible exact G1.out); rintro e w15 ⟨rfl, t2, hx⟩) | (go_at_call 26; refine (D16.out _ ?_).mono ?_; (first | with_reducible exact hx | with_reducible exact G1.out); rintro e w16 ⟨rfl, t2, hx⟩) | (go_at_call 27; refine (D17.out _ ?_).mono ?_; (first | with_reducible exact hx | with_reducible exact G1.out); rintro e w17 ⟨rfl, t2, hx⟩) | (go_at_call 28; refine (D18.out _ ?_).mono ?_; (first | with_reducible exact hx | with_reducible exact G1.out); rintro e w18 ⟨rfl, t2, hx⟩) | (go_at_call 29; refine (D19.out _ ?_).mono ?_; (first | with_reducible exact hx | with_reducible exact G1.out); rintro e w19 ⟨rfl, t2, hx⟩) | (go_at_call 30; refine (D20.out _ ?_).mono ?_; (first | with_reducible exact hx | with_reducible exact G1.out); rintro e w20 ⟨rfl, t2, hx⟩))) | fail
              all_goals
                go_wp2
                go_roundw
                case rel => exact ⟨j + 1, by omega, by go_num, hx⟩
                case measure => simp [intOf]; omega
            · obtain rfl : j = 4 := by omega
              go_wp2
              go_ret
              exact ⟨rfl, hx.1.2.2.2⟩
      · have dd : decide (200 < (d.size : Int)) = true := by simp; omega
        go_enter Tryd.func3, Tryd.ntmps3
        go_wp2_with (go_at_call 11; refine (CSan.out _ B0.out).mono ?_; rintro e w1 ⟨rfl, t0, t1, t2, bw⟩)
        go_ret
        exact ⟨rfl, bw⟩
    · have db : decide (200 < (b.size : Int)) = true := by simp; omega
      go_enter Tryd.func3, Tryd.ntmps3
      go_wp2_with (go_at_call 11; refine (CSan.out _ B0.out).mono ?_; rintro e w1 ⟨rfl, t0, t1, t2, bw⟩)
      go_ret
      exact ⟨rfl, bw⟩
  · have da : decide (200 < (a.size : Int)) = true := by simp; omega
    go_enter Tryd.func3, Tryd.ntmps3
    go_wp2_with (go_at_call 11; refine (CSan.out _ B0.out).mono ?_; rintro e w1 ⟨rfl, t0, t1, t2, bw⟩)
    go_ret
    exact ⟨rfl, bw⟩
end Go.Proofs.YtimlfdlocjfgaaaDoor
