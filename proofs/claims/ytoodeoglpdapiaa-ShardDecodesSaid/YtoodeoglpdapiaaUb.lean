/-
  Walk of the program's newField: the tables are laid, cell by cell.
-/
import Derived.Test.YtoodeoglpdapiaaUa
import Derived.Test.YtoodeoglpdapiaaSm
import Derived.Deep.WholeRow
import Derived.Laws.Rows
namespace Go.Proofs.Ytoodeoglpdapiaa
open Go.RowKit Gf
set_option maxHeartbeats 400000

theorem zero68 : (∀ w, (zeroValue 68).run Try.prog w = .ok (.agg (fc 0)) w) ∧ (Try.prog.info? 68).map (·.size) = some 766 := zero_of_info (by kernel_rfl)

theorem below_setRow {B : Nat} {a w : World} (h : Below B a w) {g : Nat} (hg : B ≤ g) (cs : Array Value) : Below B a (w.setRow g cs) :=
  ⟨h.os, h.tape, h.output, by simp; exact h.size, fun k hk => (setRow_other w g k cs (by omega)).trans (h.block k hk)⟩

set_option maxRecDepth 20000 in
theorem newField_any (w : World) : Calls Try.prog 38 #[] w fun e w' => e = .returned (.agg (fc 255)) ∧ Below w.heap.size w w' := by
  have hz := zero68.1
  have hsz := fc_size 255
  obtain ⟨C, hC⟩ : ∃ C, fc 255 = C := ⟨_, rfl⟩
  have H1C := Lib.hid (show C.all (·.oneCell') = true from hC ▸ fc_one 255)
  rw [hC] at hsz ⊢
  have HSZ := Lib.hid (show (Try.prog.info? 68).map (·.size) = some C.size by rw [hsz]; exact zero68.2)
  have HS0 := Lib.hid (show (fc 0).size = C.size by rw [hsz]; exact fc_size 0)
  have HCC := Lib.hid hC
  clear hC hsz
  go_enter Try.func38, Try.ntmps38
  go_wp2
  go_loopw [2, 4] (fun p i wr => ∃ n : Nat, n ≤ 255 ∧ i = .int .i64 n ∧ p = .int .i64 (xts n 1) ∧ wr.heap[w.heap.size + 1]? = some (.cells (fc n) 68 (0, 0)) ∧ wr.heap[w.heap.size]? = some (.cells (fc 0) 68 (0, 0)) ∧ Below w.heap.size w wr) (fun _ i _ => 255 - (intOf i).toNat)
  case atStart => exact ⟨0, Nat.zero_le _, rfl, rfl, heap_alloc2_new _ _ _, heap_alloc2_old _ _ _, by go_grown⟩
  case round =>
    obtain ⟨n, hn, rfl, rfl, h1, h0, hbw⟩ := hrel
    by_cases hlt : n < 255
    · have hlt' : (n : Int) < 255 := by omega
      have hsz := fc_size n
      have hx0 := xts_pos n
      have hx1 := xts_lt (a := 1) (by decide) n
      have hxt := xt_prog (xts n 1)
      have HF := Lib.hid (show fc (n + 1) = (((fc n).setIfInBounds n (.int .u8 (xts n 1))).setIfInBounds (n + 255) (.int .u8 (xts n 1))).setIfInBounds (510 + xts n 1) (.int .u8 n) from rfl)
      have HX := Lib.hid (show xts (n + 1) 1 = xt (xts n 1) from rfl)
      obtain ⟨x, hx⟩ : ∃ x, xts n 1 = x := ⟨_, rfl⟩
      rw [hx] at hx0 hx1 hxt HF HX ⊢
      obtain ⟨C, hC⟩ : ∃ C, fc n = C := ⟨_, rfl⟩
      rw [hC] at hsz HF h1
      clear hx hC
      have hc : ∀ j, j < 766 → ∃ v, wr.cell? ⟨w.heap.size + 1, j, none⟩ = some v := fun j hj => ⟨_, by rw [cell_of_row wr _ j _ _ _ h1, Array.getElem?_eq_getElem (by omega)]⟩
      have hf : ∀ j, wr.frozen? ⟨w.heap.size + 1, j, none⟩ = false := fun j => frozen_of_row wr _ j _ _ h1
      obtain ⟨v1, c1⟩ := hc n (by omega)
      obtain ⟨v2, c2⟩ := hc (n + 255) (by omega)
      obtain ⟨v3, c3⟩ := hc (510 + x) (by omega)
      have f1 := hf n
      have f2 := hf (n + 255)
      have f3 := hf (510 + x)
      have hx0' : (0 : Int) ≤ (x : Int) := by omega
      have hx1' : (x : Int) < 256 := by omega
      have H1 := Lib.hid h1
      have HC := Lib.hid hsz
      have HXT := Lib.hid hxt
      clear h1 hc hf hsz hxt
      have H0 := Lib.hid h0
      have HB := Lib.hid hbw
      clear h0 hbw
      have hB' : Below w.heap.size w (((wr.setCell ⟨w.heap.size + 1, n, none⟩ (.int .u8 x)).setCell ⟨w.heap.size + 1, n + 255, none⟩ (.int .u8 x)).setCell ⟨w.heap.size + 1, 510 + x, none⟩ (.int .u8 n)) :=
        ((HB.out.setCell (by simp) _).setCell (by simp) _).setCell (by simp) _
      have hH1 : (((wr.setCell ⟨w.heap.size + 1, n, none⟩ (.int .u8 x)).setCell ⟨w.heap.size + 1, n + 255, none⟩ (.int .u8 x)).setCell ⟨w.heap.size + 1, 510 + x, none⟩ (.int .u8 n)).heap[w.heap.size + 1]? = some (.cells (fc (n + 1)) 68 (0, 0)) := by
        rw [HF.out]
        exact heap_setCell_same _ _ _ _ _ _ (heap_setCell_same _ _ _ _ _ _ (heap_setCell_same _ _ _ _ _ _ H1.out))
      have hH0 : (((wr.setCell ⟨w.heap.size + 1, n, none⟩ (.int .u8 x)).setCell ⟨w.heap.size + 1, n + 255, none⟩ (.int .u8 x)).setCell ⟨w.heap.size + 1, 510 + x, none⟩ (.int .u8 n)).heap[w.heap.size]? = some (.cells (fc 0) 68 (0, 0)) :=
        (heap_setCell_other _ _ _ _ (by simp)).trans ((heap_setCell_other _ _ _ _ (by simp)).trans ((heap_setCell_other _ _ _ _ (by simp)).trans H0.out))
      have HB' := Lib.hid hB'
      have HH1 := Lib.hid hH1
      have HH0 := Lib.hid hH0
      have e285 : bits .xor .i64 ((x : Int) * 2) 285 = ((2 * x ^^^ 285 : Nat) : Int) := by
        rw [show (x : Int) * 2 = ((2 * x : Nat) : Int) by simp; omega, show (285 : Int) = ((285 : Nat) : Int) from rfl, i64_xor_nat _ _ (by omega) (by decide)]
      have HE := Lib.hid e285
      clear hB' hH1 hH0 e285
      rcases HXT.out with ⟨hd, he⟩ | ⟨hd, he⟩
      · have hd' : (255 : Int) < (x : Int) * 2 := by omega
        have HEE := Lib.hid he
        clear he
        go_wp2
        go_roundw
        case rel => exact ⟨n + 1, by omega, by go_num, by rw [HE.out, HX.out, HEE.out], HH1.out, HH0.out, HB'.out⟩
        case measure => simp [intOf]; omega
      · have hd' : ¬ (255 : Int) < (x : Int) * 2 := by omega
        have HEE := Lib.hid he
        clear he
        go_wp2
        go_roundw
        case rel => exact ⟨n + 1, by omega, by go_num, by rw [HX.out, HEE.out]; go_num, HH1.out, HH0.out, HB'.out⟩
        case measure => simp [intOf]; omega
    · obtain rfl : n = 255 := by omega
      rw [HCC.out] at h1
      have H1 := Lib.hid h1
      have H0 := Lib.hid h0
      have HB := Lib.hid hbw
      clear h1 h0 hbw hz
      go_upto_region 12 with fail
      go_wp2_with (first | (with_reducible refine wpList_load_row rfl 68 _ rfl (w.heap.size + 1) rfl 68 C (0, 0) _ H1.out Try.underlying68 rfl HSZ.out ?_) | (with_reducible refine wpList_store_row rfl 68 _ _ rfl w.heap.size C rfl rfl 68 (fc 0) H0.out HSZ.out HS0.out H1C.out ?_))
      refine bodyPost_ret (v := .agg C) ?_ rfl ⟨rfl, below_setRow HB.out (Nat.le_refl _) _⟩
      exact results_cell_row rfl _ _ w.heap.size 68 C (0, 0) _ rfl (setRow_heap _ _ _ _ _ _ H0.out) Try.underlying68 rfl HSZ.out

/-- The block p holds the tables. -/
def Tab (w : World) (p : Nat) : Prop := w.heap[p]? = some (.cells (fc 255) 68 (0, 0))
theorem Tab.lt {w : World} {p : Nat} (h : Tab w p) : p < w.heap.size := (Array.getElem?_eq_some_iff.1 h).1
theorem Tab.below {w w' : World} {p : Nat} (h : Tab w p) {B : Nat} (hb : Below B w w') (hp : p < B) : Tab w' p := (hb.block p hp).trans h
theorem Tab.other {w : World} {p : Nat} (h : Tab w p) {a : Addr} (ha : a.block ≠ p) (v : Value) : Tab (w.setCell a v) p := (heap_setCell_other w a p v (fun e => ha e.symm)).trans h
theorem Tab.pow {w : World} {p : Nat} (h : Tab w p) (j : Nat) (hj : j < 510) : w.cell? ⟨p, j, none⟩ = some (.int .u8 (xts j 1)) := by
  rw [cell_of_row w p j _ _ _ h]; exact fc_pow j hj
theorem Tab.log {w : World} {p : Nat} (h : Tab w p) (a : Nat) (ha : a < 256) (h0 : a ≠ 0) : ∃ n, n < 255 ∧ xts n 1 = a ∧ w.cell? ⟨p, 510 + a, none⟩ = some (.int .u8 n) := by
  obtain ⟨n, h1, h2, h3⟩ := fc_log a ha h0
  exact ⟨n, h1, h2, by rw [cell_of_row w p _ _ _ _ h]; exact h3⟩
end Go.Proofs.Ytoodeoglpdapiaa
