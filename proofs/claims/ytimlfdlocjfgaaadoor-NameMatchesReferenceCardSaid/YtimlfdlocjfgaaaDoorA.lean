/-
  Walks of the layer's smallest functions: the kinds of bytes (the table is read), letters. The world must hold the program's table of kinds.
-/
import Derived.Test.YtimlfdlocjfgaaaDoorProg
import Derived.Test.YtimlfdlocjfgaaaDoorPl
import Derived.WalkKit
import Derived.WalkSpells
import Derived.Handy
import Derived.Outline
import Derived.Laws.Rows
import Derived.Lib.Hide
namespace Go.Proofs.YtimlfdlocjfgaaaDoor
open Go.RowKit
set_option maxHeartbeats 400000

theorem ret_bool {a b : Bool} (h : a = b) : Ending.returned (.bool a) = .returned (.bool b) := by rw [h]
theorem ret_int {k : IntKind} {a b : Int} (h : a = b) : Ending.returned (.int k a) = .returned (.int k b) := by rw [h]

theorem letter_any (c : UInt8) (w : World) :
    Calls Tryd.prog 34 #[.int .u8 c.toNat] w fun e w' => e = .returned (.bool (Pl.lett c)) ∧ w' = w := by
  go_enter Tryd.func34, Tryd.ntmps34
  go_wp2
  all_goals
    go_ret
    refine ⟨ret_bool ?_, rfl⟩
    simp only [Pl.lett]
    rw [Bool.eq_iff_iff]
    simp
    omega

def tabCells : Array Value := #[.int .i32 97, .int .i32 122, .int .i64 1, .int .i32 65, .int .i32 90, .int .i64 1, .int .i32 48, .int .i32 57, .int .i64 2, .int .i32 46, .int .i32 46, .int .i64 3,
  .int .i32 95, .int .i32 95, .int .i64 3, .int .i32 45, .int .i32 45, .int .i64 3, .int .i32 126, .int .i32 126, .int .i64 3]

/-- What every function of the layer asks of the world: the table of kinds, and that the library's variable MaxLen holds some integer. -/
structure Env (w : World) : Prop where
  tab : ∃ t fr, w.heap[0]? = some (.cells tabCells t fr)
  maxlen : ∃ m, w.cell? ⟨2, 0, none⟩ = some (.int .i64 m)

theorem Env.below {w w' : World} (h : Env w) (hb : Below w.heap.size w w') : Env w' := by
  obtain ⟨⟨t, fr, h1⟩, m, h2⟩ := h
  have l1 : 0 < w.heap.size := (Array.getElem?_eq_some_iff.1 h1).1
  have l2 : 2 < w.heap.size := block_lt_of_cell h2
  exact ⟨⟨t, fr, (hb.block _ l1).trans h1⟩, m, (hb.cell (p := ⟨2, 0, none⟩) l2).trans h2⟩

def kindI (r : Int) : Int := if (97 ≤ r ∧ r ≤ 122) ∨ (65 ≤ r ∧ r ≤ 90) then 1 else if 48 ≤ r ∧ r ≤ 57 then 2 else if r = 46 ∨ r = 95 ∨ r = 45 ∨ r = 126 then 3 else 0

theorem kindOf_any (r : Int) (h0 : -2147483648 ≤ r) (h1 : r ≤ 2147483647) (w : World) (hE : Env w) :
    Calls Tryd.prog 33 #[.int .i32 r] w fun e w' => e = .returned (.int .i64 (kindI r)) ∧ Below w.heap.size w w' := by
  obtain ⟨⟨t, fr, hT⟩, _⟩ := hE
  have i0 : ∀ w, (Instr.index 71 (.agg tabCells) (.int .i64 0)).run Tryd.prog w = .ok (.agg #[.int .i32 97, .int .i32 122, .int .i64 1]) w := fun _ => by kernel_rfl
  have i1 : ∀ w, (Instr.index 71 (.agg tabCells) (.int .i64 1)).run Tryd.prog w = .ok (.agg #[.int .i32 65, .int .i32 90, .int .i64 1]) w := fun _ => by kernel_rfl
  have i2 : ∀ w, (Instr.index 71 (.agg tabCells) (.int .i64 2)).run Tryd.prog w = .ok (.agg #[.int .i32 48, .int .i32 57, .int .i64 2]) w := fun _ => by kernel_rfl
  have i3 : ∀ w, (Instr.index 71 (.agg tabCells) (.int .i64 3)).run Tryd.prog w = .ok (.agg #[.int .i32 46, .int .i32 46, .int .i64 3]) w := fun _ => by kernel_rfl
  have i4 : ∀ w, (Instr.index 71 (.agg tabCells) (.int .i64 4)).run Tryd.prog w = .ok (.agg #[.int .i32 95, .int .i32 95, .int .i64 3]) w := fun _ => by kernel_rfl
  have i5 : ∀ w, (Instr.index 71 (.agg tabCells) (.int .i64 5)).run Tryd.prog w = .ok (.agg #[.int .i32 45, .int .i32 45, .int .i64 3]) w := fun _ => by kernel_rfl
  have i6 : ∀ w, (Instr.index 71 (.agg tabCells) (.int .i64 6)).run Tryd.prog w = .ok (.agg #[.int .i32 126, .int .i32 126, .int .i64 3]) w := fun _ => by kernel_rfl
  go_enter Tryd.func33, Tryd.ntmps33
  go_wp2_with (refine wpList_load_row rfl 71 (.global 0) rfl 0 rfl t tabCells fr _ hT Tryd.underlying71 rfl (by kernel_rfl) ?_)
  go_rounds 8
  all_goals
    go_ret
    refine ⟨ret_int ?_, by go_grown⟩
    unfold kindI
    repeat' split
    all_goals omega

end Go.Proofs.YtimlfdlocjfgaaaDoor
