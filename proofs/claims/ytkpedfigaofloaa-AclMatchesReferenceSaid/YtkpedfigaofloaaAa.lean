/-
  Walks of the smallest functions of access lists: marks, ranges, who an entry counts for, outcomes.
-/
import Derived.Test.YtkpedfigaofloaaProg
import Derived.Test.YtkpedfigaofloaaPa
import Derived.WalkKit
import Derived.WalkSpells
import Derived.Handy
import Derived.Outline
import Derived.Lib.Hide
namespace Go.Proofs.Ytkpedfigaofloaa
open Go.RowKit Ap
set_option maxHeartbeats 400000

theorem ret_bool {a b : Bool} (h : a = b) : Ending.returned (.bool a) = .returned (.bool b) := by rw [h]
theorem ret_int {k : IntKind} {a b : Int} (h : a = b) : Ending.returned (.int k a) = .returned (.int k b) := by rw [h]

theorem markOf_any (a : Ac) (w : World) :
    Calls Try.prog 33 #[av a] w fun e w' => e = .returned (av a.mk0) ∧ Below w.heap.size w w' := by
  obtain ⟨who, al, ri, re, gi⟩ := a
  simp only [av, Ac.mk0]
  go_enter Try.func33, Try.ntmps33
  go_wp2
  refine bodyPost_ret (v := .agg #[.int .i64 who, .bool al, .int .i64 0, .int .i64 re, .bool gi]) (by simp [results, Try.results33, go_sem]) rfl ⟨rfl, ?_⟩
  go_grown

theorem inRange_any (a : Ac) (w : World) :
    Calls Try.prog 34 #[av a] w fun e w' => e = .returned (.bool (inR a)) ∧ Below w.heap.size w w' := by
  obtain ⟨who, al, ri, re, gi⟩ := a
  simp only [av, inR]
  go_enter Try.func34, Try.ntmps34
  go_wp2
  all_goals
    go_ret
    refine ⟨ret_bool ?_, by go_grown⟩
    rw [Bool.eq_iff_iff]
    simp
    omega

theorem counts_any (a : Ac) (who owner : Int) (w : World) :
    Calls Try.prog 36 #[av a, .int .i64 who, .int .i64 owner] w fun e w' => e = .returned (.bool (cnt a who owner)) ∧ Below w.heap.size w w' := by
  obtain ⟨aw, al, ri, re, gi⟩ := a
  simp only [av, cnt]
  go_enter Try.func36, Try.ntmps36
  go_wp2
  all_goals
    go_ret
    refine ⟨ret_bool ?_, by go_grown⟩
    rw [Bool.eq_iff_iff]
    simp at *
    omega

theorem marked_any (a b : Ac) (w : World) :
    Calls Try.prog 32 #[av a, av b] w fun e w' => e = .returned (.bool (marked a b)) ∧ Below w.heap.size w w' := by
  obtain ⟨aw, al, ri, re, gi⟩ := a
  obtain ⟨bw, bl, bi, be, bg⟩ := b
  simp only [av, marked]
  go_enter Try.func32, Try.ntmps32
  go_wp2
  all_goals
    go_ret
    refine ⟨ret_bool ?_, by go_grown⟩
    simp [*]

theorem right_any (a : Ac) (w : World) :
    Calls Try.prog 35 #[av a] w fun e w' => e = .returned (.bool (right a)) ∧ Below w.heap.size w w' := by
  obtain ⟨who, al, ri, re, gi⟩ := a
  simp only [av, right]
  go_enter Try.func35, Try.ntmps35
  go_wp2
  all_goals
    go_ret
    refine ⟨ret_bool ?_, by go_grown⟩
    rw [Bool.eq_iff_iff]
    simp
    omega

theorem rcounts_any (a : Ac) (who owner : Int) (w : World) :
    Calls Try.prog 46 #[av a, .int .i64 who, .int .i64 owner] w fun e w' => e = .returned (.bool (cnt a who owner)) ∧ Below w.heap.size w w' := by
  obtain ⟨aw, al, ri, re, gi⟩ := a
  simp only [av, cnt]
  go_enter Try.func46, Try.ntmps46
  go_wp2
  all_goals
    go_ret
    refine ⟨ret_bool ?_, by go_grown⟩
    rw [Bool.eq_iff_iff]
    simp
    omega

theorem outcome_any (b m t : Int) (w : World) :
    Calls Try.prog 51 #[.int .i64 b, .int .i64 m, .int .i64 t] w fun e w' => e = .returned (.tuple #[.int .i64 (outc b m t).1, .bool (outc b m t).2]) ∧ w = w' := by
  unfold outc
  go_enter Try.func51, Try.ntmps51
  go_wp2
  all_goals
    go_ret2
    simp_all

theorem with_any (a : Ac) (r : Int) (w : World) :
    Calls Try.prog 52 #[av a, .int .i64 r] w fun e w' => e = .returned (av (a.put r)) ∧ Below w.heap.size w w' := by
  obtain ⟨who, al, ri, re, gi⟩ := a
  simp only [av, Ac.put]
  go_enter Try.func52, Try.ntmps52
  go_wp2
  refine bodyPost_ret (v := .agg #[.int .i64 who, .bool al, .int .i64 r, .int .i64 re, .bool gi]) (by simp [results, Try.results52, go_sem]) rfl ⟨rfl, ?_⟩
  go_grown
end Go.Proofs.Ytkpedfigaofloaa
