/-
  Contracts of the landed package: isChunk, isRight, canBeOne.
-/
import Derived.Test.YtggnklcjhbahhaaEi
namespace Go.Proofs.Ytggnklcjhbahhaa
open Go.RowKit Ex
set_option maxHeartbeats 400000
set_option maxRecDepth 100000

def chunkB (id : Int) : Bool := decide (1 ≤ id) && decide (id < 4096)
theorem chunk_iff {id : Int} : chunkB id = true ↔ 1 ≤ id ∧ id < 4096 := by simp [chunkB]
theorem chunk_not {id : Int} : chunkB id = false ↔ ¬ (1 ≤ id ∧ id < 4096) := by rw [← chunk_iff]; simp
theorem i64_wf {n : Int} (h : (Lit.int .i64 n).wf = true) : -9223372036854775808 ≤ n ∧ n ≤ 9223372036854775807 := by
  have h' : IntKind.i64.min ≤ n ∧ n ≤ IntKind.i64.max := by simpa [Lit.wf] using h
  exact h'
theorem isChunk_any (id : Int) (w : World) :
    Calls Try.prog 41 #[.int .i64 id] w fun e w' => e = .returned (.bool (chunkB id)) ∧ w' = w := by
  go_enter Try.func41, Try.ntmps41
  go_wp2
  all_goals
    go_ret
    refine ⟨ret_bool ?_, rfl⟩
    rw [Bool.eq_iff_iff, chunk_iff]
    simp at *
    omega
theorem chunk_c {id : Int} {r : Bool} (h : chunkB id = r) (W : World) : Calls Try.prog 41 #[.int .i64 id] W fun e w' => e = .returned (.bool r) ∧ w' = W := by
  subst h
  exact isChunk_any id W
theorem isRight_any (p : Pc) (hp : Pc.ok p) (w : World) :
    Calls Try.prog 47 #[pv p] w fun e w' => e = .returned (.bool (rightB p)) ∧ Below w.heap.size w w' := by
  obtain ⟨id, fr, n⟩ := p
  have h1 := i64_wf hp.2.1
  have h2 := i64_wf hp.2.2
  simp only [] at h1 h2
  clear hp
  simp only [pv]
  obtain ⟨r, hr⟩ : ∃ r, chunkB id = r := ⟨_, rfl⟩
  have CC := Lib.hid (chunk_c hr)
  have HR := Lib.hid hr
  clear hr
  go_enter Try.func47, Try.ntmps47
  by_cases c1 : n < 1
  · go_wp2
    go_ret
    refine ⟨ret_bool ?_, by go_grown⟩
    rw [Bool.eq_iff_iff, right_iff]
    simp at *
    omega
  by_cases c2 : fr < 0
  · go_wp2
    go_ret
    refine ⟨ret_bool ?_, by go_grown⟩
    rw [Bool.eq_iff_iff, right_iff]
    simp at *
    omega
  have hw : IntKind.i64.wrap (1048576 - n) = 1048576 - n := IntWalk.i64_in _ (by omega)
  by_cases c3 : fr > 1048576 - n
  · go_wp2
    go_ret
    refine ⟨ret_bool ?_, by go_grown⟩
    rw [Bool.eq_iff_iff, right_iff]
    simp at *
    omega
  cases r
  · have hc := chunk_not.1 HR.out
    go_wp2_with (go_at_call 41; (with_reducible refine (CC.out _).mono ?_); rintro e w1 ⟨rfl, rfl⟩)
    all_goals
      go_ret
      refine ⟨ret_bool ?_, by go_grown⟩
      rw [Bool.eq_iff_iff, right_iff]
      simp at *
      omega
  · have hc := chunk_iff.1 HR.out
    go_wp2_with (go_at_call 41; (with_reducible refine (CC.out _).mono ?_); rintro e w1 ⟨rfl, rfl⟩)
    all_goals
      go_ret
      refine ⟨ret_bool ?_, by go_grown⟩
      rw [Bool.eq_iff_iff, right_iff]
      simp at *
      omega
theorem canBeOne_any (p q : Pc) (hp : 1 ≤ p.id → p.id < 4096) (hs : -9223372036854775808 ≤ p.fr + p.n ∧ p.fr + p.n ≤ 9223372036854775807) (w : World) :
    Calls Try.prog 48 #[pv p, pv q] w fun e w' => e = .returned (.bool (oneB p q)) ∧ Below w.heap.size w w' := by
  obtain ⟨id, fr, n⟩ := p
  obtain ⟨id2, fr2, n2⟩ := q
  simp only [pv] at hs hp ⊢
  obtain ⟨r, hr⟩ : ∃ r, chunkB id = r := ⟨_, rfl⟩
  have CC := Lib.hid (chunk_c hr)
  have HR := Lib.hid hr
  clear hr
  have hw : IntKind.i64.wrap (fr + n) = fr + n := IntWalk.i64_in _ (by omega)
  go_enter Try.func48, Try.ntmps48
  by_cases c1 : id = id2
  · subst c1
    cases r
    · have hc := chunk_not.1 HR.out
      go_wp2_with (go_at_call 41; (with_reducible refine (CC.out _).mono ?_); rintro e w1 ⟨rfl, rfl⟩)
      all_goals
        go_ret
        refine ⟨ret_bool ?_, by go_grown⟩
        rw [Bool.eq_iff_iff, one_iff]
        simp at *
        omega
    · have hc := chunk_iff.1 HR.out
      go_wp2_with (go_at_call 41; (with_reducible refine (CC.out _).mono ?_); rintro e w1 ⟨rfl, rfl⟩)
      all_goals
        go_ret
        refine ⟨ret_bool ?_, by go_grown⟩
        rw [Bool.eq_iff_iff, one_iff]
        simp at *
        omega
  · go_wp2
    all_goals
      go_ret
      refine ⟨ret_bool ?_, by go_grown⟩
      rw [Bool.eq_iff_iff, one_iff]
      simp at *
      omega
end Go.Proofs.Ytggnklcjhbahhaa
