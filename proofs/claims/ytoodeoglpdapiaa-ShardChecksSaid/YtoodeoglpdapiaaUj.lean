/-
  Walk of the program's Encode.
-/
import Derived.Test.YtoodeoglpdapiaaUi
import Derived.Laws.CopyOwn
import Derived.StillTailTactics
namespace Go.Proofs.Ytoodeoglpdapiaa
open Go.RowKit Gf
set_option maxHeartbeats 400000

theorem fitsB_no {k n : Int} (h : ¬ (1 ≤ k ∧ k ≤ n ∧ n ≤ 12)) : fitsB k n = false := by
  cases hf : fitsB k n
  · rfl
  · exact absurd (fitsB_iff.1 hf) h
theorem Encode_pno (A : Option Addr) (nb cb : Nat) (k n : Int) (h : ¬ (1 ≤ k ∧ k ≤ n ∧ n ≤ 12)) (w : World) :
    Calls Try.prog 27 #[.slice A nb cb, .int .i64 k, .int .i64 n] w fun e w' => e = .returned (.tuple #[.slice none 0 0, .int .i64 1]) ∧ w' = w := by
  have hf := fun W => fits_any k n W
  rw [fitsB_no h] at hf
  have HF := Lib.hid hf
  clear h hf
  go_enter Try.func27, Try.ntmps27
  go_wp2_with (go_at_call 34; with_reducible refine (HF.out _).mono ?_; rintro e w1 ⟨rfl, rfl⟩)
  go_ret2
  exact ⟨rfl, rfl⟩

/-- 'make([]T, l, c)': a new row, of which the first l elements are the slice's. -/
theorem wpList_make_lc {P : Program} (w : World) {ops : Array Oper} {rest : List Oper} {o : Oper} {a : Act} {Q : Exit → Act → World → Prop}
    (hg : o.guard = none) (l c : Operand) (t : TypeId) (hop : o.op = Op.makeSlice t l c)
    (e : TypeId) (i : TypeInfo) (z : Value) (h1 : P.underlying t = some (.slice e)) (h2 : P.info? e = some i) (h3 : i.zero = some z)
    (kl kc : IntKind) (m n : Nat) (hl : a.eval l = .int kl m) (hc : a.eval c = .int kc n) (b1 : m ≤ n) (b2 : i.bytes * n ≤ 281474976710656) (b3 : n ≤ 9223372036854775807)
    (hK : wpList P ops Q rest (a.put o.dst (.slice (some ⟨w.heap.size, 0, none⟩) m n)) (w.alloc (.cells (madeCells z.cells (n * i.size)) e))) :
    wpList P ops Q (o :: rest) a w := by
  refine wpList_plain hg fun K hK' => ?_
  have hrun := run_make (P := P) w t e i z h1 h2 h3 kl kc (m : Int) (n : Int) (by omega) (by omega) (by rw [← Int.natCast_mul]; omega) (by omega)
  unfold Oper.wp
  simp [execOp, hop, hl, hc, hrun, Result.andThen]
  exact hK' _ _ hK
/-- The next cell of a row of the call's own that has room. -/
theorem own_next {w : World} {base : Nat} {e : TypeId} {g n c : Nat} {xs : List Value} (h : w.ownsRow base e 1 (.slice (some ⟨g, 0, none⟩) n c) n xs) (hn : n < c) (v : Value) :
    (w.setCell ⟨g, n, none⟩ v).ownsRow base e 1 (.slice (some ⟨g, 0, none⟩) (n + 1) c) (n + 1) (xs ++ [v]) := by
  rcases h.2 with ⟨h', _⟩ | ⟨g', cap', cur, h', hb, hg, hnc, hcm, hcs, htake⟩
  · simp at h'
  · simp only [Value.slice.injEq, Option.some.injEq, Addr.mk.injEq, and_true, true_and] at h'
    obtain ⟨rfl, rfl⟩ := h'
    have hl := h.1
    refine ⟨by simp; omega, .inr ⟨g, c, cur.setIfInBounds n v, rfl, hb, heap_setCell_same w g n cur e v hg, by omega, hcm, by simpa using hcs, ?_⟩⟩
    rw [Array.toList_setIfInBounds, ← htake, Nat.mul_one, Nat.mul_one]
    apply List.ext_getElem?
    intro j
    simp only [List.getElem?_take, List.getElem?_set, List.getElem?_append, List.length_take, Array.length_toList]
    have hcs' : cur.size = c := by omega
    by_cases h1 : j < n
    · rw [if_pos (by omega), if_neg (by omega), if_pos (by omega), if_pos h1]
    · by_cases h2 : j = n
      · subst h2
        rw [if_pos (by omega), if_pos rfl, if_pos (by omega), if_neg (by omega)]
        simp [show j - min j cur.size = 0 by omega]
      · rw [if_neg (by omega), if_neg (by omega)]
        rw [List.getElem?_eq_none]; simp; omega
theorem own_cellAny {w : World} {base : Nat} {e : TypeId} {g n c : Nat} {xs : List Value} (h : w.ownsRow base e 1 (.slice (some ⟨g, 0, none⟩) n c) n xs) {j : Nat} (hj : j < c) : (∃ v, w.cell? ⟨g, j, none⟩ = some v) ∧ w.frozen? ⟨g, j, none⟩ = false := by
  rcases h.2 with ⟨h', _⟩ | ⟨g', cap', cur, h', hb, hg, hnc, hcm, hcs, htake⟩
  · simp at h'
  · simp only [Value.slice.injEq, Option.some.injEq, Addr.mk.injEq, and_true, true_and] at h'
    obtain ⟨rfl, rfl⟩ := h'
    exact ⟨⟨cur[j]'(by omega), by rw [cell_of_row w g j _ _ _ hg]; exact Array.getElem?_eq_getElem (by omega)⟩, frozen_of_row w g j _ _ hg⟩
/-- The bytes that a copy lays over zeros. -/
theorem splice_row (b : List UInt8) (L i : Nat) : splice (List.replicate L (Value.int .u8 0)) 0 (bys ((b.drop (min (i * L) b.length)).take L)) = bys (encRow b L i) := by
  apply List.ext_getElem?
  intro j
  unfold splice
  simp only [List.take_zero, List.nil_append, Nat.zero_add, List.getElem?_append, bys_length, List.length_take, List.length_drop]
  by_cases hj : j < L
  · have he : (bys (encRow b L i))[j]? = some (.int .u8 (b[i * L + j]?.getD 0).toNat) := by
      simp [bys, encRow, hj]
    rw [he]
    by_cases h2 : j < min L (b.length - min (i * L) b.length)
    · rw [if_pos h2]
      have h3 : i * L + j < b.length := by omega
      have h4 : min (i * L) b.length = i * L := by omega
      simp only [bys, List.getElem?_map, List.getElem?_take, if_pos hj, List.getElem?_drop, h4, List.getElem?_eq_getElem h3, Option.map_some, Option.getD_some]
    · rw [if_neg h2]
      have h3 : b.length ≤ i * L + j := by omega
      rw [List.getElem?_eq_none h3]
      rw [List.getElem?_drop, List.getElem?_replicate, if_pos (by omega)]
      rfl
  · rw [if_neg (by omega), List.getElem?_eq_none (by simp; omega), List.getElem?_eq_none (by rw [bys_length, encRow_len]; omega)]
theorem isK_all (k : Nat) : (isK (fun _ => true) k k).map UInt8.ofNat = firstL k := by
  unfold isK firstL
  rw [List.filter_eq_self.2 (fun _ _ => rfl), List.take_of_length_le (by simp)]
theorem isK_all_len (k : Nat) : (isK (fun _ => true) k k).length = k := by
  have := congrArg List.length (isK_all k)
  simpa [firstL] using this
end Go.Proofs.Ytoodeoglpdapiaa
