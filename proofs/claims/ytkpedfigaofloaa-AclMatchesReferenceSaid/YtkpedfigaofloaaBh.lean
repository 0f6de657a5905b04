/-
  Walk of slices.Insert at entries: one entry is put between the first k and the others.
-/
import Derived.Test.YtkpedfigaofloaaBg
import Derived.Lib.Overlaps
import Derived.Lib.AppendZeros
namespace Go.Proofs.Ytkpedfigaofloaa
open Go.RowKit Ap
set_option maxHeartbeats 400000

/-- append(s, make(S, m)...) where there is no room. -/
theorem run_append_make {P : Program} (w : World) (t tn ty e : TypeId) (i : TypeInfo) (z : Value) (size bytes : Nat) (k kn : IntKind) (ht : P.underlying t = some (.slice e)) (htn : P.underlying tn = some (.int kn)) (hi : P.info? e = some i) (hz : i.zero = some z) (hsize : i.size = size) (hby : i.bytes = bytes) (hzs : z.cells.size = size) (hsz : 0 < size)
    (b : Addr) (n cap m : Nat) (olds : List Value) (hlo : olds.length = n * size) (holds : ∀ j v, olds[j]? = some v → w.cell? (b.add j) = some v) (hm : 0 < m)
    (hg : cap < n + m) (h63 : n + m ≤ maxLen) (hbytes : (n + m) * bytes ≤ 140737488355328) :
    ∃ g' cap' w', (Builtin.append_ #[t, tn] ty #[.slice (some b) n cap, .int k m]).run P w = .ok (.slice (some ⟨g', 0, none⟩) (n + m) cap') w' ∧ w'.ownsRow w.heap.size e size (.slice (some ⟨g', 0, none⟩) (n + m) cap') (n + m) (olds ++ (Builtin.zeroCells z.cells m).toList) ∧ w.grownBy w' none := by
  subst hsize
  subst hby
  have hn : ¬ (n + m ≤ cap) := by omega
  have hm63 : (m : Int) ≤ 9223372036854775807 := by simp only [maxLen] at h63; omega
  have hw : IntKind.i64.wrap (m : Int) = m := by rw [IntKind.wrap_i64]; omega
  have h63' : ¬ (9223372036854775807 < ((n : Int) + (m : Int))) := by simp only [maxLen] at h63; omega
  have hfit := growslice_fits hg hbytes
  have h48' : ¬ (281474976710656 < Builtin.nextslicecap (n + m) cap * i.bytes) := by omega
  have hmb : m * i.bytes ≤ (n + m) * i.bytes := Nat.mul_le_mul_right _ (by omega)
  have h48i : ¬ (281474976710656 < (m : Int) * (i.bytes : Int)) := by
    rw [← Int.natCast_mul]
    omega
  have hm0 : ¬ (m * i.size = 0) := by
    have := Nat.mul_pos hm hsz
    omega
  have hm0' : ¬ (m = 0) := by omega
  have hs0' : ¬ (i.size = 0) := by omega
  have hneg : ¬ ((m : Int) < 0) := by omega
  have hfo := run_firstCells_some (P := P) w.drew i.size n b n cap olds hlo (by simpa using holds)
  have hge := grownCap_ge w (n + m) cap e
  have hcm : grownCap w (n + m) cap e ≤ maxLen := grownCap_le_maxLen w (n + m) cap e h63
  have hlen : (olds ++ (Builtin.zeroCells z.cells m).toList).length = (n + m) * i.size := by rw [List.length_append, hlo, Array.length_toList, size_zeroCells, hzs, Nat.add_mul]
  have hr : (Builtin.append_ #[t, tn] ty #[.slice (some b) n cap, .int k m]).run P w = .ok (.slice (some ⟨w.heap.size, 0, none⟩) (n + m) (grownCap w (n + m) cap e)) (w.drew.alloc (.cells (olds.toArray ++ Builtin.zeroCells z.cells m ++ Builtin.zeroCells z.cells (grownCap w (n + m) cap e - (n + m))) e)) := by
    simp [Builtin.append_, run_underlying ht, run_underlying htn, sizeOf, typeInfo, zeroValue, hi, hz, asInt, asIntOf, hw, hneg, hn, hm0, h63', h48', h48i, Question.forced, hfo, newRow, grownCap]
  refine ⟨_, _, _, hr, ⟨hlen, .inr ⟨w.heap.size, _, _, rfl, Nat.le_refl _, heap_alloc_new w.drew _, hge, hcm, ?_, ?_⟩⟩, ⟨rfl, rfl, rfl, by simp, fun j hj _ => Go.heap_alloc_old w.drew _ hj⟩⟩
  · simp only [Array.size_append, List.size_toArray, size_zeroCells, hzs, hlo, ← Nat.add_mul]
    congr 1
    omega
  · simp only [Array.toList_append, List.append_assoc]
    rw [← List.append_assoc, ← hlen]
    exact List.take_left
theorem wpList_append_make {P : Program} {w : World} {ops : Array Oper} {rest : List Oper} {o : Oper} {a : Act} {Q : Exit → Act → World → Prop} (hgd : o.guard = none) (s x : Operand) (t tn : TypeId)
    (ho : o.op = .call { callee := .builtin .append, args := #[s, x], argTypes := #[t, tn] }) (e : TypeId) (i : TypeInfo) (z : Value) (size bytes : Nat) (k kn : IntKind) (ht : P.underlying t = some (.slice e)) (htn : P.underlying tn = some (.int kn)) (hi : P.info? e = some i) (hz : i.zero = some z) (hsize : i.size = size) (hby : i.bytes = bytes) (hzs : z.cells.size = size) (hsz : 0 < size)
    {b : Addr} {n cap : Nat} {y : Int} (m q : Nat) (olds : List Value) (hs : a.eval s = .slice (some b) n cap) (hx : a.eval x = .int k y) (hy : y = (m : Int)) (hq : n + m = q) (hlo : olds.length = n * size) (holds : ∀ j v, olds[j]? = some v → w.cell? (b.add j) = some v) (hm : 0 < m)
    (hg : cap < q) (h63 : q ≤ maxLen) (hbytes : q * bytes ≤ 140737488355328)
    (h : ∀ g' cap' w', w'.ownsRow w.heap.size e size (.slice (some ⟨g', 0, none⟩) q cap') q (olds ++ (Builtin.zeroCells z.cells m).toList) → w.grownBy w' none → wpList P ops Q rest (a.put o.dst (.slice (some ⟨g', 0, none⟩) q cap')) w') : wpList P ops Q (o :: rest) a w := by
  subst hy
  subst hq
  obtain ⟨g', cap', w', hr, h1, h2⟩ := run_append_make (P := P) w t tn o.type e i z size bytes k kn ht htn hi hz hsize hby hzs hsz b n cap m olds hlo holds hm hg h63 hbytes
  exact Lib.wpList_append_run w hgd s x t tn ho _ _ hs hx _ _ hr (h g' cap' w' h1 h2)

/-- Cells in the midst of a row are written anew. -/
theorem own_over {w : World} {base g n cap : Nat} {e : TypeId} {s : Nat} {xs : List Value} (h : w.ownsRow base e s (.slice (some ⟨g, 0, none⟩) n cap) n xs) (o : Nat) (vs : List Value) (ho : o + vs.length ≤ xs.length) :
    (w.setCells g o vs).ownsRow base e s (.slice (some ⟨g, 0, none⟩) n cap) n (xs.take o ++ (vs ++ xs.drop (o + vs.length))) := by
  obtain ⟨cur, hg, hc, hn, hm, hs, hl0, hr⟩ := own_open h
  have hns : n * s ≤ cap * s := Nat.mul_le_mul_right _ hn
  refine own_write h o vs (by omega) hn (by simp only [List.length_append, List.length_take, List.length_drop]; omega) (fun i hi => ?_)
  have hto : (xs.take o).length = o := by rw [List.length_take]; omega
  split
  · rw [List.getElem?_append_right (by omega), hto, List.getElem?_append_left (by omega)]
  · rename_i hno
    refine ⟨hi, ?_⟩
    by_cases hio : i < o
    · rw [List.getElem?_append_left (by omega), List.getElem?_take, if_pos hio]
    · rw [List.getElem?_append_right (by omega), hto, List.getElem?_append_right (by omega), List.getElem?_drop]
      congr 1
      omega
theorem grow_cells (X Z E D : List Value) (k r : Nat) (hX : X.length = k) (hE : E.length = 5) (hZ : Z.length = 5 + r) (hD : D.length = r) :
    ((X ++ Z).take k ++ (E ++ (X ++ Z).drop (k + E.length))).take (k + 5) ++ (D ++ ((X ++ Z).take k ++ (E ++ (X ++ Z).drop (k + E.length))).drop (k + 5 + D.length)) = X ++ (E ++ D) := by
  have h1 : (X ++ Z).take k = X := List.take_left' hX
  rw [h1]
  have h2 : (X ++ (E ++ (X ++ Z).drop (k + E.length))).take (k + 5) = X ++ E := by
    rw [← List.append_assoc]; exact List.take_left' (by simp [hX, hE])
  have h3 : (X ++ (E ++ (X ++ Z).drop (k + E.length))).drop (k + 5 + D.length) = [] := by
    rw [List.drop_eq_nil_iff]; simp only [List.length_append, List.length_drop]; omega
  rw [h2, h3, List.append_nil, List.append_assoc]
end Go.Proofs.Ytkpedfigaofloaa
