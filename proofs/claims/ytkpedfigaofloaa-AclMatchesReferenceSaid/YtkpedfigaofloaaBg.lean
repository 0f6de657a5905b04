/-
  copy between slices of entries (five cells each), as a law for a walk; what a new entry in the midst of a list leaves in its row.
-/
import Derived.Test.YtkpedfigaofloaaAn
namespace Go.Proofs.Ytkpedfigaofloaa
open Go.RowKit Ap
set_option maxHeartbeats 400000

theorem run_copy5 {P : Program} (w : World) (dT sT ty elem : TypeId) (b o dLen dCap : Nat) (a : Addr) (sLen sCap k : Nat) (cs : List Value) (i : TypeInfo)
    (hu : P.underlying dT = some (.slice elem)) (hq : P.info? elem = some i) (hi : i.size = 5) (hk : Nat.min sLen dLen = k) (hn : cs.length = k * 5)
    (hsrc : ∀ j v, cs[j]? = some v → w.cell? (a.add j) = some v) (hc : ∀ j, j < cs.length → (w.cell? ⟨b, o + j, none⟩).isSome = true ∧ w.frozen? ⟨b, o + j, none⟩ = false) (h1 : ∀ v ∈ cs, v.oneCell' = true) :
    (Builtin.copy_ #[dT, sT] ty #[.slice (some ⟨b, o, none⟩) dLen dCap, .slice (some a) sLen sCap]).run P w = .ok (goInt k) (w.setCells b o cs) := by
  have hl := run_firstCells_some (P := P) w 5 k a sLen sCap cs hn hsrc
  have hst := run_storeCells_cells (P := P) b o cs 0 w (fun j hj => (hc j hj).1) (fun j hj => (hc j hj).2) h1
  simp only [Nat.add_zero] at hst
  simp [Builtin.copy_, run_underlying hu, Builtin.lenOf, sizeOf, typeInfo, hq, hi, hk, hl, hst]

theorem wp_copy5 {P : Program} {w : World} {o : Oper} {a : Act} {K : Act → World → Prop} {Q : Exit → Act → World → Prop} (d s : Operand) (dT sT : TypeId)
    (ho : o.op = .call { callee := .builtin .copy, args := #[d, s], argTypes := #[dT, sT] }) (elem : TypeId) (i : TypeInfo) (hu : P.underlying dT = some (.slice elem)) (hq : P.info? elem = some i) (hi : i.size = 5)
    {b off dLen dCap : Nat} {ad : Addr} {sLen sCap : Nat} (hd : a.eval d = .slice (some ⟨b, off, none⟩) dLen dCap) (hs : a.eval s = .slice (some ad) sLen sCap) (k : Nat) (cs : List Value) (hk : Nat.min sLen dLen = k) (hn : cs.length = k * 5)
    (hsrc : ∀ j v, cs[j]? = some v → w.cell? (ad.add j) = some v) (hc : ∀ j, j < cs.length → (w.cell? ⟨b, off + j, none⟩).isSome = true ∧ w.frozen? ⟨b, off + j, none⟩ = false) (h1 : ∀ v ∈ cs, v.oneCell' = true)
    (h : K (a.put o.dst (goInt k)) (w.setCells b off cs)) : Oper.wp P o a w K Q := by
  have hrun := run_copy5 (P := P) w dT sT o.type elem b off dLen dCap ad sLen sCap k cs i hu hq hi hk hn hsrc hc h1
  unfold Oper.wp execOp
  simp only [ho, resolve, invoke, builtin, Sem.run_bind, Sem.run_pure, Result.andThen_ok, List.map_toArray, List.map_cons, List.map_nil, hd, hs, hrun]
  exact h
theorem wpList_copy5 {P : Program} {w : World} {ops : Array Oper} {rest : List Oper} {o : Oper} {a : Act} {Q : Exit → Act → World → Prop} (hgd : o.guard = none) (d s : Operand) (dT sT : TypeId)
    (ho : o.op = .call { callee := .builtin .copy, args := #[d, s], argTypes := #[dT, sT] }) (elem : TypeId) (i : TypeInfo) (hu : P.underlying dT = some (.slice elem)) (hq : P.info? elem = some i) (hi : i.size = 5)
    {b off dLen dCap : Nat} {ad : Addr} {sLen sCap : Nat} (hd : a.eval d = .slice (some ⟨b, off, none⟩) dLen dCap) (hs : a.eval s = .slice (some ad) sLen sCap) (k : Nat) (cs : List Value) (hk : Nat.min sLen dLen = k) (hn : cs.length = k * 5)
    (hsrc : ∀ j v, cs[j]? = some v → w.cell? (ad.add j) = some v) (hc : ∀ j, j < cs.length → (w.cell? ⟨b, off + j, none⟩).isSome = true ∧ w.frozen? ⟨b, off + j, none⟩ = false) (h1 : ∀ v ∈ cs, v.oneCell' = true)
    (h : ∀ w', w' = w.setCells b off cs → wpList P ops Q rest (a.put o.dst (goInt k)) w') : wpList P ops Q (o :: rest) a w :=
  wpList_plain hgd fun _ hK => wp_copy5 d s dT sT ho elem i hu hq hi hd hs k cs hk hn hsrc hc h1 (hK _ _ (h _ rfl))
theorem step_copy5 {P : Program} {w : World} {ops : Array Oper} {o : Oper} {a : Act} {K : Act → World → Prop} {Q : Exit → Act → World → Prop} {E : Prop} (hgd : o.guard = none) (d s : Operand) (dT sT : TypeId)
    (ho : o.op = .call { callee := .builtin .copy, args := #[d, s], argTypes := #[dT, sT] }) (elem : TypeId) (i : TypeInfo) (hu : P.underlying dT = some (.slice elem)) (hq : P.info? elem = some i) (hi : i.size = 5)
    {b off dLen dCap : Nat} {ad : Addr} {sLen sCap : Nat} (hd : a.eval d = .slice (some ⟨b, off, none⟩) dLen dCap) (hs : a.eval s = .slice (some ad) sLen sCap) (k : Nat) (cs : List Value) (hk : Nat.min sLen dLen = k) (hn : cs.length = k * 5)
    (hsrc : ∀ j v, cs[j]? = some v → w.cell? (ad.add j) = some v) (hc : ∀ j, j < cs.length → (w.cell? ⟨b, off + j, none⟩).isSome = true ∧ w.frozen? ⟨b, off + j, none⟩ = false) (h1 : ∀ v ∈ cs, v.oneCell' = true)
    (h : ∀ w', w' = w.setCells b off cs → K (a.put o.dst (goInt k)) w') : if Region.wanted o (yielded ops a.tmps) = true then Oper.wp P o a w K Q else E := by
  have hw : Region.wanted o (yielded ops a.tmps) = true := by simp [Region.wanted, hgd]
  rw [if_pos hw]
  exact wp_copy5 d s dT sT ho elem i hu hq hi hd hs k cs hk hn hsrc hc h1 (h _ rfl)

/-- An entry is put between the first k and the others. -/
def insL (l : List Ac) (k : Nat) (e : Ac) : List Ac := l.take k ++ e :: l.drop k
theorem insL_len {l : List Ac} {k : Nat} {e : Ac} (h : k ≤ l.length) : (insL l k e).length = l.length + 1 := by simp [insL]; omega
theorem insL_end (l : List Ac) (e : Ac) : insL l l.length e = l ++ [e] := by simp [insL]
/-- First what stands behind is moved up by one place. -/
theorem up_cells (l : List Ac) (k : Nat) (hk : k < l.length) : ∀ i, i < (l.length + 1) * 5 → if (k + 1) * 5 ≤ i ∧ i < (k + 1) * 5 + (encs (l.drop k)).length then (encs (l.drop k))[i - (k + 1) * 5]? = (encs (l.take (k + 1) ++ l.drop k))[i]? else i < l.length * 5 ∧ (encs l)[i]? = (encs (l.take (k + 1) ++ l.drop k))[i]? := by
  intro i hi
  have e1 : encs (l.take (k + 1) ++ l.drop k) = encs (l.take (k + 1)) ++ encs (l.drop k) := encs_append _ _
  have hlt : (encs (l.take (k + 1))).length = (k + 1) * 5 := by rw [encs_length, List.length_take]; omega
  have hld : (encs (l.drop k)).length = (l.length - k) * 5 := by rw [encs_length, List.length_drop]
  rw [e1]
  split
  · rw [List.getElem?_append_right (by omega), hlt]
  · rw [encs_split l (k + 1), List.getElem?_append_left (by omega), List.getElem?_append_left (by omega)]
    exact ⟨by omega, rfl⟩
theorem up_set (l : List Ac) (k : Nat) (hk : k < l.length) (e : Ac) : (l.take (k + 1) ++ l.drop k).set k e = insL l k e := by
  have h1 : (l.take (k + 1)).length = k + 1 := by rw [List.length_take]; omega
  rw [List.set_append_left _ _ (by omega)]
  have : (l.take (k + 1)).set k e = l.take k ++ [e] := by
    rw [List.take_succ_eq_append_getElem hk, List.set_append_right _ _ (by rw [List.length_take]; omega), List.length_take, Nat.min_eq_left (by omega), Nat.sub_self, List.set_cons_zero]
  rw [this, insL, List.append_assoc]; rfl
end Go.Proofs.Ytkpedfigaofloaa
