/-
  What all the laws' rows share: what the listed variables give the walks, the world of the witness, and how a reading of the arguments is carried behind a call that turns nothing that lay before it.
-/
import Derived.Test.YtimlfdlocjfgaaaDoorA
import Derived.Test.YtimlfdlocjfgaaaDoorCards
import Derived.Test.YtimlfdlocjfgaaaDoorTie
import Derived.ProofKit
import Derived.OpenShut
import Derived.Carry
import Derived.Deep.Strs
import Derived.Deep.DeepHandedRow
import Derived.Lib.LaidTab
import Derived.Shelf.LaysM
namespace Go.Proofs.YtimlfdlocjfgaaaDoor
open Go.ChangeShapes Go.WideShapes Go.ChangeAt Go.RowKit

theorem own : ownKnob Tryd.prog.godebug = none := by kernel_rfl
theorem laidOut' : laidOutB Tryd.prog = true := by kernel_rfl

/-! ### The table of kinds -/
theorem chunk3 {cs : List Value} {k : Nat} {a b c : Value} (h : (cs.drop k).take 3 = [a, b, c]) : cs.drop k = a :: b :: c :: cs.drop (k + 3) := by
  have := List.take_append_drop 3 (cs.drop k)
  rw [h, List.drop_drop] at this
  rw [← this]; rfl
theorem row_of_kind {H : Type} {enc : TypeId × Value → H} {W : World} {m : Nat} {sp : Nat → Bool} {ys : List Value} {a b c : Int} {p : List MemPlace}
    (h : DataW.trod enc Tryd.prog W 0 sp false m 70 ys = some (.agg [.lit (.int .i32 a), .lit (.int .i32 b), .lit (.int .i64 c)], p)) (hl : ys.length = 3) : ys = [.int .i32 a, .int .i32 b, .int .i64 c] := by
  obtain ⟨y0, y1, y2, n, hx, _, h0, h1, h2⟩ := Go.Deep.trod_struct3 Tryd.underlying70 h
  obtain ⟨n0, e0, x0, _⟩ := DataW.trod_int Tryd.underlying21 h0
  obtain ⟨n1, e1, x1, _⟩ := DataW.trod_int Tryd.underlying21 h1
  obtain ⟨n2, e2, x2, _⟩ := DataW.trod_int Tryd.underlying3 h2
  subst x0; subst x1; subst x2
  simp only [Prod.mk.injEq, DataW.agg.injEq, List.cons.injEq, DataW.lit.injEq, Lit.int.injEq, true_and, and_true] at hx
  obtain ⟨⟨rfl, rfl, rfl⟩, _⟩ := hx
  have c21 : Tryd.prog.cellsOf 21 = 1 := by kernel_rfl
  have c3 : Tryd.prog.cellsOf 3 = 1 := by kernel_rfl
  dsimp only at e0 e1 e2
  rw [c21] at e0 e1
  rw [c3] at e2
  match ys, hl, e0, e1, e2 with
  | [u, v, z], _, e0, e1, e2 =>
    simp at e0 e1 e2
    rw [e0, e1, e2]

theorem env_of_laid {W : World} (h : laidMetH Tryd.prog Rows.nameLimitsRow.laid W) (hs : W.ShapedOpen Tryd.prog) : Env W := by
  have hmx : ∃ m, W.cell? ⟨2, 0, none⟩ = some (.int .i64 m) :=
    Go.Proofs.cell_of_shapedOpen_int (zero := #[.int .i64 0]) (t := 3) hs (of_decide_eq_true (by kernel_rfl)) (by kernel_rfl) rfl (by kernel_rfl) (by kernel_rfl) Tryd.underlying3
  refine ⟨?_, hmx⟩
  rw [MakeChecks.laidMetH_plain _ _ _ (by kernel_rfl)] at h
  obtain ⟨ps, ⟨_, _, _, _, _, _, _, _, _, _, ⟨_, _, _, _, _, _, _, _, _, _, ⟨_, _, _, _, _, _, _, _, _, _, ⟨g, t, cs, f, p, q, hg, ht, hv, hd, _, _⟩, _⟩, _⟩, _⟩, _, _⟩ := h
  have hg0 : g = 0 := Option.some.inj (hg.symm.trans (by kernel_rfl))
  subst hg0
  have ht0 : t = 71 := Option.some.inj (ht.symm.trans (by kernel_rfl))
  subst ht0
  have hcells : ∃ t fr, W.heap[0]? = some (.cells cs t fr) := by
    simp only [World.var?, hg, Option.bind_some] at hv
    split at hv
    · rename_i c t fr he
      cases hv
      exact ⟨t, fr, he⟩
    · cases hv
  have hcs : cs = tabCells := by
    obtain ⟨xs, m, rfl, hx, hlen, hxl, hel⟩ := DataW.trod_array Tryd.underlying71 hd
    have c70 : Tryd.prog.cellsOf 70 = 3 := by kernel_rfl
    have c71 : Tryd.prog.cellsOf 71 = 21 := by kernel_rfl
    rw [c71] at hlen
    rw [c70] at hel
    simp only [Prod.mk.injEq] at hx
    match xs, hxl, hx with
    | [x0, x1, x2, x3, x4, x5, x6], _, hx =>
      have hx1 := hx.1
      unfold Rows.laid_burgage_name_kinds at hx1
      simp only [DataW.agg.injEq, List.map_cons, List.map_nil, List.cons.injEq, and_true] at hx1
      obtain ⟨q0, q1, q2, q3, q4, q5, q6⟩ := hx1
      have L : ∀ k, k + 3 ≤ 21 → ((cs.toList.drop k).take 3).length = 3 := fun k hk => by rw [List.length_take, List.length_drop, hlen]; omega
      have r0 := row_of_kind (p := x0.2) ((hel 0 (by omega)).trans (by simp only [List.getElem?_cons_zero]; rw [q0])) (L 0 (by omega))
      have r1 := row_of_kind (p := x1.2) ((hel 1 (by omega)).trans (by simp only [List.getElem?_cons_succ, List.getElem?_cons_zero]; rw [q1])) (L 3 (by omega))
      have r2 := row_of_kind (p := x2.2) ((hel 2 (by omega)).trans (by simp only [List.getElem?_cons_succ, List.getElem?_cons_zero]; rw [q2])) (L 6 (by omega))
      have r3 := row_of_kind (p := x3.2) ((hel 3 (by omega)).trans (by simp only [List.getElem?_cons_succ, List.getElem?_cons_zero]; rw [q3])) (L 9 (by omega))
      have r4 := row_of_kind (p := x4.2) ((hel 4 (by omega)).trans (by simp only [List.getElem?_cons_succ, List.getElem?_cons_zero]; rw [q4])) (L 12 (by omega))
      have r5 := row_of_kind (p := x5.2) ((hel 5 (by omega)).trans (by simp only [List.getElem?_cons_succ, List.getElem?_cons_zero]; rw [q5])) (L 15 (by omega))
      have r6 := row_of_kind (p := x6.2) ((hel 6 (by omega)).trans (by simp only [List.getElem?_cons_succ, List.getElem?_cons_zero]; rw [q6])) (L 18 (by omega))
      have d0 := chunk3 r0
      have d1 := chunk3 r1
      have d2 := chunk3 r2
      have d3 := chunk3 r3
      have d4 := chunk3 r4
      have d5 := chunk3 r5
      have d6 := chunk3 r6
      have d7 : cs.toList.drop 21 = [] := List.drop_of_length_le (by omega)
      have : cs.toList = tabCells.toList := by
        rw [← List.drop_zero (l := cs.toList), d0, d1, d2, d3, d4, d5, d6, d7]
        rfl
      exact Array.toList_inj.1 this
  rw [hcs] at hcells
  exact hcells

/-! ### The arguments behind the call; the result -/
theorem trodAll_carried {H : Type} {enc : TypeId × Value → H} {W W' : World} (hb : Below W.heap.size W W') : ∀ (ts : List TypeId) (vs : List Value) (ds : List (DataW H)) (ps : List MemPlace),
    (∀ t ∈ ts, Tryd.prog.readableRec t = true ∧ t < Tryd.prog.types.size) → DataW.TrodAll enc Tryd.prog W 0 (fun _ => true) true ts vs ds ps → (∀ x ∈ ps, x.block < W.heap.size) →
    DataW.TrodAll enc Tryd.prog W' 0 (fun b => decide (b < W.heap.size)) true ts vs ds ps
  | [], vs, ds, ps, _, h, _ => by
    obtain ⟨rfl, rfl, rfl⟩ := trodAll_nil h
    exact trodAll_mk0
  | t :: ts, vs, ds, ps, ht, h, hlt => by
    obtain ⟨v, vs', d, ds', p, p', rfl, rfl, rfl, h0, h1⟩ := trodAll_cons h
    exact trodAll_cons_mk (Below.trod laidOut' (ht t (by simp)).1 (ht t (by simp)).2 h0 hb (fun x hx => hlt x (by simp [hx])))
      (trodAll_carried hb ts vs' ds' p' (fun t' h' => ht t' (List.mem_cons_of_mem _ h')) h1 (fun x hx => hlt x (by simp [hx])))

/-- A law that returned true and turned nothing that lay before. -/
theorem law_post {H : Type} {enc : TypeId × Value → H} {f : Func} {s : ChangeSpec} {W W' : World} {args : Array Value} {ds gs : List (DataW H)} {before : List MemPlace}
    (hf : f.resultTypes = #[4]) (hs : s.vars = []) (ht : ∀ t ∈ f.params.toList, Tryd.prog.readableRec t = true ∧ t < Tryd.prog.types.size)
    (hW : DataW.Whole enc Tryd.prog f.params.toList s.vars false W args.toList ds gs before)
    (hfn : s.fn H (ds ++ gs) = { results := [.lit (.bool true)], args := ds }) (hb : Below W.heap.size W W') :
    s.post enc Tryd.prog f false true false false W args (.bool true) W' := by
  have hW' := hW
  obtain ⟨p, q, hA, hV, rfl, _, _⟩ := hW
  rw [hs] at hV
  obtain ⟨rfl, rfl⟩ := trodVars_none hV
  refine ⟨ds, [], p ++ [], [], p, [], hW', ?_, ?_, ?_, ?_, fun h => by cases h⟩
  · rw [hf, hfn]
    exact trodAll_cons_mk (shut_bool Tryd.underlying4 true) trodAll_mk0
  · rw [hfn]
    exact trodAll_carried hb _ _ _ _ ht hA (fun x hx => hW'.lt x (by simp [hx]))
  · rw [hs, hfn]; rfl
  · exact World.keptBut_mono (fun x hx => ⟨hx, .inr (.inl (by simpa using hx))⟩) (hb.frame (· ∈ p ++ []))

/-! ### A world for the witness: the settled one, the listed variables holding what their initialisers lay -/
def flat : DataW Unit → List Value
  | .lit (.int k n) => [.int k n]
  | _ => []
def cellsOf1 (d : DataW Unit) : Array Value := match d with
  | .agg l => (l.flatMap flat).toArray
  | _ => #[]
noncomputable def laidWorld (os : Os) : World :=
  let w0 := World.holding Tryd.prog os ⟨#[], #[], []⟩
  let put (cs : Array Value) : Obj → Obj := fun
    | .cells _ t fr => .cells cs t fr
    | o => o
  { w0 with heap := (((w0.heap.modify 0 (put tabCells)).modify 1 (put (cellsOf1 Rows.laid_internal_strconv_uint64pow10))).modify 3 (put (cellsOf1 Rows.laid_math_bits_deBruijn32tab))).modify 4 (put (cellsOf1 Rows.laid_math_bits_deBruijn64tab)) }
end Go.Proofs.YtimlfdlocjfgaaaDoor
