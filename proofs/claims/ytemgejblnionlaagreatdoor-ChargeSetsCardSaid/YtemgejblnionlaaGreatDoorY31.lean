/-
  The law ChargeSets of layer 10 (accounts and limits), its tied card: for every slice of triples of bytes, every limit and every byte that can be read as data, the call returns true, without a panic, and the arguments read afterwards as before.
  Conditions: the package-level variable that the card lists holds, when the call begins, what the program's own text lays into it (the card ties this to the text, the given tie shows it); the row's own reach.
  (Its memory's openers stand in the same text.)
-/
import Derived.Test.YtemgejblnionlaaGreatDoorY24
import Derived.Test.YtemgejblnionlaaGreatDoorY29
import Derived.Test.YtemgejblnionlaaGreatDoorY30
import Derived.Test.YtemgejblnionlaaGreatDoorCards
import Derived.Test.YtemgejblnionlaaGreatDoorTie
import Derived.ProofKit
import Derived.OpenShut
import Derived.Carry
import Derived.SizedLaws
import Derived.Deep.Strs
import Derived.Deep.Slices
import Derived.Deep.DeepHandedRow
import Derived.Lib.LaidTab
import Derived.Shelf.LaysM
namespace Go.Proofs.YtemgejblnionlaaGreatDoor
set_option maxRecDepth 100000
open Go.ChangeShapes Go.WideShapes Go.ChangeAt Go.RowKit
theorem own : ownKnob Tryz.prog.godebug = none := by kernel_rfl
theorem laidOut' : laidOutB Tryz.prog = true := by kernel_rfl
theorem chunk3 {cs : List Value} {k : Nat} {a b c : Value} (h : (cs.drop k).take 3 = [a, b, c]) : cs.drop k = a :: b :: c :: cs.drop (k + 3) := by
 have := List.take_append_drop 3 (cs.drop k)
 rw [h, List.drop_drop] at this
 rw [← this]; rfl
theorem row_of_kind {H : Type} {enc : TypeId × Value → H} {W : World} {m : Nat} {sp : Nat → Bool} {ys : List Value} {a b c : Int} {p : List MemPlace}
 (h : DataW.trod enc Tryz.prog W 0 sp false m 333 ys = some (.agg [.lit (.int .i32 a), .lit (.int .i32 b), .lit (.int .i64 c)], p)) (hl : ys.length = 3) : ys = [.int .i32 a, .int .i32 b, .int .i64 c] := by
 obtain ⟨y0, y1, y2, n, hx, _, h0, h1, h2⟩ := Go.Deep.trod_struct3 Tryz.underlying333 h
 obtain ⟨n0, e0, x0, _⟩ := DataW.trod_int Tryz.underlying21 h0
 obtain ⟨n1, e1, x1, _⟩ := DataW.trod_int Tryz.underlying21 h1
 obtain ⟨n2, e2, x2, _⟩ := DataW.trod_int Tryz.underlying3 h2
 subst x0; subst x1; subst x2
 simp only [Prod.mk.injEq, DataW.agg.injEq, List.cons.injEq, DataW.lit.injEq, Lit.int.injEq, true_and, and_true] at hx
 obtain ⟨⟨rfl, rfl, rfl⟩, _⟩ := hx
 have c21 : Tryz.prog.cellsOf 21 = 1 := by kernel_rfl
 have c3 : Tryz.prog.cellsOf 3 = 1 := by kernel_rfl
 dsimp only at e0 e1 e2
 rw [c21] at e0 e1
 rw [c3] at e2
 match ys, hl, e0, e1, e2 with
 | [u, v, z], _, e0, e1, e2 =>
   simp at e0 e1 e2
   rw [e0, e1, e2]
theorem env_of_laid {W : World} (h : laidMetH Tryz.prog Rows.chargeSetsRow.laid W) (hs : W.ShapedOpen Tryz.prog) : Nam.Env W := by
 have hmx : ∃ m, W.cell? ⟨1, 0, none⟩ = some (.int .i64 m) :=
  Go.Proofs.cell_of_shapedOpen_int (zero := #[.int .i64 0]) (t := 3) hs (of_decide_eq_true (by kernel_rfl)) (by kernel_rfl) rfl (by kernel_rfl) (by kernel_rfl) Tryz.underlying3
 refine ⟨?_, hmx⟩
 rw [MakeChecks.laidMetH_plain _ _ _ (by kernel_rfl)] at h
 obtain ⟨ps, ⟨g, t, cs, f, p, q, hg, ht, hv, hd, _, _⟩, _⟩ := h
 have hg0 : g = 0 := Option.some.inj (hg.symm.trans (by kernel_rfl))
 subst hg0
 have ht0 : t = 334 := Option.some.inj (ht.symm.trans (by kernel_rfl))
 subst ht0
 have hcells : ∃ t fr, W.heap[0]? = some (.cells cs t fr) := by
  simp only [World.var?, hg, Option.bind_some] at hv
  split at hv
  · rename_i c t fr he
    cases hv
    exact ⟨t, fr, he⟩
  · cases hv
 have hcs : cs = Nam.tabCells := by
  obtain ⟨xs, m, rfl, hx, hlen, hxl, hel⟩ := DataW.trod_array Tryz.underlying334 hd
  have c70 : Tryz.prog.cellsOf 333 = 3 := by kernel_rfl
  have c71 : Tryz.prog.cellsOf 334 = 21 := by kernel_rfl
  rw [c71] at hlen
  rw [c70] at hel
  simp only [Prod.mk.injEq] at hx
  match xs, hxl, hx with
  | [x0, x1, x2, x3, x4, x5, x6], _, hx =>
    have hx1 := hx.1
    unfold Rows.laid_burgage_name_kinds at hx1
    simp only [DataW.agg.injEq, List.map_cons, List.map_nil, List.cons.injEq, and_true] at hx1
    obtain ⟨q0, q1, q2, q3, q4, q5, q6⟩ := hx1
    have L : ∀ k, k + 3 ≤ 21 → ((cs.toList.drop k).take 3).length = 3 := fun k hk => by rw [List.length_take, List.length_drop, hlen]; omega
    have r0 := row_of_kind (p := x0.2) ((hel 0 (by omega)).trans (by simp only [List.getElem?_cons_zero]; rw [q0])) (L 0 (by omega))
    have r1 := row_of_kind (p := x1.2) ((hel 1 (by omega)).trans (by simp only [List.getElem?_cons_succ, List.getElem?_cons_zero]; rw [q1])) (L 3 (by omega))
    have r2 := row_of_kind (p := x2.2) ((hel 2 (by omega)).trans (by simp only [List.getElem?_cons_succ, List.getElem?_cons_zero]; rw [q2])) (L 6 (by omega))
    have r3 := row_of_kind (p := x3.2) ((hel 3 (by omega)).trans (by simp only [List.getElem?_cons_succ, List.getElem?_cons_zero]; rw [q3])) (L 9 (by omega))
    have r4 := row_of_kind (p := x4.2) ((hel 4 (by omega)).trans (by simp only [List.getElem?_cons_succ, List.getElem?_cons_zero]; rw [q4])) (L 12 (by omega))
    have r5 := row_of_kind (p := x5.2) ((hel 5 (by omega)).trans (by simp only [List.getElem?_cons_succ, List.getElem?_cons_zero]; rw [q5])) (L 15 (by omega))
    have r6 := row_of_kind (p := x6.2) ((hel 6 (by omega)).trans (by simp only [List.getElem?_cons_succ, List.getElem?_cons_zero]; rw [q6])) (L 18 (by omega))
    have d0 := chunk3 r0
    have d1 := chunk3 r1
    have d2 := chunk3 r2
    have d3 := chunk3 r3
    have d4 := chunk3 r4
    have d5 := chunk3 r5
    have d6 := chunk3 r6
    have d7 : cs.toList.drop 21 = [] := List.drop_of_length_le (by omega)
    have : cs.toList = Nam.tabCells.toList := by
     rw [← List.drop_zero (l := cs.toList), d0, d1, d2, d3, d4, d5, d6, d7]
     rfl
    exact Array.toList_inj.1 this
 rw [hcs] at hcells
 exact hcells
theorem trodAll_carried {H : Type} {enc : TypeId × Value → H} {W W' : World} (hb : Below W.heap.size W W') : ∀ (ts : List TypeId) (vs : List Value) (ds : List (DataW H)) (ps : List MemPlace),
 (∀ t ∈ ts, Tryz.prog.readableRec t = true ∧ t < Tryz.prog.types.size) → DataW.TrodAll enc Tryz.prog W 0 (fun _ => true) true ts vs ds ps → (∀ x ∈ ps, x.block < W.heap.size) →
 DataW.TrodAll enc Tryz.prog W' 0 (fun b => decide (b < W.heap.size)) true ts vs ds ps
 | [], vs, ds, ps, _, h, _ => by
   obtain ⟨rfl, rfl, rfl⟩ := trodAll_nil h
   exact trodAll_mk0
 | t :: ts, vs, ds, ps, ht, h, hlt => by
   obtain ⟨v, vs', d, ds', p, p', rfl, rfl, rfl, h0, h1⟩ := trodAll_cons h
   exact trodAll_cons_mk (Below.trod laidOut' (ht t (by simp)).1 (ht t (by simp)).2 h0 hb (fun x hx => hlt x (by simp [hx])))
    (trodAll_carried hb ts vs' ds' p' (fun t' h' => ht t' (List.mem_cons_of_mem _ h')) h1 (fun x hx => hlt x (by simp [hx])))
theorem law_post {H : Type} {enc : TypeId × Value → H} {f : Func} {s : ChangeSpec} {W W' : World} {args : Array Value} {ds gs : List (DataW H)} {before : List MemPlace}
 (hf : f.resultTypes = #[4]) (hs : s.vars = []) (ht : ∀ t ∈ f.params.toList, Tryz.prog.readableRec t = true ∧ t < Tryz.prog.types.size)
 (hW : DataW.Whole enc Tryz.prog f.params.toList s.vars false W args.toList ds gs before)
 (hfn : s.fn H (ds ++ gs) = { results := [.lit (.bool true)], args := ds }) (hb : Below W.heap.size W W') :
 s.post enc Tryz.prog f false true false false W args (.bool true) W' := by
 have hW' := hW
 obtain ⟨p, q, hA, hV, rfl, _, _⟩ := hW
 rw [hs] at hV
 obtain ⟨rfl, rfl⟩ := trodVars_none hV
 refine ⟨ds, [], p ++ [], [], p, [], hW', ?_, ?_, ?_, ?_, fun h => by cases h⟩
 · rw [hf, hfn]
   exact trodAll_cons_mk (shut_bool Tryz.underlying4 true) trodAll_mk0
 · rw [hfn]
   exact trodAll_carried hb _ _ _ _ ht hA (fun x hx => hW'.lt x (by simp [hx]))
 · rw [hs, hfn]; rfl
 · exact World.keptBut_mono (fun x hx => ⟨hx, .inr (.inl (by simpa using hx))⟩) (hb.frame (· ∈ p ++ []))
theorem byte_of_wf {n : Int} (h : (Lit.int .u8 n).wf = true) : ∃ c : UInt8, n = c.toNat := by
 have h' : IntKind.u8.min ≤ n ∧ n ≤ IntKind.u8.max := by simpa [Lit.wf] using h
 have e0 : IntKind.u8.min = 0 := by decide
 have e1 : IntKind.u8.max = 255 := by decide
 rw [e0, e1] at h'
 refine ⟨UInt8.ofNat n.toNat, ?_⟩
 simp
 omega
theorem add_flat (b off k : Nat) : Addr.add ⟨b, off, none⟩ k = ⟨b, off + k, none⟩ := by
 unfold Addr.add
 split <;> simp_all
section
variable {H : Type} {enc : TypeId × Value → H} {W : World}
theorem rows_cells {α : Type} (f : α → List Value) (s : Nat) (hs0 : 0 < s) (hf : ∀ a, (f a).length = s) (hone : ∀ a, ∀ u ∈ f a, u.oneCell' = true) {t e : TypeId} (ht : Tryz.prog.underlying t = some (.slice e)) (he : Tryz.prog.cellsOf e = s) (Wt : α → DataW H → Prop)
 (hopen : ∀ {m : Nat} {cs : List Value} {x : DataW H × List MemPlace}, DataW.trod enc Tryz.prog W 0 (fun _ => true) true m e cs = some x → ∃ a, cs = f a ∧ Wt a x.1)
 {fuel : Nat} {cs : List Value} {x : DataW H × List MemPlace} (h : DataW.trod enc Tryz.prog W 0 (fun _ => true) true fuel t cs = some x) :
 ∃ (A : Option Addr) (n c : Nat) (l : List α) (Ds sp : List (DataW H)), cs = [.slice A n c] ∧ l.length = n ∧ n ≤ 9223372036854775807 ∧ Sv W A n c s (encs f l) ∧ Ds.length = n ∧ (n = 0 ∨ x.1 = .slice Ds sp) ∧ ∀ (i : Nat) (a : α), l[i]? = some a → ∃ d, Ds[i]? = some d ∧ Wt a d := by
 rcases Go.Deep.open_slice ht h with ⟨rfl, _⟩ | ⟨a, n, c, m, k, D, Pl, rfl, _, hl, hm, hmm, rfl, hi⟩
 · exact ⟨none, 0, 0, [], [], [], rfl, rfl, by omega, Sv.none_ _ _, rfl, .inl rfl, fun i a h => by cases h⟩
 · simp only [if_true] at hmm
   subst hmm
   unfold maxLen at hm
   rw [he] at hi
   have each : ∀ i, i < n → ∃ y : α, W.cells? 0 (a.add (i * s)) s = some (f y) ∧ Wt y (D i) := by
    intro i hin
    obtain ⟨cs', h1, h2⟩ := hi i (by omega)
    obtain ⟨y, rfl, hy⟩ := hopen h2
    exact ⟨y, h1, hy⟩
   obtain ⟨l, hl', hat⟩ : ∃ l : List α, l.length = n ∧ ∀ i y, l[i]? = some y → W.cells? 0 (a.add (i * s)) s = some (f y) ∧ Wt y (D i) := by
    refine ⟨(List.finRange n).map fun i => Classical.choose (each i.1 i.2), by simp, fun i y hy => ?_⟩
    obtain ⟨hi', he'⟩ := List.getElem?_eq_some_iff.1 hy
    have hin : i < n := by simpa using hi'
    have := Classical.choose_spec (each i hin)
    rw [List.getElem_map, List.getElem_finRange] at he'
    rw [← he']
    exact this
   refine ⟨some a, n, m, l, (List.range n).map D, _, rfl, hl', by omega, ⟨?_, by omega, by omega, (fun h => by cases h), encs_cells hone l, fun hne => ?_⟩, by simp, .inr rfl, fun i y hy => ?_⟩
   · rw [encs_len hf, hl']
   · have hlen : (encs f l).length = n * s := by rw [encs_len hf, hl']
     obtain ⟨b, off, spot⟩ := a
     have cells : ∀ q y, l[q]? = some y → ∀ r v, (f y)[r]? = some v → W.cell? ((Addr.add ⟨b, off, spot⟩ (q * s)).add r) = some v := by
      intro q y hy r v hv
      obtain ⟨_, hcl, hc⟩ := World.cells?_some (hat q y hy).1
      have hr := (List.getElem?_eq_some_iff.1 hv).1
      exact (hc r (by rw [hf] at hr; exact hr)).trans hv
     have hn0 : 0 < n := by
      rcases Nat.eq_zero_or_pos n with e | e
      · subst e
        rw [Nat.zero_mul] at hlen
        exact absurd (List.eq_nil_of_length_eq_zero hlen) hne
      · exact e
     obtain ⟨y0, hy0⟩ : ∃ y, l[0]? = some y := ⟨_, List.getElem?_eq_getElem (by omega)⟩
     obtain ⟨u0, hu0⟩ : ∃ u, (f y0)[0]? = some u := ⟨_, List.getElem?_eq_getElem (by rw [hf]; exact hs0)⟩
     have c00 := cells 0 y0 hy0 0 u0 hu0
     have hspot : spot = none := by simpa [Addr.add] using World.cell?_spot c00
     subst hspot
     refine ⟨b, off, rfl, ?_, fun j u hu => ?_⟩
     · have := block_lt_of_cell c00
       simpa [Addr.add] using this
     · have hj := (List.getElem?_eq_some_iff.1 hu).1
       rw [hlen] at hj
       have hq : j / s < n := (Nat.div_lt_iff_lt_mul hs0).2 hj
       obtain ⟨y, hy⟩ : ∃ y, l[j / s]? = some y := ⟨_, List.getElem?_eq_getElem (by omega)⟩
       have h1 := encs_get hf (i := j % s) (Nat.mod_lt _ hs0) hy
       have hjs : j / s * s + j % s = j := by rw [Nat.mul_comm]; exact Nat.div_add_mod j s
       rw [hjs, hu] at h1
       have h2 := cells _ y hy _ u h1.symm
       rw [add_flat, add_flat, Nat.add_assoc, hjs] at h2
       exact h2
   · have hin := (List.getElem?_eq_some_iff.1 hy).1
     exact ⟨D i, by rw [List.getElem?_map, List.getElem?_range (by omega)]; rfl, (hat i y hy).2⟩
theorem bytes_of_trod {t e n : Nat} (ht : Tryz.prog.underlying t = some (.array n e)) (hce : Tryz.prog.cellsOf e = 1) (hct : Tryz.prog.cellsOf t = n) {q : IntKind} (he : Tryz.prog.underlying e = some (.int q)) {m : Nat} {cs : List Value} {x : DataW H × List MemPlace}
 (h : DataW.trod enc Tryz.prog W 0 (fun _ => true) true m t cs = some x) : cs.length = n ∧ ∀ i (hi : i < cs.length), ∃ z, cs[i] = .int q z ∧ (Lit.int q z).wf = true := by
 obtain ⟨xs, k, _, _, hlen, hxl, hel⟩ := DataW.trod_array ht h
 rw [hct] at hlen
 refine ⟨hlen, fun i hi => ?_⟩
 have hx := hel i (by omega)
 rw [hce, Nat.mul_one, List.drop_eq_getElem_cons (by omega), List.take_succ_cons, List.take_zero, List.getElem?_eq_getElem (by omega)] at hx
 obtain ⟨z, e, _, hz⟩ := DataW.trod_int he hx
 exact ⟨z, by simpa using e, hz⟩
theorem three_of_trod {m : Nat} {cs : List Value} {x : DataW H × List MemPlace} (h : DataW.trod enc Tryz.prog W 0 (fun _ => true) true m 102 cs = some x) :
 ∃ t : B3, cs = encB t := by
 obtain ⟨hl, hb⟩ := bytes_of_trod Tryz.underlying102 (by kernel_rfl) (by kernel_rfl) Tryz.underlying5 h
 match cs, hl, hb with
 | [u0, u1, u2], _, hb =>
   obtain ⟨z0, e0, w0⟩ := hb 0 (by simp)
   obtain ⟨z1, e1, w1⟩ := hb 1 (by simp)
   obtain ⟨z2, e2, w2⟩ := hb 2 (by simp)
   obtain ⟨b0, rfl⟩ := byte_of_wf w0
   obtain ⟨b1, rfl⟩ := byte_of_wf w1
   obtain ⟨b2, rfl⟩ := byte_of_wf w2
   simp at e0 e1 e2
   exact ⟨(b0, b1, b2), by rw [e0, e1, e2]; rfl⟩
theorem use_of_trod {m : Nat} {cs : List Value} {x : DataW H × List MemPlace} (h : DataW.trod enc Tryz.prog W 0 (fun _ => true) true m 42 cs = some x) : ∃ s : Us, cs = [.int .i64 s.1, .int .i64 s.2] := by
 obtain ⟨xs, n, _, rfl, hl, hlen, hf⟩ := DataW.trod_struct Tryz.underlying42 h
 rw [show Tryz.prog.cellsOf 42 = 2 by kernel_rfl] at hl
 match xs, hlen, cs, hl with
 | [y0, y1], _, [v0, v1], _ =>
   have ci : Tryz.prog.cellsOf 3 = 1 := by kernel_rfl
   have h0 := hf 0 _ rfl
   have h1 := hf 1 _ rfl
   simp [ci] at h0 h1
   obtain ⟨n0, e0, _, w0⟩ := DataW.trod_int Tryz.underlying3 h0
   obtain ⟨n1, e1, _, w1⟩ := DataW.trod_int Tryz.underlying3 h1
   simp at e0 e1
   subst e0 e1
   exact ⟨(n0, n1), rfl⟩
theorem lim_of_trod {m : Nat} {cs : List Value} {x : DataW H × List MemPlace} (h : DataW.trod enc Tryz.prog W 0 (fun _ => true) true m 44 cs = some x) : ∃ s : Int × Us, cs = encU s := by
 obtain ⟨xs, n, _, rfl, hl, hlen, hf⟩ := DataW.trod_struct Tryz.underlying44 h
 rw [show Tryz.prog.cellsOf 44 = 3 by kernel_rfl] at hl
 match xs, hlen, cs, hl with
 | [y0, y1], _, [v0, v1, v2], _ =>
   have ci : Tryz.prog.cellsOf 3 = 1 := by kernel_rfl
   have cu : Tryz.prog.cellsOf 42 = 2 := by kernel_rfl
   have h0 := hf 0 _ rfl
   have h1 := hf 1 _ rfl
   simp [ci, cu] at h0 h1
   obtain ⟨n0, e0, _, w0⟩ := DataW.trod_int Tryz.underlying3 h0
   obtain ⟨u, e1⟩ := use_of_trod h1
   simp at e0 e1
   obtain ⟨e1, e2⟩ := e1
   subst e0 e1 e2
   exact ⟨(n0, u), rfl⟩
end
section
variable {H : Type} {enc : TypeId × Value → H} {W : World} {base : Nat} {v : Value} {d : DataW H} {p : List MemPlace}
theorem byte_arg (hok : Value.okWide Tryz.prog W .any base 5 v) (h : DataW.Trod enc Tryz.prog W 0 (fun _ => true) true 5 v d p) :
 ∃ b : UInt8, v = .int .u8 b.toNat := by
 obtain ⟨n, rfl, _, _, hw⟩ := open_int Tryz.underlying5 hok h
 obtain ⟨b, rfl⟩ := byte_of_wf hw
 exact ⟨b, rfl⟩
theorem lim_arg (hok : Value.okWide Tryz.prog W .any base 44 v) (h : DataW.Trod enc Tryz.prog W 0 (fun _ => true) true 44 v d p) : ∃ x : Int × Us, v = .agg (encU x).toArray := by
 have hx : ∃ cs, v = .agg cs := by
  simp only [Value.okWide, Tryz.underlying44] at hok
  obtain ⟨cs, rfl, _⟩ := hok
  exact ⟨cs, rfl⟩
 obtain ⟨cs, rfl⟩ := hx
 obtain ⟨fuel, hf⟩ := h
 obtain ⟨t, e⟩ := lim_of_trod hf
 exact ⟨t, by rw [show cs = (Value.agg cs).cells from rfl, ← Array.toArray_toList (xs := (Value.agg cs).cells), e]⟩
theorem tris_arg (hok : Value.okWide Tryz.prog W .any base 26 v) (h : DataW.Trod enc Tryz.prog W 0 (fun _ => true) true 26 v d p) :
 ∃ (A : Option Addr) (n c : Nat) (l : List B3), v = .slice A n c ∧ Sv W A n c 3 (encs encB l) := by
 obtain ⟨a0, n, c, rfl⟩ := okWide_slice Tryz.underlying26 hok
 obtain ⟨fuel, hf⟩ := h
 obtain ⟨A, m, c', l, Ds, sp, hcs, hl, hm, hsv, _, _, _⟩ := rows_cells encB 3 (by decide) (fun _ => rfl) (fun _ => oneC rfl) Tryz.underlying26 (by kernel_rfl) (fun _ _ => True) (fun h => (three_of_trod h).imp fun _ e => ⟨e, trivial⟩) hf
 simp [Value.cells] at hcs
 obtain ⟨rfl, rfl, rfl⟩ := hcs
 exact ⟨_, _, _, l, rfl, hsv⟩
end
noncomputable def laidWorld (os : Os) : World :=
 let w0 := World.holding Tryz.prog os ⟨#[], #[], []⟩
 let put (cs : Array Value) : Obj → Obj := fun
  | .cells _ t fr => .cells cs t fr
  | o => o
 { w0 with heap := w0.heap.modify 0 (put Nam.tabCells) }
end Go.Proofs.YtemgejblnionlaaGreatDoor
namespace Go.Proofs.YtemgejblnionlaaGreatDoor.ChargeSetsLaw
open Go.ChangeShapes Go.WideShapes Go.ChangeAt Go.RowKit Go.Proofs.YtemgejblnionlaaGreatDoor
set_option maxRecDepth 100000

theorem contract (H : Type) (enc : TypeId × Value → H) (W : World) (base : Nat) (args : Array Value) (ds gs : List (DataW H)) (before : List MemPlace)
    (hval : ∀ (j : Nat) t v, Tryz.f9.params[j]? = some t → args[j]? = some v → Value.okWide Tryz.prog W .any base t v)
    (hW : DataW.Whole enc Tryz.prog Tryz.f9.params.toList Rows.chargeSetsSpec.vars false W args.toList ds gs before) (hL : laidMetH Tryz.prog Rows.chargeSetsRow.laid W) (hS : W.ShapedOpen Tryz.prog) :
    Calls Tryz.prog 9 args W fun e W' => ∃ v, e = .returned v ∧ Rows.chargeSetsSpec.post enc Tryz.prog Tryz.f9 false true false false W args v W' := by
  have hW' := hW
  obtain ⟨p, q, hA0, hV, rfl, hfz, hnd⟩ := hW
  have hA : DataW.TrodAll enc Tryz.prog W 0 (fun _ => true) true Tryz.f9.params.toList args.toList ds p := hA0
  rw [Tryz.params9] at hA hval
  obtain ⟨v0, vs0, d0, ds0, p0, q0, hargs, rfl, rfl, h0, r0⟩ := trodAll_cons hA
  obtain ⟨v1, vs1, d1, ds1, p1, q1, rfl, rfl, rfl, h1, r1⟩ := trodAll_cons r0
  obtain ⟨v2, vs2, d2, ds2, p2, q2, rfl, rfl, rfl, h2, r2⟩ := trodAll_cons r1
  obtain ⟨rfl, rfl, rfl⟩ := trodAll_nil r2
  obtain rfl : args = #[v0, v1, v2] := by cases args; simp_all
  obtain ⟨rfl, rfl⟩ := trodVars_none hV
  obtain ⟨A, n, c, l, rfl, hl⟩ := tris_arg (hval 0 26 v0 rfl rfl) h0
  obtain ⟨x, rfl⟩ := lim_arg (hval 1 44 v1 rfl rfl) h1
  obtain ⟨b, rfl⟩ := byte_arg (hval 2 5 v2 rfl rfl) h2
  refine (lawSets_any A n c l x b.toNat W (env_of_laid hL hS) hl (by have := b.toNat_lt; omega)).mono fun e W' ⟨he, hb⟩ => ?_
  subst he
  exact ⟨_, rfl, law_post (by kernel_rfl) rfl (by rw [Tryz.params9]; intro t ht; simp at ht; rcases ht with rfl | rfl | rfl <;> exact ⟨by kernel_rfl, of_decide_eq_true (by kernel_rfl)⟩) hW' rfl hb⟩

theorem laid_met (os : Os) : laidMet Tryz.prog Rows.chargeSetsRow.laid ((laidWorld os).forCall (fun _ _ => 0) ⟨#[], #[.slice none 0 0, .agg #[.int .i64 0, .int .i64 0, .int .i64 0], .int .u8 0], []⟩).memory :=
  laidMet_of_run' 8 (by kernel_rfl) (by kernel_rfl)
theorem reads (os : Os) {H : Type} (enc : TypeId × Value → H) : ∃ places, DataW.whole enc Tryz.prog ((laidWorld os).forCall (fun _ _ => 0) ⟨#[], #[.slice none 0 0, .agg #[.int .i64 0, .int .i64 0, .int .i64 0], .int .u8 0], []⟩).memory Tryz.f9.params.toList Rows.chargeSetsSpec.vars false #[Value.slice none 0 0, .agg #[.int .i64 0, .int .i64 0, .int .i64 0], .int .u8 0].toList 8 =
    some ([.nil, .agg [.lit (.int .i64 0), .agg [.lit (.int .i64 0), .lit (.int .i64 0)]], .lit (.int .u8 0)], [], places) :=
  ⟨[], by kernel_rfl⟩

theorem lifted (os : Os) (started : os.Started) (H : Type) (enc : TypeId × Value → H) (F : Stop.Interp) :
    ReturnsInHanded {} Tryz.checked os 9 .any ((OpenSpec.ofChange Rows.chargeSetsSpec).preRow enc Tryz.prog Tryz.f9 Rows.chargeSetsRow.domain false Rows.chargeSetsRow.laid) (((OpenSpec.ofChange Rows.chargeSetsSpec).at F).post enc Tryz.prog Tryz.f9 false true false false) := by
  obtain ⟨places, hx⟩ := reads os enc
  refine returnsInHanded_of_row (C := Tryz.checked) (s := OpenSpec.ofChange Rows.chargeSetsSpec) own started (by kernel_rfl) Tryz.func9
    (witness_row_at (enc := enc) (C := Tryz.checked) false (laidWorld os) #[.slice none 0 0, .agg #[.int .i64 0, .int .i64 0, .int .i64 0], .int .u8 0] rfl (by kernel_rfl) (by kernel_rfl) (by kernel_rfl)
      (OpenSpec.preRow_of_cond 8 hx (by kernel_rfl) (fun k hk => by cases hk) (by kernel_rfl) (laid_met os))) ?_
  intro W base args ds gs before hval hW _ _ _ hL hS _
  exact contract H enc W base args ds gs before hval hW hL hS

theorem bool_and {a b : Bool} (ha : a = true) (hb : b = true) : (a && b) = true := by rw [ha, hb]; rfl
set_option maxHeartbeats 8000000 in
theorem facts : joinedFacts Tryz.pinned.checked.prog 9 Tryz.f9 (OpenSpec.ofChange Rows.chargeSetsSpec).bare Rows.chargeSetsRow = true := by
  unfold joinedFacts
  repeat' (with_reducible refine bool_and ?_ ?_)
  all_goals (as_aux_lemma => kernel_rfl)
theorem said : Rows.ChargeSetsSaid :=
  OpenClaim.holds_of_cond 9 Tryz.f9 rfl rfl rfl rfl rfl rfl rfl ⟨rfl, rfl, rfl, rfl, rfl⟩ rfl rfl rfl rfl rfl (by kernel_rfl) Tryz.func9 facts
    (of_decide_eq_true (by kernel_rfl)) (by unfold Func.isWrapper; first | (rw [if_pos (by decide +kernel)]; kernel_rfl) | (rw [if_neg (by decide +kernel)]; exact ⟨rfl, rfl⟩))
    (fun os started H enc _ F => by rw [OpenClaim.pre_eq_preRow]; exact lifted os started H enc F)

theorem plain (f : FuncId) (fn : Func) (hf : Tryz.pinned.checked.prog.funcNamed Rows.chargeSetsRow.func = some f) (hfn : Tryz.pinned.checked.prog.funcs[f]? = some fn) :
    true = Tryz.pinned.checked.prog.looks [] ∧ ∀ (j : Nat) t, fn.params[j]? = some t → Tryz.pinned.checked.prog.wantsStandIn t = false := by
  obtain rfl : f = 9 := Option.some.inj ((show Tryz.prog.funcNamed Rows.chargeSetsRow.func = some 9 by kernel_rfl).symm.trans hf) |>.symm
  obtain rfl : fn = Tryz.f9 := (Option.some.inj (Tryz.func9.symm.trans hfn)).symm
  refine ⟨by kernel_rfl, fun j t ht => ?_⟩
  rw [Tryz.params9] at ht
  have hm : t ∈ [26, 44, 5] := by have := Array.mem_of_getElem? ht; simpa using this
  have hall : ([26, 44, 5].all fun u => !Tryz.prog.wantsStandIn u) = true := by kernel_rfl
  exact (show Tryz.prog.wantsStandIn t = false by simpa using List.all_eq_true.1 hall t hm)

end Go.Proofs.YtemgejblnionlaaGreatDoor.ChargeSetsLaw
namespace Go.Proofs.YtemgejblnionlaaGreatDoor
theorem chargeSets_card : Rows.ChargeSetsCardSaid :=
  Claim7.holds_tied_plain_at .later [] _ _ _ _ ChargeSetsLaw.said (fun _ h => by cases h) (by kernel_rfl) (fun _ h => by cases h) chargeSets_row_tie rfl ⟨rfl, rfl⟩ (by kernel_rfl) rfl ChargeSetsLaw.plain (by kernel_rfl)
end Go.Proofs.YtemgejblnionlaaGreatDoor
