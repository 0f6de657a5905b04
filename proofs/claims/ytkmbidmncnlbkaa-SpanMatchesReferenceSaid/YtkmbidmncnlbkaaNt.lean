/-
  How the arguments of layer 11's laws are opened; what all its rows share.
-/
import Derived.Test.YtkmbidmncnlbkaaNl
import Derived.ProofKit
import Derived.OpenShut
import Derived.Carry
import Derived.Deep.Strs
import Derived.Deep.Slices
import Derived.Deep.DeepHandedRow
import Derived.Lib.LaidTab
import Derived.Shelf.LaysM
namespace Go.Proofs.Ytkmbidmncnlbkaa
set_option maxRecDepth 100000
open Go.ChangeShapes Go.WideShapes Go.ChangeAt Go.RowKit Sn

theorem ownKn : ownKnob Try.prog.godebug = none := by kernel_rfl
theorem laidOut' : laidOutB Try.prog = true := by kernel_rfl
theorem trodAll_carried {H : Type} {enc : TypeId × Value → H} {W W' : World} (hb : Below W.heap.size W W') : ∀ (ts : List TypeId) (vs : List Value) (ds : List (DataW H)) (ps : List MemPlace),
    (∀ t ∈ ts, Try.prog.readableRec t = true ∧ t < Try.prog.types.size) → DataW.TrodAll enc Try.prog W 0 (fun _ => true) true ts vs ds ps → (∀ x ∈ ps, x.block < W.heap.size) →
    DataW.TrodAll enc Try.prog W' 0 (fun b => decide (b < W.heap.size)) true ts vs ds ps
  | [], vs, ds, ps, _, h, _ => by
    obtain ⟨rfl, rfl, rfl⟩ := trodAll_nil h
    exact trodAll_mk0
  | t :: ts, vs, ds, ps, ht, h, hlt => by
    obtain ⟨v, vs', d, ds', p, p', rfl, rfl, rfl, h0, h1⟩ := trodAll_cons h
    exact trodAll_cons_mk (Below.trod laidOut' (ht t (by simp)).1 (ht t (by simp)).2 h0 hb (fun x hx => hlt x (by simp [hx])))
      (trodAll_carried hb ts vs' ds' p' (fun t' h' => ht t' (List.mem_cons_of_mem _ h')) h1 (fun x hx => hlt x (by simp [hx])))
theorem law_post {H : Type} {enc : TypeId × Value → H} {f : Func} {s : ChangeSpec} {W W' : World} {args : Array Value} {ds gs : List (DataW H)} {before : List MemPlace}
    (hf : f.resultTypes = #[4]) (hs : s.vars = []) (ht : ∀ t ∈ f.params.toList, Try.prog.readableRec t = true ∧ t < Try.prog.types.size)
    (hW : DataW.Whole enc Try.prog f.params.toList s.vars false W args.toList ds gs before)
    (hfn : s.fn H (ds ++ gs) = { results := [.lit (.bool true)], args := ds }) (hb : Below W.heap.size W W') :
    s.post enc Try.prog f false true false false W args (.bool true) W' := by
  have hW' := hW
  obtain ⟨p, q, hA, hV, rfl, _, _⟩ := hW
  rw [hs] at hV
  obtain ⟨rfl, rfl⟩ := trodVars_none hV
  refine ⟨ds, [], p ++ [], [], p, [], hW', ?_, ?_, ?_, ?_, fun h => by cases h⟩
  · rw [hf, hfn]
    exact trodAll_cons_mk (shut_bool Try.underlying4 true) trodAll_mk0
  · rw [hfn]
    exact trodAll_carried hb _ _ _ _ ht hA (fun x hx => hW'.lt x (by simp [hx]))
  · rw [hs, hfn]; rfl
  · exact World.keptBut_mono (fun x hx => ⟨hx, .inr (.inl (by simpa using hx))⟩) (hb.frame (· ∈ p ++ []))
noncomputable def plainWorld (os : Os) : World := World.holding Try.prog os ⟨#[], #[], []⟩
theorem i64_wf {n : Int} (h : (Lit.int .i64 n).wf = true) : In64 n := by
  have h' : IntKind.i64.min ≤ n ∧ n ≤ IntKind.i64.max := by simpa [Lit.wf] using h
  exact h'
theorem byte_of_wf {n : Int} (h : (Lit.int .u8 n).wf = true) : ∃ c : UInt8, n = c.toNat := by
  have h' : IntKind.u8.min ≤ n ∧ n ≤ IntKind.u8.max := by simpa [Lit.wf] using h
  have e0 : IntKind.u8.min = 0 := by decide
  have e1 : IntKind.u8.max = 255 := by decide
  rw [e0, e1] at h'
  refine ⟨UInt8.ofNat n.toNat, ?_⟩
  simp
  omega
theorem i8_wf {n : Int} (h : (Lit.int .i8 n).wf = true) : -128 ≤ n ∧ n ≤ 127 := by
  have h' : IntKind.i8.min ≤ n ∧ n ≤ IntKind.i8.max := by simpa [Lit.wf] using h
  exact h'
theorem add_flat (b off k : Nat) : Addr.add ⟨b, off, none⟩ k = ⟨b, off + k, none⟩ := by
  unfold Addr.add
  split <;> simp_all
section
variable {H : Type} {enc : TypeId × Value → H} {W : World} {base : Nat} {v : Value} {d : DataW H} {p : List MemPlace}
theorem array_parts {t e n : Nat} (ht : Try.prog.underlying t = some (.array n e)) (hce : Try.prog.cellsOf e = 1) (hct : Try.prog.cellsOf t = n)
    (hok : Value.okWide Try.prog W .any base t v) (h : DataW.Trod enc Try.prog W 0 (fun _ => true) true t v d p) :
    ∃ cs : List Value, cs.length = n ∧ v = .agg cs.toArray ∧ ∀ u ∈ cs, ∃ m y, DataW.trod enc Try.prog W 0 (fun _ => true) true m e [u] = some y := by
  simp only [Value.okWide, ht] at hok
  obtain ⟨cs, rfl, h2, _⟩ := hok
  obtain ⟨fuel, hf⟩ := h
  have hcc : (Value.agg cs).cells = cs := rfl
  rw [hcc] at hf
  obtain ⟨xs, m, _, _, hlen, hxl, hel⟩ := DataW.trod_array ht hf
  rw [hct] at hlen
  refine ⟨cs.toList, hlen, by simp, fun u hu => ?_⟩
  obtain ⟨i, hi, rfl⟩ := List.getElem_of_mem hu
  have hx := hel i (by omega)
  rw [hce, Nat.mul_one, List.drop_eq_getElem_cons hi, List.take_succ_cons, List.take_zero, List.getElem?_eq_getElem (by omega)] at hx
  exact ⟨m, _, hx⟩
theorem two_ints {t e : Nat} {q : IntKind} (ht : Try.prog.underlying t = some (.array 2 e)) (he : Try.prog.underlying e = some (.int q)) (hce : Try.prog.cellsOf e = 1) (hct : Try.prog.cellsOf t = 2)
    (hok : Value.okWide Try.prog W .any base t v) (h : DataW.Trod enc Try.prog W 0 (fun _ => true) true t v d p) :
    ∃ x y : Int, v = .agg #[.int q x, .int q y] ∧ (Lit.int q x).wf = true ∧ (Lit.int q y).wf = true := by
  obtain ⟨cs, hl, rfl, hu⟩ := array_parts ht hce hct hok h
  match cs, hl with
  | [u1, u2], _ =>
    obtain ⟨m1, y1, h1⟩ := hu u1 (by simp)
    obtain ⟨m2, y2, h2⟩ := hu u2 (by simp)
    obtain ⟨z1, e1, _, w1⟩ := DataW.trod_int he h1
    obtain ⟨z2, e2, _, w2⟩ := DataW.trod_int he h2
    injection e1 with e1
    injection e2 with e2
    subst e1 e2
    exact ⟨z1, z2, rfl, w1, w2⟩
theorem two_u8 (hok : Value.okWide Try.prog W .any base 41 v) (h : DataW.Trod enc Try.prog W 0 (fun _ => true) true 41 v d p) :
    ∃ x y : UInt8, v = .agg #[.int .u8 x.toNat, .int .u8 y.toNat] := by
  obtain ⟨x, y, rfl, hx, hy⟩ := two_ints Try.underlying41 Try.underlying5 (by kernel_rfl) (by kernel_rfl) hok h
  obtain ⟨a, rfl⟩ := byte_of_wf hx
  obtain ⟨b, rfl⟩ := byte_of_wf hy
  exact ⟨a, b, rfl⟩
theorem int_arg (hok : Value.okWide Try.prog W .any base 3 v) (h : DataW.Trod enc Try.prog W 0 (fun _ => true) true 3 v d p) :
    ∃ n : Int, v = .int .i64 n ∧ (-9223372036854775808 ≤ n ∧ n ≤ 9223372036854775807) := by
  obtain ⟨n, rfl, _, _, hw⟩ := open_int Try.underlying3 hok h
  exact ⟨n, rfl, i64_wf hw⟩
theorem span_of_trod {sp : Nat → Bool} {hd : Bool} {m : Nat} {cs : List Value} {x : DataW H × List MemPlace} (h : DataW.trod enc Try.prog W 0 sp hd m 24 cs = some x) :
    ∃ e : S, (In64 e.lo ∧ In64 e.hi) ∧ cs = [.int .i64 e.lo, .int .i64 e.hi] := by
  obtain ⟨xs, n, _, rfl, hl, hlen, hf⟩ := DataW.trod_struct Try.underlying24 h
  have hc : Try.prog.cellsOf 24 = 2 := by kernel_rfl
  rw [hc] at hl
  match xs, hlen, cs, hl with
  | [y0, y1], _, [v0, v1], _ =>
    have ci : Try.prog.cellsOf 3 = 1 := by kernel_rfl
    have h0 := hf 0 _ rfl
    have h1 := hf 1 _ rfl
    simp [ci] at h0 h1
    obtain ⟨n0, e0, _, w0⟩ := DataW.trod_int Try.underlying3 h0
    obtain ⟨n1, e1, _, w1⟩ := DataW.trod_int Try.underlying3 h1
    simp at e0 e1
    subst e0 e1
    exact ⟨⟨n0, n1⟩, ⟨i64_wf w0, i64_wf w1⟩, rfl⟩
theorem span_arg (hok : Value.okWide Try.prog W .any base 24 v) (h : DataW.Trod enc Try.prog W 0 (fun _ => true) true 24 v d p) :
    ∃ lo hi : Int, In64 lo ∧ In64 hi ∧ v = .agg #[.int .i64 lo, .int .i64 hi] := by
  obtain ⟨cs, rfl, _⟩ := okWide_struct Try.underlying24 hok
  obtain ⟨fuel, hf⟩ := h
  have hcc : (Value.agg cs).cells = cs := rfl
  rw [hcc] at hf
  obtain ⟨e, he, hcs⟩ := span_of_trod hf
  refine ⟨e.lo, e.hi, he.1, he.2, ?_⟩
  have : cs = ([.int .i64 e.lo, .int .i64 e.hi] : List Value).toArray := by rw [← hcs]
  rw [this]
theorem flat2_half : ∀ {l : List S} {j : Nat} {x : Int}, (flat2 l)[j]? = some x → ∃ s, l[j / 2]? = some s ∧ x = if j % 2 = 0 then s.lo else s.hi
  | [], j, x, h => by simp [flat2] at h
  | s :: l, 0, x, h => ⟨s, rfl, by simpa [flat2] using h.symm⟩
  | s :: l, 1, x, h => ⟨s, rfl, by simpa [flat2] using h.symm⟩
  | s :: l, j + 2, x, h => by
    obtain ⟨t, h1, h2⟩ := flat2_half (l := l) (j := j) (x := x) (by simpa [flat2] using h)
    refine ⟨t, ?_, ?_⟩
    · rw [show (j + 2) / 2 = j / 2 + 1 by omega, List.getElem?_cons_succ]; exact h1
    · rw [show (j + 2) % 2 = j % 2 by omega]; exact h2
/-- A slice of ranges, given by its cells. -/
theorem spans_cells {fuel : Nat} {cs : List Value} {x : DataW H × List MemPlace} (hf : DataW.trod enc Try.prog W 0 (fun _ => true) true fuel 22 cs = some x) :
    ∃ (A : Option Addr) (n c : Nat) (l : List S), cs = [.slice A n c] ∧ Sl 0 W A n c l ∧ OkB l := by
  rcases Go.Deep.open_slice Try.underlying22 hf with ⟨rfl, _⟩ | ⟨a, n, c, m, k, D, Pl, rfl, hnc, hl, hm, hmm, _, hi⟩
  · exact ⟨none, 0, 0, [], rfl, sl_nil W, fun x h => by cases h⟩
  · simp only [if_true] at hmm
    subst hmm
    unfold maxLen at hm
    have c2 : Try.prog.cellsOf 24 = 2 := by kernel_rfl
    rw [c2] at hi
    have tri : ∀ i, i < n → ∃ t : S, (In64 t.lo ∧ In64 t.hi) ∧ W.cells? 0 (a.add (i * 2)) 2 = some [.int .i64 t.lo, .int .i64 t.hi] := by
      intro i hin
      obtain ⟨cs', h1, h2⟩ := hi i (by omega)
      obtain ⟨t, ht, rfl⟩ := span_of_trod h2
      exact ⟨t, ht, h1⟩
    obtain ⟨l, hl', hat⟩ : ∃ l : List S, l.length = n ∧ ∀ i t, l[i]? = some t → (In64 t.lo ∧ In64 t.hi) ∧ W.cells? 0 (a.add (i * 2)) 2 = some [.int .i64 t.lo, .int .i64 t.hi] := by
      refine ⟨(List.finRange n).map fun i => Classical.choose (tri i.1 i.2), by simp, fun i t ht => ?_⟩
      obtain ⟨hi', he⟩ := List.getElem?_eq_some_iff.1 ht
      have hin : i < n := by simpa using hi'
      have := Classical.choose_spec (tri i hin)
      rw [List.getElem_map, List.getElem_finRange] at he
      rw [← he]
      exact this
    refine ⟨some a, n, m, l, rfl, ⟨by rw [flat2_len, hl'], by omega, by omega, (fun h => by cases h), fun hne => ?_⟩, fun x hx => ?_⟩
    · have hn0 : 0 < n := by
        rw [← hl']
        cases l with
        | nil => exact absurd rfl hne
        | cons s l => simp
      obtain ⟨b, off, spot⟩ := a
      have cells : ∀ i t, l[i]? = some t → W.cell? (Addr.add ⟨b, off, spot⟩ (i * 2)) = some (.int .i64 t.lo) ∧ W.cell? ((Addr.add ⟨b, off, spot⟩ (i * 2)).add 1) = some (.int .i64 t.hi) := by
        intro i t ht
        obtain ⟨_, _, hc⟩ := World.cells?_some (hat i t ht).2
        exact ⟨hc 0 (by omega), hc 1 (by omega)⟩
      obtain ⟨t0, ht0⟩ : ∃ t, l[0]? = some t := ⟨_, List.getElem?_eq_getElem (by omega)⟩
      have hspot : spot = none := by simpa [Addr.add] using World.cell?_spot (cells 0 t0 ht0).1
      subst hspot
      refine ⟨b, off, rfl, Nat.zero_le _, ?_, fun j x hx => ?_⟩
      · have := block_lt_of_cell (cells 0 t0 ht0).1
        simpa [Addr.add] using this
      · obtain ⟨s, h1, h2⟩ := flat2_half hx
        obtain ⟨h3, h4⟩ := cells _ _ h1
        rw [add_flat] at h3
        rw [add_flat, add_flat] at h4
        rw [h2]
        by_cases hj : j % 2 = 0
        · rw [if_pos hj, show off + j = off + j / 2 * 2 by omega]; exact h3
        · rw [if_neg hj, show off + j = off + j / 2 * 2 + 1 by omega]; exact h4
    · obtain ⟨s, hs, h⟩ := bnds_mem.1 hx
      obtain ⟨i, hi2, hi3⟩ := List.getElem_of_mem hs
      have := (hat i s (by rw [List.getElem?_eq_getElem hi2, hi3])).1
      rcases h with rfl | rfl
      · exact this.1
      · exact this.2
theorem spans_arg (hok : Value.okWide Try.prog W .any base 22 v) (h : DataW.Trod enc Try.prog W 0 (fun _ => true) true 22 v d p) :
    ∃ (A : Option Addr) (n c : Nat) (l : List S), v = .slice A n c ∧ Sl 0 W A n c l ∧ OkB l := by
  obtain ⟨a0, n, c, rfl⟩ := okWide_slice Try.underlying22 hok
  obtain ⟨fuel, hf⟩ := h
  obtain ⟨A, m, c', l, hcs, hl⟩ := spans_cells hf
  simp [Value.cells] at hcs
  obtain ⟨rfl, rfl, rfl⟩ := hcs
  exact ⟨_, _, _, l, rfl, hl⟩
/-- Two cells that a reading of an array of two small numbers takes. -/
theorem pair_of_trod {sp : Nat → Bool} {hd : Bool} {m : Nat} {cs : List Value} {x : DataW H × List MemPlace}
    (h : DataW.trod enc Try.prog W 0 sp hd m 50 cs = some x) : ∃ t : T2, ok2 t ∧ cs = [.int .i8 t.1, .int .i8 t.2] := by
  obtain ⟨xs, k, _, _, hlen, hxl, hel⟩ := DataW.trod_array Try.underlying50 h
  have c2 : Try.prog.cellsOf 50 = 2 := by kernel_rfl
  have c1 : Try.prog.cellsOf 49 = 1 := by kernel_rfl
  rw [c2] at hlen
  have one : ∀ i (hi : i < 2), ∃ b : Int, (-128 ≤ b ∧ b ≤ 127) ∧ cs[i]'(by omega) = .int .i8 b := by
    intro i hi
    have hx := hel i hi
    rw [c1, Nat.mul_one, List.drop_eq_getElem_cons (by omega), List.take_succ_cons, List.take_zero, List.getElem?_eq_getElem (by omega)] at hx
    obtain ⟨z, e, _, hz⟩ := DataW.trod_int Try.underlying49 hx
    exact ⟨z, i8_wf hz, by simpa using e⟩
  obtain ⟨x0, o0, h0⟩ := one 0 (by omega)
  obtain ⟨x1, o1, h1⟩ := one 1 (by omega)
  refine ⟨(x0, x1), ⟨o0, o1⟩, ?_⟩
  match cs, hlen, h0, h1 with
  | [a, b], _, h0, h1 =>
    simp at h0 h1
    rw [h0, h1]
/-- A slice of such pairs, given by its cells. -/
theorem pairs_cells {fuel : Nat} {cs : List Value} {x : DataW H × List MemPlace} (hf : DataW.trod enc Try.prog W 0 (fun _ => true) true fuel 25 cs = some x) :
    ∃ (A : Option Addr) (n c : Nat) (l : List T2), cs = [.slice A n c] ∧ l.length = n ∧ (∀ t ∈ l, ok2 t) ∧ Tws W A l := by
  rcases Go.Deep.open_slice Try.underlying25 hf with ⟨rfl, _⟩ | ⟨a, n, c, m, k, D, Pl, rfl, _, hl, hm, hmm, _, hi⟩
  · exact ⟨none, 0, 0, [], rfl, rfl, (fun t h => by cases h), fun h => absurd rfl h⟩
  · simp only [if_true] at hmm
    subst hmm
    have c2 : Try.prog.cellsOf 50 = 2 := by kernel_rfl
    rw [c2] at hi
    have tri : ∀ i, i < n → ∃ t : T2, ok2 t ∧ W.cells? 0 (a.add (i * 2)) 2 = some [.int .i8 t.1, .int .i8 t.2] := by
      intro i hin
      obtain ⟨cs', h1, h2⟩ := hi i (by omega)
      obtain ⟨t, ht, rfl⟩ := pair_of_trod h2
      exact ⟨t, ht, h1⟩
    obtain ⟨l, hl', hat⟩ : ∃ l : List T2, l.length = n ∧ ∀ i t, l[i]? = some t → ok2 t ∧ W.cells? 0 (a.add (i * 2)) 2 = some [.int .i8 t.1, .int .i8 t.2] := by
      refine ⟨(List.finRange n).map fun i => Classical.choose (tri i.1 i.2), by simp, fun i t ht => ?_⟩
      obtain ⟨hi', he⟩ := List.getElem?_eq_some_iff.1 ht
      have hin : i < n := by simpa using hi'
      have := Classical.choose_spec (tri i hin)
      rw [List.getElem_map, List.getElem_finRange] at he
      rw [← he]
      exact this
    refine ⟨some a, n, m, l, rfl, hl', fun t ht => ?_, fun hne => ?_⟩
    · obtain ⟨i, hi2, hi3⟩ := List.getElem_of_mem ht
      exact (hat i t (by rw [List.getElem?_eq_getElem hi2, hi3])).1
    have hn0 : 0 < n := by rw [← hl']; exact List.length_pos_iff.2 hne
    obtain ⟨b, off, spot⟩ := a
    have cells : ∀ i t, l[i]? = some t → W.cell? (Addr.add ⟨b, off, spot⟩ (i * 2)) = some (.int .i8 t.1) ∧ W.cell? ((Addr.add ⟨b, off, spot⟩ (i * 2)).add 1) = some (.int .i8 t.2) := by
      intro i t ht
      obtain ⟨_, _, hc⟩ := World.cells?_some (hat i t ht).2
      exact ⟨hc 0 (by omega), hc 1 (by omega)⟩
    obtain ⟨t0, ht0⟩ : ∃ t, l[0]? = some t := ⟨_, List.getElem?_eq_getElem (by omega)⟩
    have hspot : spot = none := by simpa [Addr.add] using World.cell?_spot (cells 0 t0 ht0).1
    subst hspot
    refine ⟨b, off, rfl, ?_, fun j t ht => ?_⟩
    · have := block_lt_of_cell (cells 0 t0 ht0).1
      simpa [Addr.add] using this
    · obtain ⟨h0, h1⟩ := cells j t ht
      rw [add_flat] at h0
      rw [add_flat, add_flat] at h1
      exact ⟨h0, h1⟩
theorem pairs_arg (hok : Value.okWide Try.prog W .any base 25 v) (h : DataW.Trod enc Try.prog W 0 (fun _ => true) true 25 v d p) :
    ∃ (A : Option Addr) (n c : Nat) (l : List T2), v = .slice A n c ∧ l.length = n ∧ (∀ t ∈ l, ok2 t) ∧ Tws W A l := by
  obtain ⟨a0, n, c, rfl⟩ := okWide_slice Try.underlying25 hok
  obtain ⟨fuel, hf⟩ := h
  obtain ⟨A, m, c', l, hcs, hl⟩ := pairs_cells hf
  simp [Value.cells] at hcs
  obtain ⟨rfl, rfl, rfl⟩ := hcs
  exact ⟨_, _, _, l, rfl, hl⟩
theorem numbers_arg (hok : Value.okWide Try.prog W .any base 27 v) (h : DataW.Trod enc Try.prog W 0 (fun _ => true) true 27 v d p) :
    ∃ (u lo hi : Int) (A : Option Addr) (n c : Nat) (l : List T2), v = .agg #[.int .i64 u, .int .i64 lo, .int .i64 hi, .slice A n c] ∧ In64 u ∧ In64 lo ∧ In64 hi ∧ l.length = n ∧ (∀ t ∈ l, ok2 t) ∧ Tws W A l := by
  obtain ⟨cs, rfl, _⟩ := okWide_struct Try.underlying27 hok
  obtain ⟨fuel, hf⟩ := h
  have hcc : (Value.agg cs).cells = cs := rfl
  rw [hcc] at hf
  obtain ⟨xs, n, _, e, hl, hlen, hfd⟩ := DataW.trod_struct Try.underlying27 hf
  have hc : Try.prog.cellsOf 27 = 4 := by kernel_rfl
  rw [hc] at hl
  match xs, hlen, cs, hl with
  | [y0, y1, y2], _, ⟨[v0, v1, v2, v3]⟩, _ =>
    have ci : Try.prog.cellsOf 3 = 1 := by kernel_rfl
    have cs2 : Try.prog.cellsOf 24 = 2 := by kernel_rfl
    have cl : Try.prog.cellsOf 25 = 1 := by kernel_rfl
    have h0 := hfd 0 _ rfl
    have h1 := hfd 1 _ rfl
    have h2 := hfd 2 _ rfl
    simp [ci, cs2, cl] at h0 h1 h2
    obtain ⟨n0, e0, _, w0⟩ := DataW.trod_int Try.underlying3 h0
    obtain ⟨s, ⟨hs0, hs1⟩, es⟩ := span_of_trod h1
    obtain ⟨A, n, c, l, el, hl1⟩ := pairs_cells h2
    simp at e0 es el
    obtain ⟨rfl, rfl⟩ := es
    subst e0 el
    exact ⟨n0, s.lo, s.hi, A, n, c, l, rfl, i64_wf w0, hs0, hs1, hl1⟩
end
end Go.Proofs.Ytkmbidmncnlbkaa
