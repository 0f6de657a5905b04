/-
  How the arguments of layer 8's laws are opened; what all its rows share.
-/
import Derived.Test.YtggnklcjhbahhaaEp
import Derived.ProofKit
import Derived.OpenShut
import Derived.Carry
import Derived.Deep.Strs
import Derived.Deep.Slices
import Derived.Deep.DeepHandedRow
import Derived.Lib.LaidTab
import Derived.Shelf.LaysM
namespace Go.Proofs.Ytggnklcjhbahhaa
set_option maxRecDepth 100000
open Go.ChangeShapes Go.WideShapes Go.ChangeAt Go.RowKit Ex

theorem ownKn : ownKnob Try.prog.godebug = none := by kernel_rfl
theorem laidOut' : laidOutB Try.prog = true := by kernel_rfl
theorem trodAll_carried {H : Type} {enc : TypeId × Value → H} {W W' : World} (hb : Below W.heap.size W W') : ∀ (ts : List TypeId) (vs : List Value) (ds : List (DataW H)) (ps : List MemPlace),
    (∀ t ∈ ts, Try.prog.readableRec t = true ∧ t < Try.prog.types.size) → DataW.TrodAll enc Try.prog W 0 (fun _ => true) true ts vs ds ps → (∀ x ∈ ps, x.block < W.heap.size) →
    DataW.TrodAll enc Try.prog W' 0 (fun b => decide (b < W.heap.size)) true ts vs ds ps
  | [], vs, ds, ps, _, h, _ => by
    obtain ⟨rfl, rfl, rfl⟩ := trodAll_nil h
    exact trodAll_mk0
  | t :: ts, vs, ds, ps, ht, h, hlt => by
    obtain ⟨v, vs', d, ds', p, p', rfl, rfl, rfl, h0, h1⟩ := trodAll_cons h
    exact trodAll_cons_mk (Below.trod laidOut' (ht t (by simp)).1 (ht t (by simp)).2 h0 hb (fun x hx => hlt x (by simp [hx])))
      (trodAll_carried hb ts vs' ds' p' (fun t' h' => ht t' (List.mem_cons_of_mem _ h')) h1 (fun x hx => hlt x (by simp [hx])))
theorem law_post {H : Type} {enc : TypeId × Value → H} {f : Func} {s : ChangeSpec} {W W' : World} {args : Array Value} {ds gs : List (DataW H)} {before : List MemPlace}
    (hf : f.resultTypes = #[4]) (hs : s.vars = []) (ht : ∀ t ∈ f.params.toList, Try.prog.readableRec t = true ∧ t < Try.prog.types.size)
    (hW : DataW.Whole enc Try.prog f.params.toList s.vars false W args.toList ds gs before)
    (hfn : s.fn H (ds ++ gs) = { results := [.lit (.bool true)], args := ds }) (hb : Below W.heap.size W W') :
    s.post enc Try.prog f false true false false W args (.bool true) W' := by
  have hW' := hW
  obtain ⟨p, q, hA, hV, rfl, _, _⟩ := hW
  rw [hs] at hV
  obtain ⟨rfl, rfl⟩ := trodVars_none hV
  refine ⟨ds, [], p ++ [], [], p, [], hW', ?_, ?_, ?_, ?_, fun h => by cases h⟩
  · rw [hf, hfn]
    exact trodAll_cons_mk (shut_bool Try.underlying4 true) trodAll_mk0
  · rw [hfn]
    exact trodAll_carried hb _ _ _ _ ht hA (fun x hx => hW'.lt x (by simp [hx]))
  · rw [hs, hfn]; rfl
  · exact World.keptBut_mono (fun x hx => ⟨hx, .inr (.inl (by simpa using hx))⟩) (hb.frame (· ∈ p ++ []))
noncomputable def plainWorld (os : Os) : World := World.holding Try.prog os ⟨#[], #[], []⟩

theorem byte_of_wf {n : Int} (h : (Lit.int .u8 n).wf = true) : ∃ c : UInt8, n = c.toNat := by
  have h' : IntKind.u8.min ≤ n ∧ n ≤ IntKind.u8.max := by simpa [Lit.wf] using h
  have e0 : IntKind.u8.min = 0 := by decide
  have e1 : IntKind.u8.max = 255 := by decide
  rw [e0, e1] at h'
  refine ⟨UInt8.ofNat n.toNat, ?_⟩
  simp
  omega
theorem add_flat (b off k : Nat) : Addr.add ⟨b, off, none⟩ k = ⟨b, off + k, none⟩ := by
  unfold Addr.add
  split <;> simp_all
/-- Three cells that a reading of an array of three bytes takes. -/
theorem tri_of_trod {H : Type} {enc : TypeId × Value → H} {W : World} {sp : Nat → Bool} {hd : Bool} {m : Nat} {cs : List Value} {x : DataW H × List MemPlace}
    (h : DataW.trod enc Try.prog W 0 sp hd m 37 cs = some x) : ∃ t : T8, cs = [.int .u8 t.1.toNat, .int .u8 t.2.1.toNat, .int .u8 t.2.2.toNat] := by
  obtain ⟨xs, k, _, _, hlen, hxl, hel⟩ := DataW.trod_array Try.underlying37 h
  have c3 : Try.prog.cellsOf 37 = 3 := by kernel_rfl
  have c1 : Try.prog.cellsOf 5 = 1 := by kernel_rfl
  rw [c3] at hlen
  have one : ∀ i (hi : i < 3), ∃ b : UInt8, cs[i]'(by omega) = .int .u8 b.toNat := by
    intro i hi
    have hx := hel i hi
    rw [c1, Nat.mul_one, List.drop_eq_getElem_cons (by omega), List.take_succ_cons, List.take_zero, List.getElem?_eq_getElem (by omega)] at hx
    obtain ⟨z, e, _, hz⟩ := DataW.trod_int Try.underlying5 hx
    obtain ⟨b, rfl⟩ := byte_of_wf hz
    exact ⟨b, by simpa using e⟩
  obtain ⟨x0, h0⟩ := one 0 (by omega)
  obtain ⟨x1, h1⟩ := one 1 (by omega)
  obtain ⟨x2, h2⟩ := one 2 (by omega)
  refine ⟨(x0, x1, x2), ?_⟩
  match cs, hlen, h0, h1, h2 with
  | [a, b, c], _, h0, h1, h2 =>
    simp at h0 h1 h2
    rw [h0, h1, h2]

/-- A slice of triples, given by its cells. -/
theorem tris_cells {H : Type} {enc : TypeId × Value → H} {W : World} {fuel : Nat} {cs : List Value} {x : DataW H × List MemPlace} (hf : DataW.trod enc Try.prog W 0 (fun _ => true) true fuel 22 cs = some x) :
    ∃ (A : Option Addr) (n c : Nat) (l : List T8), cs = [.slice A n c] ∧ l.length = n ∧ n ≤ 9223372036854775807 ∧ Trs W A l := by
  rcases Go.Deep.open_slice Try.underlying22 hf with ⟨rfl, _⟩ | ⟨a, n, c, m, k, D, Pl, rfl, _, hl, hm, hmm, _, hi⟩
  · exact ⟨none, 0, 0, [], rfl, rfl, by omega, fun h => absurd rfl h⟩
  · simp only [if_true] at hmm
    subst hmm
    unfold maxLen at hm
    have c3 : Try.prog.cellsOf 37 = 3 := by kernel_rfl
    rw [c3] at hi
    have tri : ∀ i, i < n → ∃ t : T8, W.cells? 0 (a.add (i * 3)) 3 = some [.int .u8 t.1.toNat, .int .u8 t.2.1.toNat, .int .u8 t.2.2.toNat] := by
      intro i hin
      obtain ⟨cs', h1, h2⟩ := hi i (by omega)
      obtain ⟨t, rfl⟩ := tri_of_trod h2
      exact ⟨t, h1⟩
    obtain ⟨l, hl', hat⟩ : ∃ l : List T8, l.length = n ∧ ∀ i t, l[i]? = some t → W.cells? 0 (a.add (i * 3)) 3 = some [.int .u8 t.1.toNat, .int .u8 t.2.1.toNat, .int .u8 t.2.2.toNat] := by
      refine ⟨(List.finRange n).map fun i => Classical.choose (tri i.1 i.2), by simp, fun i t ht => ?_⟩
      obtain ⟨hi', he⟩ := List.getElem?_eq_some_iff.1 ht
      have hin : i < n := by simpa using hi'
      have := Classical.choose_spec (tri i hin)
      rw [List.getElem_map, List.getElem_finRange] at he
      rw [← he]
      exact this
    refine ⟨some a, n, m, l, rfl, hl', by omega, fun hne => ?_⟩
    have hn0 : 0 < n := by rw [← hl']; exact List.length_pos_iff.2 hne
    obtain ⟨b, off, spot⟩ := a
    have cells : ∀ i t, l[i]? = some t → W.cell? (Addr.add ⟨b, off, spot⟩ (i * 3)) = some (.int .u8 t.1.toNat) ∧ W.cell? ((Addr.add ⟨b, off, spot⟩ (i * 3)).add 1) = some (.int .u8 t.2.1.toNat) ∧ W.cell? ((Addr.add ⟨b, off, spot⟩ (i * 3)).add 2) = some (.int .u8 t.2.2.toNat) := by
      intro i t ht
      obtain ⟨_, _, hc⟩ := World.cells?_some (hat i t ht)
      exact ⟨hc 0 (by omega), hc 1 (by omega), hc 2 (by omega)⟩
    obtain ⟨t0, ht0⟩ : ∃ t, l[0]? = some t := ⟨_, List.getElem?_eq_getElem (by omega)⟩
    have hspot : spot = none := by simpa [Addr.add] using World.cell?_spot (cells 0 t0 ht0).1
    subst hspot
    refine ⟨b, off, rfl, ?_, fun j t ht => ?_⟩
    · have := block_lt_of_cell (cells 0 t0 ht0).1
      simpa [Addr.add] using this
    · obtain ⟨h0, h1, h2⟩ := cells j t ht
      rw [add_flat] at h0
      rw [add_flat, add_flat] at h1 h2
      exact ⟨h0, h1, h2⟩

theorem tris_arg {H : Type} {enc : TypeId × Value → H} {W : World} {base : Nat} {v : Value} {d : DataW H} {p : List MemPlace} (hok : Value.okWide Try.prog W .any base 22 v) (h : DataW.Trod enc Try.prog W 0 (fun _ => true) true 22 v d p) :
    ∃ (A : Option Addr) (n c : Nat) (l : List T8), v = .slice A n c ∧ l.length = n ∧ n ≤ 9223372036854775807 ∧ Trs W A l := by
  obtain ⟨a0, n, c, rfl⟩ := okWide_slice Try.underlying22 hok
  obtain ⟨fuel, hf⟩ := h
  obtain ⟨A, m, c', l, hcs, hl, hm, ht⟩ := tris_cells hf
  simp [Value.cells] at hcs
  obtain ⟨rfl, rfl, rfl⟩ := hcs
  exact ⟨_, _, _, l, rfl, hl, hm, ht⟩

section
variable {H : Type} {enc : TypeId × Value → H} {W : World} {base : Nat} {v : Value} {d : DataW H} {p : List MemPlace}
theorem all_bytes : ∀ (cs : List Value), (∀ v ∈ cs, ∃ c : UInt8, v = .int .u8 c.toNat) → ∃ l : List UInt8, cs = l.map fun c => Value.int .u8 c.toNat
  | [], _ => ⟨[], rfl⟩
  | v :: cs, h => by
    obtain ⟨s, rfl⟩ := h v (by simp)
    obtain ⟨l, rfl⟩ := all_bytes cs (fun v hv => h v (List.mem_cons_of_mem _ hv))
    exact ⟨s :: l, rfl⟩
theorem array_parts {t e n : Nat} (ht : Try.prog.underlying t = some (.array n e)) (hce : Try.prog.cellsOf e = 1) (hct : Try.prog.cellsOf t = n)
    (hok : Value.okWide Try.prog W .any base t v) (h : DataW.Trod enc Try.prog W 0 (fun _ => true) true t v d p) :
    ∃ cs : List Value, cs.length = n ∧ v = .agg cs.toArray ∧ ∀ u ∈ cs, ∃ m y, DataW.trod enc Try.prog W 0 (fun _ => true) true m e [u] = some y := by
  simp only [Value.okWide, ht] at hok
  obtain ⟨cs, rfl, h2, _⟩ := hok
  obtain ⟨fuel, hf⟩ := h
  have hcc : (Value.agg cs).cells = cs := rfl
  rw [hcc] at hf
  obtain ⟨xs, m, _, _, hlen, hxl, hel⟩ := DataW.trod_array ht hf
  rw [hct] at hlen
  refine ⟨cs.toList, hlen, by simp, fun u hu => ?_⟩
  obtain ⟨i, hi, rfl⟩ := List.getElem_of_mem hu
  have hx := hel i (by omega)
  rw [hce, Nat.mul_one, List.drop_eq_getElem_cons hi, List.take_succ_cons, List.take_zero, List.getElem?_eq_getElem (by omega)] at hx
  exact ⟨m, _, hx⟩
theorem bytes_array_arg {t n : Nat} (ht : Try.prog.underlying t = some (.array n 5)) (hct : Try.prog.cellsOf t = n)
    (hok : Value.okWide Try.prog W .any base t v) (h : DataW.Trod enc Try.prog W 0 (fun _ => true) true t v d p) :
    ∃ l : List UInt8, l.length = n ∧ v = .agg (l.map fun c => Value.int .u8 c.toNat).toArray := by
  obtain ⟨cs, hl, rfl, hu⟩ := array_parts ht (by kernel_rfl) hct hok h
  obtain ⟨l, rfl⟩ := all_bytes cs (fun u hm => by
    obtain ⟨m, y, hy⟩ := hu u hm
    obtain ⟨z, e, _, hz⟩ := DataW.trod_int Try.underlying5 hy
    obtain ⟨c, rfl⟩ := byte_of_wf hz
    exact ⟨c, by simpa using e⟩)
  exact ⟨l, by simpa using hl, rfl⟩
theorem two_arg (hok : Value.okWide Try.prog W .any base 63 v) (h : DataW.Trod enc Try.prog W 0 (fun _ => true) true 63 v d p) :
    ∃ x y : UInt8, v = .agg #[.int .u8 x.toNat, .int .u8 y.toNat] := by
  obtain ⟨l, hl, rfl⟩ := bytes_array_arg Try.underlying63 (by kernel_rfl) hok h
  match l, hl with
  | [x, y], _ => exact ⟨x, y, rfl⟩
theorem three_arg (hok : Value.okWide Try.prog W .any base 37 v) (h : DataW.Trod enc Try.prog W 0 (fun _ => true) true 37 v d p) :
    ∃ x y z : UInt8, v = .agg #[.int .u8 x.toNat, .int .u8 y.toNat, .int .u8 z.toNat] := by
  obtain ⟨l, hl, rfl⟩ := bytes_array_arg Try.underlying37 (by kernel_rfl) hok h
  match l, hl with
  | [x, y, z], _ => exact ⟨x, y, z, rfl⟩
theorem four_arg (hok : Value.okWide Try.prog W .any base 52 v) (h : DataW.Trod enc Try.prog W 0 (fun _ => true) true 52 v d p) :
    ∃ x y z u : UInt8, v = .agg #[.int .u8 x.toNat, .int .u8 y.toNat, .int .u8 z.toNat, .int .u8 u.toNat] := by
  obtain ⟨l, hl, rfl⟩ := bytes_array_arg Try.underlying52 (by kernel_rfl) hok h
  match l, hl with
  | [x, y, z, u], _ => exact ⟨x, y, z, u, rfl⟩
theorem byte_arg (hok : Value.okWide Try.prog W .any base 5 v) (h : DataW.Trod enc Try.prog W 0 (fun _ => true) true 5 v d p) :
    ∃ c : UInt8, v = .int .u8 c.toNat := by
  obtain ⟨n, rfl, _, _, hw⟩ := open_int Try.underlying5 hok h
  obtain ⟨c, rfl⟩ := byte_of_wf hw
  exact ⟨c, rfl⟩
theorem int_arg (hok : Value.okWide Try.prog W .any base 3 v) (h : DataW.Trod enc Try.prog W 0 (fun _ => true) true 3 v d p) :
    ∃ n : Int, v = .int .i64 n ∧ (Lit.int .i64 n).wf = true := by
  obtain ⟨n, rfl, _, _, hw⟩ := open_int Try.underlying3 hok h
  exact ⟨n, rfl, hw⟩
theorem ints_arg (hok : Value.okWide Try.prog W .any base 47 v) (h : DataW.Trod enc Try.prog W 0 (fun _ => true) true 47 v d p) :
    ∃ (A : Option Addr) (n c : Nat) (l : List Int), v = .slice A n c ∧ Si 0 W A n c 1 l := by
  obtain ⟨a0, n, c, rfl⟩ := okWide_slice Try.underlying47 hok
  obtain ⟨fuel, hf⟩ := h
  have c5 : Try.prog.cellsOf 3 = 1 := by kernel_rfl
  rcases open_ints Try.underlying47 Try.underlying3 c5 hf with ⟨hcs, _⟩ | ⟨a, len', cap', zs, hcs, _, hl, hm, hz, _, hcell, hwz⟩
  · simp [Value.cells] at hcs
    obtain ⟨rfl, rfl, rfl⟩ := hcs
    exact ⟨none, 0, 0, [], rfl, rfl, Nat.le_refl _, (by omega), fun _ => rfl, fun h => absurd rfl h⟩
  · simp [Value.cells] at hcs
    obtain ⟨rfl, rfl, rfl⟩ := hcs
    simp only [if_true] at hz
    unfold maxLen at hm
    refine ⟨some a, n, c, zs.take n, rfl, ?_, hl, by omega, (fun h => by cases h), fun hne => ?_⟩
    · rw [List.length_take]; omega
    · have hn0 : 0 < n := by
        rcases Nat.eq_zero_or_pos n with h0 | h0
        · exact absurd (by rw [h0]; rfl) hne
        · exact h0
      obtain ⟨b, off, spot⟩ := a
      have hspot : spot = none := by simpa [Addr.add] using World.cell?_spot (hcell 0 (by omega))
      subst hspot
      have hlt := block_lt_of_cell (hcell 0 (by omega))
      refine ⟨b, off, rfl, Nat.zero_le _, by simpa [Addr.add] using hlt, fun j x hx => ?_⟩
      obtain ⟨hj, hx'⟩ := List.getElem?_eq_some_iff.1 hx
      rw [List.length_take] at hj
      have hc := hcell j (by omega)
      rw [add_flat] at hc
      rw [hc, ← hx', List.getElem_take, List.getD_eq_getElem?_getD, List.getElem?_eq_getElem (by omega)]
      rfl
theorem piece_of_trod {sp : Nat → Bool} {hd : Bool} {m : Nat} {cs : List Value} {x : DataW H × List MemPlace} (h : DataW.trod enc Try.prog W 0 sp hd m 66 cs = some x) :
    ∃ e : Pc, Pc.ok e ∧ cs = [.int .i64 e.id, .int .i64 e.fr, .int .i64 e.n] := by
  obtain ⟨xs, n, _, rfl, hl, hlen, hf⟩ := DataW.trod_struct Try.underlying66 h
  have hc : Try.prog.cellsOf 66 = 3 := by kernel_rfl
  rw [hc] at hl
  match xs, hlen, cs, hl with
  | [y0, y1, y2], _, [v0, v1, v2], _ =>
    have ci : Try.prog.cellsOf 3 = 1 := by kernel_rfl
    have h0 := hf 0 _ rfl
    have h1 := hf 1 _ rfl
    have h2 := hf 2 _ rfl
    simp [ci] at h0 h1 h2
    obtain ⟨n0, e0, _, w0⟩ := DataW.trod_int Try.underlying3 h0
    obtain ⟨n1, e1, _, w1⟩ := DataW.trod_int Try.underlying3 h1
    obtain ⟨n2, e2, _, w2⟩ := DataW.trod_int Try.underlying3 h2
    simp at e0 e1 e2
    subst e0 e1 e2
    exact ⟨⟨n0, n1, n2⟩, ⟨w0, w1, w2⟩, rfl⟩
theorem piece_arg (hok : Value.okWide Try.prog W .any base 66 v) (h : DataW.Trod enc Try.prog W 0 (fun _ => true) true 66 v d p) :
    ∃ e : Pc, Pc.ok e ∧ v = pv e := by
  obtain ⟨cs, rfl, _⟩ := okWide_struct Try.underlying66 hok
  obtain ⟨fuel, hf⟩ := h
  have hcc : (Value.agg cs).cells = cs := rfl
  rw [hcc] at hf
  obtain ⟨e, he, hcs⟩ := piece_of_trod hf
  refine ⟨e, he, ?_⟩
  have : cs = ([.int .i64 e.id, .int .i64 e.fr, .int .i64 e.n] : List Value).toArray := by rw [← hcs]
  rw [this]; rfl

theorem pair_arg (hok : Value.okWide Try.prog W .any base 62 v) (h : DataW.Trod enc Try.prog W 0 (fun _ => true) true 62 v d p) :
    ∃ (A A2 : Option Addr) (n c n2 c2 : Nat) (l l2 : List T8), v = .agg #[.slice A n c, .slice A2 n2 c2] ∧ l.length = n ∧ n ≤ 9223372036854775807 ∧ Trs W A l ∧ l2.length = n2 ∧ n2 ≤ 9223372036854775807 ∧ Trs W A2 l2 := by
  obtain ⟨cs, hl, rfl, hu⟩ := array_parts Try.underlying62 (by kernel_rfl) (by kernel_rfl) hok h
  match cs, hl with
  | [u1, u2], _ =>
    obtain ⟨m1, y1, h1⟩ := hu u1 (by simp)
    obtain ⟨m2, y2, h2⟩ := hu u2 (by simp)
    obtain ⟨A, n, c, l, e1, a1, a2, a3⟩ := tris_cells h1
    obtain ⟨A2, n2, c2, l2, e2, b1, b2, b3⟩ := tris_cells h2
    injection e1 with e1
    injection e2 with e2
    subst e1 e2
    exact ⟨A, A2, n, c, n2, c2, l, l2, rfl, a1, a2, a3, b1, b2, b3⟩
end
end Go.Proofs.Ytggnklcjhbahhaa
