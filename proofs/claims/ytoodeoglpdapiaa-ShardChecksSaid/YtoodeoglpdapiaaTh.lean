/-
  How the arguments of layer 7's laws are opened; what all its rows share.
-/
import Derived.Test.YtoodeoglpdapiaaSq
import Derived.ProofKit
import Derived.OpenShut
import Derived.Carry
import Derived.Deep.Strs
import Derived.Deep.Slices
import Derived.Deep.DeepHandedRow
import Derived.Lib.LaidTab
import Derived.Shelf.LaysM
namespace Go.Proofs.Ytoodeoglpdapiaa
open Go.ChangeShapes Go.WideShapes Go.ChangeAt Go.RowKit

theorem ownKn : ownKnob Try.prog.godebug = none := by kernel_rfl
theorem laidOut' : laidOutB Try.prog = true := by kernel_rfl
theorem trodAll_carried {H : Type} {enc : TypeId × Value → H} {W W' : World} (hb : Below W.heap.size W W') : ∀ (ts : List TypeId) (vs : List Value) (ds : List (DataW H)) (ps : List MemPlace),
    (∀ t ∈ ts, Try.prog.readableRec t = true ∧ t < Try.prog.types.size) → DataW.TrodAll enc Try.prog W 0 (fun _ => true) true ts vs ds ps → (∀ x ∈ ps, x.block < W.heap.size) →
    DataW.TrodAll enc Try.prog W' 0 (fun b => decide (b < W.heap.size)) true ts vs ds ps
  | [], vs, ds, ps, _, h, _ => by
    obtain ⟨rfl, rfl, rfl⟩ := trodAll_nil h
    exact trodAll_mk0
  | t :: ts, vs, ds, ps, ht, h, hlt => by
    obtain ⟨v, vs', d, ds', p, p', rfl, rfl, rfl, h0, h1⟩ := trodAll_cons h
    exact trodAll_cons_mk (Below.trod laidOut' (ht t (by simp)).1 (ht t (by simp)).2 h0 hb (fun x hx => hlt x (by simp [hx])))
      (trodAll_carried hb ts vs' ds' p' (fun t' h' => ht t' (List.mem_cons_of_mem _ h')) h1 (fun x hx => hlt x (by simp [hx])))
theorem law_post {H : Type} {enc : TypeId × Value → H} {f : Func} {s : ChangeSpec} {W W' : World} {args : Array Value} {ds gs : List (DataW H)} {before : List MemPlace}
    (hf : f.resultTypes = #[4]) (hs : s.vars = []) (ht : ∀ t ∈ f.params.toList, Try.prog.readableRec t = true ∧ t < Try.prog.types.size)
    (hW : DataW.Whole enc Try.prog f.params.toList s.vars false W args.toList ds gs before)
    (hfn : s.fn H (ds ++ gs) = { results := [.lit (.bool true)], args := ds }) (hb : Below W.heap.size W W') :
    s.post enc Try.prog f false true false false W args (.bool true) W' := by
  have hW' := hW
  obtain ⟨p, q, hA, hV, rfl, _, _⟩ := hW
  rw [hs] at hV
  obtain ⟨rfl, rfl⟩ := trodVars_none hV
  refine ⟨ds, [], p ++ [], [], p, [], hW', ?_, ?_, ?_, ?_, fun h => by cases h⟩
  · rw [hf, hfn]
    exact trodAll_cons_mk (shut_bool Try.underlying4 true) trodAll_mk0
  · rw [hfn]
    exact trodAll_carried hb _ _ _ _ ht hA (fun x hx => hW'.lt x (by simp [hx]))
  · rw [hs, hfn]; rfl
  · exact World.keptBut_mono (fun x hx => ⟨hx, .inr (.inl (by simpa using hx))⟩) (hb.frame (· ∈ p ++ []))
noncomputable def plainWorld (os : Os) : World := World.holding Try.prog os ⟨#[], #[], []⟩

theorem byte_of_wf {n : Int} (h : (Lit.int .u8 n).wf = true) : ∃ c : UInt8, n = c.toNat := by
  have h' : IntKind.u8.min ≤ n ∧ n ≤ IntKind.u8.max := by simpa [Lit.wf] using h
  have e0 : IntKind.u8.min = 0 := by decide
  have e1 : IntKind.u8.max = 255 := by decide
  rw [e0, e1] at h'
  refine ⟨UInt8.ofNat n.toNat, ?_⟩
  simp
  omega
theorem word_of_wf {n : Int} (h : (Lit.int .u16 n).wf = true) : ∃ c : UInt16, n = c.toNat := by
  have h' : IntKind.u16.min ≤ n ∧ n ≤ IntKind.u16.max := by simpa [Lit.wf] using h
  have e0 : IntKind.u16.min = 0 := by decide
  have e1 : IntKind.u16.max = 65535 := by decide
  rw [e0, e1] at h'
  refine ⟨UInt16.ofNat n.toNat, ?_⟩
  simp
  omega
theorem add_flat (b off k : Nat) : Addr.add ⟨b, off, none⟩ k = ⟨b, off + k, none⟩ := by
  unfold Addr.add
  split <;> simp_all
section
variable {H : Type} {enc : TypeId × Value → H} {W : World} {base : Nat} {v : Value} {d : DataW H} {p : List MemPlace}
/-- A slice of bytes, out of the cells that a reading takes. -/
theorem slb_of_trod {sp : Nat → Bool} (hsp : ∀ b, sp b = true) {m : Nat} {cs : List Value} {x : DataW H × List MemPlace} (hf : DataW.trod enc Try.prog W 0 sp true m 22 cs = some x) :
    ∃ (A : Option Addr) (n c : Nat) (l : List UInt8), cs = [.slice A n c] ∧ Slb (· < W.heap.size) W A n c l := by
  have c5 : Try.prog.cellsOf 5 = 1 := by kernel_rfl
  rcases open_ints Try.underlying22 Try.underlying5 c5 hf with ⟨hcs, _⟩ | ⟨a, len', cap', zs, hcs, _, hl, hm, hz, _, hcell, hwz⟩
  · exact ⟨none, 0, 0, [], hcs, rfl, by omega, by omega, fun _ => rfl, BytsO.nil⟩
  · simp only [hsp, if_true] at hz
    unfold maxLen at hm
    refine ⟨some a, len', cap', (zs.take len').map fun z => UInt8.ofNat z.toNat, hcs, ?_, hl, by omega, (fun h => by cases h), fun hne => ?_⟩
    · rw [List.length_map, List.length_take]; omega
    · have hn0 : 0 < len' := by
        rcases Nat.eq_zero_or_pos len' with h0 | h0
        · exact absurd (by rw [h0]; rfl) hne
        · exact h0
      obtain ⟨b, off, spot⟩ := a
      have hspot : spot = none := by simpa [Addr.add] using World.cell?_spot (hcell 0 (by omega))
      subst hspot
      have hlt := block_lt_of_cell (hcell 0 (by omega))
      refine ⟨b, off, rfl, by simpa [Addr.add] using hlt, by simpa [Addr.add] using hlt, fun j x hx => ?_⟩
      obtain ⟨hj, hx'⟩ := List.getElem?_eq_some_iff.1 hx
      rw [List.length_map, List.length_take] at hj
      have hc := hcell j (by omega)
      rw [add_flat] at hc
      rw [hc]
      obtain ⟨y, hy⟩ := byte_of_wf (hwz (zs.getD j 0) (by rw [List.getD_eq_getElem?_getD, List.getElem?_eq_getElem (by omega)]; exact List.getElem_mem (by omega)))
      have : x = y := by
        rw [← hx', List.getElem_map, List.getElem_take]
        have e2 : zs[j]'(by omega) = (y.toNat : Int) := by
          rw [← hy, List.getD_eq_getElem?_getD, List.getElem?_eq_getElem (by omega)]; rfl
        rw [e2]
        simp
      rw [this, hy]
theorem slb_arg (hok : Value.okWide Try.prog W .any base 22 v) (h : DataW.Trod enc Try.prog W 0 (fun _ => true) true 22 v d p) :
    ∃ (A : Option Addr) (n c : Nat) (l : List UInt8), v = .slice A n c ∧ Slb (· < W.heap.size) W A n c l := by
  obtain ⟨a0, n, c, rfl⟩ := okWide_slice Try.underlying22 hok
  obtain ⟨fuel, hf⟩ := h
  obtain ⟨A, n', c', l, hcs, hS⟩ := slb_of_trod (fun _ => rfl) hf
  simp [Value.cells] at hcs
  obtain ⟨rfl, rfl, rfl⟩ := hcs
  exact ⟨_, _, _, l, rfl, hS⟩
theorem sll_arg (hok : Value.okWide Try.prog W .any base 23 v) (h : DataW.Trod enc Try.prog W 0 (fun _ => true) true 23 v d p) :
    ∃ (A : Option Addr) (n c : Nat) (ls : List (List UInt8)), v = .slice A n c ∧ Sll (· < W.heap.size) (· < W.heap.size) W A n c ls := by
  obtain ⟨a0, n, c, rfl⟩ := okWide_slice Try.underlying23 hok
  obtain ⟨fuel, hf⟩ := h
  rcases Go.Deep.open_slice Try.underlying23 hf with ⟨hcs, _⟩ | ⟨a, n', c', m, k, D, Pl, hcs, _, hl, hm, hmm, _, hi⟩
  · simp [Value.cells] at hcs
    obtain ⟨rfl, rfl, rfl⟩ := hcs
    exact ⟨none, 0, 0, [], rfl, rfl, by omega, by omega, fun _ => rfl, fun h => absurd rfl h⟩
  · simp [Value.cells] at hcs
    obtain ⟨rfl, rfl, rfl⟩ := hcs
    simp only [if_true] at hmm
    unfold maxLen at hm
    have c1 : Try.prog.cellsOf 22 = 1 := by kernel_rfl
    rw [c1] at hi
    have one : ∀ i, i < n → ∃ (q : List UInt8), ∃ A' c', W.cell? (a.add i) = some (.slice A' q.length c') ∧ Slb (· < W.heap.size) W A' q.length c' q := by
      intro i hin
      obtain ⟨cs', h1, h2⟩ := hi i (by omega)
      obtain ⟨A', n', c', q, rfl, hS⟩ := slb_of_trod (fun _ => rfl) h2
      obtain ⟨_, _, hc⟩ := World.cells?_some h1
      have h0 := hc 0 (by simp)
      rw [Nat.mul_one] at h0
      have hl := hS.len
      subst hl
      refine ⟨q, A', c', ?_, hS⟩
      simpa [Addr.add] using h0
    obtain ⟨l, hl', hat⟩ : ∃ l : List (List UInt8), l.length = n ∧ ∀ i q, l[i]? = some q → ∃ A' c', W.cell? (a.add i) = some (.slice A' q.length c') ∧ Slb (· < W.heap.size) W A' q.length c' q := by
      refine ⟨(List.finRange n).map fun i => Classical.choose (one i.1 i.2), by simp, fun i t ht => ?_⟩
      obtain ⟨hi', he⟩ := List.getElem?_eq_some_iff.1 ht
      have hin : i < n := by simpa using hi'
      have := Classical.choose_spec (one i hin)
      rw [List.getElem_map, List.getElem_finRange] at he
      rw [← he]
      exact this
    refine ⟨some a, n, c, l, rfl, hl', hl, by omega, (fun h => by cases h), fun hne => ?_⟩
    have hn0 : 0 < l.length := List.length_pos_iff.2 hne
    obtain ⟨b, off, spot⟩ := a
    obtain ⟨A0, c0, q0, _⟩ := hat 0 _ (List.getElem?_eq_getElem hn0)
    have hspot : spot = none := by simpa [Addr.add] using World.cell?_spot q0
    subst hspot
    have hlt := block_lt_of_cell q0
    refine ⟨b, off, rfl, by simpa [Addr.add] using hlt, by simpa [Addr.add] using hlt, fun j r hr => ?_⟩
    obtain ⟨A', c', q1, q2⟩ := hat j r hr
    rw [add_flat] at q1
    exact ⟨A', c', q1, q2.cap, q2.max, q2.nil, q2.byts⟩
theorem all_bytes : ∀ (cs : List Value), (∀ v ∈ cs, ∃ c : UInt8, v = .int .u8 c.toNat) → ∃ l : List UInt8, cs = l.map fun c => Value.int .u8 c.toNat
  | [], _ => ⟨[], rfl⟩
  | v :: cs, h => by
    obtain ⟨s, rfl⟩ := h v (by simp)
    obtain ⟨l, rfl⟩ := all_bytes cs (fun v hv => h v (List.mem_cons_of_mem _ hv))
    exact ⟨s :: l, rfl⟩
theorem all_i8 : ∀ (cs : List Value), (∀ v ∈ cs, ∃ x : Int, v = .int .i8 x ∧ -128 ≤ x ∧ x ≤ 127) → ∃ l : List Int, (cs = l.map fun x => Value.int .i8 x) ∧ ∀ x ∈ l, -128 ≤ x ∧ x ≤ 127
  | [], _ => ⟨[], rfl, fun _ h => by cases h⟩
  | v :: cs, h => by
    obtain ⟨x, rfl, hx⟩ := h v (by simp)
    obtain ⟨l, rfl, hl⟩ := all_i8 cs (fun v hv => h v (List.mem_cons_of_mem _ hv))
    exact ⟨x :: l, rfl, fun y hy => by rcases List.mem_cons.1 hy with rfl | hy; exact hx; exact hl y hy⟩
theorem array_parts {t e n : Nat} (ht : Try.prog.underlying t = some (.array n e)) (hce : Try.prog.cellsOf e = 1) (hct : Try.prog.cellsOf t = n)
    (hok : Value.okWide Try.prog W .any base t v) (h : DataW.Trod enc Try.prog W 0 (fun _ => true) true t v d p) :
    ∃ cs : List Value, cs.length = n ∧ v = .agg cs.toArray ∧ ∀ u ∈ cs, ∃ m y, DataW.trod enc Try.prog W 0 (fun _ => true) true m e [u] = some y := by
  simp only [Value.okWide, ht] at hok
  obtain ⟨cs, rfl, h2, _⟩ := hok
  obtain ⟨fuel, hf⟩ := h
  have hcc : (Value.agg cs).cells = cs := rfl
  rw [hcc] at hf
  obtain ⟨xs, m, _, _, hlen, hxl, hel⟩ := DataW.trod_array ht hf
  rw [hct] at hlen
  refine ⟨cs.toList, hlen, by simp, fun u hu => ?_⟩
  obtain ⟨i, hi, rfl⟩ := List.getElem_of_mem hu
  have hx := hel i (by omega)
  rw [hce, Nat.mul_one, List.drop_eq_getElem_cons hi, List.take_succ_cons, List.take_zero, List.getElem?_eq_getElem (by omega)] at hx
  exact ⟨m, _, hx⟩
theorem bytes_array_arg {t n : Nat} (ht : Try.prog.underlying t = some (.array n 5)) (hct : Try.prog.cellsOf t = n)
    (hok : Value.okWide Try.prog W .any base t v) (h : DataW.Trod enc Try.prog W 0 (fun _ => true) true t v d p) :
    ∃ l : List UInt8, l.length = n ∧ v = .agg (l.map fun c => Value.int .u8 c.toNat).toArray := by
  obtain ⟨cs, hl, rfl, hu⟩ := array_parts ht (by kernel_rfl) hct hok h
  obtain ⟨l, rfl⟩ := all_bytes cs (fun u hm => by
    obtain ⟨m, y, hy⟩ := hu u hm
    obtain ⟨z, e, _, hz⟩ := DataW.trod_int Try.underlying5 hy
    obtain ⟨c, rfl⟩ := byte_of_wf hz
    exact ⟨c, by simpa using e⟩)
  exact ⟨l, by simpa using hl, rfl⟩
theorem i8_three_arg (hok : Value.okWide Try.prog W .any base 25 v) (h : DataW.Trod enc Try.prog W 0 (fun _ => true) true 25 v d p) :
    ∃ x y z : Int, v = .agg #[.int .i8 x, .int .i8 y, .int .i8 z] ∧ (-128 ≤ x ∧ x ≤ 127) ∧ (-128 ≤ y ∧ y ≤ 127) ∧ (-128 ≤ z ∧ z ≤ 127) := by
  obtain ⟨cs, hl, rfl, hu⟩ := array_parts Try.underlying25 (by kernel_rfl) (by kernel_rfl) hok h
  obtain ⟨l, rfl, hr⟩ := all_i8 cs (fun u hm => by
    obtain ⟨m, y, hy⟩ := hu u hm
    obtain ⟨z, e, _, hz⟩ := DataW.trod_int Try.underlying24 hy
    have h' : IntKind.i8.min ≤ z ∧ z ≤ IntKind.i8.max := by simpa [Lit.wf] using hz
    have e0 : IntKind.i8.min = -128 := by decide
    have e1 : IntKind.i8.max = 127 := by decide
    rw [e0, e1] at h'
    exact ⟨z, by simpa using e, h'⟩)
  match l, hl with
  | [x, y, z], _ => exact ⟨x, y, z, rfl, hr x (by simp), hr y (by simp), hr z (by simp)⟩
theorem two_arg (hok : Value.okWide Try.prog W .any base 41 v) (h : DataW.Trod enc Try.prog W 0 (fun _ => true) true 41 v d p) :
    ∃ x y : UInt8, v = .agg #[.int .u8 x.toNat, .int .u8 y.toNat] := by
  obtain ⟨l, hl, rfl⟩ := bytes_array_arg Try.underlying41 (by kernel_rfl) hok h
  match l, hl with
  | [x, y], _ => exact ⟨x, y, rfl⟩
theorem three_arg (hok : Value.okWide Try.prog W .any base 48 v) (h : DataW.Trod enc Try.prog W 0 (fun _ => true) true 48 v d p) :
    ∃ x y z : UInt8, v = .agg #[.int .u8 x.toNat, .int .u8 y.toNat, .int .u8 z.toNat] := by
  obtain ⟨l, hl, rfl⟩ := bytes_array_arg Try.underlying48 (by kernel_rfl) hok h
  match l, hl with
  | [x, y, z], _ => exact ⟨x, y, z, rfl⟩
theorem four_arg (hok : Value.okWide Try.prog W .any base 50 v) (h : DataW.Trod enc Try.prog W 0 (fun _ => true) true 50 v d p) :
    ∃ x y z u : UInt8, v = .agg #[.int .u8 x.toNat, .int .u8 y.toNat, .int .u8 z.toNat, .int .u8 u.toNat] := by
  obtain ⟨l, hl, rfl⟩ := bytes_array_arg Try.underlying50 (by kernel_rfl) hok h
  match l, hl with
  | [x, y, z, u], _ => exact ⟨x, y, z, u, rfl⟩
theorem byte_arg (hok : Value.okWide Try.prog W .any base 5 v) (h : DataW.Trod enc Try.prog W 0 (fun _ => true) true 5 v d p) :
    ∃ c : UInt8, v = .int .u8 c.toNat := by
  obtain ⟨n, rfl, _, _, hw⟩ := open_int Try.underlying5 hok h
  obtain ⟨c, rfl⟩ := byte_of_wf hw
  exact ⟨c, rfl⟩
theorem word_arg (hok : Value.okWide Try.prog W .any base 42 v) (h : DataW.Trod enc Try.prog W 0 (fun _ => true) true 42 v d p) :
    ∃ c : UInt16, v = .int .u16 c.toNat := by
  obtain ⟨n, rfl, _, _, hw⟩ := open_int Try.underlying42 hok h
  obtain ⟨c, rfl⟩ := word_of_wf hw
  exact ⟨c, rfl⟩
theorem int_arg (hok : Value.okWide Try.prog W .any base 3 v) (h : DataW.Trod enc Try.prog W 0 (fun _ => true) true 3 v d p) :
    ∃ n : Int, v = .int .i64 n ∧ (Lit.int .i64 n).wf = true := by
  obtain ⟨n, rfl, _, _, hw⟩ := open_int Try.underlying3 hok h
  exact ⟨n, rfl, hw⟩
end
end Go.Proofs.Ytoodeoglpdapiaa
