/-
  What all the laws' rows share: the world of the witness, how a reading of the arguments is carried behind a call that turns nothing that lay before it, and how the laws' arguments are opened.
-/
import Derived.Test.YtkpedfigaofloaaAu
import Derived.ProofKit
import Derived.OpenShut
import Derived.Carry
import Derived.Deep.Strs
import Derived.Deep.Slices
import Derived.Deep.DeepHandedRow
import Derived.Lib.LaidTab
import Derived.Shelf.LaysM
namespace Go.Proofs.Ytkpedfigaofloaa
open Go.ChangeShapes Go.WideShapes Go.ChangeAt Go.RowKit

theorem ownKn : ownKnob Try.prog.godebug = none := by kernel_rfl
theorem laidOut' : laidOutB Try.prog = true := by kernel_rfl

/-! ### The arguments behind the call; the result -/
theorem trodAll_carried {H : Type} {enc : TypeId × Value → H} {W W' : World} (hb : Below W.heap.size W W') : ∀ (ts : List TypeId) (vs : List Value) (ds : List (DataW H)) (ps : List MemPlace),
    (∀ t ∈ ts, Try.prog.readableRec t = true ∧ t < Try.prog.types.size) → DataW.TrodAll enc Try.prog W 0 (fun _ => true) true ts vs ds ps → (∀ x ∈ ps, x.block < W.heap.size) →
    DataW.TrodAll enc Try.prog W' 0 (fun b => decide (b < W.heap.size)) true ts vs ds ps
  | [], vs, ds, ps, _, h, _ => by
    obtain ⟨rfl, rfl, rfl⟩ := trodAll_nil h
    exact trodAll_mk0
  | t :: ts, vs, ds, ps, ht, h, hlt => by
    obtain ⟨v, vs', d, ds', p, p', rfl, rfl, rfl, h0, h1⟩ := trodAll_cons h
    exact trodAll_cons_mk (Below.trod laidOut' (ht t (by simp)).1 (ht t (by simp)).2 h0 hb (fun x hx => hlt x (by simp [hx])))
      (trodAll_carried hb ts vs' ds' p' (fun t' h' => ht t' (List.mem_cons_of_mem _ h')) h1 (fun x hx => hlt x (by simp [hx])))

/-- A law that returned true and turned nothing that lay before. -/
theorem law_post {H : Type} {enc : TypeId × Value → H} {f : Func} {s : ChangeSpec} {W W' : World} {args : Array Value} {ds gs : List (DataW H)} {before : List MemPlace}
    (hf : f.resultTypes = #[4]) (hs : s.vars = []) (ht : ∀ t ∈ f.params.toList, Try.prog.readableRec t = true ∧ t < Try.prog.types.size)
    (hW : DataW.Whole enc Try.prog f.params.toList s.vars false W args.toList ds gs before)
    (hfn : s.fn H (ds ++ gs) = { results := [.lit (.bool true)], args := ds }) (hb : Below W.heap.size W W') :
    s.post enc Try.prog f false true false false W args (.bool true) W' := by
  have hW' := hW
  obtain ⟨p, q, hA, hV, rfl, _, _⟩ := hW
  rw [hs] at hV
  obtain ⟨rfl, rfl⟩ := trodVars_none hV
  refine ⟨ds, [], p ++ [], [], p, [], hW', ?_, ?_, ?_, ?_, fun h => by cases h⟩
  · rw [hf, hfn]
    exact trodAll_cons_mk (shut_bool Try.underlying4 true) trodAll_mk0
  · rw [hfn]
    exact trodAll_carried hb _ _ _ _ ht hA (fun x hx => hW'.lt x (by simp [hx]))
  · rw [hs, hfn]; rfl
  · exact World.keptBut_mono (fun x hx => ⟨hx, .inr (.inl (by simpa using hx))⟩) (hb.frame (· ∈ p ++ []))

/-! ### The arguments -/
theorem byte_of_wf {n : Int} (h : (Lit.int .u8 n).wf = true) : ∃ c : UInt8, n = c.toNat := by
  have h' : IntKind.u8.min ≤ n ∧ n ≤ IntKind.u8.max := by simpa [Lit.wf] using h
  have e0 : IntKind.u8.min = 0 := by decide
  have e1 : IntKind.u8.max = 255 := by decide
  rw [e0, e1] at h'
  refine ⟨UInt8.ofNat n.toNat, ?_⟩
  simp
  omega

/-- Three cells that a reading of an array of three bytes takes. -/
theorem tri_of_trod {H : Type} {enc : TypeId × Value → H} {W : World} {sp : Nat → Bool} {hd : Bool} {m : Nat} {cs : List Value} {x : DataW H × List MemPlace}
    (h : DataW.trod enc Try.prog W 0 sp hd m 45 cs = some x) : ∃ t : Tri, cs = [.int .u8 t.1.toNat, .int .u8 t.2.1.toNat, .int .u8 t.2.2.toNat] := by
  obtain ⟨xs, k, _, _, hlen, hxl, hel⟩ := DataW.trod_array Try.underlying45 h
  have c3 : Try.prog.cellsOf 45 = 3 := by kernel_rfl
  have c1 : Try.prog.cellsOf 5 = 1 := by kernel_rfl
  rw [c3] at hlen
  have one : ∀ i (hi : i < 3), ∃ b : UInt8, cs[i]'(by omega) = .int .u8 b.toNat := by
    intro i hi
    have hx := hel i hi
    rw [c1, Nat.mul_one, List.drop_eq_getElem_cons (by omega), List.take_succ_cons, List.take_zero, List.getElem?_eq_getElem (by omega)] at hx
    obtain ⟨z, e, _, hz⟩ := DataW.trod_int Try.underlying5 hx
    obtain ⟨b, rfl⟩ := byte_of_wf hz
    exact ⟨b, by simpa using e⟩
  obtain ⟨x0, h0⟩ := one 0 (by omega)
  obtain ⟨x1, h1⟩ := one 1 (by omega)
  obtain ⟨x2, h2⟩ := one 2 (by omega)
  refine ⟨(x0, x1, x2), ?_⟩
  match cs, hlen, h0, h1, h2 with
  | [a, b, c], _, h0, h1, h2 =>
    simp at h0 h1 h2
    rw [h0, h1, h2]

theorem add_flat (b off k : Nat) : Addr.add ⟨b, off, none⟩ k = ⟨b, off + k, none⟩ := by
  unfold Addr.add
  split <;> simp_all

/-- A slice of triples, given by its cells. -/
theorem tris_cells {H : Type} {enc : TypeId × Value → H} {W : World} {fuel : Nat} {cs : List Value} {x : DataW H × List MemPlace} (hf : DataW.trod enc Try.prog W 0 (fun _ => true) true fuel 23 cs = some x) :
    ∃ (A : Option Addr) (n c : Nat) (l : List Tri), cs = [.slice A n c] ∧ l.length = n ∧ n ≤ 9223372036854775807 ∧ Tris W A l := by
  rcases Go.Deep.open_slice Try.underlying23 hf with ⟨rfl, _⟩ | ⟨a, n, c, m, k, D, Pl, rfl, _, hl, hm, hmm, _, hi⟩
  · exact ⟨none, 0, 0, [], rfl, rfl, by omega, fun h => absurd rfl h⟩
  · simp only [if_true] at hmm
    subst hmm
    unfold maxLen at hm
    have c3 : Try.prog.cellsOf 45 = 3 := by kernel_rfl
    rw [c3] at hi
    have tri : ∀ i, i < n → ∃ t : Tri, W.cells? 0 (a.add (i * 3)) 3 = some [.int .u8 t.1.toNat, .int .u8 t.2.1.toNat, .int .u8 t.2.2.toNat] := by
      intro i hin
      obtain ⟨cs', h1, h2⟩ := hi i (by omega)
      obtain ⟨t, rfl⟩ := tri_of_trod h2
      exact ⟨t, h1⟩
    obtain ⟨l, hl', hat⟩ : ∃ l : List Tri, l.length = n ∧ ∀ i t, l[i]? = some t → W.cells? 0 (a.add (i * 3)) 3 = some [.int .u8 t.1.toNat, .int .u8 t.2.1.toNat, .int .u8 t.2.2.toNat] := by
      refine ⟨(List.finRange n).map fun i => Classical.choose (tri i.1 i.2), by simp, fun i t ht => ?_⟩
      obtain ⟨hi', he⟩ := List.getElem?_eq_some_iff.1 ht
      have hin : i < n := by simpa using hi'
      have := Classical.choose_spec (tri i hin)
      rw [List.getElem_map, List.getElem_finRange] at he
      rw [← he]
      exact this
    refine ⟨some a, n, m, l, rfl, hl', by omega, fun hne => ?_⟩
    have hn0 : 0 < n := by rw [← hl']; exact List.length_pos_iff.2 hne
    obtain ⟨b, off, spot⟩ := a
    have cells : ∀ i t, l[i]? = some t → W.cell? (Addr.add ⟨b, off, spot⟩ (i * 3)) = some (.int .u8 t.1.toNat) ∧ W.cell? ((Addr.add ⟨b, off, spot⟩ (i * 3)).add 1) = some (.int .u8 t.2.1.toNat) ∧ W.cell? ((Addr.add ⟨b, off, spot⟩ (i * 3)).add 2) = some (.int .u8 t.2.2.toNat) := by
      intro i t ht
      obtain ⟨_, _, hc⟩ := World.cells?_some (hat i t ht)
      exact ⟨hc 0 (by omega), hc 1 (by omega), hc 2 (by omega)⟩
    obtain ⟨t0, ht0⟩ : ∃ t, l[0]? = some t := ⟨_, List.getElem?_eq_getElem (by omega)⟩
    have hspot : spot = none := by simpa [Addr.add] using World.cell?_spot (cells 0 t0 ht0).1
    subst hspot
    refine ⟨b, off, rfl, ?_, fun j t ht => ?_⟩
    · have := block_lt_of_cell (cells 0 t0 ht0).1
      simpa [Addr.add] using this
    · obtain ⟨h0, h1, h2⟩ := cells j t ht
      rw [add_flat] at h0
      rw [add_flat, add_flat] at h1 h2
      exact ⟨h0, h1, h2⟩

theorem tris_arg {H : Type} {enc : TypeId × Value → H} {W : World} {base : Nat} {v : Value} {d : DataW H} {p : List MemPlace} (hok : Value.okWide Try.prog W .any base 23 v) (h : DataW.Trod enc Try.prog W 0 (fun _ => true) true 23 v d p) :
    ∃ (A : Option Addr) (n c : Nat) (l : List Tri), v = .slice A n c ∧ l.length = n ∧ n ≤ 9223372036854775807 ∧ Tris W A l := by
  obtain ⟨a0, n, c, rfl⟩ := okWide_slice Try.underlying23 hok
  obtain ⟨fuel, hf⟩ := h
  obtain ⟨A, m, c', l, hcs, hl, hm, ht⟩ := tris_cells hf
  simp [Value.cells] at hcs
  obtain ⟨rfl, rfl, rfl⟩ := hcs
  exact ⟨_, _, _, l, rfl, hl, hm, ht⟩

/-! ### A world for the witness -/
noncomputable def plainWorld (os : Os) : World := World.holding Try.prog os ⟨#[], #[], []⟩
end Go.Proofs.Ytkpedfigaofloaa
