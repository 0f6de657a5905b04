/-
  How the laws' arguments are opened: an array of three slices of triples, a slice of entries, an array of four numbers.
-/
import Derived.Test.YtkpedfigaofloaaBn
namespace Go.Proofs.Ytkpedfigaofloaa
open Go.ChangeShapes Go.WideShapes Go.ChangeAt Go.RowKit Ap

theorem tris_cells2 {H : Type} {enc : TypeId × Value → H} {W : World} {fuel : Nat} {cs : List Value} {x : DataW H × List MemPlace} (hf : DataW.trod enc Try.prog W 0 (fun _ => true) true fuel 23 cs = some x) :
    ∃ (A : Option Addr) (n c : Nat) (l : List Tri), cs = [.slice A n c] ∧ l.length = n ∧ n ≤ c ∧ c ≤ 9223372036854775807 ∧ (A = none → n = 0 ∧ c = 0) ∧ Tris W A l := by
  have hf' := hf
  obtain ⟨A, n, c, l, rfl, hl, hn, ht⟩ := tris_cells hf
  rcases Go.Deep.open_slice Try.underlying23 hf' with ⟨he, _⟩ | ⟨a, n', c', m, k, D, Pl, he, _, hl', hm, _⟩
  · simp at he
    obtain ⟨rfl, rfl, rfl⟩ := he
    exact ⟨none, 0, 0, l, rfl, hl, Nat.le_refl _, by omega, fun _ => ⟨rfl, rfl⟩, ht⟩
  · simp at he
    obtain ⟨rfl, rfl, rfl⟩ := he
    unfold maxLen at hm
    exact ⟨some a, n, c, l, rfl, hl, hl', by omega, (by simp), ht⟩
/-- A slice of triples: what is known of it. -/
def TriArg (W : World) (A : Option Addr) (n c : Nat) (l : List Tri) : Prop := l.length = n ∧ n ≤ c ∧ c ≤ 9223372036854775807 ∧ (A = none → n = 0 ∧ c = 0) ∧ Tris W A l
theorem tri3_arg {H : Type} {enc : TypeId × Value → H} {W : World} {base : Nat} {v : Value} {d : DataW H} {p : List MemPlace} (hok : Value.okWide Try.prog W .any base 24 v) (h : DataW.Trod enc Try.prog W 0 (fun _ => true) true 24 v d p) :
    ∃ (A0 : Option Addr) (n0 c0 : Nat) (l0 : List Tri) (A1 : Option Addr) (n1 c1 : Nat) (l1 : List Tri) (A2 : Option Addr) (n2 c2 : Nat) (l2 : List Tri),
      v = .agg #[.slice A0 n0 c0, .slice A1 n1 c1, .slice A2 n2 c2] ∧ TriArg W A0 n0 c0 l0 ∧ TriArg W A1 n1 c1 l1 ∧ TriArg W A2 n2 c2 l2 := by
  obtain ⟨cs, hl, rfl, hu⟩ := array_parts Try.underlying24 (by kernel_rfl) (by kernel_rfl) hok h
  match cs, hl with
  | [u0, u1, u2], _ =>
    obtain ⟨m0, y0, h0⟩ := hu u0 (by simp)
    obtain ⟨m1, y1, h1⟩ := hu u1 (by simp)
    obtain ⟨m2, y2, h2⟩ := hu u2 (by simp)
    obtain ⟨A0, n0, c0, l0, e0, q0⟩ := tris_cells2 h0
    obtain ⟨A1, n1, c1, l1, e1, q1⟩ := tris_cells2 h1
    obtain ⟨A2, n2, c2, l2, e2, q2⟩ := tris_cells2 h2
    simp at e0 e1 e2
    subst e0 e1 e2
    exact ⟨A0, n0, c0, l0, A1, n1, c1, l1, A2, n2, c2, l2, rfl, q0, q1, q2⟩
/-- Four numbers. -/
theorem four_arg {H : Type} {enc : TypeId × Value → H} {W : World} {base : Nat} {v : Value} {d : DataW H} {p : List MemPlace} (hok : Value.okWide Try.prog W .any base 25 v) (h : DataW.Trod enc Try.prog W 0 (fun _ => true) true 25 v d p) :
    ∃ x y z u : Int, v = .agg #[.int .i64 x, .int .i64 y, .int .i64 z, .int .i64 u] ∧ (-9223372036854775808 ≤ x ∧ x ≤ 9223372036854775807) ∧ (-9223372036854775808 ≤ y ∧ y ≤ 9223372036854775807) ∧ (-9223372036854775808 ≤ z ∧ z ≤ 9223372036854775807) ∧ (-9223372036854775808 ≤ u ∧ u ≤ 9223372036854775807) := by
  obtain ⟨cs, hl, rfl, hu⟩ := array_parts Try.underlying25 (by kernel_rfl) (by kernel_rfl) hok h
  match cs, hl with
  | [u0, u1, u2, u3], _ =>
    have one : ∀ u ∈ [u0, u1, u2, u3], ∃ n : Int, u = .int .i64 n ∧ (-9223372036854775808 ≤ n ∧ n ≤ 9223372036854775807) := fun u hm => by
      obtain ⟨m, y, hy⟩ := hu u hm
      obtain ⟨z, e, _, hz⟩ := DataW.trod_int Try.underlying3 hy
      exact ⟨z, by simpa using e, i64_of_wf hz⟩
    obtain ⟨x, rfl, hx⟩ := one u0 (by simp)
    obtain ⟨y, rfl, hy⟩ := one u1 (by simp)
    obtain ⟨z, rfl, hz⟩ := one u2 (by simp)
    obtain ⟨u, rfl, hu'⟩ := one u3 (by simp)
    exact ⟨x, y, z, u, rfl, hx, hy, hz, hu'⟩
theorem at_cells {W : World} {b off : Nat} {k : Nat} {e : Ac} (h : ∀ i, i < 5 → W.cell? ((Addr.add ⟨b, off, none⟩ k).add i) = (Ap.enc e)[i]?) : At W b (off + k) e := by
  have h0 := h 0 (by omega)
  have h1 := h 1 (by omega)
  have h2 := h 2 (by omega)
  have h3 := h 3 (by omega)
  have h4 := h 4 (by omega)
  rw [add_flat, add_flat] at h0 h1 h2 h3 h4
  exact ⟨h0, h1, h2, h3, h4⟩
/-- A slice of entries. -/
theorem aces_arg {H : Type} {enc : TypeId × Value → H} {W : World} {base : Nat} {v : Value} {d : DataW H} {p : List MemPlace} (hok : Value.okWide Try.prog W .any base 22 v) (h : DataW.Trod enc Try.prog W 0 (fun _ => true) true 22 v d p) :
    ∃ (A : Option Addr) (n c : Nat) (l : List Ac), v = .slice A n c ∧ l.length = n ∧ n ≤ c ∧ c ≤ 9223372036854775807 ∧ (A = none → n = 0 ∧ c = 0) ∧ (∀ a ∈ l, a.ok) ∧ Aces W A l := by
  obtain ⟨a0, n0, c0, rfl⟩ := okWide_slice Try.underlying22 hok
  obtain ⟨fuel, hf⟩ := h
  rcases Go.Deep.open_slice Try.underlying22 hf with ⟨he, _⟩ | ⟨a, n, c, m, k, D, Pl, he, _, hl, hm, hmm, _, hi⟩
  · simp [Value.cells] at he
    obtain ⟨rfl, rfl, rfl⟩ := he
    exact ⟨none, 0, 0, [], rfl, rfl, Nat.le_refl _, by omega, fun _ => ⟨rfl, rfl⟩, by simp, fun h => absurd rfl h⟩
  · simp [Value.cells] at he
    obtain ⟨rfl, rfl, rfl⟩ := he
    simp only [if_true] at hmm
    subst hmm
    unfold maxLen at hm
    have c5 : Try.prog.cellsOf 31 = 5 := by kernel_rfl
    rw [c5] at hi
    have ace : ∀ i, i < n0 → ∃ e : Ac, e.ok ∧ W.cells? 0 (a.add (i * 5)) 5 = some (Ap.enc e) := by
      intro i hin
      obtain ⟨cs', h1, h2⟩ := hi i (by omega)
      obtain ⟨e, he, rfl⟩ := ace_of_trod h2
      exact ⟨e, he, h1⟩
    obtain ⟨l, hl', hok', hat⟩ : ∃ l : List Ac, l.length = n0 ∧ (∀ e ∈ l, e.ok) ∧ ∀ i e, l[i]? = some e → W.cells? 0 (a.add (i * 5)) 5 = some (Ap.enc e) := by
      refine ⟨(List.finRange n0).map fun i => Classical.choose (ace i.1 i.2), by simp, fun e he => ?_, fun i e he => ?_⟩
      · obtain ⟨i, _, rfl⟩ := List.mem_map.1 he
        exact (Classical.choose_spec (ace i.1 i.2)).1
      · obtain ⟨hi', hee⟩ := List.getElem?_eq_some_iff.1 he
        have hin : i < n0 := by simpa using hi'
        have := (Classical.choose_spec (ace i hin)).2
        rw [List.getElem_map, List.getElem_finRange] at hee
        rw [← hee]
        exact this
    refine ⟨some a, n0, m, l, rfl, hl', by omega, by omega, (by simp), hok', fun hne => ?_⟩
    have hn0 : 0 < n0 := by rw [← hl']; exact List.length_pos_iff.2 hne
    obtain ⟨b, off, spot⟩ := a
    have cells : ∀ i e, l[i]? = some e → ∀ j, j < 5 → W.cell? ((Addr.add ⟨b, off, spot⟩ (i * 5)).add j) = (Ap.enc e)[j]? := by
      intro i e he j hj
      obtain ⟨_, h2, hc⟩ := World.cells?_some (hat i e he)
      have h5 : j < (Ap.enc e).length := by simpa [Ap.enc] using hj
      rw [hc j h5, List.getElem?_eq_getElem h5]
    obtain ⟨t0, ht0⟩ : ∃ t, l[0]? = some t := ⟨_, List.getElem?_eq_getElem (by omega)⟩
    have h00 : W.cell? ((Addr.add ⟨b, off, spot⟩ (0 * 5)).add 0) = some (.int .i64 t0.who) := cells 0 t0 ht0 0 (by omega)
    have hspot : spot = none := by simpa [Addr.add] using World.cell?_spot h00
    subst hspot
    refine ⟨b, off, rfl, ?_, fun j t ht => at_cells (cells j t ht)⟩
    have := block_lt_of_cell h00
    simpa [Addr.add] using this
end Go.Proofs.Ytkpedfigaofloaa
