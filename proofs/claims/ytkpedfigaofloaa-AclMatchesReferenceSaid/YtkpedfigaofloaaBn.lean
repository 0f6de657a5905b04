/-
  How the laws' arguments are opened: an entry by value.
-/
import Derived.Test.YtkpedfigaofloaaBb
namespace Go.Proofs.Ytkpedfigaofloaa
open Go.ChangeShapes Go.WideShapes Go.ChangeAt Go.RowKit Ap

theorem i64_of_wf {n : Int} (h : (Lit.int .i64 n).wf = true) : -9223372036854775808 ≤ n ∧ n ≤ 9223372036854775807 := by
  have h' : IntKind.i64.min ≤ n ∧ n ≤ IntKind.i64.max := by simpa [Lit.wf] using h
  have e0 : IntKind.i64.min = -9223372036854775808 := by decide
  have e1 : IntKind.i64.max = 9223372036854775807 := by decide
  rw [e0, e1] at h'
  exact h'
/-- An entry's five cells, as a reading takes them. -/
theorem ace_of_trod {H : Type} {enc : TypeId × Value → H} {W : World} {sp : Nat → Bool} {hd : Bool} {m : Nat} {cs : List Value} {x : DataW H × List MemPlace} (h : DataW.trod enc Try.prog W 0 sp hd m 31 cs = some x) :
    ∃ e : Ac, e.ok ∧ cs = Ap.enc e := by
  obtain ⟨xs, n, _, rfl, hl, hlen, hf⟩ := DataW.trod_struct Try.underlying31 h
  have hc : Try.prog.cellsOf 31 = 5 := by kernel_rfl
  rw [hc] at hl
  match xs, hlen, cs, hl with
  | [y0, y1, y2, y3, y4], _, [v0, v1, v2, v3, v4], _ =>
    have ci : Try.prog.cellsOf 3 = 1 := by kernel_rfl
    have cb : Try.prog.cellsOf 4 = 1 := by kernel_rfl
    have h0 := hf 0 _ rfl
    have h1 := hf 1 _ rfl
    have h2 := hf 2 _ rfl
    have h3 := hf 3 _ rfl
    have h4 := hf 4 _ rfl
    simp [ci, cb] at h0 h1 h2 h3 h4
    obtain ⟨n0, e0, _, w0⟩ := DataW.trod_int Try.underlying3 h0
    obtain ⟨n1, e1, _⟩ := DataW.trod_bool Try.underlying4 h1
    obtain ⟨n2, e2, _, w2⟩ := DataW.trod_int Try.underlying3 h2
    obtain ⟨n3, e3, _, w3⟩ := DataW.trod_int Try.underlying3 h3
    obtain ⟨n4, e4, _⟩ := DataW.trod_bool Try.underlying4 h4
    simp at e0 e1 e2 e3 e4
    subst e0 e1 e2 e3 e4
    exact ⟨⟨n0, n1, n2, n3, n4⟩, ⟨i64_of_wf w0, i64_of_wf w2, i64_of_wf w3⟩, rfl⟩
theorem ace_arg {H : Type} {enc : TypeId × Value → H} {W : World} {base : Nat} {v : Value} {d : DataW H} {p : List MemPlace} (hok : Value.okWide Try.prog W .any base 31 v) (h : DataW.Trod enc Try.prog W 0 (fun _ => true) true 31 v d p) :
    ∃ e : Ac, e.ok ∧ v = av e := by
  obtain ⟨cs, rfl, _⟩ := okWide_struct Try.underlying31 hok
  obtain ⟨fuel, hf⟩ := h
  have hcc : (Value.agg cs).cells = cs := rfl
  rw [hcc] at hf
  obtain ⟨e, he, hcs⟩ := ace_of_trod hf
  refine ⟨e, he, ?_⟩
  have : cs = (Ap.enc e).toArray := by rw [← hcs]
  rw [this]; rfl
/-- A byte. -/
theorem byte_arg {H : Type} {enc : TypeId × Value → H} {W : World} {base : Nat} {v : Value} {d : DataW H} {p : List MemPlace} (hok : Value.okWide Try.prog W .any base 5 v) (h : DataW.Trod enc Try.prog W 0 (fun _ => true) true 5 v d p) :
    ∃ c : UInt8, v = .int .u8 c.toNat := by
  obtain ⟨n, rfl, _, _, hw⟩ := open_int Try.underlying5 hok h
  obtain ⟨c, rfl⟩ := byte_of_wf hw
  exact ⟨c, rfl⟩
end Go.Proofs.Ytkpedfigaofloaa
