/-
  How the laws' arguments are opened: a byte, two bytes, texts, several texts, a slice of bytes.
-/
import Derived.Test.YtimlfdlocjfgaaaDoorO
import Derived.Test.YtimlfdlocjfgaaaDoorS
namespace Go.Proofs.YtimlfdlocjfgaaaDoor
open Go.ChangeShapes Go.WideShapes Go.ChangeAt Go.RowKit

theorem byte_of_wf {n : Int} (h : (Lit.int .u8 n).wf = true) : ∃ c : UInt8, n = c.toNat := by
  have h' : IntKind.u8.min ≤ n ∧ n ≤ IntKind.u8.max := by simpa [Lit.wf] using h
  have e0 : IntKind.u8.min = 0 := by decide
  have e1 : IntKind.u8.max = 255 := by decide
  rw [e0, e1] at h'
  refine ⟨UInt8.ofNat n.toNat, ?_⟩
  simp
  omega

theorem bytes_arg {H : Type} {enc : TypeId × Value → H} {W : World} {base : Nat} {v : Value} {d : DataW H} {p : List MemPlace} (hok : Value.okWide Tryd.prog W .any base 23 v) (h : DataW.Trod enc Tryd.prog W 0 (fun _ => true) true 23 v d p) :
    ∃ (A : Option Addr) (n c : Nat) (l : List UInt8), v = .slice A n c ∧ l.length = n ∧ n ≤ 9223372036854775807 ∧ n ≤ c ∧ c ≤ 9223372036854775807 ∧ Byts W A l := by
  obtain ⟨a0, n, c, rfl⟩ := okWide_slice Tryd.underlying23 hok
  obtain ⟨fuel, hf⟩ := h
  have c5 : Tryd.prog.cellsOf 5 = 1 := by kernel_rfl
  rcases open_ints Tryd.underlying23 Tryd.underlying5 c5 hf with ⟨hcs, _⟩ | ⟨a, len', cap', zs, hcs, _, hl, hm, hz, _, hcell, hwz⟩
  · simp [Value.cells] at hcs
    obtain ⟨rfl, rfl, rfl⟩ := hcs
    exact ⟨none, 0, 0, [], rfl, rfl, by omega, by omega, by omega, fun h => absurd rfl h⟩
  · simp [Value.cells] at hcs
    obtain ⟨rfl, rfl, rfl⟩ := hcs
    simp only [if_true] at hz
    unfold maxLen at hm
    refine ⟨some a, n, c, (zs.take n).map fun z => UInt8.ofNat z.toNat, rfl, ?_, by omega, hl, by omega, fun hne => ?_⟩
    · rw [List.length_map, List.length_take]; omega
    · have hn0 : 0 < n := by
        rcases Nat.eq_zero_or_pos n with h0 | h0
        · exact absurd (by rw [h0]; rfl) hne
        · exact h0
      obtain ⟨b, off, spot⟩ := a
      have hspot : spot = none := by simpa [Addr.add] using World.cell?_spot (hcell 0 (by omega))
      subst hspot
      refine ⟨b, off, rfl, ?_, fun j x hx => ?_⟩
      · have := block_lt_of_cell (hcell 0 (by omega))
        simpa [Addr.add] using this
      · obtain ⟨hj, hx'⟩ := List.getElem?_eq_some_iff.1 hx
        rw [List.length_map, List.length_take] at hj
        have hc := hcell j (by omega)
        rw [add_plain] at hc
        rw [hc]
        obtain ⟨y, hy⟩ := byte_of_wf (hwz (zs.getD j 0) (by rw [List.getD_eq_getElem?_getD, List.getElem?_eq_getElem (by omega)]; exact List.getElem_mem (by omega)))
        have : x = y := by
          rw [← hx', List.getElem_map, List.getElem_take]
          have e2 : zs[j]'(by omega) = (y.toNat : Int) := by
            rw [← hy, List.getD_eq_getElem?_getD, List.getElem?_eq_getElem (by omega)]; rfl
          rw [e2]
          simp
        rw [this, hy]

/-- Arrays of texts and of bytes, handed over by value. -/
theorem all_texts : ∀ (cs : List Value), (∀ v ∈ cs, ∃ s : ByteArray, v = .string s ∧ s.size ≤ maxLen) → ∃ l : List ByteArray, cs = l.map Value.string ∧ ∀ s ∈ l, s.size ≤ maxLen
  | [], _ => ⟨[], rfl, fun s hs => by cases hs⟩
  | v :: cs, h => by
    obtain ⟨s, rfl, hs⟩ := h v (by simp)
    obtain ⟨l, rfl, hl⟩ := all_texts cs (fun v hv => h v (List.mem_cons_of_mem _ hv))
    exact ⟨s :: l, rfl, fun x hx => by rcases List.mem_cons.1 hx with rfl | hx; exact hs; exact hl x hx⟩
theorem all_bytes : ∀ (cs : List Value), (∀ v ∈ cs, ∃ c : UInt8, v = .int .u8 c.toNat) → ∃ l : List UInt8, cs = l.map fun c => Value.int .u8 c.toNat
  | [], _ => ⟨[], rfl⟩
  | v :: cs, h => by
    obtain ⟨s, rfl⟩ := h v (by simp)
    obtain ⟨l, rfl⟩ := all_bytes cs (fun v hv => h v (List.mem_cons_of_mem _ hv))
    exact ⟨s :: l, rfl⟩
theorem array_parts {H : Type} {enc : TypeId × Value → H} {W : World} {base : Nat} {t e n : Nat} {v : Value} {d : DataW H} {p : List MemPlace} (ht : Tryd.prog.underlying t = some (.array n e)) (hce : Tryd.prog.cellsOf e = 1) (hct : Tryd.prog.cellsOf t = n)
    (hok : Value.okWide Tryd.prog W .any base t v) (h : DataW.Trod enc Tryd.prog W 0 (fun _ => true) true t v d p) :
    ∃ cs : List Value, cs.length = n ∧ v = .agg cs.toArray ∧ ∀ u ∈ cs, ∃ m y, DataW.trod enc Tryd.prog W 0 (fun _ => true) true m e [u] = some y := by
  simp only [Value.okWide, ht] at hok
  obtain ⟨cs, rfl, h2, _⟩ := hok
  obtain ⟨fuel, hf⟩ := h
  have hcc : (Value.agg cs).cells = cs := rfl
  rw [hcc] at hf
  obtain ⟨xs, m, _, _, hlen, hxl, hel⟩ := DataW.trod_array ht hf
  rw [hct] at hlen
  refine ⟨cs.toList, hlen, by simp, fun u hu => ?_⟩
  obtain ⟨i, hi, rfl⟩ := List.getElem_of_mem hu
  have hx := hel i (by omega)
  rw [hce, Nat.mul_one, List.drop_eq_getElem_cons hi, List.take_succ_cons, List.take_zero, List.getElem?_eq_getElem (by omega)] at hx
  exact ⟨m, _, hx⟩
theorem texts_arg {H : Type} {enc : TypeId × Value → H} {W : World} {base : Nat} {t n : Nat} {v : Value} {d : DataW H} {p : List MemPlace} (ht : Tryd.prog.underlying t = some (.array n 9)) (hct : Tryd.prog.cellsOf t = n)
    (hok : Value.okWide Tryd.prog W .any base t v) (h : DataW.Trod enc Tryd.prog W 0 (fun _ => true) true t v d p) :
    ∃ l : List ByteArray, l.length = n ∧ v = .agg (l.map Value.string).toArray ∧ ∀ s ∈ l, s.size ≤ maxLen := by
  obtain ⟨cs, hl, rfl, hu⟩ := array_parts ht (by kernel_rfl) hct hok h
  obtain ⟨l, rfl, hs⟩ := all_texts cs (fun u hm => by
    obtain ⟨m, y, hy⟩ := hu u hm
    obtain ⟨s, e, _, hs⟩ := DataW.trod_string Tryd.underlying9 hy
    exact ⟨s, by simpa using e, hs⟩)
  exact ⟨l, by simpa using hl, rfl, hs⟩
theorem bytes_array_arg {H : Type} {enc : TypeId × Value → H} {W : World} {base : Nat} {t n : Nat} {v : Value} {d : DataW H} {p : List MemPlace} (ht : Tryd.prog.underlying t = some (.array n 5)) (hct : Tryd.prog.cellsOf t = n)
    (hok : Value.okWide Tryd.prog W .any base t v) (h : DataW.Trod enc Tryd.prog W 0 (fun _ => true) true t v d p) :
    ∃ l : List UInt8, l.length = n ∧ v = .agg (l.map fun c => Value.int .u8 c.toNat).toArray := by
  obtain ⟨cs, hl, rfl, hu⟩ := array_parts ht (by kernel_rfl) hct hok h
  obtain ⟨l, rfl⟩ := all_bytes cs (fun u hm => by
    obtain ⟨m, y, hy⟩ := hu u hm
    obtain ⟨z, e, _, hz⟩ := DataW.trod_int Tryd.underlying5 hy
    obtain ⟨c, rfl⟩ := byte_of_wf hz
    exact ⟨c, by simpa using e⟩)
  exact ⟨l, by simpa using hl, rfl⟩
end Go.Proofs.YtimlfdlocjfgaaaDoor
