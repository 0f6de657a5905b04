/-
  How the laws' arguments are opened: arrays of bytes by value.
-/
import Derived.Test.YtkpedfigaofloaaBa
namespace Go.Proofs.Ytkpedfigaofloaa
open Go.ChangeShapes Go.WideShapes Go.ChangeAt Go.RowKit

theorem all_bytes : ∀ (cs : List Value), (∀ v ∈ cs, ∃ c : UInt8, v = .int .u8 c.toNat) → ∃ l : List UInt8, cs = l.map fun c => Value.int .u8 c.toNat
  | [], _ => ⟨[], rfl⟩
  | v :: cs, h => by
    obtain ⟨s, rfl⟩ := h v (by simp)
    obtain ⟨l, rfl⟩ := all_bytes cs (fun v hv => h v (List.mem_cons_of_mem _ hv))
    exact ⟨s :: l, rfl⟩
theorem array_parts {H : Type} {enc : TypeId × Value → H} {W : World} {base : Nat} {t e n : Nat} {v : Value} {d : DataW H} {p : List MemPlace} (ht : Try.prog.underlying t = some (.array n e)) (hce : Try.prog.cellsOf e = 1) (hct : Try.prog.cellsOf t = n)
    (hok : Value.okWide Try.prog W .any base t v) (h : DataW.Trod enc Try.prog W 0 (fun _ => true) true t v d p) :
    ∃ cs : List Value, cs.length = n ∧ v = .agg cs.toArray ∧ ∀ u ∈ cs, ∃ m y, DataW.trod enc Try.prog W 0 (fun _ => true) true m e [u] = some y := by
  simp only [Value.okWide, ht] at hok
  obtain ⟨cs, rfl, h2, _⟩ := hok
  obtain ⟨fuel, hf⟩ := h
  have hcc : (Value.agg cs).cells = cs := rfl
  rw [hcc] at hf
  obtain ⟨xs, m, _, _, hlen, hxl, hel⟩ := DataW.trod_array ht hf
  rw [hct] at hlen
  refine ⟨cs.toList, hlen, by simp, fun u hu => ?_⟩
  obtain ⟨i, hi, rfl⟩ := List.getElem_of_mem hu
  have hx := hel i (by omega)
  rw [hce, Nat.mul_one, List.drop_eq_getElem_cons hi, List.take_succ_cons, List.take_zero, List.getElem?_eq_getElem (by omega)] at hx
  exact ⟨m, _, hx⟩
theorem bytes_array_arg {H : Type} {enc : TypeId × Value → H} {W : World} {base : Nat} {t n : Nat} {v : Value} {d : DataW H} {p : List MemPlace} (ht : Try.prog.underlying t = some (.array n 5)) (hct : Try.prog.cellsOf t = n)
    (hok : Value.okWide Try.prog W .any base t v) (h : DataW.Trod enc Try.prog W 0 (fun _ => true) true t v d p) :
    ∃ l : List UInt8, l.length = n ∧ v = .agg (l.map fun c => Value.int .u8 c.toNat).toArray := by
  obtain ⟨cs, hl, rfl, hu⟩ := array_parts ht (by kernel_rfl) hct hok h
  obtain ⟨l, rfl⟩ := all_bytes cs (fun u hm => by
    obtain ⟨m, y, hy⟩ := hu u hm
    obtain ⟨z, e, _, hz⟩ := DataW.trod_int Try.underlying5 hy
    obtain ⟨c, rfl⟩ := byte_of_wf hz
    exact ⟨c, by simpa using e⟩)
  exact ⟨l, by simpa using hl, rfl⟩
/-- Three bytes; two bytes. -/
theorem three_arg {H : Type} {enc : TypeId × Value → H} {W : World} {base : Nat} {v : Value} {d : DataW H} {p : List MemPlace} (hok : Value.okWide Try.prog W .any base 45 v) (h : DataW.Trod enc Try.prog W 0 (fun _ => true) true 45 v d p) :
    ∃ x y z : UInt8, v = .agg #[.int .u8 x.toNat, .int .u8 y.toNat, .int .u8 z.toNat] := by
  obtain ⟨l, hl, rfl⟩ := bytes_array_arg Try.underlying45 (by kernel_rfl) hok h
  match l, hl with
  | [x, y, z], _ => exact ⟨x, y, z, rfl⟩
theorem two_arg {H : Type} {enc : TypeId × Value → H} {W : World} {base : Nat} {v : Value} {d : DataW H} {p : List MemPlace} (hok : Value.okWide Try.prog W .any base 46 v) (h : DataW.Trod enc Try.prog W 0 (fun _ => true) true 46 v d p) :
    ∃ x y : UInt8, v = .agg #[.int .u8 x.toNat, .int .u8 y.toNat] := by
  obtain ⟨l, hl, rfl⟩ := bytes_array_arg Try.underlying46 (by kernel_rfl) hok h
  match l, hl with
  | [x, y], _ => exact ⟨x, y, rfl⟩
end Go.Proofs.Ytkpedfigaofloaa
