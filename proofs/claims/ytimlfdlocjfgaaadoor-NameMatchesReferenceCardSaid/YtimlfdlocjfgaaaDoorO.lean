/-
  Walk of the reference's Long: a path is made of the names that numbers describe. The world must hold the numbers.
-/
import Derived.Test.YtimlfdlocjfgaaaDoorC
import Derived.Test.YtimlfdlocjfgaaaDoorPq
namespace Go.Proofs.YtimlfdlocjfgaaaDoor
open Go.RowKit Pl
set_option maxHeartbeats 400000

/-- The slice that starts at A holds these bytes. -/
def Byts (w : World) (A : Option Addr) (l : List UInt8) : Prop :=
  l ≠ [] → ∃ b o, A = some ⟨b, o, none⟩ ∧ b < w.heap.size ∧ ∀ (j : Nat) (x : UInt8), l[j]? = some x → w.cell? ⟨b, o + j, none⟩ = some (.int .u8 x.toNat)
theorem Byts.below {w w' : World} {A : Option Addr} {l : List UInt8} (h : Byts w A l) (hb : Below w.heap.size w w') : Byts w' A l := fun hn => by
  obtain ⟨b, o, hA, hg, hc⟩ := h hn
  exact ⟨b, o, hA, Nat.lt_of_lt_of_le hg hb.size, fun j x hx => (hb.cell (p := ⟨b, o + j, none⟩) hg).trans (hc j x hx)⟩
theorem Byts.take {w : World} {A : Option Addr} {l : List UInt8} (h : Byts w A l) (k : Nat) : Byts w A (l.take k) := fun hn => by
  obtain ⟨b, o, hA, hg, hc⟩ := h (fun e => hn (by rw [e]; simp))
  refine ⟨b, o, hA, hg, fun j x hx => hc j x ?_⟩
  rw [List.getElem?_take] at hx
  split at hx
  · exact hx
  · cases hx

def nmCells : Array Value := #[.string ⟨#[97]⟩, .string ⟨#[98]⟩, .string ⟨#[120, 46, 121]⟩, .string ⟨#[97, 98, 99, 100, 101, 102, 103, 104, 105, 106, 107, 108, 109, 110, 111, 112]⟩, .string ⟨#[65, 45, 49, 95, 126]⟩, .string ⟨#[46, 46, 46]⟩, .string ⟨#[99, 126, 116, 114, 105, 112, 126, 48]⟩, .string ⟨#[57]⟩]
theorem nm_cell (c : UInt8) : nmCells[c.toNat % 8]? = some (.string (mk (nm c))) := by
  unfold nm
  have h : c.toNat % 8 < 8 := Nat.mod_lt _ (by decide)
  generalize c.toNat % 8 = r at h
  match r, h with
  | 0, _ => rfl
  | 1, _ => rfl
  | 2, _ => rfl
  | 3, _ => rfl
  | 4, _ => rfl
  | 5, _ => rfl
  | 6, _ => rfl
  | 7, _ => rfl

theorem ret_str' {a b : ByteArray} (h : a = b) : Ending.returned (.string a) = .returned (.string b) := by rw [h]
set_option maxRecDepth 100000 in
set_option maxHeartbeats 1000000 in
theorem long_any (A : Option Addr) (n c : Nat) (l : List UInt8) (hn : l.length = n) (hn63 : n ≤ 9223372036854775807) (w : World) (hA : Byts w A l) :
    Calls Tryd.prog 12 #[.slice A n c] w fun e w' => e = .returned (.string (mk (longS l))) ∧ Below w.heap.size w w' := by
  have HN := Lib.hid hn
  have SA := Lib.hid hA
  clear hn hA
  go_enter Tryd.func12, Tryd.ntmps12
  go_wp2
  go_loopw [3, 4] (fun o i wr => ∃ (k : Nat) (s : ByteArray), k ≤ n ∧ k ≤ 10 ∧ i = .int .i64 k ∧ o = .string s ∧ s.size ≤ 17 * k ∧ s = mk (jn ((l.take k).map nm)) ∧ Below w.heap.size w wr) (fun _ i _ => 10 - (intOf i).toNat)
  case atStart => exact ⟨0, ⟨#[]⟩, Nat.zero_le _, Nat.zero_le _, rfl, rfl, Nat.zero_le _, rfl, Below.refl _ _⟩
  case round =>
    obtain ⟨k, s, hk, hk10, rfl, rfl, hss, hs, hbw⟩ := hrel
    have HS := Lib.hid hs
    clear hs
    by_cases hlt : k < n ∧ k < 10
    · obtain ⟨hlt, hl10⟩ := hlt
      have hkl : k < l.length := by rw [HN.out]; exact hlt
      obtain ⟨b, o, rfl, _, hcg⟩ := (SA.out.below hbw) (List.ne_nil_of_length_pos (by omega))
      have hx := hcg k l[k] (List.getElem?_eq_getElem hkl)
      obtain ⟨x, hxe⟩ : ∃ x, l[k] = x := ⟨_, rfl⟩
      rw [hxe] at hx
      have HX := Lib.hid hxe
      have hxl := x.toNat_lt
      have hkk : decide ((k : Int) < 10) = true := by simp; omega
      have hnl := nm_len x
      clear hxe hcg
      have hbs := hbw.size
      have hcell : (wr.alloc (.cells nmCells 9)).cell? ⟨wr.heap.size, x.toNat % 8, none⟩ = some (.string (mk (nm x))) := by
        rw [cell_of_row _ wr.heap.size (x.toNat % 8) nmCells 9 (0, 0) (heap_alloc_new wr _), nm_cell]
      unfold nmCells at hcell
      by_cases hk0 : k = 0
      · subst hk0
        have hx0 : wr.cell? ⟨b, o, none⟩ = some (.int .u8 x.toNat) := hx
        clear hx
        go_wp2
        go_roundw
        case rel =>
          refine ⟨1, s ++ mk (nm x), by omega, by omega, by go_num, rfl, ?_, ?_, by go_grown⟩
          · rw [ByteArray.size_append, mk_size]; omega
          · rw [long_step (k := 0) hkl, if_pos rfl, HX.out, HS.out, mk_append]; rfl
        case measure => simp [intOf]
      · have hk1 : (0 : Int) < (k : Int) := by omega
        have HK0 := Lib.hid hk0
        clear hk0
        go_wp2
        go_roundw
        case rel =>
          refine ⟨k + 1, s ++ ⟨#[47]⟩ ++ mk (nm x), by omega, by omega, by go_num, rfl, ?_, ?_, hbw.alloc hbs _⟩
          · rw [ByteArray.size_append, ByteArray.size_append, mk_size]
            have : (⟨#[47]⟩ : ByteArray).size = 1 := rfl
            omega
          · rw [long_step hkl, if_neg HK0.out, HX.out, HS.out, show (⟨#[47]⟩ : ByteArray) = mk [47] from rfl, mk_append, mk_append]; simp
        case measure => simp [intOf]; omega
    · have hend : (l.take k).map nm = (l.take 10).map nm := by
        by_cases h1 : k < n
        · have : k = 10 := by omega
          rw [this]
        · have : k = n := by omega
          rw [List.take_of_length_le (by rw [HN.out]; omega), List.take_of_length_le (by rw [HN.out]; omega)]
      have HE := Lib.hid hend
      clear hend
      by_cases h1 : k < n
      · have h2 : decide ((k : Int) < 10) = false := by simp; omega
        go_wp2
        go_ret
        exact ⟨ret_str' (by rw [HS.out, HE.out]; rfl), hbw⟩
      · go_wp2
        go_ret
        exact ⟨ret_str' (by rw [HS.out, HE.out]; rfl), hbw⟩
end Go.Proofs.YtimlfdlocjfgaaaDoor
