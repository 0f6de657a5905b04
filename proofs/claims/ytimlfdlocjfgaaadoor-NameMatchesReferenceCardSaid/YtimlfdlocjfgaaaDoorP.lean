/-
  Walk of the law's fixed examples: each holds. The world must hold the program's table of kinds.
-/
import Derived.Test.YtimlfdlocjfgaaaDoorG
import Derived.Test.YtimlfdlocjfgaaaDoorN
namespace Go.Proofs.YtimlfdlocjfgaaaDoor
open Go.RowKit Pl
set_option maxHeartbeats 400000

theorem same_true {lo lo' : Nat} (A A' : Option Addr) (n c c' : Nat) (e : Int) (l : List Bs) (hn : l.length = n) (hl : n ≤ 4294967295) (w : World) (hA : Strs lo w A l) (hA' : Strs lo' w A' l) :
    Calls Tryd.prog 15 #[.agg #[.slice A n c, .int .i64 e], .agg #[.slice A' n c', .int .i64 e]] w fun x w' => x = .returned (.bool true) ∧ Below w.heap.size w w' := by
  have h := same_any A A' n n c c' e e l l hn hn hl w hA hA'
  rw [show sameB l e l e = true by simp [sameB]] at h
  exact h

theorem sp1 (W : World) (hE : Env W) : Calls Tryd.prog 16 #[.string ⟨#[97, 47, 98]⟩] W fun e w' => ∃ A c, e = .returned (.agg #[.slice A 2 c, .int .i64 0]) ∧ Strs W.heap.size w' A [[97], [98]] ∧ Below W.heap.size W w' := by
  have h := lparts_any ⟨#[97, 47, 98]⟩ (by decide) W hE
  rw [show partsS (⟨#[97, 47, 98]⟩ : ByteArray).data.toList = ([[97], [98]], 0) by decide] at h
  exact h
theorem sp2 (W : World) (hE : Env W) : Calls Tryd.prog 16 #[.string ⟨#[]⟩] W fun e w' => ∃ A c, e = .returned (.agg #[.slice A 0 c, .int .i64 0]) ∧ Strs W.heap.size w' A [] ∧ Below W.heap.size W w' := by
  have h := lparts_any ⟨#[]⟩ (by decide) W hE
  rw [show partsS (⟨#[]⟩ : ByteArray).data.toList = ([], 0) by decide] at h
  exact h
theorem sp3 (W : World) (hE : Env W) : Calls Tryd.prog 16 #[.string ⟨#[97, 47, 47, 98]⟩] W fun e w' => ∃ A c, e = .returned (.agg #[.slice A 0 c, .int .i64 10]) ∧ Strs W.heap.size w' A [] ∧ Below W.heap.size W w' := by
  have h := lparts_any ⟨#[97, 47, 47, 98]⟩ (by decide) W hE
  rw [show partsS (⟨#[97, 47, 47, 98]⟩ : ByteArray).data.toList = ([], 10) by decide] at h
  exact h
theorem strs_ab (W : World) : Strs 0 (W.alloc (.cells #[.string ⟨#[97]⟩, .string ⟨#[98]⟩] 9)) (some ⟨W.heap.size, 0, none⟩) [[97], [98]] := fun _ => by
  refine ⟨W.heap.size, rfl, Nat.zero_le _, by simp, fun j x hx => ?_⟩
  rw [cell_of_row _ W.heap.size j #[.string ⟨#[97]⟩, .string ⟨#[98]⟩] 9 (0, 0) (heap_alloc_new W _)]
  match j, hx with
  | 0, hx => simp at hx; subst hx; rfl
  | 1, hx => simp at hx; subst hx; rfl

theorem sj1 (W : World) (hE : Env W) : Calls Tryd.prog 18 #[.string ⟨#[97]⟩, .string ⟨#[98]⟩] W fun e w' => e = .returned (.agg #[.string ⟨#[97, 47, 98]⟩, .int .i64 0]) ∧ Below W.heap.size W w' := by
  have h := ljoin_any ⟨#[97]⟩ ⟨#[98]⟩ (by decide) (by decide) W hE
  rw [show joinS (⟨#[97]⟩ : ByteArray).data.toList (⟨#[98]⟩ : ByteArray).data.toList = ([97, 47, 98], 0) by decide] at h
  exact h
theorem sj2 (W : World) (hE : Env W) : Calls Tryd.prog 18 #[.string ⟨#[]⟩, .string ⟨#[46, 46]⟩] W fun e w' => e = .returned (.agg #[.string ⟨#[]⟩, .int .i64 11]) ∧ Below W.heap.size W w' := by
  have h := ljoin_any ⟨#[]⟩ ⟨#[46, 46]⟩ (by decide) (by decide) W hE
  rw [show joinS (⟨#[]⟩ : ByteArray).data.toList (⟨#[46, 46]⟩ : ByteArray).data.toList = ([], 11) by decide] at h
  exact h
theorem sh1 (W : World) (hE : Env W) : Calls Tryd.prog 20 #[.string ⟨#[97, 47, 98]⟩] W fun e w' => e = .returned (.agg #[.string ⟨#[97]⟩, .string ⟨#[98]⟩, .int .i64 0]) ∧ Below W.heap.size W w' := by
  have h := lsplit_any ⟨#[97, 47, 98]⟩ (by decide) W hE
  rw [show splitS (⟨#[97, 47, 98]⟩ : ByteArray).data.toList = ([97], [98], 0) by decide] at h
  exact h
theorem sh2 (W : World) (hE : Env W) : Calls Tryd.prog 20 #[.string ⟨#[]⟩] W fun e w' => e = .returned (.agg #[.string ⟨#[]⟩, .string ⟨#[]⟩, .int .i64 1]) ∧ Below W.heap.size W w' := by
  have h := lsplit_any ⟨#[]⟩ (by decide) W hE
  rw [show splitS (⟨#[]⟩ : ByteArray).data.toList = ([], [], 1) by decide] at h
  exact h
theorem sb1 (W : World) : Calls Tryd.prog 24 #[.string ⟨#[97, 98]⟩, .string ⟨#[97]⟩] W fun e w' => e = .returned (.bool false) ∧ W = w' := by
  have h := below_any ⟨#[97, 98]⟩ ⟨#[97]⟩ W
  rw [show belowB (⟨#[97, 98]⟩ : ByteArray).data.toList (⟨#[97]⟩ : ByteArray).data.toList = false by decide] at h
  exact h
theorem sb2 (W : World) : Calls Tryd.prog 24 #[.string ⟨#[97, 47, 98]⟩, .string ⟨#[]⟩] W fun e w' => e = .returned (.bool true) ∧ W = w' := by
  have h := below_any ⟨#[97, 47, 98]⟩ ⟨#[]⟩ W
  rw [show belowB (⟨#[97, 47, 98]⟩ : ByteArray).data.toList (⟨#[]⟩ : ByteArray).data.toList = true by decide] at h
  exact h
theorem sw1 (W : World) : Calls Tryd.prog 26 #[.string ⟨#[97, 47, 98, 47, 99]⟩, .string ⟨#[97, 47, 98]⟩, .string ⟨#[100]⟩] W fun e w' => e = .returned (.agg #[.string ⟨#[100, 47, 99]⟩, .bool true]) ∧ Below W.heap.size W w' := by
  have h := lswap_any ⟨#[97, 47, 98, 47, 99]⟩ ⟨#[97, 47, 98]⟩ ⟨#[100]⟩ W (by decide)
  rw [show swapT (⟨#[97, 47, 98, 47, 99]⟩ : ByteArray).data.toList (⟨#[97, 47, 98]⟩ : ByteArray).data.toList (⟨#[100]⟩ : ByteArray).data.toList = [100, 47, 99] by decide,
    show belowB (⟨#[97, 47, 98, 47, 99]⟩ : ByteArray).data.toList (⟨#[97, 47, 98]⟩ : ByteArray).data.toList = true by decide] at h
  exact h
theorem sc1 (W : World) (hE : Env W) : Calls Tryd.prog 28 #[.string ⟨#[120]⟩, .string ⟨#[116, 114, 105, 112]⟩, .int .i64 7] W fun e w' => e = .returned (.string ⟨#[120, 126, 116, 114, 105, 112, 126, 55]⟩) ∧ Below W.heap.size W w' := by
  have h := copy_any ⟨#[120]⟩ ⟨#[116, 114, 105, 112]⟩ 7 (by decide) (by decide) W hE
  rw [show copyS (⟨#[120]⟩ : ByteArray).data.toList (⟨#[116, 114, 105, 112]⟩ : ByteArray).data.toList 7 = [120, 126, 116, 114, 105, 112, 126, 55] by decide] at h
  exact h
theorem sc2 (W : World) (hE : Env W) : Calls Tryd.prog 28 #[.string ⟨#[97, 98, 99, 100, 101, 102, 103, 104, 105, 106, 107, 108, 109, 110, 111, 112]⟩, .string ⟨#[116, 114, 105, 112]⟩, .int .i64 10] W fun e w' => e = .returned (.string ⟨#[97, 98, 99, 100, 101, 102, 103, 104, 126, 116, 114, 105, 112, 126, 49, 48]⟩) ∧ Below W.heap.size W w' := by
  have h := copy_any ⟨#[97, 98, 99, 100, 101, 102, 103, 104, 105, 106, 107, 108, 109, 110, 111, 112]⟩ ⟨#[116, 114, 105, 112]⟩ 10 (by decide) (by decide) W hE
  rw [show copyS (⟨#[97, 98, 99, 100, 101, 102, 103, 104, 105, 106, 107, 108, 109, 110, 111, 112]⟩ : ByteArray).data.toList (⟨#[116, 114, 105, 112]⟩ : ByteArray).data.toList 10 = [97, 98, 99, 100, 101, 102, 103, 104, 126, 116, 114, 105, 112, 126, 49, 48] by decide] at h
  exact h
theorem sc3 (W : World) (hE : Env W) : Calls Tryd.prog 28 #[.string ⟨#[120]⟩, .string ⟨#[116, 114, 105, 112]⟩, .int .i64 100] W fun e w' => e = .returned (.string ⟨#[]⟩) ∧ Below W.heap.size W w' := by
  have h := copy_any ⟨#[120]⟩ ⟨#[116, 114, 105, 112]⟩ 100 (by decide) (by decide) W hE
  rw [show copyS (⟨#[120]⟩ : ByteArray).data.toList (⟨#[116, 114, 105, 112]⟩ : ByteArray).data.toList 100 = [] by decide] at h
  exact h
theorem sq1 (W : World) (hE : Env W) : Calls Tryd.prog 22 #[.string ⟨#[47, 97]⟩] W fun e w' => e = .returned (.agg #[.string ⟨#[97]⟩, .int .i64 0]) ∧ Below W.heap.size W w' := by
  have h := lparse_any ⟨#[47, 97]⟩ (by decide) W hE
  rw [show parseS (⟨#[47, 97]⟩ : ByteArray).data.toList = ([97], 0) by decide] at h
  exact h
theorem sq2 (W : World) (hE : Env W) : Calls Tryd.prog 22 #[.string ⟨#[97]⟩] W fun e w' => e = .returned (.agg #[.string ⟨#[]⟩, .int .i64 3]) ∧ Below W.heap.size W w' := by
  have h := lparse_any ⟨#[97]⟩ (by decide) W hE
  rw [show parseS (⟨#[97]⟩ : ByteArray).data.toList = ([], 3) by decide] at h
  exact h
theorem st1 (W : World) : Calls Tryd.prog 30 #[.string ⟨#[]⟩] W fun e w' => e = .returned (.string ⟨#[47]⟩) ∧ W = w' :=
  print_any ⟨#[]⟩ W (by decide)
theorem sv1 (W : World) (hE : Env W) : Calls Tryd.prog 13 #[.string ⟨#[46, 46, 46]⟩] W fun e w' => e = .returned (.bool true) ∧ Below W.heap.size W w' := by
  have h := Valid_any ⟨#[46, 46, 46]⟩ (by decide) W hE
  rw [show vld (⟨#[46, 46, 46]⟩ : ByteArray).data.toList = true by decide] at h
  exact h
theorem sv2 (W : World) (hE : Env W) : Calls Tryd.prog 13 #[.string ⟨#[46, 46]⟩] W fun e w' => e = .returned (.bool false) ∧ Below W.heap.size W w' := by
  have h := Valid_any ⟨#[46, 46]⟩ (by decide) W hE
  rw [show vld (⟨#[46, 46]⟩ : ByteArray).data.toList = false by decide] at h
  exact h
end Go.Proofs.YtimlfdlocjfgaaaDoor
