/-
  Walks of the program's through, Mul and Inv.
-/
import Derived.Test.YtoodeoglpdapiaaUf
namespace Go.Proofs.Ytoodeoglpdapiaa
open Go.RowKit Gf
set_option maxHeartbeats 400000

theorem fc_hyps : (Try.prog.info? 68).map (·.size) = some (fc 255).size ∧ (fc 0).size = (fc 255).size := by
  rw [fc_size, fc_size]; exact ⟨zero68.2, rfl⟩
theorem tab_new (w : World) : Tab ((w.alloc (.cells (fc 0) 68)).setRow w.heap.size (fc 255)) w.heap.size :=
  setRow_heap _ _ _ _ _ _ (heap_alloc_new w _)
theorem below_tab (w : World) : Below w.heap.size w ((w.alloc (.cells (fc 0) 68)).setRow w.heap.size (fc 255)) :=
  below_setRow ((Below.refl _ w).alloc (Nat.le_refl _) _) (Nat.le_refl _) _

set_option maxRecDepth 20000 in
theorem through_any (ok : Nat → Prop) (A : Option Addr) (m c : Nat) (ls : List (List UInt8)) (pts : List UInt8) (w : World) (hok : ∀ b, w.heap.size ≤ b → ok b) (hK : Kns ok w A ls pts) :
    Calls Try.prog 42 #[.slice A m c] w fun e w' => ∃ bl p, e = .returned (.func (.func 49) #[] #[.pointer (some ⟨bl, 0, none⟩), .pointer (some ⟨p, 0, none⟩)]) ∧ Thru ok w' bl p A m c ls pts ∧ Below w.heap.size w w' := by
  have hz := zero68.1
  have HN := Lib.hid (newField_any (w.alloc (.cells #[.slice A m c] 71)))
  have hbx : (w.alloc (.cells #[.slice A m c] 71)).cell? ⟨w.heap.size, 0, none⟩ = some (.slice A m c) := by simp [go_sem]
  have hbA : Below w.heap.size w (w.alloc (.cells #[.slice A m c] 71)) := (Below.refl _ w).alloc (Nat.le_refl _) _
  have HBX := Lib.hid hbx
  have HBA := Lib.hid hbA
  have HK := Lib.hid hK
  obtain ⟨C, hC⟩ : ∃ C, fc 255 = C := ⟨_, rfl⟩
  have H1C := Lib.hid (show C.all (·.oneCell') = true from hC ▸ fc_one 255)
  obtain ⟨y1, y2⟩ := fc_hyps
  rw [hC] at y1 y2 HN
  have HSZ := Lib.hid y1
  have HS0 := Lib.hid y2
  have HTN := Lib.hid (fun w => show Tab _ _ from tab_new w)
  have HBT := Lib.hid (fun w => below_tab w)
  rw [hC] at HTN HBT
  clear hC y1 y2 hK hbx hbA
  go_enter Try.func42, Try.ntmps42
  go_wp2_with (first | (go_at_call 38; with_reducible refine HN.out.mono ?_; rintro e w1 ⟨rfl, hb1⟩) | (with_reducible refine wpList_store_row rfl 68 _ _ rfl w1.heap.size C rfl rfl 68 (fc 0) (heap_alloc_new w1 _) HSZ.out HS0.out H1C.out ?_))
  have hb2 := (HBA.out.trans (hb1.mono HBA.out.size)).trans ((HBT.out w1).mono (HBA.out.trans (hb1.mono HBA.out.size)).size)
  go_ret
  refine ⟨w.heap.size, w1.heap.size, rfl, ⟨hok _ (Nat.le_refl _), hok _ (HBA.out.trans (hb1.mono HBA.out.size)).size, ?_, HTN.out w1, HK.out.below hb2⟩, hb2⟩
  have hlt : w.heap.size < (w.alloc (.cells #[.slice A m c] 71)).heap.size := by simp
  exact ((hb1.trans ((HBT.out w1).mono hb1.size)).cell (p := ⟨w.heap.size, 0, none⟩) hlt).trans HBX.out

set_option maxRecDepth 20000 in
theorem Mul_prog (a b : UInt8) (w : World) : Calls Try.prog 21 #[.int .u8 a.toNat, .int .u8 b.toNat] w fun e w' => e = .returned (.int .u8 (gm a b).toNat) ∧ Below w.heap.size w w' := by
  have hz := zero68.1
  have HN := Lib.hid (newField_any w)
  obtain ⟨C, hC⟩ : ∃ C, fc 255 = C := ⟨_, rfl⟩
  have H1C := Lib.hid (show C.all (·.oneCell') = true from hC ▸ fc_one 255)
  obtain ⟨y1, y2⟩ := fc_hyps
  rw [hC] at y1 y2 HN
  have HSZ := Lib.hid y1
  have HS0 := Lib.hid y2
  have HTN := Lib.hid (fun w => show Tab _ _ from tab_new w)
  have HBT := Lib.hid (fun w => below_tab w)
  rw [hC] at HTN HBT
  clear hC y1 y2
  go_enter Try.func21, Try.ntmps21
  go_wp2_with (first | (go_at_call 38; with_reducible refine HN.out.mono ?_; rintro e w1 ⟨rfl, hb1⟩) | (with_reducible refine wpList_store_row rfl 68 _ _ rfl w1.heap.size C rfl rfl 68 (fc 0) (heap_alloc_new w1 _) HSZ.out HS0.out H1C.out ?_) | (go_at_call 39; with_reducible refine (fmul_any _ _ _ _ (HTN.out w1)).mono ?_; rintro e w2 ⟨rfl, n, rfl⟩))
  go_ret
  exact ⟨rfl, (hb1.trans ((HBT.out w1).mono hb1.size)).trans ((below_drewN _ _).mono (hb1.trans ((HBT.out w1).mono hb1.size)).size)⟩

set_option maxRecDepth 20000 in
theorem Inv_prog (a : UInt8) (w : World) : Calls Try.prog 23 #[.int .u8 a.toNat] w fun e w' => e = .returned (.int .u8 (gi a).toNat) ∧ Below w.heap.size w w' := by
  have hz := zero68.1
  have HN := Lib.hid (newField_any w)
  obtain ⟨C, hC⟩ : ∃ C, fc 255 = C := ⟨_, rfl⟩
  have H1C := Lib.hid (show C.all (·.oneCell') = true from hC ▸ fc_one 255)
  obtain ⟨y1, y2⟩ := fc_hyps
  rw [hC] at y1 y2 HN
  have HSZ := Lib.hid y1
  have HS0 := Lib.hid y2
  have HTN := Lib.hid (fun w => show Tab _ _ from tab_new w)
  have HBT := Lib.hid (fun w => below_tab w)
  rw [hC] at HTN HBT
  clear hC y1 y2
  go_enter Try.func23, Try.ntmps23
  go_wp2_with (first | (go_at_call 38; with_reducible refine HN.out.mono ?_; rintro e w1 ⟨rfl, hb1⟩) | (with_reducible refine wpList_store_row rfl 68 _ _ rfl w1.heap.size C rfl rfl 68 (fc 0) (heap_alloc_new w1 _) HSZ.out HS0.out H1C.out ?_) | (go_at_call 40; with_reducible refine (finv_any _ _ _ (HTN.out w1)).mono ?_; rintro e w2 ⟨rfl, n, rfl⟩))
  go_ret
  exact ⟨rfl, (hb1.trans ((HBT.out w1).mono hb1.size)).trans ((below_drewN _ _).mono (hb1.trans ((HBT.out w1).mono hb1.size)).size)⟩
end Go.Proofs.Ytoodeoglpdapiaa
