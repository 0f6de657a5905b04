/-
  Layer 16: walk of ClockBounds.
-/
import Derived.Test.YthjfnmhnbhhbcaaCc
namespace Go.Proofs.Ythjfnmhnbhhbcaa
open Go.RowKit
set_option maxHeartbeats 4000000
set_option maxRecDepth 100000

section
variable {Env : World → Prop} (P : PrgC Env)
include P
theorem lawBounds_any (n0 n1 : UInt8) (u : Int) (hu : -9223372036854775808 ≤ u ∧ u ≤ 9223372036854775807) (w : World) (hE : Env w) :
    Calls Try.prog 7 #[.agg #[.int .u8 n0.toNat, .int .u8 n1.toNat], .int .i64 u] w fun e w' => e = .returned (.bool true) ∧ Below w.heap.size w w' := by
  obtain ⟨x0, hx0⟩ : ∃ x, n0.toNat = x := ⟨_, rfl⟩
  obtain ⟨x1, hx1⟩ : ∃ x, n1.toNat = x := ⟨_, rfl⟩
  have hlt1 : x1 < 256 := by have := n1.toNat_lt; omega
  have hr := tmC_r hu
  have h0 := mkC_r n0
  have h1 := mkC_r n1
  obtain ⟨E, hEn⟩ : ∃ E, tmC u = E := ⟨_, rfl⟩
  obtain ⟨a, ha⟩ : ∃ a, mkC n0 = a := ⟨_, rfl⟩
  obtain ⟨b, hb⟩ : ∃ b, mkC n1 = b := ⟨_, rfl⟩
  rw [hEn] at hr
  rw [ha] at h0
  rw [hb] at h1
  rw [hx0, hx1]
  obtain ⟨W0, hW0⟩ : ∃ W0, w.alloc (.cells #[.int .u8 x0, .int .u8 x1] 37) = W0 := ⟨_, rfl⟩
  have BX : Hid (∀ W, Later W0 W → W.cell? ⟨w.heap.size, 0, none⟩ = some (.int .u8 x0) ∧ W.cell? ⟨w.heap.size, 1, none⟩ = some (.int .u8 x1)) := Lib.hid (by rw [← hW0]; exact box_two _ _ _)
  have hbw : Below w.heap.size w W0 := by rw [← hW0]; exact (Below.refl _ w).alloc (Nat.le_refl _) _
  have HBW := Lib.hid hbw
  have hE0 := P.env hE hbw
  have CS := Lib.hid (c_sanity P hE0)
  have T0 := Lib.hid (c_time (w := W0) u hu E hEn)
  have M0 := Lib.hid (c_made (w := W0) n0 x0 hx0 a ha)
  have M1 := Lib.hid (c_made (w := W0) n1 x1 hx1 b hb)
  obtain ⟨A, hA⟩ : ∃ A, E + a = A := ⟨_, rfl⟩
  obtain ⟨B, hB⟩ : ∃ B, E + b = B := ⟨_, rfl⟩
  obtain ⟨L, hL⟩ : ∃ L, A - 10 = L := ⟨_, rfl⟩
  obtain ⟨H, hH⟩ : ∃ H, A + 10 = H := ⟨_, rfl⟩
  obtain ⟨y, hy⟩ : ∃ y, x1 % 21 = y := ⟨_, rfl⟩
  have hy2 : y < 21 := by omega
  have hrem : (x1 : Int).tmod 21 = (y : Int) := by rw [Int.tmod_eq_emod_of_nonneg (by omega)]; omega
  have hwx : IntKind.i64.wrap (x1 : Int) = (x1 : Int) := IntWalk.i64_in _ (by omega)
  obtain ⟨at_, hat⟩ : ∃ at_, L + (y : Int) = at_ := ⟨_, rfl⟩
  obtain ⟨q, hq⟩ : ∃ q, A - at_ = q := ⟨_, rfl⟩
  have R0 := Lib.hid (c_read P hE0 a E A hA h0.1 h0.2 ⟨by omega, by omega⟩)
  have R1 := Lib.hid (c_read P hE0 b E B hB h1.1 h1.2 ⟨by omega, by omega⟩)
  have CB := Lib.hid (c_between P hE0 A L H hL hH ⟨by omega, by omega⟩)
  have R2 := Lib.hid (fun W2 (hE2 : Env W2) => c_read P hE2 q at_ A (by omega) (by omega) (by omega) ⟨by omega, by omega⟩)
  have V0 := Lib.hid (fun W2 (hE2 : Env W2) => c_valid P hE2 q true (by rw [decide_eq_true (by omega : -10 ≤ q), decide_eq_true (by omega : q ≤ 10)]; rfl) ⟨by omega, by omega⟩)
  have HE0 := Lib.hid hE0
  have wA : IntKind.i64.wrap (A - B) = A - B := IntWalk.i64_in _ (by omega)
  have wB : IntKind.i64.wrap (B - A) = B - A := IntWalk.i64_in _ (by omega)
  have wL : IntKind.i64.wrap (L + (y : Int)) = at_ := by rw [IntWalk.i64_in _ (by omega)]; exact hat
  have wq : IntKind.i64.wrap (A - at_) = q := by rw [IntWalk.i64_in _ (by omega)]; exact hq
  have wH : IntKind.i64.wrap (H - L) = 20 := by rw [IntWalk.i64_in _ (by omega)]; omega
  have g1 : ¬ E < L := by omega
  have g2 : ¬ E > H := by omega
  have g3 : ¬ A - B > 20 := by omega
  have g4 : ¬ B - A > 20 := by omega
  have g5 : at_ ≤ H := by omega
  have k : Hid (Later W0 W0) := Lib.hid (Below.refl _ _)
  have y0 : (0 : Int) ≤ (y : Int) := Int.natCast_nonneg y
  clear hbw hE0 hE hu hx0 hx1 hEn ha hb hA hB hL hH hy hat hq h0 h1
  go_enter Try.func7, Try.ntmps7
  go_upto_region 3 with (first | (go_at_call 10; (with_reducible refine (CS.out _ k.out).mono ?_); rintro e w1 ⟨rfl, k1⟩; replace k := Lib.hid k1; clear k1) | (go_at_call 12; (with_reducible refine (T0.out _ k.out).mono ?_); rintro e w1 ⟨rfl, k1⟩; replace k := Lib.hid k1; clear k1))
  replace k := Lib.hid k.out.drew
  refine wp_region_held_drew (S := (fun W' => W'.cell? ⟨w.heap.size, 0, none⟩ = some (.int .u8 x0) ∧ W'.cell? ⟨w.heap.size, 1, none⟩ = some (.int .u8 x1))) (by kernel_rfl) (by exact BX.out _ k.out) (fun hHeld => ?_)
  refine wpAnyH_take (i := 0) (v := ?_) rfl (by kernel_rfl) (by kernel_rfl) (by kernel_rfl) (fun _ _ _ h => h) (Or.inl ⟨by rfl, ?_⟩) (by assumption) ?_
  rotate_left
  · ((intro w' hSw); (try dsimp only at hSw); go_simp; all_goals (with_reducible rfl))
  simp only [Act.put, List.getElem_toArray, List.getElem_cons_zero, List.setIfInBounds_toArray, List.set_cons_zero, List.set_cons_succ]
  refine wpAnyH_take (i := 1) (v := ?_) rfl (by kernel_rfl) (by kernel_rfl) (by kernel_rfl) (fun _ _ _ h => h) (Or.inl ⟨by rfl, ?_⟩) (by assumption) ?_
  rotate_left
  · ((intro w' hSw); (try dsimp only at hSw); go_simp; all_goals (with_reducible rfl))
  simp only [Act.put, List.getElem_toArray, List.getElem_cons_succ, List.getElem_cons_zero, List.setIfInBounds_toArray, List.set_cons_zero, List.set_cons_succ]
  refine wpAnyH_take (i := 3) (v := ?_) rfl (by kernel_rfl) (by kernel_rfl) (by kernel_rfl) (fun _ _ _ h => h) (Or.inl ⟨by rfl, ?_⟩) (by assumption) ?_
  rotate_left
  · ((intro w' hSw); (try dsimp only at hSw); go_simp; all_goals (with_reducible rfl))
  simp only [Act.put, List.getElem_toArray, List.getElem_cons_succ, List.getElem_cons_zero, List.setIfInBounds_toArray, List.set_cons_zero, List.set_cons_succ]
  refine wpAnyH_take (i := 5) (v := ?_) rfl (by kernel_rfl) (by kernel_rfl) (by kernel_rfl) (fun _ _ _ h => h) (Or.inl ⟨by rfl, ?_⟩) (by assumption) ?_
  rotate_left
  · ((intro w' hSw); (try dsimp only at hSw); go_simp; all_goals (with_reducible rfl))
  simp only [Act.put, List.getElem_toArray, List.getElem_cons_succ, List.getElem_cons_zero, List.setIfInBounds_toArray, List.set_cons_zero, List.set_cons_succ]
  refine wpAnyH_take (i := 6) (v := ?_) rfl (by kernel_rfl) (by kernel_rfl) (by kernel_rfl) (fun _ _ _ h => h) (Or.inl ⟨by rfl, ?_⟩) (by assumption) ?_
  rotate_left
  · ((intro w' hSw); (try dsimp only at hSw); go_simp; all_goals (with_reducible rfl))
  simp only [Act.put, List.getElem_toArray, List.getElem_cons_succ, List.getElem_cons_zero, List.setIfInBounds_toArray, List.set_cons_zero, List.set_cons_succ]
  refine wpAnyH_take (i := 8) (v := ?_) rfl (by kernel_rfl) (by kernel_rfl) (by kernel_rfl) (fun _ _ _ h => h) (Or.inl ⟨by rfl, ?_⟩) (by assumption) ?_
  rotate_left
  · ((intro w' hSw); (try dsimp only at hSw); go_simp; all_goals (with_reducible rfl))
  simp only [Act.put, List.getElem_toArray, List.getElem_cons_succ, List.getElem_cons_zero, List.setIfInBounds_toArray, List.set_cons_zero, List.set_cons_succ]
  refine wpAnyH_ready (rs := [2]) (by kernel_rfl) (by simp) ?_
  refine AllReadyH.cons rfl (fun K hK => ?_) AllReadyH.nil
  go_simp
  go_wp2_with (go_at_call 11; (with_reducible refine (M0.out _ k.out).mono ?_); rintro e w1 ⟨rfl, k1⟩; replace k := Lib.hid k1; have F1 := Lib.hid (BX.out _ k.out); clear k1)
  refine hK.out _ _ ?_ (fun hHeld => ?_)
  · exact F1.out
  clear hK K
  refine wpAnyH_ready (rs := [4]) (by kernel_rfl) (by simp) ?_
  refine AllReadyH.cons rfl (fun K hK => ?_) AllReadyH.nil
  go_simp
  go_wp2_with (go_at_call 13; (with_reducible refine (R0.out _ k.out).mono ?_); rintro e w1 ⟨rfl, k1⟩; replace k := Lib.hid k1; have F1 := Lib.hid (BX.out _ k.out); clear k1)
  refine hK.out _ _ ?_ (fun hHeld => ?_)
  · exact F1.out
  clear hK K
  refine wpAnyH_ready (rs := [7]) (by kernel_rfl) (by simp) ?_
  refine AllReadyH.cons rfl (fun K hK => ?_) AllReadyH.nil
  go_simp
  go_wp2_with (go_at_call 11; (with_reducible refine (M1.out _ k.out).mono ?_); rintro e w1 ⟨rfl, k1⟩; replace k := Lib.hid k1; have F1 := Lib.hid (BX.out _ k.out); clear k1)
  refine hK.out _ _ ?_ (fun hHeld => ?_)
  · exact F1.out
  clear hK K
  refine wpAnyH_ready (rs := [9]) (by kernel_rfl) (by simp) ?_
  refine AllReadyH.cons rfl (fun K hK => ?_) AllReadyH.nil
  go_simp
  go_wp2_with (go_at_call 13; (with_reducible refine (R1.out _ k.out).mono ?_); rintro e w1 ⟨rfl, k1⟩; replace k := Lib.hid k1; have F1 := Lib.hid (BX.out _ k.out); clear k1)
  refine hK.out _ _ ?_ (fun hHeld => ?_)
  · exact F1.out
  clear hK K
  refine wpAnyH_take (i := 10) (v := ?_) rfl (by kernel_rfl) (by kernel_rfl) (by kernel_rfl) (fun _ _ _ h => h) (Or.inl ⟨by rfl, ?_⟩) (by assumption) ?_
  rotate_left
  · ((intro w' hSw); (try dsimp only at hSw); go_simp; all_goals (with_reducible rfl))
  simp only [Act.put, List.getElem_toArray, List.getElem_cons_succ, List.getElem_cons_zero, List.setIfInBounds_toArray, List.set_cons_zero, List.set_cons_succ]
  refine wpAnyH_take (i := 11) (v := ?_) rfl (by kernel_rfl) (by kernel_rfl) (by kernel_rfl) (fun _ _ _ h => h) (Or.inl ⟨by rfl, ?_⟩) (by assumption) ?_
  rotate_left
  · ((intro w' hSw); (try dsimp only at hSw); go_simp; all_goals (with_reducible rfl))
  simp only [Act.put, List.getElem_toArray, List.getElem_cons_succ, List.getElem_cons_zero, List.setIfInBounds_toArray, List.set_cons_zero, List.set_cons_succ]
  refine wpAnyH_done (by kernel_rfl) ?_ _
  clear F1
  go_upto_region 5 with (first | (go_at_call 15; (with_reducible refine (CB.out _ k.out).mono ?_); rintro e w1 ⟨rfl, k1⟩; replace k := Lib.hid k1; clear k1))
  have hbb := new_below w1 (.cells #[.int .i64 L, .int .i64 H] 30) (Below.refl _ _)
  have BB : Hid (∀ W, Later (w1.alloc (.cells #[.int .i64 L, .int .i64 H] 30)) W → W.cell? ⟨w1.heap.size, 0, none⟩ = some (.int .i64 L) ∧ W.cell? ⟨w1.heap.size, 1, none⟩ = some (.int .i64 H)) := Lib.hid (box_two _ _ _)
  have k2 := k.out.trans (hbb.1.mono k.out.size)
  obtain ⟨p, hp⟩ : ∃ p, w1.heap.size = p := ⟨_, rfl⟩
  rw [hp] at BB ⊢
  generalize w1.alloc (.cells #[.int .i64 L, .int .i64 H] 30) = W2 at hbb BB k2 ⊢
  clear hbb hp
  replace k := Lib.hid k2
  clear k2
  obtain ⟨c0, c1⟩ := BX.out _ k.out
  obtain ⟨d0, d1⟩ := BB.out _ (Below.refl _ _)
  have hE2 := P.env HE0.out k.out
  have R3 := Lib.hid (R2.out _ hE2)
  have V1 := Lib.hid (V0.out _ hE2)
  have HK2 := k
  have kb : Hid (Later W2 W2) := Lib.hid (Below.refl _ _)
  clear hE2
  go_wp2_with (first | (go_at_call 13; (with_reducible refine (R3.out _ kb.out).mono ?_); rintro e w3 ⟨rfl, k1⟩; replace kb := Lib.hid k1; clear k1; obtain ⟨d0, d1⟩ := BB.out _ kb.out) | (go_at_call 24; (with_reducible refine (V1.out _ kb.out).mono ?_); rintro e w4 ⟨rfl, k1⟩; replace kb := Lib.hid k1; clear k1; obtain ⟨d0, d1⟩ := BB.out _ kb.out))
  go_ret
  exact ⟨rfl, HBW.out.trans ((HK2.out.trans (kb.out.mono HK2.out.size)).mono HBW.out.size)⟩
end
end Go.Proofs.Ythjfnmhnbhhbcaa
