/-
  Layer 16: walks of ClockSafe and ClockBounds.
-/
import Derived.Test.YthjfnmhnbhhbcaaCb
namespace Go.Proofs.Ythjfnmhnbhhbcaa
open Go.RowKit
set_option maxHeartbeats 4000000
set_option maxRecDepth 100000

section
variable {Env : World → Prop} (P : PrgC Env)
include P
theorem c_sanity {w : World} (hE : Env w) (W : World) (h : Later w W) : Calls Try.prog 10 #[] W fun e w' => e = .returned (.bool true) ∧ Later w w' :=
  (sanity_any P W (P.env hE h)).mono fun _ _ ⟨h1, h2⟩ => ⟨h1, h.trans (h2.mono h.size)⟩
omit P in
theorem c_made {w : World} (n : UInt8) (x : Nat) (hx : n.toNat = x) (r : Int) (hr : mkC n = r) (W : World) (h : Later w W) : Calls Try.prog 11 #[.int .u8 x] W fun e w' => e = .returned (.agg #[.int .i64 r]) ∧ Later w w' := by
  subst hx hr
  exact (Made16_any n W).mono fun _ _ ⟨h1, h2⟩ => ⟨h1, h.trans (h2.mono h.size)⟩
omit P in
theorem c_time {w : World} (n : Int) (hn : -9223372036854775808 ≤ n ∧ n ≤ 9223372036854775807) (r : Int) (hr : tmC n = r) (W : World) (h : Later w W) : Calls Try.prog 12 #[.int .i64 n] W fun e w' => e = .returned (.int .i64 r) ∧ Later w w' := by
  subst hr
  exact (Time16_any n hn W).mono fun _ _ ⟨h1, h2⟩ => ⟨h1, by rw [h2]; exact h⟩
omit P in
theorem box_two {w : World} (a b : Value) (t : TypeId) (W : World) (h : Later (w.alloc (.cells #[a, b] t)) W) : W.cell? ⟨w.heap.size, 0, none⟩ = some a ∧ W.cell? ⟨w.heap.size, 1, none⟩ = some b := by
  have h1 := (new_below w (.cells #[a, b] t) h).2
  exact ⟨cell_of_row W _ 0 _ _ _ h1, cell_of_row W _ 1 _ _ _ h1⟩

theorem lawSafe_any (n0 n1 : UInt8) (u : Int) (hu : -9223372036854775808 ≤ u ∧ u ≤ 9223372036854775807) (d : Int) (hd : -128 ≤ d ∧ d ≤ 127) (w : World) (hE : Env w) :
    Calls Try.prog 4 #[.agg #[.int .u8 n0.toNat, .int .u8 n1.toNat], .int .i64 u, .int .i8 d] w fun e w' => e = .returned (.bool true) ∧ Below w.heap.size w w' := by
  obtain ⟨x0, hx0⟩ : ∃ x, n0.toNat = x := ⟨_, rfl⟩
  obtain ⟨x1, hx1⟩ : ∃ x, n1.toNat = x := ⟨_, rfl⟩
  have hr := tmC_r hu
  have h0 := mkC_r n0
  have h1 := mkC_r n1
  obtain ⟨E, hEn⟩ : ∃ E, tmC u = E := ⟨_, rfl⟩
  obtain ⟨a, ha⟩ : ∃ a, mkC n0 = a := ⟨_, rfl⟩
  obtain ⟨b, hb⟩ : ∃ b, mkC n1 = b := ⟨_, rfl⟩
  rw [hEn] at hr
  rw [ha] at h0
  rw [hb] at h1
  rw [hx0, hx1]
  obtain ⟨W0, hW0⟩ : ∃ W0, w.alloc (.cells #[.int .u8 x0, .int .u8 x1] 37) = W0 := ⟨_, rfl⟩
  have BX : Hid (∀ W, Later W0 W → W.cell? ⟨w.heap.size, 0, none⟩ = some (.int .u8 x0) ∧ W.cell? ⟨w.heap.size, 1, none⟩ = some (.int .u8 x1)) := Lib.hid (by rw [← hW0]; exact box_two _ _ _)
  have hbw : Below w.heap.size w W0 := by rw [← hW0]; exact (Below.refl _ w).alloc (Nat.le_refl _) _
  have HBW := Lib.hid hbw
  have hE0 := P.env hE hbw
  have CS := Lib.hid (c_sanity P hE0)
  have T0 := Lib.hid (c_time (w := W0) u hu E hEn)
  have M0 := Lib.hid (c_made (w := W0) n0 x0 hx0 a ha)
  have M1 := Lib.hid (c_made (w := W0) n1 x1 hx1 b hb)
  have R0 := Lib.hid (c_read P hE0 a (E + d) (E + d + a) rfl h0.1 h0.2 ⟨by omega, by omega⟩)
  have R1 := Lib.hid (c_read P hE0 b (E + d) (E + d + b) rfl h1.1 h1.2 ⟨by omega, by omega⟩)
  obtain ⟨p1, hp1⟩ : ∃ p, decide (E + d + a + 20 < E) = p := ⟨_, rfl⟩
  obtain ⟨p2, hp2⟩ : ∃ p, decide (E ≤ E + d + b - 20) = p := ⟨_, rfl⟩
  obtain ⟨p3, hp3⟩ : ∃ p, decide (E + d + b + 20 < E) = p := ⟨_, rfl⟩
  obtain ⟨p4, hp4⟩ : ∃ p, decide (E ≤ E + d + a - 20) = p := ⟨_, rfl⟩
  have C1 := Lib.hid (c_holds P hE0 E (E + d + a) p1 hp1 ⟨by omega, by omega⟩ ⟨by omega, by omega⟩)
  have C2 := Lib.hid (c_over P hE0 E (E + d + b) p2 hp2 ⟨by omega, by omega⟩ ⟨by omega, by omega⟩)
  have C3 := Lib.hid (c_holds P hE0 E (E + d + b) p3 hp3 ⟨by omega, by omega⟩ ⟨by omega, by omega⟩)
  have C4 := Lib.hid (c_over P hE0 E (E + d + a) p4 hp4 ⟨by omega, by omega⟩ ⟨by omega, by omega⟩)
  have hno : (p1 && p2) = false ∧ (p3 && p4) = false ∧ (p1 && p4) = false := by
    subst hp1 hp2 hp3 hp4
    simp only [Bool.and_eq_false_iff, decide_eq_false_iff_not]
    omega
  have hdw : IntKind.i64.wrap d = d := IntWalk.i64_in _ (by omega)
  have k : Hid (Later W0 W0) := Lib.hid (Below.refl _ _)
  clear hbw hE0 hp1 hp2 hp3 hp4 hE hu hx0 hx1 hEn ha hb
  have HNO := Lib.hid hno
  clear hno
  go_enter Try.func4, Try.ntmps4
  go_upto_region 4 with (first | (go_at_call 10; (with_reducible refine (CS.out _ k.out).mono ?_); rintro e w1 ⟨rfl, k1⟩; replace k := Lib.hid k1; clear k1) | (go_at_call 12; (with_reducible refine (T0.out _ k.out).mono ?_); rintro e w1 ⟨rfl, k1⟩; replace k := Lib.hid k1; clear k1))
  replace k := Lib.hid k.out.drew
  refine wp_region_held_drew (S := (fun W' => W'.cell? ⟨w.heap.size, 0, none⟩ = some (.int .u8 x0) ∧ W'.cell? ⟨w.heap.size, 1, none⟩ = some (.int .u8 x1))) (by kernel_rfl) (by exact BX.out _ k.out) (fun hHeld => ?_)
  refine wpAnyH_take (i := 0) (v := ?_) rfl (by kernel_rfl) (by kernel_rfl) (by kernel_rfl) (fun _ _ _ h => h) (Or.inl ⟨by rfl, ?_⟩) (by assumption) ?_
  rotate_left
  · ((intro w' hSw); (try dsimp only at hSw); go_simp; all_goals (with_reducible rfl))
  simp only [Act.put, List.getElem_toArray, List.getElem_cons_zero, List.setIfInBounds_toArray, List.set_cons_zero, List.set_cons_succ]
  refine wpAnyH_take (i := 1) (v := ?_) rfl (by kernel_rfl) (by kernel_rfl) (by kernel_rfl) (fun _ _ _ h => h) (Or.inl ⟨by rfl, ?_⟩) (by assumption) ?_
  rotate_left
  · ((intro w' hSw); (try dsimp only at hSw); go_simp; all_goals (with_reducible rfl))
  simp only [Act.put, List.getElem_toArray, List.getElem_cons_succ, List.getElem_cons_zero, List.setIfInBounds_toArray, List.set_cons_zero, List.set_cons_succ]
  refine wpAnyH_take (i := 3) (v := ?_) rfl (by kernel_rfl) (by kernel_rfl) (by kernel_rfl) (fun _ _ _ h => h) (Or.inl ⟨by rfl, ?_⟩) (by assumption) ?_
  rotate_left
  · ((intro w' hSw); (try dsimp only at hSw); go_simp; all_goals (with_reducible rfl))
  simp only [Act.put, List.getElem_toArray, List.getElem_cons_succ, List.getElem_cons_zero, List.setIfInBounds_toArray, List.set_cons_zero, List.set_cons_succ]
  refine wpAnyH_take (i := 5) (v := ?_) rfl (by kernel_rfl) (by kernel_rfl) (by kernel_rfl) (fun _ _ _ h => h) (Or.inl ⟨by rfl, ?_⟩) (by assumption) ?_
  rotate_left
  · ((intro w' hSw); (try dsimp only at hSw); go_simp; all_goals (with_reducible rfl))
  simp only [Act.put, List.getElem_toArray, List.getElem_cons_succ, List.getElem_cons_zero, List.setIfInBounds_toArray, List.set_cons_zero, List.set_cons_succ]
  refine wpAnyH_take (i := 6) (v := ?_) rfl (by kernel_rfl) (by kernel_rfl) (by kernel_rfl) (fun _ _ _ h => h) (Or.inl ⟨by rfl, ?_⟩) (by assumption) ?_
  rotate_left
  · ((intro w' hSw); (try dsimp only at hSw); go_simp; all_goals (with_reducible rfl))
  simp only [Act.put, List.getElem_toArray, List.getElem_cons_succ, List.getElem_cons_zero, List.setIfInBounds_toArray, List.set_cons_zero, List.set_cons_succ]
  refine wpAnyH_take (i := 8) (v := ?_) rfl (by kernel_rfl) (by kernel_rfl) (by kernel_rfl) (fun _ _ _ h => h) (Or.inl ⟨by rfl, ?_⟩) (by assumption) ?_
  rotate_left
  · ((intro w' hSw); (try dsimp only at hSw); go_simp; all_goals (with_reducible rfl))
  simp only [Act.put, List.getElem_toArray, List.getElem_cons_succ, List.getElem_cons_zero, List.setIfInBounds_toArray, List.set_cons_zero, List.set_cons_succ]
  refine wpAnyH_ready (rs := [2]) (by kernel_rfl) (by simp) ?_
  refine AllReadyH.cons rfl (fun K hK => ?_) AllReadyH.nil
  go_simp
  go_wp2_with (go_at_call 11; (with_reducible refine (M0.out _ k.out).mono ?_); rintro e w1 ⟨rfl, k1⟩; replace k := Lib.hid k1; have F1 := Lib.hid (BX.out _ k.out); clear k1)
  refine hK.out _ _ ?_ (fun hHeld => ?_)
  · exact F1.out
  clear hK K
  refine wpAnyH_ready (rs := [4]) (by kernel_rfl) (by simp) ?_
  refine AllReadyH.cons rfl (fun K hK => ?_) AllReadyH.nil
  go_simp
  go_wp2_with (go_at_call 13; (with_reducible refine (R0.out _ k.out).mono ?_); rintro e w1 ⟨rfl, k1⟩; replace k := Lib.hid k1; have F1 := Lib.hid (BX.out _ k.out); clear k1)
  refine hK.out _ _ ?_ (fun hHeld => ?_)
  · exact F1.out
  clear hK K
  refine wpAnyH_ready (rs := [7]) (by kernel_rfl) (by simp) ?_
  refine AllReadyH.cons rfl (fun K hK => ?_) AllReadyH.nil
  go_simp
  go_wp2_with (go_at_call 11; (with_reducible refine (M1.out _ k.out).mono ?_); rintro e w1 ⟨rfl, k1⟩; replace k := Lib.hid k1; have F1 := Lib.hid (BX.out _ k.out); clear k1)
  refine hK.out _ _ ?_ (fun hHeld => ?_)
  · exact F1.out
  clear hK K
  refine wpAnyH_ready (rs := [9]) (by kernel_rfl) (by simp) ?_
  refine AllReadyH.cons rfl (fun K hK => ?_) AllReadyH.nil
  go_simp
  go_wp2_with (go_at_call 13; (with_reducible refine (R1.out _ k.out).mono ?_); rintro e w1 ⟨rfl, k1⟩; replace k := Lib.hid k1; have F1 := Lib.hid (BX.out _ k.out); clear k1)
  refine hK.out _ _ ?_ (fun hHeld => ?_)
  · exact F1.out
  clear hK K
  refine wpAnyH_take (i := 10) (v := ?_) rfl (by kernel_rfl) (by kernel_rfl) (by kernel_rfl) (fun _ _ _ h => h) (Or.inl ⟨by rfl, ?_⟩) (by assumption) ?_
  rotate_left
  · ((intro w' hSw); (try dsimp only at hSw); go_simp; all_goals (with_reducible rfl))
  simp only [Act.put, List.getElem_toArray, List.getElem_cons_succ, List.getElem_cons_zero, List.setIfInBounds_toArray, List.set_cons_zero, List.set_cons_succ]
  refine wpAnyH_take (i := 11) (v := ?_) rfl (by kernel_rfl) (by kernel_rfl) (by kernel_rfl) (fun _ _ _ h => h) (Or.inl ⟨by rfl, ?_⟩) (by assumption) ?_
  rotate_left
  · ((intro w' hSw); (try dsimp only at hSw); go_simp; all_goals (with_reducible rfl))
  simp only [Act.put, List.getElem_toArray, List.getElem_cons_succ, List.getElem_cons_zero, List.setIfInBounds_toArray, List.set_cons_zero, List.set_cons_succ]
  refine wpAnyH_done (by kernel_rfl) ?_ _
  clear F1
  have hno := HNO.out
  clear HNO
  cases p1 <;> cases p2 <;> cases p3 <;> cases p4
  all_goals first | (exfalso; revert hno; decide) | skip
  all_goals
    clear hno
    go_wp2_with (first | (go_at_call 16; (with_reducible refine (C1.out _ k.out).mono ?_); rintro e w1 ⟨rfl, k1⟩; replace k := Lib.hid k1; clear k1) | (go_at_call 16; (with_reducible refine (C3.out _ k.out).mono ?_); rintro e w1 ⟨rfl, k1⟩; replace k := Lib.hid k1; clear k1) | (go_at_call 18; (with_reducible refine (C2.out _ k.out).mono ?_); rintro e w1 ⟨rfl, k1⟩; replace k := Lib.hid k1; clear k1) | (go_at_call 18; (with_reducible refine (C4.out _ k.out).mono ?_); rintro e w1 ⟨rfl, k1⟩; replace k := Lib.hid k1; clear k1))
    go_ret
    exact ⟨rfl, HBW.out.trans (k.out.mono HBW.out.size)⟩
end
end Go.Proofs.Ythjfnmhnbhhbcaa
