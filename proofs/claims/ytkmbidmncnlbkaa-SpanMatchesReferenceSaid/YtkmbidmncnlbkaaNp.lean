/-
  The law SpanMatchesReference.
-/
import Derived.Test.YtkmbidmncnlbkaaNl
namespace Go.Proofs.Ytkmbidmncnlbkaa
open Go.RowKit Sn
set_option maxHeartbeats 4000000
set_option maxRecDepth 100000
variable {Env : World → Prop} (P : PrgS Env) (S : SanOkS Env)
include P S

theorem lawMatches_any (A A2 A3 : Option Addr) (n n2 n3 c c2 c3 : Nat) (x y : List Sn.S) (z : List T2) (u lo hi : Int) (hu : In64 u) (hlo : In64 lo) (hhi : In64 hi) (hox : OkB x) (hoy : OkB y) (hz : z.length = n3) (hoz : ∀ t ∈ z, ok2 t) (w : World) (he : Env w) (hA : Sl 0 w A n c x) (hA2 : Sl 0 w A2 n2 c2 y) (hA3 : Tws w A3 z) :
    Calls Try.prog 3 #[.slice A n c, .slice A2 n2 c2, .agg #[.int .i64 u, .int .i64 lo, .int .i64 hi, .slice A3 n3 c3]] w fun e w' => e = .returned (.bool true) ∧ Below w.heap.size w w' := by
  have hb0 : Below w.heap.size w (w.alloc (.cells #[.int .i64 u, .int .i64 lo, .int .i64 hi, .slice A3 n3 c3] 27)) := (Below.refl _ w).alloc (Nat.le_refl _) _
  have hbx := heap_alloc_new w (.cells #[.int .i64 u, .int .i64 lo, .int .i64 hi, .slice A3 n3 c3] 27)
  obtain ⟨w0, hw0⟩ : ∃ w0, w.alloc (.cells #[.int .i64 u, .int .i64 lo, .int .i64 hi, .slice A3 n3 c3] 27) = w0 := ⟨_, rfl⟩
  rw [hw0] at hb0 hbx
  have hlt : w.heap.size < w0.heap.size := (Array.getElem?_eq_some_iff.1 hbx).1
  have BX : Hid (∀ W, Below w0.heap.size w0 W → W.cell? ⟨w.heap.size, 0, none⟩ = some (.int .i64 u) ∧ W.cell? ⟨w.heap.size, 1, none⟩ = some (.int .i64 lo) ∧ W.cell? ⟨w.heap.size, 2, none⟩ = some (.int .i64 hi) ∧ W.cell? ⟨w.heap.size, 3, none⟩ = some (.slice A3 n3 c3)) := Lib.hid fun W h => by
    exact ⟨(h.cell hlt).trans (cell_of_row w0 _ 0 _ _ _ hbx), (h.cell hlt).trans (cell_of_row w0 _ 1 _ _ _ hbx), (h.cell hlt).trans (cell_of_row w0 _ 2 _ _ _ hbx), (h.cell hlt).trans (cell_of_row w0 _ 3 _ _ _ hbx)⟩
  have k := Lib.hid (Held.start (P.env he hb0))
  have X := Lib.hid (And.intro (hA.below hb0) hox)
  have Y := Lib.hid (And.intro (hA2.below hb0) hoy)
  have Z := Lib.hid (And.intro hz (And.intro hoz (hA3.below hb0)))
  have N := Lib.hid (And.intro hu (And.intro hlo hhi))
  have B0 := Lib.hid hb0
  have HW0 := Lib.hid hw0
  obtain ⟨sv, hsv⟩ : ∃ q, setB (x.take 12) = q := ⟨_, rfl⟩
  obtain ⟨hv, hhv⟩ : ∃ q, hasB (x.take 12) u = q := ⟨_, rfl⟩
  obtain ⟨cv, hcv⟩ : ∃ q, coversB (x.take 12) ⟨lo, hi⟩ = q := ⟨_, rfl⟩
  obtain ⟨cw, hcw⟩ : ∃ q, coversB (madeL z) ⟨lo, hi⟩ = q := ⟨_, rfl⟩
  obtain ⟨ct, hct⟩ : ∃ q, cnt (hasB (madeL z)) 45 = q := ⟨_, rfl⟩
  have SV := Lib.hid hsv
  have HV := Lib.hid hhv
  have CV := Lib.hid hcv
  have CW := Lib.hid hcw
  have CT := Lib.hid hct
  clear hu hlo hhi hox hoy hz hoz hA hA2 hA3 hb0 hbx hlt hw0 hsv hhv hcv hcw hct
  go_enter Try.func3, Try.ntmps3
  (try rw [HW0.out])
  have ST := Lib.hid (fun (L : List Ent) (W : World) (h : Held Env w0 W L) => (show W.cell? ⟨w.heap.size, 0, none⟩ = some (.int .i64 u) ∧ W.cell? ⟨w.heap.size, 1, none⟩ = some (.int .i64 lo) ∧ W.cell? ⟨w.heap.size, 2, none⟩ = some (.int .i64 hi) ∧ W.cell? ⟨w.heap.size, 3, none⟩ = some (.slice A3 n3 c3) ∧ Held Env w0 W L from ⟨(BX.out W h.low).1, (BX.out W h.low).2.1, (BX.out W h.low).2.2.1, (BX.out W h.low).2.2.2, h⟩))
  go_upto_region 5 with (first | (go_at_call 10; refine (S (by first | with_reducible exact k.out | (rw [HW0.out]; exact k.out))).mono ?_; rintro e w1 ⟨rfl, k'⟩; replace k := Lib.hid k'; clear k') | (go_at_call 11; with_reducible refine (l_short P (by first | with_reducible exact k.out | with_reducible exact k.out.step P (below_drewN _ _) | exact k.out.step P (by go_grown)) X.out.1 X.out.2).mono ?_; rintro e w1 ⟨A', m, c', rfl, hm, k'⟩; clear hm; replace k := Lib.hid k'; clear k') | (go_at_call 11; with_reducible refine (l_short P (by first | with_reducible exact k.out | with_reducible exact k.out.step P (below_drewN _ _) | exact k.out.step P (by go_grown)) Y.out.1 Y.out.2).mono ?_; rintro e w1 ⟨A', m, c', rfl, hm, k'⟩; clear hm; replace k := Lib.hid k'; clear k') | (go_at_call 12; refine (p_valid P (by first | with_reducible exact k.out | with_reducible exact k.out.step P (below_drewN _ _) | exact k.out.step P (by go_grown)) (by repeat (first | exact List.Mem.head _ | refine List.Mem.tail _ ?_)) (by rfl) sv SV.out).mono ?_; rintro e w1 ⟨rfl, k'⟩; replace k := Lib.hid k'; clear k') | (go_at_call 13; refine (r_valid P (by first | with_reducible exact k.out | with_reducible exact k.out.step P (below_drewN _ _) | exact k.out.step P (by go_grown)) (by repeat (first | exact List.Mem.head _ | refine List.Mem.tail _ ?_)) (by rfl) sv SV.out).mono ?_; rintro e w1 ⟨rfl, k'⟩; replace k := Lib.hid k'; clear k') | (go_at_call 15; refine (p_norm P (by first | with_reducible exact k.out | with_reducible exact k.out.step P (below_drewN _ _) | exact k.out.step P (by go_grown)) (by repeat (first | exact List.Mem.head _ | refine List.Mem.tail _ ?_)) (by rfl)).mono ?_; rintro e w1 ⟨A', m, c', out, rfl, hm, k'⟩; clear hm; replace k := Lib.hid k'; clear k') | (go_at_call 16; refine (r_norm P (by first | with_reducible exact k.out | with_reducible exact k.out.step P (below_drewN _ _) | exact k.out.step P (by go_grown)) (by repeat (first | exact List.Mem.head _ | refine List.Mem.tail _ ?_)) (by rfl)).mono ?_; rintro e w1 ⟨A', m, c', out, rfl, hm, k'⟩; clear hm; replace k := Lib.hid k'; clear k') | (go_at_call 17; refine (p_union P (by first | with_reducible exact k.out | with_reducible exact k.out.step P (below_drewN _ _) | exact k.out.step P (by go_grown)) (by repeat (first | exact List.Mem.head _ | refine List.Mem.tail _ ?_)) (by rfl) (by repeat (first | exact List.Mem.head _ | refine List.Mem.tail _ ?_)) (by rfl)).mono ?_; rintro e w1 ⟨A', m, c', out, rfl, hm, k'⟩; clear hm; replace k := Lib.hid k'; clear k') | (go_at_call 19; refine (p_meet P (by first | with_reducible exact k.out | with_reducible exact k.out.step P (below_drewN _ _) | exact k.out.step P (by go_grown)) (by repeat (first | exact List.Mem.head _ | refine List.Mem.tail _ ?_)) (by rfl) (by repeat (first | exact List.Mem.head _ | refine List.Mem.tail _ ?_)) (by rfl)).mono ?_; rintro e w1 ⟨A', m, c', out, rfl, hm, k'⟩; clear hm; replace k := Lib.hid k'; clear k') | (go_at_call 21; refine (p_minus P (by first | with_reducible exact k.out | with_reducible exact k.out.step P (below_drewN _ _) | exact k.out.step P (by go_grown)) (by repeat (first | exact List.Mem.head _ | refine List.Mem.tail _ ?_)) (by rfl) (by repeat (first | exact List.Mem.head _ | refine List.Mem.tail _ ?_)) (by rfl)).mono ?_; rintro e w1 ⟨A', m, c', out, rfl, hm, k'⟩; clear hm; replace k := Lib.hid k'; clear k') | (go_at_call 18; refine (r_union P (by first | with_reducible exact k.out | with_reducible exact k.out.step P (below_drewN _ _) | exact k.out.step P (by go_grown)) (by repeat (first | exact List.Mem.head _ | refine List.Mem.tail _ ?_)) (by rfl) (by repeat (first | exact List.Mem.head _ | refine List.Mem.tail _ ?_)) (by rfl)).mono ?_; rintro e w1 ⟨A', m, c', out, rfl, hm, k'⟩; clear hm; replace k := Lib.hid k'; clear k') | (go_at_call 20; refine (r_meet P (by first | with_reducible exact k.out | with_reducible exact k.out.step P (below_drewN _ _) | exact k.out.step P (by go_grown)) (by repeat (first | exact List.Mem.head _ | refine List.Mem.tail _ ?_)) (by rfl) (by repeat (first | exact List.Mem.head _ | refine List.Mem.tail _ ?_)) (by rfl)).mono ?_; rintro e w1 ⟨A', m, c', out, rfl, hm, k'⟩; clear hm; replace k := Lib.hid k'; clear k') | (go_at_call 22; refine (r_minus P (by first | with_reducible exact k.out | with_reducible exact k.out.step P (below_drewN _ _) | exact k.out.step P (by go_grown)) (by repeat (first | exact List.Mem.head _ | refine List.Mem.tail _ ?_)) (by rfl) (by repeat (first | exact List.Mem.head _ | refine List.Mem.tail _ ?_)) (by rfl)).mono ?_; rintro e w1 ⟨A', m, c', out, rfl, hm, k'⟩; clear hm; replace k := Lib.hid k'; clear k') | (go_at_call 14; refine (r_same P (by first | with_reducible exact k.out | with_reducible exact k.out.step P (below_drewN _ _) | exact k.out.step P (by go_grown)) (by repeat (first | exact List.Mem.head _ | refine List.Mem.tail _ ?_)) (by rfl) (by repeat (first | exact List.Mem.head _ | refine List.Mem.tail _ ?_)) (by rfl) (by rfl) (by rfl) (by first | with_reducible exact fun _ => rfl | (intro t; (try dsimp only); cases hasB (x.take 12) t <;> cases hasB (y.take 12) t <;> rfl) | fail)).mono ?_; rintro e w1 ⟨rfl, k'⟩; replace k := Lib.hid k'; clear k') | fail)
  obtain ⟨q0, q1, q2, q3⟩ := BX.out _ k.out.low
  go_upto_region 6 with (first | (go_at_call 23; with_reducible refine (l_made P (by first | with_reducible exact k.out | with_reducible exact k.out.step P (below_drewN _ _) | exact k.out.step P (by go_grown)) Z.out.1 Z.out.2.1 Z.out.2.2).mono ?_; rintro e w1 ⟨A', m, c', rfl, hm, k'⟩; clear hm; replace k := Lib.hid k'; clear k') | fail)
  clear q0 q1 q2 q3
  obtain ⟨L, hL, kL⟩ := k.out.pack
  have HL := Lib.hid hL
  rw [← hL] at k
  refine wp_region_held_drew (S := (fun W' => W'.cell? ⟨w.heap.size, 0, none⟩ = some (.int .i64 u) ∧ W'.cell? ⟨w.heap.size, 1, none⟩ = some (.int .i64 lo) ∧ W'.cell? ⟨w.heap.size, 2, none⟩ = some (.int .i64 hi) ∧ W'.cell? ⟨w.heap.size, 3, none⟩ = some (.slice A3 n3 c3) ∧ Held Env w0 W' L)) (by kernel_rfl) (by exact ST.out L _ (k.out.step P (below_drewN _ _))) (fun hHeld => ?_)
  refine wpAnyH_take (i := 0) (v := ?_) rfl (by kernel_rfl) (by kernel_rfl) (by kernel_rfl) (fun _ _ _ h => h) (Or.inl ⟨by rfl, ?_⟩) (by assumption) ?_
  rotate_left
  · ((intro w' hSw); (try dsimp only at hSw); go_simp; all_goals (with_reducible rfl))
  simp only [Act.put, List.getElem_toArray, List.getElem_cons_zero, List.setIfInBounds_toArray, List.set_cons_zero, List.set_cons_succ]
  refine wpAnyH_take (i := 1) (v := ?_) rfl (by kernel_rfl) (by kernel_rfl) (by kernel_rfl) (fun _ _ _ h => h) (Or.inl ⟨by rfl, ?_⟩) (by assumption) ?_
  rotate_left
  · ((intro w' hSw); (try dsimp only at hSw); go_simp; all_goals (with_reducible rfl))
  simp only [Act.put, List.getElem_toArray, List.getElem_cons_succ, List.getElem_cons_zero, List.setIfInBounds_toArray, List.set_cons_zero, List.set_cons_succ]
  refine wpAnyH_take (i := 2) (v := ?_) rfl (by kernel_rfl) (by kernel_rfl) (by kernel_rfl) (fun _ _ _ h => h) (Or.inl ⟨by rfl, ?_⟩) (by assumption) ?_
  rotate_left
  · ((intro w' hSw); (try dsimp only at hSw); go_simp; all_goals (with_reducible rfl))
  simp only [Act.put, List.getElem_toArray, List.getElem_cons_succ, List.getElem_cons_zero, List.setIfInBounds_toArray, List.set_cons_zero, List.set_cons_succ]
  refine wpAnyH_take (i := 4) (v := ?_) rfl (by kernel_rfl) (by kernel_rfl) (by kernel_rfl) (fun _ _ _ h => h) (Or.inl ⟨by rfl, ?_⟩) (by assumption) ?_
  rotate_left
  · ((intro w' hSw); (try dsimp only at hSw); go_simp; all_goals (with_reducible rfl))
  simp only [Act.put, List.getElem_toArray, List.getElem_cons_succ, List.getElem_cons_zero, List.setIfInBounds_toArray, List.set_cons_zero, List.set_cons_succ]
  refine wpAnyH_take (i := 5) (v := ?_) rfl (by kernel_rfl) (by kernel_rfl) (by kernel_rfl) (fun _ _ _ h => h) (Or.inl ⟨by rfl, ?_⟩) (by assumption) ?_
  rotate_left
  · ((intro w' hSw); (try dsimp only at hSw); go_simp; all_goals (with_reducible rfl))
  simp only [Act.put, List.getElem_toArray, List.getElem_cons_succ, List.getElem_cons_zero, List.setIfInBounds_toArray, List.set_cons_zero, List.set_cons_succ]
  refine wpAnyH_take (i := 6) (v := ?_) rfl (by kernel_rfl) (by kernel_rfl) (by kernel_rfl) (fun _ _ _ h => h) (Or.inl ⟨by rfl, ?_⟩) (by assumption) ?_
  rotate_left
  · ((intro w' hSw); (try dsimp only at hSw); go_simp; all_goals (with_reducible rfl))
  simp only [Act.put, List.getElem_toArray, List.getElem_cons_succ, List.getElem_cons_zero, List.setIfInBounds_toArray, List.set_cons_zero, List.set_cons_succ]
  refine wpAnyH_ready (rs := [3]) (by kernel_rfl) (by simp) ?_
  refine AllReadyH.cons rfl (fun K hK => ?_) AllReadyH.nil
  go_simp
  go_wp2_with (first | (go_at_call 24; refine (p_has P (by with_reducible exact hHeld.2.2.2.2) (by rw [HL.out]; repeat (first | exact List.Mem.head _ | refine List.Mem.tail _ ?_)) (by rfl) _ N.out.1 hv (by first | (with_reducible exact HV.out) | fail)).mono ?_; rintro e w1 ⟨rfl, k'⟩; ) | (go_at_call 25; refine (r_has (by with_reducible exact hHeld.2.2.2.2) (by rw [HL.out]; repeat (first | exact List.Mem.head _ | refine List.Mem.tail _ ?_)) (by rfl) _ hv (by first | (with_reducible exact HV.out) | fail)).mono ?_; rintro e w1 ⟨rfl, k'⟩; ) | (go_at_call 26; refine (p_covers P (by with_reducible exact hHeld.2.2.2.2) (by rw [HL.out]; repeat (first | exact List.Mem.head _ | refine List.Mem.tail _ ?_)) (by rfl) ⟨lo, hi⟩ N.out.2.1 N.out.2.2 cv (by first | (with_reducible exact CV.out) | fail)).mono ?_; rintro e w1 ⟨rfl, k'⟩; ) | (go_at_call 26; refine (p_covers P (by with_reducible exact hHeld.2.2.2.2) (by rw [HL.out]; repeat (first | exact List.Mem.head _ | refine List.Mem.tail _ ?_)) (by rfl) ⟨lo, hi⟩ N.out.2.1 N.out.2.2 cw (by first | (with_reducible exact CW.out) | fail)).mono ?_; rintro e w1 ⟨rfl, k'⟩; ) | (go_at_call 27; refine (r_covers P (by with_reducible exact hHeld.2.2.2.2) (by rw [HL.out]; repeat (first | exact List.Mem.head _ | refine List.Mem.tail _ ?_)) (by rfl) ⟨lo, hi⟩ cv (by first | (with_reducible exact CV.out) | fail)).mono ?_; rintro e w1 ⟨rfl, k'⟩; ) | (go_at_call 27; refine (r_covers P (by with_reducible exact hHeld.2.2.2.2) (by rw [HL.out]; repeat (first | exact List.Mem.head _ | refine List.Mem.tail _ ?_)) (by rfl) ⟨lo, hi⟩ cw (by first | (with_reducible exact CW.out) | fail)).mono ?_; rintro e w1 ⟨rfl, k'⟩; ) | (go_at_call 28; refine (p_total P (by with_reducible exact hHeld.2.2.2.2) (by rw [HL.out]; repeat (first | exact List.Mem.head _ | refine List.Mem.tail _ ?_)) (by rfl) (by rfl) ct (by first | (with_reducible exact CT.out) | fail)).mono ?_; rintro e w1 ⟨rfl, k'⟩; ) | (go_at_call 29; refine (r_total P (by with_reducible exact hHeld.2.2.2.2) (by rw [HL.out]; repeat (first | exact List.Mem.head _ | refine List.Mem.tail _ ?_)) (by rfl) (by rfl) ct (by first | (with_reducible exact CT.out) | fail)).mono ?_; rintro e w1 ⟨rfl, k'⟩; ) | fail)
  refine hK.out _ _ ?_ (fun hHeld => ?_)
  · exact ST.out L _ k'
  clear hK K
  refine wpAnyH_ready (rs := [7]) (by kernel_rfl) (by simp) ?_
  refine AllReadyH.cons rfl (fun K hK => ?_) AllReadyH.nil
  go_simp
  go_wp2_with (first | (go_at_call 24; refine (p_has P (by with_reducible exact hHeld.2.2.2.2) (by rw [HL.out]; repeat (first | exact List.Mem.head _ | refine List.Mem.tail _ ?_)) (by rfl) _ N.out.1 hv (by first | (with_reducible exact HV.out) | fail)).mono ?_; rintro e w1 ⟨rfl, k'⟩; ) | (go_at_call 25; refine (r_has (by with_reducible exact hHeld.2.2.2.2) (by rw [HL.out]; repeat (first | exact List.Mem.head _ | refine List.Mem.tail _ ?_)) (by rfl) _ hv (by first | (with_reducible exact HV.out) | fail)).mono ?_; rintro e w1 ⟨rfl, k'⟩; ) | (go_at_call 26; refine (p_covers P (by with_reducible exact hHeld.2.2.2.2) (by rw [HL.out]; repeat (first | exact List.Mem.head _ | refine List.Mem.tail _ ?_)) (by rfl) ⟨lo, hi⟩ N.out.2.1 N.out.2.2 cv (by first | (with_reducible exact CV.out) | fail)).mono ?_; rintro e w1 ⟨rfl, k'⟩; ) | (go_at_call 26; refine (p_covers P (by with_reducible exact hHeld.2.2.2.2) (by rw [HL.out]; repeat (first | exact List.Mem.head _ | refine List.Mem.tail _ ?_)) (by rfl) ⟨lo, hi⟩ N.out.2.1 N.out.2.2 cw (by first | (with_reducible exact CW.out) | fail)).mono ?_; rintro e w1 ⟨rfl, k'⟩; ) | (go_at_call 27; refine (r_covers P (by with_reducible exact hHeld.2.2.2.2) (by rw [HL.out]; repeat (first | exact List.Mem.head _ | refine List.Mem.tail _ ?_)) (by rfl) ⟨lo, hi⟩ cv (by first | (with_reducible exact CV.out) | fail)).mono ?_; rintro e w1 ⟨rfl, k'⟩; ) | (go_at_call 27; refine (r_covers P (by with_reducible exact hHeld.2.2.2.2) (by rw [HL.out]; repeat (first | exact List.Mem.head _ | refine List.Mem.tail _ ?_)) (by rfl) ⟨lo, hi⟩ cw (by first | (with_reducible exact CW.out) | fail)).mono ?_; rintro e w1 ⟨rfl, k'⟩; ) | (go_at_call 28; refine (p_total P (by with_reducible exact hHeld.2.2.2.2) (by rw [HL.out]; repeat (first | exact List.Mem.head _ | refine List.Mem.tail _ ?_)) (by rfl) (by rfl) ct (by first | (with_reducible exact CT.out) | fail)).mono ?_; rintro e w1 ⟨rfl, k'⟩; ) | (go_at_call 29; refine (r_total P (by with_reducible exact hHeld.2.2.2.2) (by rw [HL.out]; repeat (first | exact List.Mem.head _ | refine List.Mem.tail _ ?_)) (by rfl) (by rfl) ct (by first | (with_reducible exact CT.out) | fail)).mono ?_; rintro e w1 ⟨rfl, k'⟩; ) | fail)
  refine hK.out _ _ ?_ (fun hHeld => ?_)
  · exact ST.out L _ k'
  clear hK K
  refine wpAnyH_take (i := 8) (v := ?_) rfl (by kernel_rfl) (by kernel_rfl) (by kernel_rfl) (fun _ _ _ h => h) (Or.inl ⟨by rfl, ?_⟩) (by assumption) ?_
  rotate_left
  · ((intro w' hSw); (try dsimp only at hSw); go_simp; all_goals (with_reducible rfl))
  simp only [Act.put, List.getElem_toArray, List.getElem_cons_succ, List.getElem_cons_zero, List.setIfInBounds_toArray, List.set_cons_zero, List.set_cons_succ]
  refine wpAnyH_take (i := 9) (v := ?_) rfl (by kernel_rfl) (by kernel_rfl) (by kernel_rfl) (fun _ _ _ h => h) (Or.inl ⟨by rfl, ?_⟩) (by assumption) ?_
  rotate_left
  · ((intro w' hSw); (try dsimp only at hSw); go_simp; all_goals (with_reducible rfl))
  simp only [Act.put, List.getElem_toArray, List.getElem_cons_succ, List.getElem_cons_zero, List.setIfInBounds_toArray, List.set_cons_zero, List.set_cons_succ]
  refine wpAnyH_take (i := 10) (v := ?_) rfl (by kernel_rfl) (by kernel_rfl) (by kernel_rfl) (fun _ _ _ h => h) (Or.inl ⟨by rfl, ?_⟩) (by assumption) ?_
  rotate_left
  · ((intro w' hSw); (try dsimp only at hSw); go_simp; all_goals (with_reducible rfl))
  simp only [Act.put, List.getElem_toArray, List.getElem_cons_succ, List.getElem_cons_zero, List.setIfInBounds_toArray, List.set_cons_zero, List.set_cons_succ]
  refine wpAnyH_take (i := 11) (v := ?_) rfl (by kernel_rfl) (by kernel_rfl) (by kernel_rfl) (fun _ _ _ h => h) (Or.inl ⟨by rfl, ?_⟩) (by assumption) ?_
  rotate_left
  · ((intro w' hSw); (try dsimp only at hSw); go_simp; all_goals (with_reducible rfl))
  simp only [Act.put, List.getElem_toArray, List.getElem_cons_succ, List.getElem_cons_zero, List.setIfInBounds_toArray, List.set_cons_zero, List.set_cons_succ]
  refine wpAnyH_take (i := 12) (v := ?_) rfl (by kernel_rfl) (by kernel_rfl) (by kernel_rfl) (fun _ _ _ h => h) (Or.inl ⟨by rfl, ?_⟩) (by assumption) ?_
  rotate_left
  · ((intro w' hSw); (try dsimp only at hSw); go_simp; all_goals (with_reducible rfl))
  simp only [Act.put, List.getElem_toArray, List.getElem_cons_succ, List.getElem_cons_zero, List.setIfInBounds_toArray, List.set_cons_zero, List.set_cons_succ]
  refine wpAnyH_take (i := 14) (v := ?_) rfl (by kernel_rfl) (by kernel_rfl) (by kernel_rfl) (fun _ _ _ h => h) (Or.inl ⟨by rfl, ?_⟩) (by assumption) ?_
  rotate_left
  · ((intro w' hSw); (try dsimp only at hSw); go_simp; all_goals (with_reducible rfl))
  simp only [Act.put, List.getElem_toArray, List.getElem_cons_succ, List.getElem_cons_zero, List.setIfInBounds_toArray, List.set_cons_zero, List.set_cons_succ]
  refine wpAnyH_take (i := 15) (v := ?_) rfl (by kernel_rfl) (by kernel_rfl) (by kernel_rfl) (fun _ _ _ h => h) (Or.inl ⟨by rfl, ?_⟩) (by assumption) ?_
  rotate_left
  · ((intro w' hSw); (try dsimp only at hSw); go_simp; all_goals (with_reducible rfl))
  simp only [Act.put, List.getElem_toArray, List.getElem_cons_succ, List.getElem_cons_zero, List.setIfInBounds_toArray, List.set_cons_zero, List.set_cons_succ]
  refine wpAnyH_take (i := 16) (v := ?_) rfl (by kernel_rfl) (by kernel_rfl) (by kernel_rfl) (fun _ _ _ h => h) (Or.inl ⟨by rfl, ?_⟩) (by assumption) ?_
  rotate_left
  · ((intro w' hSw); (try dsimp only at hSw); go_simp; all_goals (with_reducible rfl))
  simp only [Act.put, List.getElem_toArray, List.getElem_cons_succ, List.getElem_cons_zero, List.setIfInBounds_toArray, List.set_cons_zero, List.set_cons_succ]
  refine wpAnyH_ready (rs := [13]) (by kernel_rfl) (by simp) ?_
  refine AllReadyH.cons rfl (fun K hK => ?_) AllReadyH.nil
  go_simp
  go_wp2_with (first | (go_at_call 24; refine (p_has P (by with_reducible exact hHeld.2.2.2.2) (by rw [HL.out]; repeat (first | exact List.Mem.head _ | refine List.Mem.tail _ ?_)) (by rfl) _ N.out.1 hv (by first | (with_reducible exact HV.out) | fail)).mono ?_; rintro e w1 ⟨rfl, k'⟩; ) | (go_at_call 25; refine (r_has (by with_reducible exact hHeld.2.2.2.2) (by rw [HL.out]; repeat (first | exact List.Mem.head _ | refine List.Mem.tail _ ?_)) (by rfl) _ hv (by first | (with_reducible exact HV.out) | fail)).mono ?_; rintro e w1 ⟨rfl, k'⟩; ) | (go_at_call 26; refine (p_covers P (by with_reducible exact hHeld.2.2.2.2) (by rw [HL.out]; repeat (first | exact List.Mem.head _ | refine List.Mem.tail _ ?_)) (by rfl) ⟨lo, hi⟩ N.out.2.1 N.out.2.2 cv (by first | (with_reducible exact CV.out) | fail)).mono ?_; rintro e w1 ⟨rfl, k'⟩; ) | (go_at_call 26; refine (p_covers P (by with_reducible exact hHeld.2.2.2.2) (by rw [HL.out]; repeat (first | exact List.Mem.head _ | refine List.Mem.tail _ ?_)) (by rfl) ⟨lo, hi⟩ N.out.2.1 N.out.2.2 cw (by first | (with_reducible exact CW.out) | fail)).mono ?_; rintro e w1 ⟨rfl, k'⟩; ) | (go_at_call 27; refine (r_covers P (by with_reducible exact hHeld.2.2.2.2) (by rw [HL.out]; repeat (first | exact List.Mem.head _ | refine List.Mem.tail _ ?_)) (by rfl) ⟨lo, hi⟩ cv (by first | (with_reducible exact CV.out) | fail)).mono ?_; rintro e w1 ⟨rfl, k'⟩; ) | (go_at_call 27; refine (r_covers P (by with_reducible exact hHeld.2.2.2.2) (by rw [HL.out]; repeat (first | exact List.Mem.head _ | refine List.Mem.tail _ ?_)) (by rfl) ⟨lo, hi⟩ cw (by first | (with_reducible exact CW.out) | fail)).mono ?_; rintro e w1 ⟨rfl, k'⟩; ) | (go_at_call 28; refine (p_total P (by with_reducible exact hHeld.2.2.2.2) (by rw [HL.out]; repeat (first | exact List.Mem.head _ | refine List.Mem.tail _ ?_)) (by rfl) (by rfl) ct (by first | (with_reducible exact CT.out) | fail)).mono ?_; rintro e w1 ⟨rfl, k'⟩; ) | (go_at_call 29; refine (r_total P (by with_reducible exact hHeld.2.2.2.2) (by rw [HL.out]; repeat (first | exact List.Mem.head _ | refine List.Mem.tail _ ?_)) (by rfl) (by rfl) ct (by first | (with_reducible exact CT.out) | fail)).mono ?_; rintro e w1 ⟨rfl, k'⟩; ) | fail)
  refine hK.out _ _ ?_ (fun hHeld => ?_)
  · exact ST.out L _ k'
  clear hK K
  refine wpAnyH_ready (rs := [17]) (by kernel_rfl) (by simp) ?_
  refine AllReadyH.cons rfl (fun K hK => ?_) AllReadyH.nil
  go_simp
  go_wp2_with (first | (go_at_call 24; refine (p_has P (by with_reducible exact hHeld.2.2.2.2) (by rw [HL.out]; repeat (first | exact List.Mem.head _ | refine List.Mem.tail _ ?_)) (by rfl) _ N.out.1 hv (by first | (with_reducible exact HV.out) | fail)).mono ?_; rintro e w1 ⟨rfl, k'⟩; ) | (go_at_call 25; refine (r_has (by with_reducible exact hHeld.2.2.2.2) (by rw [HL.out]; repeat (first | exact List.Mem.head _ | refine List.Mem.tail _ ?_)) (by rfl) _ hv (by first | (with_reducible exact HV.out) | fail)).mono ?_; rintro e w1 ⟨rfl, k'⟩; ) | (go_at_call 26; refine (p_covers P (by with_reducible exact hHeld.2.2.2.2) (by rw [HL.out]; repeat (first | exact List.Mem.head _ | refine List.Mem.tail _ ?_)) (by rfl) ⟨lo, hi⟩ N.out.2.1 N.out.2.2 cv (by first | (with_reducible exact CV.out) | fail)).mono ?_; rintro e w1 ⟨rfl, k'⟩; ) | (go_at_call 26; refine (p_covers P (by with_reducible exact hHeld.2.2.2.2) (by rw [HL.out]; repeat (first | exact List.Mem.head _ | refine List.Mem.tail _ ?_)) (by rfl) ⟨lo, hi⟩ N.out.2.1 N.out.2.2 cw (by first | (with_reducible exact CW.out) | fail)).mono ?_; rintro e w1 ⟨rfl, k'⟩; ) | (go_at_call 27; refine (r_covers P (by with_reducible exact hHeld.2.2.2.2) (by rw [HL.out]; repeat (first | exact List.Mem.head _ | refine List.Mem.tail _ ?_)) (by rfl) ⟨lo, hi⟩ cv (by first | (with_reducible exact CV.out) | fail)).mono ?_; rintro e w1 ⟨rfl, k'⟩; ) | (go_at_call 27; refine (r_covers P (by with_reducible exact hHeld.2.2.2.2) (by rw [HL.out]; repeat (first | exact List.Mem.head _ | refine List.Mem.tail _ ?_)) (by rfl) ⟨lo, hi⟩ cw (by first | (with_reducible exact CW.out) | fail)).mono ?_; rintro e w1 ⟨rfl, k'⟩; ) | (go_at_call 28; refine (p_total P (by with_reducible exact hHeld.2.2.2.2) (by rw [HL.out]; repeat (first | exact List.Mem.head _ | refine List.Mem.tail _ ?_)) (by rfl) (by rfl) ct (by first | (with_reducible exact CT.out) | fail)).mono ?_; rintro e w1 ⟨rfl, k'⟩; ) | (go_at_call 29; refine (r_total P (by with_reducible exact hHeld.2.2.2.2) (by rw [HL.out]; repeat (first | exact List.Mem.head _ | refine List.Mem.tail _ ?_)) (by rfl) (by rfl) ct (by first | (with_reducible exact CT.out) | fail)).mono ?_; rintro e w1 ⟨rfl, k'⟩; ) | fail)
  refine hK.out _ _ ?_ (fun hHeld => ?_)
  · exact ST.out L _ k'
  clear hK K
  refine wpAnyH_take (i := 18) (v := ?_) rfl (by kernel_rfl) (by kernel_rfl) (by kernel_rfl) (fun _ _ _ h => h) (Or.inl ⟨by rfl, ?_⟩) (by assumption) ?_
  rotate_left
  · ((intro w' hSw); (try dsimp only at hSw); go_simp; all_goals (with_reducible rfl))
  simp only [Act.put, List.getElem_toArray, List.getElem_cons_succ, List.getElem_cons_zero, List.setIfInBounds_toArray, List.set_cons_zero, List.set_cons_succ]
  refine wpAnyH_take (i := 19) (v := ?_) rfl (by kernel_rfl) (by kernel_rfl) (by kernel_rfl) (fun _ _ _ h => h) (Or.inl ⟨by rfl, ?_⟩) (by assumption) ?_
  rotate_left
  · ((intro w' hSw); (try dsimp only at hSw); go_simp; all_goals (with_reducible rfl))
  simp only [Act.put, List.getElem_toArray, List.getElem_cons_succ, List.getElem_cons_zero, List.setIfInBounds_toArray, List.set_cons_zero, List.set_cons_succ]
  refine wpAnyH_take (i := 20) (v := ?_) rfl (by kernel_rfl) (by kernel_rfl) (by kernel_rfl) (fun _ _ _ h => h) (Or.inl ⟨by rfl, ?_⟩) (by assumption) ?_
  rotate_left
  · ((intro w' hSw); (try dsimp only at hSw); go_simp; all_goals (with_reducible rfl))
  simp only [Act.put, List.getElem_toArray, List.getElem_cons_succ, List.getElem_cons_zero, List.setIfInBounds_toArray, List.set_cons_zero, List.set_cons_succ]
  refine wpAnyH_take (i := 21) (v := ?_) rfl (by kernel_rfl) (by kernel_rfl) (by kernel_rfl) (fun _ _ _ h => h) (Or.inl ⟨by rfl, ?_⟩) (by assumption) ?_
  rotate_left
  · ((intro w' hSw); (try dsimp only at hSw); go_simp; all_goals (with_reducible rfl))
  simp only [Act.put, List.getElem_toArray, List.getElem_cons_succ, List.getElem_cons_zero, List.setIfInBounds_toArray, List.set_cons_zero, List.set_cons_succ]
  refine wpAnyH_take (i := 22) (v := ?_) rfl (by kernel_rfl) (by kernel_rfl) (by kernel_rfl) (fun _ _ _ h => h) (Or.inl ⟨by rfl, ?_⟩) (by assumption) ?_
  rotate_left
  · ((intro w' hSw); (try dsimp only at hSw); go_simp; all_goals (with_reducible rfl))
  simp only [Act.put, List.getElem_toArray, List.getElem_cons_succ, List.getElem_cons_zero, List.setIfInBounds_toArray, List.set_cons_zero, List.set_cons_succ]
  refine wpAnyH_take (i := 23) (v := ?_) rfl (by kernel_rfl) (by kernel_rfl) (by kernel_rfl) (fun _ _ _ h => h) (Or.inl ⟨by rfl, ?_⟩) (by assumption) ?_
  rotate_left
  · ((intro w' hSw); (try dsimp only at hSw); go_simp; all_goals (with_reducible rfl))
  simp only [Act.put, List.getElem_toArray, List.getElem_cons_succ, List.getElem_cons_zero, List.setIfInBounds_toArray, List.set_cons_zero, List.set_cons_succ]
  refine wpAnyH_take (i := 25) (v := ?_) rfl (by kernel_rfl) (by kernel_rfl) (by kernel_rfl) (fun _ _ _ h => h) (Or.inl ⟨by rfl, ?_⟩) (by assumption) ?_
  rotate_left
  · ((intro w' hSw); (try dsimp only at hSw); go_simp; all_goals (with_reducible rfl))
  simp only [Act.put, List.getElem_toArray, List.getElem_cons_succ, List.getElem_cons_zero, List.setIfInBounds_toArray, List.set_cons_zero, List.set_cons_succ]
  refine wpAnyH_take (i := 26) (v := ?_) rfl (by kernel_rfl) (by kernel_rfl) (by kernel_rfl) (fun _ _ _ h => h) (Or.inl ⟨by rfl, ?_⟩) (by assumption) ?_
  rotate_left
  · ((intro w' hSw); (try dsimp only at hSw); go_simp; all_goals (with_reducible rfl))
  simp only [Act.put, List.getElem_toArray, List.getElem_cons_succ, List.getElem_cons_zero, List.setIfInBounds_toArray, List.set_cons_zero, List.set_cons_succ]
  refine wpAnyH_take (i := 27) (v := ?_) rfl (by kernel_rfl) (by kernel_rfl) (by kernel_rfl) (fun _ _ _ h => h) (Or.inl ⟨by rfl, ?_⟩) (by assumption) ?_
  rotate_left
  · ((intro w' hSw); (try dsimp only at hSw); go_simp; all_goals (with_reducible rfl))
  simp only [Act.put, List.getElem_toArray, List.getElem_cons_succ, List.getElem_cons_zero, List.setIfInBounds_toArray, List.set_cons_zero, List.set_cons_succ]
  refine wpAnyH_ready (rs := [24]) (by kernel_rfl) (by simp) ?_
  refine AllReadyH.cons rfl (fun K hK => ?_) AllReadyH.nil
  go_simp
  go_wp2_with (first | (go_at_call 24; refine (p_has P (by with_reducible exact hHeld.2.2.2.2) (by rw [HL.out]; repeat (first | exact List.Mem.head _ | refine List.Mem.tail _ ?_)) (by rfl) _ N.out.1 hv (by first | (with_reducible exact HV.out) | fail)).mono ?_; rintro e w1 ⟨rfl, k'⟩; ) | (go_at_call 25; refine (r_has (by with_reducible exact hHeld.2.2.2.2) (by rw [HL.out]; repeat (first | exact List.Mem.head _ | refine List.Mem.tail _ ?_)) (by rfl) _ hv (by first | (with_reducible exact HV.out) | fail)).mono ?_; rintro e w1 ⟨rfl, k'⟩; ) | (go_at_call 26; refine (p_covers P (by with_reducible exact hHeld.2.2.2.2) (by rw [HL.out]; repeat (first | exact List.Mem.head _ | refine List.Mem.tail _ ?_)) (by rfl) ⟨lo, hi⟩ N.out.2.1 N.out.2.2 cv (by first | (with_reducible exact CV.out) | fail)).mono ?_; rintro e w1 ⟨rfl, k'⟩; ) | (go_at_call 26; refine (p_covers P (by with_reducible exact hHeld.2.2.2.2) (by rw [HL.out]; repeat (first | exact List.Mem.head _ | refine List.Mem.tail _ ?_)) (by rfl) ⟨lo, hi⟩ N.out.2.1 N.out.2.2 cw (by first | (with_reducible exact CW.out) | fail)).mono ?_; rintro e w1 ⟨rfl, k'⟩; ) | (go_at_call 27; refine (r_covers P (by with_reducible exact hHeld.2.2.2.2) (by rw [HL.out]; repeat (first | exact List.Mem.head _ | refine List.Mem.tail _ ?_)) (by rfl) ⟨lo, hi⟩ cv (by first | (with_reducible exact CV.out) | fail)).mono ?_; rintro e w1 ⟨rfl, k'⟩; ) | (go_at_call 27; refine (r_covers P (by with_reducible exact hHeld.2.2.2.2) (by rw [HL.out]; repeat (first | exact List.Mem.head _ | refine List.Mem.tail _ ?_)) (by rfl) ⟨lo, hi⟩ cw (by first | (with_reducible exact CW.out) | fail)).mono ?_; rintro e w1 ⟨rfl, k'⟩; ) | (go_at_call 28; refine (p_total P (by with_reducible exact hHeld.2.2.2.2) (by rw [HL.out]; repeat (first | exact List.Mem.head _ | refine List.Mem.tail _ ?_)) (by rfl) (by rfl) ct (by first | (with_reducible exact CT.out) | fail)).mono ?_; rintro e w1 ⟨rfl, k'⟩; ) | (go_at_call 29; refine (r_total P (by with_reducible exact hHeld.2.2.2.2) (by rw [HL.out]; repeat (first | exact List.Mem.head _ | refine List.Mem.tail _ ?_)) (by rfl) (by rfl) ct (by first | (with_reducible exact CT.out) | fail)).mono ?_; rintro e w1 ⟨rfl, k'⟩; ) | fail)
  refine hK.out _ _ ?_ (fun hHeld => ?_)
  · exact ST.out L _ k'
  clear hK K
  refine wpAnyH_ready (rs := [28]) (by kernel_rfl) (by simp) ?_
  refine AllReadyH.cons rfl (fun K hK => ?_) AllReadyH.nil
  go_simp
  go_wp2_with (first | (go_at_call 24; refine (p_has P (by with_reducible exact hHeld.2.2.2.2) (by rw [HL.out]; repeat (first | exact List.Mem.head _ | refine List.Mem.tail _ ?_)) (by rfl) _ N.out.1 hv (by first | (with_reducible exact HV.out) | fail)).mono ?_; rintro e w1 ⟨rfl, k'⟩; ) | (go_at_call 25; refine (r_has (by with_reducible exact hHeld.2.2.2.2) (by rw [HL.out]; repeat (first | exact List.Mem.head _ | refine List.Mem.tail _ ?_)) (by rfl) _ hv (by first | (with_reducible exact HV.out) | fail)).mono ?_; rintro e w1 ⟨rfl, k'⟩; ) | (go_at_call 26; refine (p_covers P (by with_reducible exact hHeld.2.2.2.2) (by rw [HL.out]; repeat (first | exact List.Mem.head _ | refine List.Mem.tail _ ?_)) (by rfl) ⟨lo, hi⟩ N.out.2.1 N.out.2.2 cv (by first | (with_reducible exact CV.out) | fail)).mono ?_; rintro e w1 ⟨rfl, k'⟩; ) | (go_at_call 26; refine (p_covers P (by with_reducible exact hHeld.2.2.2.2) (by rw [HL.out]; repeat (first | exact List.Mem.head _ | refine List.Mem.tail _ ?_)) (by rfl) ⟨lo, hi⟩ N.out.2.1 N.out.2.2 cw (by first | (with_reducible exact CW.out) | fail)).mono ?_; rintro e w1 ⟨rfl, k'⟩; ) | (go_at_call 27; refine (r_covers P (by with_reducible exact hHeld.2.2.2.2) (by rw [HL.out]; repeat (first | exact List.Mem.head _ | refine List.Mem.tail _ ?_)) (by rfl) ⟨lo, hi⟩ cv (by first | (with_reducible exact CV.out) | fail)).mono ?_; rintro e w1 ⟨rfl, k'⟩; ) | (go_at_call 27; refine (r_covers P (by with_reducible exact hHeld.2.2.2.2) (by rw [HL.out]; repeat (first | exact List.Mem.head _ | refine List.Mem.tail _ ?_)) (by rfl) ⟨lo, hi⟩ cw (by first | (with_reducible exact CW.out) | fail)).mono ?_; rintro e w1 ⟨rfl, k'⟩; ) | (go_at_call 28; refine (p_total P (by with_reducible exact hHeld.2.2.2.2) (by rw [HL.out]; repeat (first | exact List.Mem.head _ | refine List.Mem.tail _ ?_)) (by rfl) (by rfl) ct (by first | (with_reducible exact CT.out) | fail)).mono ?_; rintro e w1 ⟨rfl, k'⟩; ) | (go_at_call 29; refine (r_total P (by with_reducible exact hHeld.2.2.2.2) (by rw [HL.out]; repeat (first | exact List.Mem.head _ | refine List.Mem.tail _ ?_)) (by rfl) (by rfl) ct (by first | (with_reducible exact CT.out) | fail)).mono ?_; rintro e w1 ⟨rfl, k'⟩; ) | fail)
  refine hK.out _ _ ?_ (fun hHeld => ?_)
  · exact ST.out L _ k'
  clear hK K
  refine wpAnyH_take (i := 29) (v := ?_) rfl (by kernel_rfl) (by kernel_rfl) (by kernel_rfl) (fun _ _ _ h => h) (Or.inl ⟨by rfl, ?_⟩) (by assumption) ?_
  rotate_left
  · ((intro w' hSw); (try dsimp only at hSw); go_simp; all_goals (with_reducible rfl))
  simp only [Act.put, List.getElem_toArray, List.getElem_cons_succ, List.getElem_cons_zero, List.setIfInBounds_toArray, List.set_cons_zero, List.set_cons_succ]
  refine wpAnyH_take (i := 30) (v := ?_) rfl (by kernel_rfl) (by kernel_rfl) (by kernel_rfl) (fun _ _ _ h => h) (Or.inl ⟨by rfl, ?_⟩) (by assumption) ?_
  rotate_left
  · ((intro w' hSw); (try dsimp only at hSw); go_simp; all_goals (with_reducible rfl))
  simp only [Act.put, List.getElem_toArray, List.getElem_cons_succ, List.getElem_cons_zero, List.setIfInBounds_toArray, List.set_cons_zero, List.set_cons_succ]
  refine wpAnyH_take (i := 31) (v := ?_) rfl (by kernel_rfl) (by kernel_rfl) (by kernel_rfl) (fun _ _ _ h => h) (Or.inl ⟨by rfl, ?_⟩) (by assumption) ?_
  rotate_left
  · ((intro w' hSw); (try dsimp only at hSw); go_simp; all_goals (with_reducible rfl))
  simp only [Act.put, List.getElem_toArray, List.getElem_cons_succ, List.getElem_cons_zero, List.setIfInBounds_toArray, List.set_cons_zero, List.set_cons_succ]
  refine wpAnyH_take (i := 32) (v := ?_) rfl (by kernel_rfl) (by kernel_rfl) (by kernel_rfl) (fun _ _ _ h => h) (Or.inl ⟨by rfl, ?_⟩) (by assumption) ?_
  rotate_left
  · ((intro w' hSw); (try dsimp only at hSw); go_simp; all_goals (with_reducible rfl))
  simp only [Act.put, List.getElem_toArray, List.getElem_cons_succ, List.getElem_cons_zero, List.setIfInBounds_toArray, List.set_cons_zero, List.set_cons_succ]
  refine wpAnyH_take (i := 34) (v := ?_) rfl (by kernel_rfl) (by kernel_rfl) (by kernel_rfl) (fun _ _ _ h => h) (Or.inl ⟨by rfl, ?_⟩) (by assumption) ?_
  rotate_left
  · ((intro w' hSw); (try dsimp only at hSw); go_simp; all_goals (with_reducible rfl))
  simp only [Act.put, List.getElem_toArray, List.getElem_cons_succ, List.getElem_cons_zero, List.setIfInBounds_toArray, List.set_cons_zero, List.set_cons_succ]
  refine wpAnyH_ready (rs := [33]) (by kernel_rfl) (by simp) ?_
  refine AllReadyH.cons rfl (fun K hK => ?_) AllReadyH.nil
  go_simp
  go_wp2_with (first | (go_at_call 24; refine (p_has P (by with_reducible exact hHeld.2.2.2.2) (by rw [HL.out]; repeat (first | exact List.Mem.head _ | refine List.Mem.tail _ ?_)) (by rfl) _ N.out.1 hv (by first | (with_reducible exact HV.out) | fail)).mono ?_; rintro e w1 ⟨rfl, k'⟩; ) | (go_at_call 25; refine (r_has (by with_reducible exact hHeld.2.2.2.2) (by rw [HL.out]; repeat (first | exact List.Mem.head _ | refine List.Mem.tail _ ?_)) (by rfl) _ hv (by first | (with_reducible exact HV.out) | fail)).mono ?_; rintro e w1 ⟨rfl, k'⟩; ) | (go_at_call 26; refine (p_covers P (by with_reducible exact hHeld.2.2.2.2) (by rw [HL.out]; repeat (first | exact List.Mem.head _ | refine List.Mem.tail _ ?_)) (by rfl) ⟨lo, hi⟩ N.out.2.1 N.out.2.2 cv (by first | (with_reducible exact CV.out) | fail)).mono ?_; rintro e w1 ⟨rfl, k'⟩; ) | (go_at_call 26; refine (p_covers P (by with_reducible exact hHeld.2.2.2.2) (by rw [HL.out]; repeat (first | exact List.Mem.head _ | refine List.Mem.tail _ ?_)) (by rfl) ⟨lo, hi⟩ N.out.2.1 N.out.2.2 cw (by first | (with_reducible exact CW.out) | fail)).mono ?_; rintro e w1 ⟨rfl, k'⟩; ) | (go_at_call 27; refine (r_covers P (by with_reducible exact hHeld.2.2.2.2) (by rw [HL.out]; repeat (first | exact List.Mem.head _ | refine List.Mem.tail _ ?_)) (by rfl) ⟨lo, hi⟩ cv (by first | (with_reducible exact CV.out) | fail)).mono ?_; rintro e w1 ⟨rfl, k'⟩; ) | (go_at_call 27; refine (r_covers P (by with_reducible exact hHeld.2.2.2.2) (by rw [HL.out]; repeat (first | exact List.Mem.head _ | refine List.Mem.tail _ ?_)) (by rfl) ⟨lo, hi⟩ cw (by first | (with_reducible exact CW.out) | fail)).mono ?_; rintro e w1 ⟨rfl, k'⟩; ) | (go_at_call 28; refine (p_total P (by with_reducible exact hHeld.2.2.2.2) (by rw [HL.out]; repeat (first | exact List.Mem.head _ | refine List.Mem.tail _ ?_)) (by rfl) (by rfl) ct (by first | (with_reducible exact CT.out) | fail)).mono ?_; rintro e w1 ⟨rfl, k'⟩; ) | (go_at_call 29; refine (r_total P (by with_reducible exact hHeld.2.2.2.2) (by rw [HL.out]; repeat (first | exact List.Mem.head _ | refine List.Mem.tail _ ?_)) (by rfl) (by rfl) ct (by first | (with_reducible exact CT.out) | fail)).mono ?_; rintro e w1 ⟨rfl, k'⟩; ) | fail)
  refine hK.out _ _ ?_ (fun hHeld => ?_)
  · exact ST.out L _ k'
  clear hK K
  refine wpAnyH_ready (rs := [35]) (by kernel_rfl) (by simp) ?_
  refine AllReadyH.cons rfl (fun K hK => ?_) AllReadyH.nil
  go_simp
  go_wp2_with (first | (go_at_call 24; refine (p_has P (by with_reducible exact hHeld.2.2.2.2) (by rw [HL.out]; repeat (first | exact List.Mem.head _ | refine List.Mem.tail _ ?_)) (by rfl) _ N.out.1 hv (by first | (with_reducible exact HV.out) | fail)).mono ?_; rintro e w1 ⟨rfl, k'⟩; ) | (go_at_call 25; refine (r_has (by with_reducible exact hHeld.2.2.2.2) (by rw [HL.out]; repeat (first | exact List.Mem.head _ | refine List.Mem.tail _ ?_)) (by rfl) _ hv (by first | (with_reducible exact HV.out) | fail)).mono ?_; rintro e w1 ⟨rfl, k'⟩; ) | (go_at_call 26; refine (p_covers P (by with_reducible exact hHeld.2.2.2.2) (by rw [HL.out]; repeat (first | exact List.Mem.head _ | refine List.Mem.tail _ ?_)) (by rfl) ⟨lo, hi⟩ N.out.2.1 N.out.2.2 cv (by first | (with_reducible exact CV.out) | fail)).mono ?_; rintro e w1 ⟨rfl, k'⟩; ) | (go_at_call 26; refine (p_covers P (by with_reducible exact hHeld.2.2.2.2) (by rw [HL.out]; repeat (first | exact List.Mem.head _ | refine List.Mem.tail _ ?_)) (by rfl) ⟨lo, hi⟩ N.out.2.1 N.out.2.2 cw (by first | (with_reducible exact CW.out) | fail)).mono ?_; rintro e w1 ⟨rfl, k'⟩; ) | (go_at_call 27; refine (r_covers P (by with_reducible exact hHeld.2.2.2.2) (by rw [HL.out]; repeat (first | exact List.Mem.head _ | refine List.Mem.tail _ ?_)) (by rfl) ⟨lo, hi⟩ cv (by first | (with_reducible exact CV.out) | fail)).mono ?_; rintro e w1 ⟨rfl, k'⟩; ) | (go_at_call 27; refine (r_covers P (by with_reducible exact hHeld.2.2.2.2) (by rw [HL.out]; repeat (first | exact List.Mem.head _ | refine List.Mem.tail _ ?_)) (by rfl) ⟨lo, hi⟩ cw (by first | (with_reducible exact CW.out) | fail)).mono ?_; rintro e w1 ⟨rfl, k'⟩; ) | (go_at_call 28; refine (p_total P (by with_reducible exact hHeld.2.2.2.2) (by rw [HL.out]; repeat (first | exact List.Mem.head _ | refine List.Mem.tail _ ?_)) (by rfl) (by rfl) ct (by first | (with_reducible exact CT.out) | fail)).mono ?_; rintro e w1 ⟨rfl, k'⟩; ) | (go_at_call 29; refine (r_total P (by with_reducible exact hHeld.2.2.2.2) (by rw [HL.out]; repeat (first | exact List.Mem.head _ | refine List.Mem.tail _ ?_)) (by rfl) (by rfl) ct (by first | (with_reducible exact CT.out) | fail)).mono ?_; rintro e w1 ⟨rfl, k'⟩; ) | fail)
  refine hK.out _ _ ?_ (fun hHeld => ?_)
  · exact ST.out L _ k'
  clear hK K
  refine wpAnyH_take (i := 36) (v := ?_) rfl (by kernel_rfl) (by kernel_rfl) (by kernel_rfl) (fun _ _ _ h => h) (Or.inl ⟨by rfl, ?_⟩) (by assumption) ?_
  rotate_left
  · ((intro w' hSw); (try dsimp only at hSw); go_simp; all_goals (with_reducible rfl))
  simp only [Act.put, List.getElem_toArray, List.getElem_cons_succ, List.getElem_cons_zero, List.setIfInBounds_toArray, List.set_cons_zero, List.set_cons_succ]
  refine wpAnyH_take (i := 37) (v := ?_) rfl (by kernel_rfl) (by kernel_rfl) (by kernel_rfl) (fun _ _ _ h => h) (Or.inl ⟨by rfl, ?_⟩) (by assumption) ?_
  rotate_left
  · ((intro w' hSw); (try dsimp only at hSw); go_simp; all_goals (with_reducible rfl))
  simp only [Act.put, List.getElem_toArray, List.getElem_cons_succ, List.getElem_cons_zero, List.setIfInBounds_toArray, List.set_cons_zero, List.set_cons_succ]
  refine wpAnyH_take (i := 38) (v := ?_) rfl (by kernel_rfl) (by kernel_rfl) (by kernel_rfl) (fun _ _ _ h => h) (Or.inl ⟨by rfl, ?_⟩) (by assumption) ?_
  rotate_left
  · ((intro w' hSw); (try dsimp only at hSw); go_simp; all_goals (with_reducible rfl))
  simp only [Act.put, List.getElem_toArray, List.getElem_cons_succ, List.getElem_cons_zero, List.setIfInBounds_toArray, List.set_cons_zero, List.set_cons_succ]
  refine wpAnyH_take (i := 39) (v := ?_) rfl (by kernel_rfl) (by kernel_rfl) (by kernel_rfl) (fun _ _ _ h => h) (Or.inl ⟨by rfl, ?_⟩) (by assumption) ?_
  rotate_left
  · ((intro w' hSw); (try dsimp only at hSw); go_simp; all_goals (with_reducible rfl))
  simp only [Act.put, List.getElem_toArray, List.getElem_cons_succ, List.getElem_cons_zero, List.setIfInBounds_toArray, List.set_cons_zero, List.set_cons_succ]
  refine wpAnyH_take (i := 40) (v := ?_) rfl (by kernel_rfl) (by kernel_rfl) (by kernel_rfl) (fun _ _ _ h => h) (Or.inl ⟨by rfl, ?_⟩) (by assumption) ?_
  rotate_left
  · ((intro w' hSw); (try dsimp only at hSw); go_simp; all_goals (with_reducible rfl))
  simp only [Act.put, List.getElem_toArray, List.getElem_cons_succ, List.getElem_cons_zero, List.setIfInBounds_toArray, List.set_cons_zero, List.set_cons_succ]
  refine wpAnyH_take (i := 41) (v := ?_) rfl (by kernel_rfl) (by kernel_rfl) (by kernel_rfl) (fun _ _ _ h => h) (Or.inl ⟨by rfl, ?_⟩) (by assumption) ?_
  rotate_left
  · ((intro w' hSw); (try dsimp only at hSw); go_simp; all_goals (with_reducible rfl))
  simp only [Act.put, List.getElem_toArray, List.getElem_cons_succ, List.getElem_cons_zero, List.setIfInBounds_toArray, List.set_cons_zero, List.set_cons_succ]
  refine wpAnyH_done (by kernel_rfl) ?_ _
  go_wp2
  go_ret
  exact ⟨rfl, B0.out.trans (hHeld.2.2.2.2.low.mono B0.out.size)⟩
end Go.Proofs.Ytkmbidmncnlbkaa
