/-
  Walk of the reference's Norm.
-/
import Derived.Test.YtggnklcjhbahhaaEd
namespace Go.Proofs.Ytggnklcjhbahhaa
open Go.RowKit Ex
set_option maxHeartbeats 400000
set_option maxRecDepth 100000

set_option maxRecDepth 100000 in
set_option maxHeartbeats 8000000 in
theorem Norm_any (A : Option Addr) (n c : Nat) (l : List Pc) (hn : l.length = n) (hl : n ≤ 1048600) (hp : ∀ p ∈ l, p.n ≤ 0 ∨ rightB p = true) (hs : (eachL l).length ≤ 1048576) (w : World) (hA : Pcs w A l) :
    Calls Try.prog 18 #[.slice A n c] w fun e w' => ∃ A' m c', e = .returned (.slice A' m c') ∧ w'.ownsRow w.heap.size 66 3 (.slice A' m c') m (ints (flat3 (normL l))) ∧ Below w.heap.size w w' := by
  obtain ⟨i0, hi, hz0, hz1, hz2⟩ := info_parts info_piece
  have HN := Lib.hid hn
  have SA := Lib.hid hA
  have HF := Lib.hid (fun k => norm_take_form hp hs k)
  have HP := Lib.hid hp
  clear hn hA hp
  go_enter Try.func18, Try.ntmps18
  go_wp2
  go_loopw [3, 4] (fun s i wr => ∃ (k m : Nat) (A' : Option Addr) (c' : Nat), k ≤ n ∧ i = .int .i64 k ∧ s = .slice A' m c' ∧ m ≤ k ∧ wr.ownsRow w.heap.size 66 3 (.slice A' m c') m (ints (flat3 (normL (l.take k)))) ∧ Below w.heap.size w wr) (fun _ i _ => n - (intOf i).toNat)
  case atStart => exact ⟨0, 0, some ⟨w.heap.size, 0, none⟩, 0, Nat.zero_le _, rfl, rfl, Nat.le_refl _, own_empty _ _ _, by go_grown⟩
  case round =>
    obtain ⟨k, m, A', c', hk, rfl, rfl, hm, hown, hbw⟩ := hrel
    have hbs := hbw.size
    by_cases hlt : k < n
    · have hkl : k < l.length := by rw [HN.out]; exact hlt
      have hg : l[k]? = some l[k] := List.getElem?_eq_getElem hkl
      obtain ⟨p, hpe⟩ : ∃ p, l[k] = p := ⟨_, rfl⟩
      rw [hpe] at hg
      have hpm := HP.out p (List.mem_of_getElem? hg)
      have hT := normL_take hg
      have hF := HF.out k
      have hml := own_plen hown
      obtain ⟨O, hO⟩ : ∃ O, normL (l.take k) = O := ⟨_, rfl⟩
      rw [hO] at hT hown hF hml
      obtain ⟨g, o, hA', hgw, q0, q1, q2⟩ := SA.out.at_ hg
      subst hA'
      replace q0 := (hbw.cell (block_lt_of_cell q0)).trans q0
      replace q1 := (hbw.cell (block_lt_of_cell q1)).trans q1
      replace q2 := (hbw.cell (block_lt_of_cell q2)).trans q2
      have HT := Lib.hid hT
      have HFO := Lib.hid hF
      have HML := Lib.hid hml
      have HO := Lib.hid hown
      have kn : (k : Int) < (n : Int) := Int.ofNat_lt.2 hlt
      have k0 : (0 : Int) ≤ (k : Int) := Int.natCast_nonneg k
      have HBW := Lib.hid hbw
      clear hT hF hml hpe hO hg hbw
      by_cases hp0 : p.n ≤ 0
      · have HA := Lib.hid (show addP O p = O from by unfold addP; rw [if_pos hp0])
        go_wp2
        go_roundw
        case rel => exact ⟨k + 1, m, A', c', by omega, by go_num, rfl, by omega, by rw [HT.out, HA.out]; exact HO.out, HBW.out⟩
        case measure => simp [intOf]; omega
      · have hpr : rightB p = true := by rcases hpm with h | h; exact absurd h hp0; exact h
        have hpb := right_iff.1 hpr
        have hp1 : 1 ≤ p.n := hpb.1
        have hp2 : p.n ≤ 1048576 := hpb.2.1
        clear hpb hpm
        by_cases hm0 : m = 0
        · subst hm0
          have hO0 : O = [] := List.eq_nil_of_length_eq_zero HML.out
          have HA := Lib.hid (show addP O p = O ++ [p] from by rw [hO0]; unfold addP; rw [if_neg hp0]; rfl)
          clear hO0 hown
          go_wp2
          go_quiet (fail)
          go_wp2_with (at_builtin; refine wpList_append_own _ rfl _ _ 24 rfl w.heap.size 66 i0 _ 3 24 Try.underlying24 hi hz0 hz1 hz2 rfl (by decide) _ _ _ rfl ((own_keep HO.out (below_drewN wr nq)).alloc _) ⟨wr.heap.size, 0, none⟩ 1 1 (ints (flat3 [p])) rfl rfl (cells_new _ _ _) (ints_cells _) (by unfold maxLen; omega) (by omega) (by simp; omega) ?_; intro v' w7 hown7 hgrow7 _; obtain ⟨g7, c7, rfl⟩ := ownsRow_succ hown7)
          have hb7 : Below w.heap.size w w7 := ((HBW.out.trans ((below_drewN wr nq).mono hbs)).alloc hbs _).grown hgrow7 (by simp; omega) (fun t ht => (HO.out.lt t ht).1)
          go_roundw
          case rel => exact ⟨k + 1, 1, some ⟨g7, 0, none⟩, c7, by omega, by go_num, rfl, by omega, by rw [HT.out, HA.out, flat3_append, ints_append]; exact hown7, hb7⟩
          case measure => simp [intOf]; omega
        · obtain ⟨j, hj⟩ : ∃ j, j + 1 = m := ⟨m - 1, by omega⟩
          obtain ⟨gO, cO, hAO, hgO, hgO2⟩ := HO.out.form (by omega)
          injection hAO with hAO _ hcO
          subst hAO; subst hcO
          obtain ⟨q, hq⟩ : ∃ q, O[j]? = some q := ⟨_, List.getElem?_eq_getElem (by rw [HML.out]; omega)⟩
          have hlast : O.getLast? = some q := by rw [List.getLast?_eq_getElem?, HML.out, ← hj, Nat.add_sub_cancel]; exact hq
          obtain ⟨⟨e0, e1, e2⟩, e3⟩ := own_tri HO.out hq
          have hqr := HFO.out.right q (List.mem_of_getElem? hq)
          have hqb := right_iff.1 hqr
          have hq1 : 1 ≤ q.n := hqb.1
          have hq2 : q.n ≤ 1048576 := hqb.2.1
          have hjm : (m : Int) - 1 = (j : Int) := by omega
          have j0 : (0 : Int) ≤ (j : Int) := Int.natCast_nonneg j
          have jm : (j : Int) < (m : Int) := by omega
          have F0 : Hid (Duo wr.drew gO (j * 3) g (o + k * 3) q p) := Lib.hid ⟨e0, e1, e2, q0, q1, q2⟩
          have HSP := Lib.hid (last_split hlast)
          have j00 : decide ((0 : Int) ≤ (j : Int)) = true := decide_eq_true j0
          clear e0 e1 hown hq hqb
          cases hone : oneB q p
          · have OC := Lib.hid (one_c hone hqr)
            have HA := Lib.hid (show addP O p = O ++ [p] from by unfold addP; rw [if_neg hp0, hlast]; simp only []; rw [hone, if_neg (by decide)])
            clear hone hqr hlast q0 q1 e2 e3 hj hm0
            go_wp2
            refine wp_region_held_drew (S := (fun W' => W'.cell? ⟨gO, j * 3, none⟩ = some (.int .i64 q.id) ∧ W'.cell? ⟨gO, j * 3 + 1, none⟩ = some (.int .i64 q.fr) ∧ W'.cell? ⟨gO, j * 3 + 2, none⟩ = some (.int .i64 q.n) ∧ W'.cell? ⟨g, o + k * 3, none⟩ = some (.int .i64 p.id) ∧ W'.cell? ⟨g, o + k * 3 + 1, none⟩ = some (.int .i64 p.fr) ∧ W'.cell? ⟨g, o + k * 3 + 2, none⟩ = some (.int .i64 p.n))) (by kernel_rfl) (by exact F0.out) (fun hHeld => ?_)
            refine wpAnyH_take (i := 0) (v := ?_) rfl (by kernel_rfl) (by kernel_rfl) (by kernel_rfl) (fun _ _ _ h => h) (Or.inl ⟨by rfl, ?_⟩) (by assumption) ?_
            rotate_left
            · ((intro w' hSw); (try dsimp only at hSw); go_simp; all_goals (with_reducible rfl))
            simp only [Act.put, List.getElem_toArray, List.getElem_cons_zero, List.setIfInBounds_toArray, List.set_cons_zero, List.set_cons_succ]
            refine wpAnyH_take (i := 1) (v := ?_) rfl (by kernel_rfl) (by kernel_rfl) (by kernel_rfl) (fun _ _ _ h => h) (Or.inl ⟨by rfl, ?_⟩) (by assumption) ?_
            rotate_left
            · ((intro w' hSw); (try dsimp only at hSw); go_simp; all_goals (with_reducible rfl))
            simp only [Act.put, List.getElem_toArray, List.getElem_cons_succ, List.getElem_cons_zero, List.setIfInBounds_toArray, List.set_cons_zero, List.set_cons_succ]
            refine wpAnyH_take (i := 2) (v := ?_) rfl (by kernel_rfl) (by kernel_rfl) (by kernel_rfl) (fun _ _ _ h => h) (Or.inl ⟨by rfl, ?_⟩) (by assumption) ?_
            rotate_left
            · ((intro w' hSw); (try dsimp only at hSw); go_simp; all_goals (with_reducible rfl))
            simp only [Act.put, List.getElem_toArray, List.getElem_cons_succ, List.getElem_cons_zero, List.setIfInBounds_toArray, List.set_cons_zero, List.set_cons_succ]
            refine wpAnyH_take (i := 3) (v := ?_) rfl (by kernel_rfl) (by kernel_rfl) (by kernel_rfl) (fun _ _ _ h => h) (Or.inl ⟨by rfl, ?_⟩) (by assumption) ?_
            rotate_left
            · ((intro w' hSw); (try dsimp only at hSw); go_simp; all_goals (with_reducible rfl))
            simp only [Act.put, List.getElem_toArray, List.getElem_cons_succ, List.getElem_cons_zero, List.setIfInBounds_toArray, List.set_cons_zero, List.set_cons_succ]
            refine wpAnyH_take (i := 4) (v := ?_) rfl (by kernel_rfl) (by kernel_rfl) (by kernel_rfl) (fun _ _ _ h => h) (Or.inl ⟨by rfl, ?_⟩) (by assumption) ?_
            rotate_left
            · ((intro w' hSw); (try dsimp only at hSw); go_simp; all_goals (with_reducible rfl))
            simp only [Act.put, List.getElem_toArray, List.getElem_cons_succ, List.getElem_cons_zero, List.setIfInBounds_toArray, List.set_cons_zero, List.set_cons_succ]
            refine wpAnyH_take (i := 5) (v := ?_) rfl (by kernel_rfl) (by kernel_rfl) (by kernel_rfl) (fun _ _ _ h => h) (Or.inl ⟨by rfl, ?_⟩) (by assumption) ?_
            rotate_left
            · ((intro w' hSw); (try dsimp only at hSw); go_simp; all_goals (with_reducible rfl))
            simp only [Act.put, List.getElem_toArray, List.getElem_cons_succ, List.getElem_cons_zero, List.setIfInBounds_toArray, List.set_cons_zero, List.set_cons_succ]
            refine wpAnyH_take (i := 6) (v := ?_) rfl (by kernel_rfl) (by kernel_rfl) (by kernel_rfl) (fun _ _ _ h => h) (Or.inl ⟨by rfl, ?_⟩) (by assumption) ?_
            rotate_left
            · ((intro w' hSw); (try dsimp only at hSw); go_simp; all_goals (with_reducible rfl))
            simp only [Act.put, List.getElem_toArray, List.getElem_cons_succ, List.getElem_cons_zero, List.setIfInBounds_toArray, List.set_cons_zero, List.set_cons_succ]
            refine wpAnyH_take (i := 7) (v := ?_) rfl (by kernel_rfl) (by kernel_rfl) (by kernel_rfl) (fun _ _ _ h => h) (Or.inl ⟨by rfl, ?_⟩) (by assumption) ?_
            rotate_left
            · ((intro w' hSw); (try dsimp only at hSw); go_simp; all_goals (with_reducible rfl))
            simp only [Act.put, List.getElem_toArray, List.getElem_cons_succ, List.getElem_cons_zero, List.setIfInBounds_toArray, List.set_cons_zero, List.set_cons_succ]
            refine wpAnyH_take (i := 8) (v := ?_) rfl (by kernel_rfl) (by kernel_rfl) (by kernel_rfl) (fun _ _ _ h => h) (Or.inl ⟨by rfl, ?_⟩) (by assumption) ?_
            rotate_left
            · ((intro w' hSw); (try dsimp only at hSw); go_simp; all_goals (with_reducible rfl))
            simp only [Act.put, List.getElem_toArray, List.getElem_cons_succ, List.getElem_cons_zero, List.setIfInBounds_toArray, List.set_cons_zero, List.set_cons_succ]
            refine wpAnyH_take (i := 9) (v := ?_) rfl (by kernel_rfl) (by kernel_rfl) (by kernel_rfl) (fun _ _ _ h => h) (Or.inl ⟨by rfl, ?_⟩) (by assumption) ?_
            rotate_left
            · ((intro w' hSw); (try dsimp only at hSw); go_simp; all_goals (with_reducible rfl))
            simp only [Act.put, List.getElem_toArray, List.getElem_cons_succ, List.getElem_cons_zero, List.setIfInBounds_toArray, List.set_cons_zero, List.set_cons_succ]
            refine wpAnyH_take (i := 10) (v := ?_) rfl (by kernel_rfl) (by kernel_rfl) (by kernel_rfl) (fun _ _ _ h => h) (Or.inl ⟨by rfl, ?_⟩) (by assumption) ?_
            rotate_left
            · ((intro w' hSw); (try dsimp only at hSw); go_simp; all_goals (with_reducible rfl))
            simp only [Act.put, List.getElem_toArray, List.getElem_cons_succ, List.getElem_cons_zero, List.setIfInBounds_toArray, List.set_cons_zero, List.set_cons_succ]
            refine wpAnyH_ready (rs := [11]) (by kernel_rfl) (by simp) ?_
            refine AllReadyH.cons rfl (fun K hK => ?_) AllReadyH.nil
            go_simp
            go_wp2_with (go_at_call 35; (with_reducible refine (OC.out _).mono ?_); rintro e w1 ⟨rfl, hb1⟩; have F1 := Lib.hid (duo_keep F0.out hb1); have HB1 := Lib.hid ((below_drewN wr 1).trans (hb1.mono (below_drewN wr 1).size)); clear hb1)
            refine hK.out _ _ ?_ (fun hHeld => ?_)
            · exact F1.out
            clear hK K
            refine wpAnyH_take (i := 12) (v := ?_) rfl (by kernel_rfl) (by kernel_rfl) (by kernel_rfl) (fun _ _ _ h => h) (Or.inl ⟨by rfl, ?_⟩) (by assumption) ?_
            rotate_left
            · ((intro w' hSw); (try dsimp only at hSw); go_simp; all_goals (with_reducible rfl))
            simp only [Act.put, List.getElem_toArray, List.getElem_cons_succ, List.getElem_cons_zero, List.setIfInBounds_toArray, List.set_cons_zero, List.set_cons_succ]
            refine wpAnyH_done (by kernel_rfl) ?_ _
            obtain ⟨_, _, _, s0, s1, s2⟩ := F1.out
            have HO1 := Lib.hid (own_keep HO.out HB1.out)
            have hbs1 := HB1.out.size
            go_wp2_with (at_builtin; refine wpList_append_own _ rfl _ _ 24 rfl w.heap.size 66 i0 _ 3 24 Try.underlying24 hi hz0 hz1 hz2 rfl (by decide) _ _ _ rfl (HO1.out.alloc _) ⟨w1.heap.size, 0, none⟩ 1 1 (ints (flat3 [p])) rfl rfl (cells_new _ _ _) (ints_cells _) (by unfold maxLen; omega) (by omega) (by simp; omega) ?_; intro v' w7 hown7 hgrow7 _; obtain ⟨g7, c7, rfl⟩ := ownsRow_succ hown7)
            have hb7 : Below w.heap.size w w7 := ((HBW.out.trans (HB1.out.mono hbs)).alloc (Nat.le_trans hbs hbs1) _).grown hgrow7 (by simp; omega) (fun t ht => (HO.out.lt t ht).1)
            go_roundw
            case rel => exact ⟨k + 1, m + 1, some ⟨g7, 0, none⟩, c7, by omega, by go_num, rfl, by omega, by rw [HT.out, HA.out, flat3_append, ints_append]; exact hown7, hb7⟩
            case measure => simp [intOf]; omega
          · have OC := Lib.hid (one_c hone hqr)
            have HA := Lib.hid (show addP O p = O.dropLast ++ [{ q with n := q.n + p.n }] from by unfold addP; rw [if_neg hp0, hlast]; simp only []; rw [hone, if_pos rfl])
            have hlen : O.dropLast.length = j := by rw [List.length_dropLast, HML.out]; omega
            have HFL := Lib.hid (show flat3 (O.dropLast ++ [{ q with n := q.n + p.n }]) = (flat3 O).set (j * 3 + 2) (q.n + p.n) from by rw [flat3_set, hlen, ← HSP.out])
            clear hone hqr hlast q0 q1 e2 hj hm0 hlen
            go_wp2
            refine wp_region_held_drew (S := (fun W' => W'.cell? ⟨gO, j * 3, none⟩ = some (.int .i64 q.id) ∧ W'.cell? ⟨gO, j * 3 + 1, none⟩ = some (.int .i64 q.fr) ∧ W'.cell? ⟨gO, j * 3 + 2, none⟩ = some (.int .i64 q.n) ∧ W'.cell? ⟨g, o + k * 3, none⟩ = some (.int .i64 p.id) ∧ W'.cell? ⟨g, o + k * 3 + 1, none⟩ = some (.int .i64 p.fr) ∧ W'.cell? ⟨g, o + k * 3 + 2, none⟩ = some (.int .i64 p.n))) (by kernel_rfl) (by exact F0.out) (fun hHeld => ?_)
            refine wpAnyH_take (i := 0) (v := ?_) rfl (by kernel_rfl) (by kernel_rfl) (by kernel_rfl) (fun _ _ _ h => h) (Or.inl ⟨by rfl, ?_⟩) (by assumption) ?_
            rotate_left
            · ((intro w' hSw); (try dsimp only at hSw); go_simp; all_goals (with_reducible rfl))
            simp only [Act.put, List.getElem_toArray, List.getElem_cons_zero, List.setIfInBounds_toArray, List.set_cons_zero, List.set_cons_succ]
            refine wpAnyH_take (i := 1) (v := ?_) rfl (by kernel_rfl) (by kernel_rfl) (by kernel_rfl) (fun _ _ _ h => h) (Or.inl ⟨by rfl, ?_⟩) (by assumption) ?_
            rotate_left
            · ((intro w' hSw); (try dsimp only at hSw); go_simp; all_goals (with_reducible rfl))
            simp only [Act.put, List.getElem_toArray, List.getElem_cons_succ, List.getElem_cons_zero, List.setIfInBounds_toArray, List.set_cons_zero, List.set_cons_succ]
            refine wpAnyH_take (i := 2) (v := ?_) rfl (by kernel_rfl) (by kernel_rfl) (by kernel_rfl) (fun _ _ _ h => h) (Or.inl ⟨by rfl, ?_⟩) (by assumption) ?_
            rotate_left
            · ((intro w' hSw); (try dsimp only at hSw); go_simp; all_goals (with_reducible rfl))
            simp only [Act.put, List.getElem_toArray, List.getElem_cons_succ, List.getElem_cons_zero, List.setIfInBounds_toArray, List.set_cons_zero, List.set_cons_succ]
            refine wpAnyH_take (i := 3) (v := ?_) rfl (by kernel_rfl) (by kernel_rfl) (by kernel_rfl) (fun _ _ _ h => h) (Or.inl ⟨by rfl, ?_⟩) (by assumption) ?_
            rotate_left
            · ((intro w' hSw); (try dsimp only at hSw); go_simp; all_goals (with_reducible rfl))
            simp only [Act.put, List.getElem_toArray, List.getElem_cons_succ, List.getElem_cons_zero, List.setIfInBounds_toArray, List.set_cons_zero, List.set_cons_succ]
            refine wpAnyH_take (i := 4) (v := ?_) rfl (by kernel_rfl) (by kernel_rfl) (by kernel_rfl) (fun _ _ _ h => h) (Or.inl ⟨by rfl, ?_⟩) (by assumption) ?_
            rotate_left
            · ((intro w' hSw); (try dsimp only at hSw); go_simp; all_goals (with_reducible rfl))
            simp only [Act.put, List.getElem_toArray, List.getElem_cons_succ, List.getElem_cons_zero, List.setIfInBounds_toArray, List.set_cons_zero, List.set_cons_succ]
            refine wpAnyH_take (i := 5) (v := ?_) rfl (by kernel_rfl) (by kernel_rfl) (by kernel_rfl) (fun _ _ _ h => h) (Or.inl ⟨by rfl, ?_⟩) (by assumption) ?_
            rotate_left
            · ((intro w' hSw); (try dsimp only at hSw); go_simp; all_goals (with_reducible rfl))
            simp only [Act.put, List.getElem_toArray, List.getElem_cons_succ, List.getElem_cons_zero, List.setIfInBounds_toArray, List.set_cons_zero, List.set_cons_succ]
            refine wpAnyH_take (i := 6) (v := ?_) rfl (by kernel_rfl) (by kernel_rfl) (by kernel_rfl) (fun _ _ _ h => h) (Or.inl ⟨by rfl, ?_⟩) (by assumption) ?_
            rotate_left
            · ((intro w' hSw); (try dsimp only at hSw); go_simp; all_goals (with_reducible rfl))
            simp only [Act.put, List.getElem_toArray, List.getElem_cons_succ, List.getElem_cons_zero, List.setIfInBounds_toArray, List.set_cons_zero, List.set_cons_succ]
            refine wpAnyH_take (i := 7) (v := ?_) rfl (by kernel_rfl) (by kernel_rfl) (by kernel_rfl) (fun _ _ _ h => h) (Or.inl ⟨by rfl, ?_⟩) (by assumption) ?_
            rotate_left
            · ((intro w' hSw); (try dsimp only at hSw); go_simp; all_goals (with_reducible rfl))
            simp only [Act.put, List.getElem_toArray, List.getElem_cons_succ, List.getElem_cons_zero, List.setIfInBounds_toArray, List.set_cons_zero, List.set_cons_succ]
            refine wpAnyH_take (i := 8) (v := ?_) rfl (by kernel_rfl) (by kernel_rfl) (by kernel_rfl) (fun _ _ _ h => h) (Or.inl ⟨by rfl, ?_⟩) (by assumption) ?_
            rotate_left
            · ((intro w' hSw); (try dsimp only at hSw); go_simp; all_goals (with_reducible rfl))
            simp only [Act.put, List.getElem_toArray, List.getElem_cons_succ, List.getElem_cons_zero, List.setIfInBounds_toArray, List.set_cons_zero, List.set_cons_succ]
            refine wpAnyH_take (i := 9) (v := ?_) rfl (by kernel_rfl) (by kernel_rfl) (by kernel_rfl) (fun _ _ _ h => h) (Or.inl ⟨by rfl, ?_⟩) (by assumption) ?_
            rotate_left
            · ((intro w' hSw); (try dsimp only at hSw); go_simp; all_goals (with_reducible rfl))
            simp only [Act.put, List.getElem_toArray, List.getElem_cons_succ, List.getElem_cons_zero, List.setIfInBounds_toArray, List.set_cons_zero, List.set_cons_succ]
            refine wpAnyH_take (i := 10) (v := ?_) rfl (by kernel_rfl) (by kernel_rfl) (by kernel_rfl) (fun _ _ _ h => h) (Or.inl ⟨by rfl, ?_⟩) (by assumption) ?_
            rotate_left
            · ((intro w' hSw); (try dsimp only at hSw); go_simp; all_goals (with_reducible rfl))
            simp only [Act.put, List.getElem_toArray, List.getElem_cons_succ, List.getElem_cons_zero, List.setIfInBounds_toArray, List.set_cons_zero, List.set_cons_succ]
            refine wpAnyH_ready (rs := [11]) (by kernel_rfl) (by simp) ?_
            refine AllReadyH.cons rfl (fun K hK => ?_) AllReadyH.nil
            go_simp
            go_wp2_with (go_at_call 35; (with_reducible refine (OC.out _).mono ?_); rintro e w1 ⟨rfl, hb1⟩; have F1 := Lib.hid (duo_keep F0.out hb1); have HB1 := Lib.hid ((below_drewN wr 1).trans (hb1.mono (below_drewN wr 1).size)); clear hb1)
            refine hK.out _ _ ?_ (fun hHeld => ?_)
            · exact F1.out
            clear hK K
            refine wpAnyH_take (i := 12) (v := ?_) rfl (by kernel_rfl) (by kernel_rfl) (by kernel_rfl) (fun _ _ _ h => h) (Or.inl ⟨by rfl, ?_⟩) (by assumption) ?_
            rotate_left
            · ((intro w' hSw); (try dsimp only at hSw); go_simp; all_goals (with_reducible rfl))
            simp only [Act.put, List.getElem_toArray, List.getElem_cons_succ, List.getElem_cons_zero, List.setIfInBounds_toArray, List.set_cons_zero, List.set_cons_succ]
            refine wpAnyH_done (by kernel_rfl) ?_ _
            obtain ⟨s3, s4, s5, s0, s1, s2⟩ := F1.out
            have HO1 := Lib.hid (own_keep HO.out HB1.out)
            have hbs1 := HB1.out.size
            have f5 := (HB1.out.frozen (p := ⟨gO, j * 3 + 2, none⟩) hgO2).trans e3
            have s5' : w1.drew.cell? ⟨gO, j * 3 + 2, none⟩ = some (.int .i64 q.n) := s5
            have f5' : w1.drew.frozen? ⟨gO, j * 3 + 2, none⟩ = false := f5
            have hsum : IntKind.i64.wrap (q.n + p.n) = q.n + p.n := IntWalk.i64_in _ (by omega)
            go_wp2_with fail
            go_still_tail 13, (by kernel_rfl)
            change wpList _ _ _ _ _ w1.drew
            clear s3 s4 s5 s0 s1 s2 f5
            go_wp2
            go_roundw
            case rel => 
              refine ⟨k + 1, m, some ⟨gO, 0, none⟩, c', by omega, by go_num, rfl, by omega, ?_, ?_⟩
              · rw [HT.out, HA.out, HFL.out, ints_set]
                exact own_drew (own_store HO1.out _ _)
              · exact ((HBW.out.trans (HB1.out.mono hbs)).setCell (p := ⟨gO, j * 3 + 2, none⟩) hgO _).trans ((below_drewN _ 1).mono (by simpa [World.setCell] using Nat.le_trans hbs hbs1))
            case measure => simp [intOf]; omega
    · obtain rfl : k = n := by omega
      have HK := Lib.hid (show l.take k = l from List.take_of_length_le (by rw [HN.out]; exact Nat.le_refl _))
      go_wp2
      go_ret
      exact ⟨A', m, c', rfl, by rw [← HK.out]; exact hown, hbw⟩
end Go.Proofs.Ytggnklcjhbahhaa
