/-
  Walk of the law ExtentPuts.
-/
import Derived.Test.YtggnklcjhbahhaaEk
namespace Go.Proofs.Ytggnklcjhbahhaa
open Go.RowKit Ex
set_option maxHeartbeats 400000
set_option maxRecDepth 100000

theorem putB_len (bs : List (Int × Int)) (off id n : Int) : (putB bs off id n).length = max bs.length (off.toNat + n.toNat) := by simp [putB]
theorem putB_in {bs : List (Int × Int)} {off id n : Int} {t : Nat} (h1 : off.toNat ≤ t) (h2 : t < off.toNat + n.toNat) : (putB bs off id n)[t]? = some (id, ((t - off.toNat : Nat) : Int)) := by
  rw [putB, List.getElem?_map, List.getElem?_range (by omega)]
  simp only [Option.map_some, if_pos (And.intro h1 h2)]
theorem putB_out {bs : List (Int × Int)} {off id n : Int} {t : Nat} (h : ¬ (off.toNat ≤ t ∧ t < off.toNat + n.toNat)) (hl : t < max bs.length (off.toNat + n.toNat)) : (putB bs off id n)[t]? = some (bs[t]?.getD (0, 0)) := by
  rw [putB, List.getElem?_map, List.getElem?_range hl]
  simp only [Option.map_some, if_neg h]
theorem putB_twice (bs : List (Int × Int)) (off id n : Int) : putB (putB bs off id n) off id n = putB bs off id n := by
  refine List.ext_getElem? fun t => ?_
  have hl : (putB (putB bs off id n) off id n).length = max bs.length (off.toNat + n.toNat) := by rw [putB_len, putB_len]; omega
  by_cases ht : t < max bs.length (off.toNat + n.toNat)
  · by_cases h : off.toNat ≤ t ∧ t < off.toNat + n.toNat
    · rw [putB_in h.1 h.2, putB_in h.1 h.2]
    · rw [putB_out h (by rw [putB_len]; omega), putB_out h ht]
      simp
  · rw [List.getElem?_eq_none (by rw [hl]; omega), List.getElem?_eq_none (by rw [putB_len]; omega)]
theorem tm100 (v : UInt8) : (v.toNat : Int).tmod 100 = ((v.toNat % 100 : Nat) : Int) := by rw [Int.tmod_eq_emod_of_nonneg (Int.natCast_nonneg _)]; omega
theorem tm5 (v : UInt8) : (v.toNat : Int).tmod 5 = ((v.toNat % 5 : Nat) : Int) := by rw [Int.tmod_eq_emod_of_nonneg (Int.natCast_nonneg _)]; omega
theorem tm20 (v : UInt8) : (v.toNat : Int).tmod 20 = ((v.toNat % 20 : Nat) : Int) := by rw [Int.tmod_eq_emod_of_nonneg (Int.natCast_nonneg _)]; omega

set_option maxHeartbeats 8000000 in
set_option maxRecDepth 20000 in
theorem lawPuts_any {Env : World → Prop} (P : Prg Env) (S : SanOk Env) (A : Option Addr) (n c : Nat) (l : List T8) (hn : l.length = n) (hl : n ≤ 9223372036854775807) (v0 v1 v2 : UInt8) (w : World) (hE : Env w) (hA : Trs w A l) :
    Calls Try.prog 4 #[.slice A n c, .agg #[.int .u8 v0.toNat, .int .u8 v1.toNat, .int .u8 v2.toNat]] w fun e w' => e = .returned (.bool true) ∧ Below w.heap.size w w' := by
  have hW1 : Below w.heap.size w (w.alloc (.cells #[.int .u8 v0.toNat, .int .u8 v1.toNat, .int .u8 v2.toNat] 37)) := (Below.refl _ w).alloc (Nat.le_refl _) _
  have hE1 := P.env hE hW1
  have hA1 := hA.below hW1
  obtain ⟨w1, hw1⟩ : ∃ W, w.alloc (.cells #[.int .u8 v0.toNat, .int .u8 v1.toNat, .int .u8 v2.toNat] 37) = W := ⟨_, rfl⟩
  have c0 : w1.cell? ⟨w.heap.size, 0, none⟩ = some (.int .u8 v0.toNat) := by rw [← hw1]; exact cell_of_row _ _ 0 _ _ _ (heap_alloc_new w _)
  have c1 : w1.cell? ⟨w.heap.size, 1, none⟩ = some (.int .u8 v1.toNat) := by rw [← hw1]; exact cell_of_row _ _ 1 _ _ _ (heap_alloc_new w _)
  have c2 : w1.cell? ⟨w.heap.size, 2, none⟩ = some (.int .u8 v2.toNat) := by rw [← hw1]; exact cell_of_row _ _ 2 _ _ _ (heap_alloc_new w _)
  have HC : Hid (∀ W, Below w1.heap.size w1 W → W.cell? ⟨w.heap.size, 0, none⟩ = some (.int .u8 v0.toNat) ∧ W.cell? ⟨w.heap.size, 1, none⟩ = some (.int .u8 v1.toNat) ∧ W.cell? ⟨w.heap.size, 2, none⟩ = some (.int .u8 v2.toNat)) := Lib.hid fun W hb => ⟨(hb.cell (block_lt_of_cell c0)).trans c0, (hb.cell (block_lt_of_cell c1)).trans c1, (hb.cell (block_lt_of_cell c2)).trans c2⟩
  have HW1 := Lib.hid hw1
  rw [hw1] at hW1 hE1 hA1
  have HS := Lib.hid (show ∀ W, Env W → Calls Try.prog 10 #[] W fun e w' => e = .returned (.bool true) ∧ Below W.heap.size W w' from S)
  have HP := Lib.hid P
  have HM := Lib.hid (fun W (hb : Below w1.heap.size w1 W) => Made_any A n c l hn hl W (hA1.below hb))
  have hbv := made_valid l
  obtain ⟨b, hb⟩ : ∃ b, madeL l = b := ⟨_, rfl⟩
  have hb72 := (made_form l).2
  rw [hb] at HM hbv hb72
  have HBV := Lib.hid hbv
  have HBW1 := Lib.hid hW1
  have hv0 := v0.toNat_lt
  have hv1 := v1.toNat_lt
  have hv2 := v2.toNat_lt
  clear S P hA hn hb hbv hA1 c0 c1 c2 hw1 hW1
  go_enter Try.func4, Try.ntmps4
  go_upto_region 3 with (first | (go_at_call 10; rw [HW1.out]; with_reducible refine (HS.out _ hE1).mono ?_; rintro e w2 ⟨rfl, hb2⟩) | (go_at_call 11; with_reducible refine (HM.out _ hb2).mono ?_; rintro e w3 ⟨A3, m3, c3, rfl, hown3, hb3⟩))
  have hB3 := hb2.trans (hb3.mono hb2.size)
  have hE3 := HP.out.env hE1 hB3
  have hS3 := (Si.own hown3).mono (Nat.zero_le _)
  have HS3 : Hid (Sp 0 w3 A3 m3 c3 b) := Lib.hid hS3
  obtain ⟨q0, q1, q2⟩ := HC.out _ hB3
  have e0 := tm100 v0
  have e1 := tm5 v1
  have e2 := tm20 v2
  have HB3 := Lib.hid hB3
  clear hown3 hS3 hb2 hb3 hB3
  go_quiet (fail)
  go_upto_region 4 with (fail)
  obtain ⟨O, hO⟩ : ∃ O, v0.toNat % 100 = O := ⟨_, rfl⟩
  obtain ⟨I, hI⟩ : ∃ I, 1 + v1.toNat % 5 = I := ⟨_, rfl⟩
  obtain ⟨N, hN⟩ : ∃ N, 1 + v2.toNat % 20 = N := ⟨_, rfl⟩
  have hO' : (v0.toNat : Int) % 100 = (O : Int) := by omega
  have hI' : 1 + (v1.toNat : Int) % 5 = (I : Int) := by omega
  have hN' : 1 + (v2.toNat : Int) % 20 = (N : Int) := by omega
  rw [hO', hI', hN']
  have hOb : O < 100 := by omega
  have hIb : 1 ≤ I ∧ I ≤ 5 := by omega
  have hNb : 1 ≤ N ∧ N ≤ 20 := by omega
  have hd4 : Below w3.heap.size w3 (w3.drewN nq) := below_drewN w3 nq
  obtain ⟨w4, hw4⟩ : ∃ W, w3.drewN nq = W := ⟨_, rfl⟩
  rw [hw4] at hd4 ⊢
  have HB4 := Lib.hid (HB3.out.trans (hd4.mono HB3.out.size))
  have hE4 := HP.out.env hE3 hd4
  have HS4 : Hid (Sp 0 w4 A3 m3 c3 b) := Lib.hid (HS3.out.below hd4)
  have HPU := Lib.hid (put_yes HP.out hE4 HS4.out HBV.out (O : Int) (I : Int) (N : Int) (by omega) (by omega) (by omega) (by omega) (by omega))
  clear hw4 hd4 q0 q1 q2 e0 e1 e2 hO' hI' hN' hO hI hN hv0 hv1 hv2 HB3 HS3 hE3
  go_upto_region 5 with (go_at_call 20; with_reducible refine HPU.out.mono ?_; rintro e w7 ⟨A7, m7, c7, r, rfl, hS7, hr, he, hb7⟩)
  have hbX : Below w7.heap.size w7 (w7.alloc (.cells #[.slice A7 m7 c7, .int .i64 0] 40)) := (Below.refl _ w7).alloc (Nat.le_refl _) _
  have x7 : (w7.alloc (.cells #[.slice A7 m7 c7, .int .i64 0] 40)).cell? ⟨w7.heap.size, 0, none⟩ = some (.slice A7 m7 c7) := cell_of_row _ _ 0 _ _ _ (heap_alloc_new w7 _)
  have x7b : (w7.alloc (.cells #[.slice A7 m7 c7, .int .i64 0] 40)).cell? ⟨w7.heap.size, 1, none⟩ = some (.int .i64 0) := cell_of_row _ _ 1 _ _ _ (heap_alloc_new w7 _)
  have HSX : Hid (Sp 0 (w7.alloc (.cells #[.slice A7 m7 c7, .int .i64 0] 40)) A7 m7 c7 r) := Lib.hid ((hS7.mono (Nat.zero_le _)).below hbX)
  have HSb : Hid (Sp 0 (w7.alloc (.cells #[.slice A7 m7 c7, .int .i64 0] 40)) A3 m3 c3 b) := Lib.hid ((HS4.out.below hb7).below hbX)
  have hBX := HB4.out.trans ((hb7.trans (hbX.mono hb7.size)).mono HB4.out.size)
  obtain ⟨wX, hwX⟩ : ∃ W, w7.alloc (.cells #[.slice A7 m7 c7, .int .i64 0] 40) = W := ⟨_, rfl⟩
  rw [hwX] at x7 x7b HSX HSb hBX
  rw [hwX]
  have hrl := valid_len hr
  have HRV := Lib.hid hr
  have HRE := Lib.hid he
  have hrn : (eachL r).length = max (eachL b).length (O + N) := by rw [he, putB_len]; simp
  have HBX := Lib.hid hBX
  have HSA := Lib.hid (sane_yes A7 m7 c7 r HSX.out.plen (by rw [← HSX.out.plen]; omega) hr (by rw [hrl.2.2, hrn]; omega) wX HSX.out.pcs)
  have HEb := Lib.hid (each_c HSb.out HBV.out)
  have HEr := Lib.hid (each_c HSX.out hr)
  have HRN := Lib.hid hrn
  clear hbX hwX hr he hrl hrn hS7 hb7 hBX
  go_upto_region 7 with (go_at_call 21; with_reducible refine HSA.out.mono ?_; rintro e w8 ⟨rfl, hb8⟩)
  have hb8' := hb8.trans ((below_drewN w8 1).mono hb8.size)
  have HB8 : Hid (Below wX.heap.size wX w8.drew) := Lib.hid hb8'
  have x8' : w8.drew.cell? ⟨w7.heap.size, 0, none⟩ = some (.slice A7 m7 c7) := (hb8'.cell (block_lt_of_cell x7)).trans x7
  have x8b : w8.drew.cell? ⟨w7.heap.size, 1, none⟩ = some (.int .i64 0) := (hb8'.cell (block_lt_of_cell x7b)).trans x7b
  clear hb8 hb8'
  refine wp_region_held_drew (S := (fun W' => W'.cell? ⟨w7.heap.size, 0, none⟩ = some (.slice A7 m7 c7))) (by kernel_rfl) (by exact x8') (fun hHeld => ?_)
  refine wpAnyH_take (i := 0) (v := ?_) rfl (by kernel_rfl) (by kernel_rfl) (by kernel_rfl) (fun _ _ _ h => h) (Or.inl ⟨by rfl, ?_⟩) (by assumption) ?_
  rotate_left
  · ((intro w' hSw); (try dsimp only at hSw); go_simp; all_goals (with_reducible rfl))
  simp only [Act.put, List.getElem_toArray, List.getElem_cons_zero, List.setIfInBounds_toArray, List.set_cons_zero, List.set_cons_succ]
  refine wpAnyH_take (i := 2) (v := ?_) rfl (by kernel_rfl) (by kernel_rfl) (by kernel_rfl) (fun _ _ _ h => h) (Or.inl ⟨by rfl, ?_⟩) (by assumption) ?_
  rotate_left
  · ((intro w' hSw); (try dsimp only at hSw); go_simp; all_goals (with_reducible rfl))
  simp only [Act.put, List.getElem_toArray, List.getElem_cons_succ, List.getElem_cons_zero, List.setIfInBounds_toArray, List.set_cons_zero, List.set_cons_succ]
  refine wpAnyH_take (i := 3) (v := ?_) rfl (by kernel_rfl) (by kernel_rfl) (by kernel_rfl) (fun _ _ _ h => h) (Or.inl ⟨by rfl, ?_⟩) (by assumption) ?_
  rotate_left
  · ((intro w' hSw); (try dsimp only at hSw); go_simp; all_goals (with_reducible rfl))
  simp only [Act.put, List.getElem_toArray, List.getElem_cons_succ, List.getElem_cons_zero, List.setIfInBounds_toArray, List.set_cons_zero, List.set_cons_succ]
  refine wpAnyH_ready (rs := [1]) (by kernel_rfl) (by simp) ?_
  refine AllReadyH.cons rfl (fun K hK => ?_) AllReadyH.nil
  go_simp
  go_wp2_with (go_at_call 12; (with_reducible refine (HEb.out _ HB8.out).mono ?_); rintro e w9 ⟨A9, m9, c9, rfl, hown9, hb9⟩; have HO9 := Lib.hid hown9; have x9 := (hb9.cell (block_lt_of_cell x8')).trans x8'; have x9b := (hb9.cell (block_lt_of_cell x8b)).trans x8b; have HB9 := Lib.hid (HB8.out.trans (hb9.mono HB8.out.size)); have Hb9 := Lib.hid hb9; clear hown9 hb9)
  refine hK.out _ _ ?_ (fun hHeld => ?_)
  · exact x9
  clear hK K
  refine wpAnyH_ready (rs := [4]) (by kernel_rfl) (by simp) ?_
  refine AllReadyH.cons rfl (fun K hK => ?_) AllReadyH.nil
  go_simp
  go_wp2_with (go_at_call 12; (with_reducible refine (HEr.out _ HB9.out).mono ?_); rintro e w10 ⟨A10, m10, c10, rfl, hown10, hb10⟩; have HO10 := Lib.hid hown10; have x10 := (hb10.cell (block_lt_of_cell x9)).trans x9; have x10b := (hb10.cell (block_lt_of_cell x9b)).trans x9b; have HB10 := Lib.hid (HB9.out.trans (hb10.mono HB9.out.size)); have HO9b := Lib.hid (own_keep HO9.out hb10); clear hown10 hb10)
  refine hK.out _ _ ?_ (fun hHeld => ?_)
  · exact x10
  clear hK K
  refine wpAnyH_take (i := 5) (v := ?_) rfl (by kernel_rfl) (by kernel_rfl) (by kernel_rfl) (fun _ _ _ h => h) (Or.inl ⟨by rfl, ?_⟩) (by assumption) ?_
  rotate_left
  · ((intro w' hSw); (try dsimp only at hSw); go_simp; all_goals (with_reducible rfl))
  simp only [Act.put, List.getElem_toArray, List.getElem_cons_succ, List.getElem_cons_zero, List.setIfInBounds_toArray, List.set_cons_zero, List.set_cons_succ]
  refine wpAnyH_take (i := 6) (v := ?_) rfl (by kernel_rfl) (by kernel_rfl) (by kernel_rfl) (fun _ _ _ h => h) (Or.inl ⟨by rfl, ?_⟩) (by assumption) ?_
  rotate_left
  · ((intro w' hSw); (try dsimp only at hSw); go_simp; all_goals (with_reducible rfl))
  simp only [Act.put, List.getElem_toArray, List.getElem_cons_succ, List.getElem_cons_zero, List.setIfInBounds_toArray, List.set_cons_zero, List.set_cons_succ]
  refine wpAnyH_done (by kernel_rfl) ?_ _
  have HL9 := Lib.hid (own_blen HO9.out)
  have hl10 := own_blen HO10.out
  rw [HRN.out, HL9.out] at hl10
  have HT9 := Lib.hid (Bts.of_own HO9b.out)
  have HT10 := Lib.hid (Bts.of_own HO10.out)
  clear x7 x7b
  obtain ⟨M, hM⟩ : ∃ M, max m9 (O + N) = M := ⟨_, rfl⟩
  have hm9 : m9 ≤ 72 := by rw [← HL9.out]; exact hb72
  rw [hM] at hl10
  subst hl10
  have hM1 : M ≤ 139 := by omega
  have hmx : (if (O : Int) + (N : Int) > (m9 : Int) then (O : Int) + (N : Int) else (m9 : Int)) = (M : Int) := by omega
  have hmax : ∀ W, (Builtin.max_ #[3, 3] 3 #[.int .i64 (m9 : Int), .int .i64 ((O : Int) + (N : Int))]).run Try.prog W = .ok (.int .i64 (M : Int)) W := fun W => by
    have h := run_max_int2 (P := Try.prog) (w := W) #[3, 3] 3 .i64 .i64 (m9 : Int) ((O : Int) + (N : Int))
    rw [hmx] at h
    exact h
  have hnn : ((M : Int) != (M : Int)) = false := by simp
  clear hb72 hmx
  go_wp2
  go_loopw [13] (fun i wz => ∃ t : Nat, t ≤ M ∧ i = .int .i64 t ∧ Below w10.heap.size w10 wz) (fun i _ => M - (intOf i).toNat)
  case atStart => exact ⟨0, Nat.zero_le _, rfl, Below.refl _ _⟩
  case round =>
    obtain ⟨t, ht, rfl, hbw⟩ := hrel
    have hbs := hbw.size
    by_cases htn : t < M
    · have htn' : (t : Int) < (M : Int) := Int.ofNat_lt.2 htn
      have t0 : (0 : Int) ≤ (t : Int) := Int.natCast_nonneg t
      have gA := guardSameBytes
      have HBW := Lib.hid hbw
      by_cases hge : O ≤ t
      · have hge' : (O : Int) ≤ (t : Int) := Int.ofNat_le.2 hge
        by_cases hlt : t < O + N
        · have hlt' : (t : Int) < (O : Int) + (N : Int) := by omega
          have hy : (eachL r)[t]? = some ((I : Int), (t : Int) - (O : Int)) := by
            rw [HRE.out, show (t : Int) - (O : Int) = ((t - (O : Int).toNat : Nat) : Int) from by simp; omega]
            exact putB_in (by simpa using hge) (by simpa using hlt)
          obtain ⟨g10, o10, rfl, _, d0, d1⟩ := (HT10.out.below hbw).at_ hy
          dsimp only at d0 d1
          have hwB : Below wr.heap.size wr (wr.alloc (.cells #[.int .i64 (I : Int), .int .i64 ((t : Int) - (O : Int))] 32)) := (Below.refl _ wr).alloc (Nat.le_refl _) _
          have d0' := (hwB.cell (block_lt_of_cell d0)).trans d0
          have d1' := (hwB.cell (block_lt_of_cell d1)).trans d1
          have hne := neqSameBytes ((I : Int), (t : Int) - (O : Int)) ((I : Int), (t : Int) - (O : Int))
          unfold bv at hne
          rw [show decide (((I : Int), (t : Int) - (O : Int)) = ((I : Int), (t : Int) - (O : Int))) = true from by simp] at hne
          dsimp only at hne
          clear hy d0 d1 hbw
          go_wp2
          go_quiet (fail)
          go_wp2
          go_roundw
          case rel => exact ⟨t + 1, by omega, by go_num, (HBW.out.alloc hbs _).trans ((below_drewN _ _).mono (by simp; omega))⟩
          case measure => simp [intOf]; omega
        · have hlt' : ¬ (t : Int) < (O : Int) + (N : Int) := by omega
          have hin : ¬ (O ≤ t ∧ t < O + N) := fun h => hlt h.2
          have hy : (eachL r)[t]? = some ((eachL b)[t]?.getD (0, 0)) := by
            rw [HRE.out]
            exact putB_out (by simpa using hin) (by rw [HL9.out]; simp; omega)
          by_cases htm : t < m9
          · have htm' : (t : Int) < (m9 : Int) := Int.ofNat_lt.2 htm
            obtain ⟨x, hx⟩ : ∃ x, (eachL b)[t]? = some x := ⟨_, List.getElem?_eq_getElem (by rw [HL9.out]; exact htm)⟩
            rw [hx] at hy
            obtain ⟨g9, o9, rfl, _, a0, a1⟩ := (HT9.out.below hbw).at_ hx
            obtain ⟨g10, o10, rfl, _, d0, d1⟩ := (HT10.out.below hbw).at_ hy
            have hwA : Below wr.heap.size wr (wr.alloc (.cells #[.int .i64 0, .int .i64 0] 32)) := (Below.refl _ wr).alloc (Nat.le_refl _) _
            have a0' := (hwA.cell (block_lt_of_cell a0)).trans a0
            have a1' := (hwA.cell (block_lt_of_cell a1)).trans a1
            have hwB : Below wr.heap.size wr (wr.alloc (.cells #[.int .i64 x.1, .int .i64 x.2] 32)) := (Below.refl _ wr).alloc (Nat.le_refl _) _
            have d0' := (hwB.cell (block_lt_of_cell d0)).trans d0
            have d1' := (hwB.cell (block_lt_of_cell d1)).trans d1
            have hne := neqSameBytes x x
            unfold bv at hne
            rw [show decide (x = x) = true from by simp] at hne
            clear a0 a1 hx
            clear hy d0 d1 hbw
            go_wp2
            go_quiet (fail)
            go_wp2
            go_roundw
            case rel => exact ⟨t + 1, by omega, by go_num, (HBW.out.alloc hbs _).trans ((below_drewN _ _).mono (by simp; omega))⟩
            case measure => simp [intOf]; omega
          · exfalso; omega
      · have hge' : ¬ (O : Int) ≤ (t : Int) := fun h => hge (Int.ofNat_le.1 h)
        have hin : ¬ (O ≤ t ∧ t < O + N) := fun h => hge h.1
        have hy : (eachL r)[t]? = some ((eachL b)[t]?.getD (0, 0)) := by
          rw [HRE.out]
          exact putB_out (by simpa using hin) (by rw [HL9.out]; simp; omega)
        by_cases htm : t < m9
        · have htm' : (t : Int) < (m9 : Int) := Int.ofNat_lt.2 htm
          obtain ⟨x, hx⟩ : ∃ x, (eachL b)[t]? = some x := ⟨_, List.getElem?_eq_getElem (by rw [HL9.out]; exact htm)⟩
          rw [hx] at hy
          obtain ⟨g9, o9, rfl, _, a0, a1⟩ := (HT9.out.below hbw).at_ hx
          obtain ⟨g10, o10, rfl, _, d0, d1⟩ := (HT10.out.below hbw).at_ hy
          have hwA : Below wr.heap.size wr (wr.alloc (.cells #[.int .i64 0, .int .i64 0] 32)) := (Below.refl _ wr).alloc (Nat.le_refl _) _
          have a0' := (hwA.cell (block_lt_of_cell a0)).trans a0
          have a1' := (hwA.cell (block_lt_of_cell a1)).trans a1
          have hwB : Below wr.heap.size wr (wr.alloc (.cells #[.int .i64 x.1, .int .i64 x.2] 32)) := (Below.refl _ wr).alloc (Nat.le_refl _) _
          have d0' := (hwB.cell (block_lt_of_cell d0)).trans d0
          have d1' := (hwB.cell (block_lt_of_cell d1)).trans d1
          have hne := neqSameBytes x x
          unfold bv at hne
          rw [show decide (x = x) = true from by simp] at hne
          clear a0 a1 hx
          clear hy d0 d1 hbw
          go_wp2
          go_quiet (fail)
          go_wp2
          go_roundw
          case rel => exact ⟨t + 1, by omega, by go_num, (HBW.out.alloc hbs _).trans ((below_drewN _ _).mono (by simp; omega))⟩
          case measure => simp [intOf]; omega
        · have htm' : ¬ (t : Int) < (m9 : Int) := fun h => htm (Int.ofNat_lt.1 h)
          rw [show (eachL b)[t]? = none from List.getElem?_eq_none (by rw [HL9.out]; omega)] at hy
          obtain ⟨g10, o10, rfl, _, d0, d1⟩ := (HT10.out.below hbw).at_ hy
          dsimp only [Option.getD_none] at d0 d1
          have hwB : Below wr.heap.size wr (wr.alloc (.cells #[.int .i64 0, .int .i64 0] 32)) := (Below.refl _ wr).alloc (Nat.le_refl _) _
          have d0' := (hwB.cell (block_lt_of_cell d0)).trans d0
          have d1' := (hwB.cell (block_lt_of_cell d1)).trans d1
          have hne := neqSameBytes (0, 0) (0, 0)
          unfold bv at hne
          rw [show decide (((0, 0) : Int × Int) = (0, 0)) = true from by simp] at hne
          dsimp only at hne
          clear hy d0 d1 hbw
          go_wp2
          go_quiet (fail)
          go_wp2
          go_roundw
          case rel => exact ⟨t + 1, by omega, by go_num, (HBW.out.alloc hbs _).trans ((below_drewN _ _).mono (by simp; omega))⟩
          case measure => simp [intOf]; omega
    · obtain rfl : t = M := by omega
      have hB10 := hbw.mono (Nat.le_refl _)
      have x11 := (hbw.cell (block_lt_of_cell x10)).trans x10
      have x11b := (hbw.cell (block_lt_of_cell x10b)).trans x10b
      have hB11 := HB10.out.trans (hbw.mono HB10.out.size)
      have hE11 := HP.out.env (HP.out.env hE1 HBX.out) hB11
      have HPB := Lib.hid (put_yes HP.out hE11 (HSX.out.below hB11) HRV.out (O : Int) (I : Int) (N : Int) (by omega) (by omega) (by omega) (by omega) (by omega))
      have HB11 := Lib.hid (HBX.out.trans (hB11.mono HBX.out.size))
      have HSX11 := Lib.hid (HSX.out.below hB11)
      clear hB11 hE11 hB10
      go_upto_region 21 with (go_at_call 20; with_reducible refine HPB.out.mono ?_; rintro e w12 ⟨A12, m12, c12, r2, rfl, hS12, hr2, he2, hb12⟩)
      have hback : r2 = r := valid_eq hr2 HRV.out (by rw [he2, HRE.out, putB_twice])
      subst hback
      have hbY : Below w12.heap.size w12 (w12.alloc (.cells #[.slice A12 m12 c12, .int .i64 0] 40)) := (Below.refl _ w12).alloc (Nat.le_refl _) _
      have hW12 : Below w.heap.size w (w12.alloc (.cells #[.slice A12 m12 c12, .int .i64 0] 40)) := by
        have h1 := HB11.out.trans (hb12.mono HB11.out.size)
        have h2 := HBW1.out.trans (h1.mono HBW1.out.size)
        exact h2.alloc h2.size _
      have y12 := (hb12.cell (block_lt_of_cell x11)).trans x11
      have y12b := (hb12.cell (block_lt_of_cell x11b)).trans x11b
      have y13 := (hbY.cell (block_lt_of_cell y12)).trans y12
      have y13b := (hbY.cell (block_lt_of_cell y12b)).trans y12b
      have hrl2 := valid_len hr2
      have hrn2 : (eachL r2).length ≤ 139 := by rw [HRN.out, HL9.out]; omega
      have HSM := Lib.hid (same_any A12 A7 m12 m7 c12 c7 r2 r2 hS12.plen HSX.out.plen (by rw [← hS12.plen]; omega) (by rw [← HSX.out.plen]; omega) 0 0 (w12.alloc (.cells #[.slice A12 m12 c12, .int .i64 0] 40)) (hS12.pcs.below hbY) (Sp.pcs ((HSX11.out.below hb12).below hbY)))
      simp only [decide_true, Bool.true_and, BEq.rfl] at HSM
      clear hr2 he2 hS12 hbY hrl2 hrn2 x11 x11b y12 y12b
      go_wp2_with (go_at_call 22; with_reducible refine HSM.out.mono ?_; rintro e w13 ⟨rfl, hb13⟩)
      go_ret
      exact ⟨rfl, hW12.trans (hb13.mono hW12.size)⟩
end Go.Proofs.Ytggnklcjhbahhaa
