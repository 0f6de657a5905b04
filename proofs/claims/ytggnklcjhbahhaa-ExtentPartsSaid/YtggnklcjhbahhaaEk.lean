/-
  Walk of the law ExtentCuts.
-/
import Derived.Test.YtggnklcjhbahhaaEj
namespace Go.Proofs.Ytggnklcjhbahhaa
open Go.RowKit Ex
set_option maxHeartbeats 400000
set_option maxRecDepth 100000

/-- The law file's fixed examples come out true. -/
abbrev SanOk (Env : World → Prop) : Prop := ∀ W, Env W → Calls Try.prog 10 #[] W fun e w' => e = .returned (.bool true) ∧ Below W.heap.size W w'
theorem cutB_len (bs : List (Int × Int)) (n : Int) : (cutB bs n).length = n.toNat := by simp [cutB]
theorem cutB_get {bs : List (Int × Int)} {n : Int} {t : Nat} (h : t < n.toNat) : (cutB bs n)[t]? = some (bs[t]?.getD (0, 0)) := by simp [cutB, h]
theorem cutB_back {bs : List (Int × Int)} {n : Int} (h : bs.length ≤ n.toNat) : cutB (cutB bs n) (bs.length : Nat) = bs := by
  refine List.ext_getElem? fun t => ?_
  by_cases ht : t < bs.length
  · rw [cutB_get (by simpa using ht), cutB_get (by omega)]
    simp [ht]
  · rw [List.getElem?_eq_none (by rw [cutB_len]; simp; omega), List.getElem?_eq_none (by omega)]
theorem form_len {l : List Pc} (h : Ex.Form l) : l.length ≤ (eachL l).length := by
  induction l with
  | nil => simp
  | cons p l ih =>
    have := h.pos p (by simp)
    have := ih h.tail
    rw [eachL_cons, List.length_append, eachP_len, List.length_cons]
    omega
theorem valid_len {l : List Pc} (h : validL l = true) : l.length ≤ (eachL l).length ∧ (eachL l).length ≤ 1048576 ∧ sizeL l = (eachL l).length := by
  obtain ⟨h1, h2⟩ := valid_iff.1 h
  have := h1.len
  exact ⟨form_len h1, by omega, by omega⟩
theorem made_valid (l : List T8) : validL (madeL l) = true := by
  obtain ⟨h1, h2⟩ := made_form l
  have := h1.len
  exact valid_iff.2 ⟨h1, by omega⟩
theorem valid_eq {l m : List Pc} (hl : validL l = true) (hm : validL m = true) (h : eachL l = eachL m) : l = m := form_eq (valid_iff.1 hl).1 (valid_iff.1 hm).1 h
theorem each_c {A : Option Addr} {n c : Nat} {l : List Pc} {W0 : World} (hA : Sp 0 W0 A n c l) (hv : validL l = true) (W : World) (hb : Below W0.heap.size W0 W) :
    Calls Try.prog 12 #[.slice A n c] W fun e w' => ∃ A' m c', e = .returned (.slice A' m c') ∧ w'.ownsRow W.heap.size 32 2 (.slice A' m c') m (ints (flat2 (eachL l))) ∧ Below W.heap.size W w' :=
  Each_any A n c l hA.plen (valid_iff.1 hv).1.right (valid_len hv).2.1 W (hA.pcs.below hb)

set_option maxHeartbeats 8000000 in
set_option maxRecDepth 20000 in
theorem lawCuts_any {Env : World → Prop} (P : Prg Env) (S : SanOk Env) (A : Option Addr) (n c : Nat) (l : List T8) (hn : l.length = n) (hl : n ≤ 9223372036854775807) (v : UInt8) (w : World) (hE : Env w) (hA : Trs w A l) :
    Calls Try.prog 5 #[.slice A n c, .int .u8 v.toNat] w fun e w' => e = .returned (.bool true) ∧ Below w.heap.size w w' := by
  have HS := Lib.hid (show ∀ W, Env W → Calls Try.prog 10 #[] W fun e w' => e = .returned (.bool true) ∧ Below W.heap.size W w' from S)
  have HP := Lib.hid P
  have HM := Lib.hid (fun W (hb : Below w.heap.size w W) => Made_any A n c l hn hl W (hA.below hb))
  have hbv := made_valid l
  obtain ⟨b, hb⟩ : ∃ b, madeL l = b := ⟨_, rfl⟩
  have hb72 := (made_form l).2
  rw [hb] at HM hbv hb72
  have HBV := Lib.hid hbv
  have hv := v.toNat_lt
  clear S P hA hn hb hbv
  go_enter Try.func5, Try.ntmps5
  go_upto_region 3 with (first | (go_at_call 10; with_reducible refine (HS.out _ hE).mono ?_; rintro e w2 ⟨rfl, hb2⟩) | (go_at_call 11; with_reducible refine (HM.out _ hb2).mono ?_; rintro e w3 ⟨A3, m3, c3, rfl, hown3, hb3⟩))
  have hB3 := hb2.trans (hb3.mono hb2.size)
  have hE3 := HP.out.env hE hB3
  have hS3 := (Si.own hown3).mono (Nat.zero_le _)
  have HS3 : Hid (Sp 0 w3 A3 m3 c3 b) := Lib.hid hS3
  have hk0 : (0 : Int) ≤ (v.toNat : Int) := Int.natCast_nonneg _
  have hk1 : (v.toNat : Int) ≤ 1048576 := by omega
  have HCU := Lib.hid (cut_yes HP.out hE3 HS3.out HBV.out (v.toNat : Int) hk0 hk1)
  clear hown3 hS3 hb2 hb3
  go_upto_region 4 with (go_at_call 23; with_reducible refine HCU.out.mono ?_; rintro e w7 ⟨A7, m7, c7, r, rfl, hS7, hr, he, hb7⟩)
  have hbX : Below w7.heap.size w7 (w7.alloc (.cells #[.slice A7 m7 c7, .int .i64 0] 40)) := (Below.refl _ w7).alloc (Nat.le_refl _) _
  have x7 : (w7.alloc (.cells #[.slice A7 m7 c7, .int .i64 0] 40)).cell? ⟨w7.heap.size, 0, none⟩ = some (.slice A7 m7 c7) := cell_of_row _ _ 0 _ _ _ (heap_alloc_new w7 _)
  have x7b : (w7.alloc (.cells #[.slice A7 m7 c7, .int .i64 0] 40)).cell? ⟨w7.heap.size, 1, none⟩ = some (.int .i64 0) := cell_of_row _ _ 1 _ _ _ (heap_alloc_new w7 _)
  have HSX : Hid (Sp 0 (w7.alloc (.cells #[.slice A7 m7 c7, .int .i64 0] 40)) A7 m7 c7 r) := Lib.hid ((hS7.mono (Nat.zero_le _)).below hbX)
  have HSb : Hid (Sp 0 (w7.alloc (.cells #[.slice A7 m7 c7, .int .i64 0] 40)) A3 m3 c3 b) := Lib.hid ((HS3.out.below hb7).below hbX)
  have hBX := hB3.trans ((hb7.trans (hbX.mono hb7.size)).mono hB3.size)
  obtain ⟨wX, hwX⟩ : ∃ W, w7.alloc (.cells #[.slice A7 m7 c7, .int .i64 0] 40) = W := ⟨_, rfl⟩
  have hwX' : w7.alloc (.cells #[.slice A7 m7 c7, .int .i64 0] 40) = wX := hwX
  rw [hwX'] at x7 x7b HSX HSb hBX
  rw [hwX']
  have hrl := valid_len hr
  have HRV := Lib.hid hr
  have HRE := Lib.hid he
  have hrn : (eachL r).length = v.toNat := by rw [he, cutB_len]; simp
  have HBX := Lib.hid hBX
  have HSA := Lib.hid (sane_yes A7 m7 c7 r HSX.out.plen (by rw [← HSX.out.plen]; omega) hr (by rw [hrl.2.2, hrn]; omega) wX HSX.out.pcs)
  have HEb := Lib.hid (each_c HSb.out HBV.out)
  have HEr := Lib.hid (each_c HSX.out hr)
  have HRN := Lib.hid hrn
  clear hbX hwX hwX' hr he hrl hrn hS7 hb7 hB3 hBX
  go_upto_region 6 with (go_at_call 21; with_reducible refine HSA.out.mono ?_; rintro e w8 ⟨rfl, hb8⟩)
  have hb8' := hb8.trans ((below_drewN w8 1).mono hb8.size)
  have HB8 : Hid (Below wX.heap.size wX w8.drew) := Lib.hid hb8'
  have x8' : w8.drew.cell? ⟨w7.heap.size, 0, none⟩ = some (.slice A7 m7 c7) := (hb8'.cell (block_lt_of_cell x7)).trans x7
  clear hb8 hb8'
  refine wp_region_held_drew (S := (fun W' => W'.cell? ⟨w7.heap.size, 0, none⟩ = some (.slice A7 m7 c7))) (by kernel_rfl) (by exact x8') (fun hHeld => ?_)
  refine wpAnyH_take (i := 0) (v := ?_) rfl (by kernel_rfl) (by kernel_rfl) (by kernel_rfl) (fun _ _ _ h => h) (Or.inl ⟨by rfl, ?_⟩) (by assumption) ?_
  rotate_left
  · ((intro w' hSw); (try dsimp only at hSw); go_simp; all_goals (with_reducible rfl))
  simp only [Act.put, List.getElem_toArray, List.getElem_cons_zero, List.setIfInBounds_toArray, List.set_cons_zero, List.set_cons_succ]
  refine wpAnyH_take (i := 2) (v := ?_) rfl (by kernel_rfl) (by kernel_rfl) (by kernel_rfl) (fun _ _ _ h => h) (Or.inl ⟨by rfl, ?_⟩) (by assumption) ?_
  rotate_left
  · ((intro w' hSw); (try dsimp only at hSw); go_simp; all_goals (with_reducible rfl))
  simp only [Act.put, List.getElem_toArray, List.getElem_cons_succ, List.getElem_cons_zero, List.setIfInBounds_toArray, List.set_cons_zero, List.set_cons_succ]
  refine wpAnyH_take (i := 3) (v := ?_) rfl (by kernel_rfl) (by kernel_rfl) (by kernel_rfl) (fun _ _ _ h => h) (Or.inl ⟨by rfl, ?_⟩) (by assumption) ?_
  rotate_left
  · ((intro w' hSw); (try dsimp only at hSw); go_simp; all_goals (with_reducible rfl))
  simp only [Act.put, List.getElem_toArray, List.getElem_cons_succ, List.getElem_cons_zero, List.setIfInBounds_toArray, List.set_cons_zero, List.set_cons_succ]
  refine wpAnyH_ready (rs := [1]) (by kernel_rfl) (by simp) ?_
  refine AllReadyH.cons rfl (fun K hK => ?_) AllReadyH.nil
  go_simp
  go_wp2_with (go_at_call 12; (with_reducible refine (HEb.out _ HB8.out).mono ?_); rintro e w9 ⟨A9, m9, c9, rfl, hown9, hb9⟩; have HO9 := Lib.hid hown9; have x9 := (hb9.cell (block_lt_of_cell x8')).trans x8'; have HB9 := Lib.hid (HB8.out.trans (hb9.mono HB8.out.size)); have Hb9 := Lib.hid hb9; clear hown9 hb9)
  refine hK.out _ _ ?_ (fun hHeld => ?_)
  · exact x9
  clear hK K
  refine wpAnyH_ready (rs := [4]) (by kernel_rfl) (by simp) ?_
  refine AllReadyH.cons rfl (fun K hK => ?_) AllReadyH.nil
  go_simp
  go_wp2_with (go_at_call 12; (with_reducible refine (HEr.out _ HB9.out).mono ?_); rintro e w10 ⟨A10, m10, c10, rfl, hown10, hb10⟩; have HO10 := Lib.hid hown10; have x10 := (hb10.cell (block_lt_of_cell x9)).trans x9; have HB10 := Lib.hid (HB9.out.trans (hb10.mono HB9.out.size)); have HO9b := Lib.hid (own_keep HO9.out hb10); clear hown10 hb10)
  refine hK.out _ _ ?_ (fun hHeld => ?_)
  · exact x10
  clear hK K
  refine wpAnyH_take (i := 5) (v := ?_) rfl (by kernel_rfl) (by kernel_rfl) (by kernel_rfl) (fun _ _ _ h => h) (Or.inl ⟨by rfl, ?_⟩) (by assumption) ?_
  rotate_left
  · ((intro w' hSw); (try dsimp only at hSw); go_simp; all_goals (with_reducible rfl))
  simp only [Act.put, List.getElem_toArray, List.getElem_cons_succ, List.getElem_cons_zero, List.setIfInBounds_toArray, List.set_cons_zero, List.set_cons_succ]
  refine wpAnyH_take (i := 6) (v := ?_) rfl (by kernel_rfl) (by kernel_rfl) (by kernel_rfl) (fun _ _ _ h => h) (Or.inl ⟨by rfl, ?_⟩) (by assumption) ?_
  rotate_left
  · ((intro w' hSw); (try dsimp only at hSw); go_simp; all_goals (with_reducible rfl))
  simp only [Act.put, List.getElem_toArray, List.getElem_cons_succ, List.getElem_cons_zero, List.setIfInBounds_toArray, List.set_cons_zero, List.set_cons_succ]
  refine wpAnyH_done (by kernel_rfl) ?_ _
  have HL9 := Lib.hid (own_blen HO9.out)
  have hl10 := own_blen HO10.out
  rw [HRN.out] at hl10
  subst hl10
  have hm9 : m9 ≤ 72 := by rw [← HL9.out]; exact hb72
  have hnn : ((v.toNat : Int) != (v.toNat : Int)) = false := by simp
  have HT9 := Lib.hid (Bts.of_own HO9b.out)
  have HT10 := Lib.hid (Bts.of_own HO10.out)
  clear x7 x7b hb72
  go_wp2
  go_loopw [10] (fun i wz => ∃ t : Nat, t ≤ v.toNat ∧ i = .int .i64 t ∧ Below w10.heap.size w10 wz) (fun i _ => v.toNat - (intOf i).toNat)
  case atStart => exact ⟨0, Nat.zero_le _, rfl, Below.refl _ _⟩
  case round =>
    obtain ⟨t, ht, rfl, hbw⟩ := hrel
    have hbs := hbw.size
    by_cases htn : t < v.toNat
    · have htn' : (t : Int) < (v.toNat : Int) := Int.ofNat_lt.2 htn
      have t0 : (0 : Int) ≤ (t : Int) := Int.natCast_nonneg t
      have hy : (eachL r)[t]? = some ((eachL b)[t]?.getD (0, 0)) := by rw [HRE.out]; exact cutB_get (by simpa using htn)
      have gA := guardSameBytes
      have HBW := Lib.hid hbw
      by_cases htm : t < m9
      · have htm' : (t : Int) < (m9 : Int) := Int.ofNat_lt.2 htm
        obtain ⟨x, hx⟩ : ∃ x, (eachL b)[t]? = some x := ⟨_, List.getElem?_eq_getElem (by rw [HL9.out]; exact htm)⟩
        rw [hx] at hy
        obtain ⟨g9, o9, rfl, _, a0, a1⟩ := (HT9.out.below hbw).at_ hx
        obtain ⟨g10, o10, rfl, _, d0, d1⟩ := (HT10.out.below hbw).at_ hy
        have hwA : Below wr.heap.size wr (wr.alloc (.cells #[.int .i64 0, .int .i64 0] 32)) := (Below.refl _ wr).alloc (Nat.le_refl _) _
        have a0' := (hwA.cell (block_lt_of_cell a0)).trans a0
        have a1' := (hwA.cell (block_lt_of_cell a1)).trans a1
        have hwB : Below wr.heap.size wr (wr.alloc (.cells #[.int .i64 x.1, .int .i64 x.2] 32)) := (Below.refl _ wr).alloc (Nat.le_refl _) _
        have d0' := (hwB.cell (block_lt_of_cell d0)).trans d0
        have d1' := (hwB.cell (block_lt_of_cell d1)).trans d1
        have hne := neqSameBytes x x
        unfold bv at hne
        rw [show decide (x = x) = true from by simp] at hne
        clear hx hy a0 a1 d0 d1 hbw
        go_wp2
        go_quiet (fail)
        go_wp2
        go_roundw
        case rel => exact ⟨t + 1, by omega, by go_num, (HBW.out.alloc hbs _).trans ((below_drewN _ _).mono (by simp; omega))⟩
        case measure => simp [intOf]; omega
      · have htm' : ¬ (t : Int) < (m9 : Int) := fun h => htm (Int.ofNat_lt.1 h)
        rw [show (eachL b)[t]? = none from List.getElem?_eq_none (by rw [HL9.out]; omega)] at hy
        obtain ⟨g10, o10, rfl, _, d0, d1⟩ := (HT10.out.below hbw).at_ hy
        dsimp only [Option.getD_none] at d0 d1
        have hwB : Below wr.heap.size wr (wr.alloc (.cells #[.int .i64 0, .int .i64 0] 32)) := (Below.refl _ wr).alloc (Nat.le_refl _) _
        have d0' := (hwB.cell (block_lt_of_cell d0)).trans d0
        have d1' := (hwB.cell (block_lt_of_cell d1)).trans d1
        have hne := neqSameBytes (0, 0) (0, 0)
        unfold bv at hne
        rw [show decide (((0, 0) : Int × Int) = (0, 0)) = true from by simp] at hne
        dsimp only at hne
        clear hy d0 d1 hbw
        go_wp2
        go_quiet (fail)
        go_wp2
        go_roundw
        case rel => exact ⟨t + 1, by omega, by go_num, (HBW.out.alloc hbs _).trans ((below_drewN _ _).mono (by simp; omega))⟩
        case measure => simp [intOf]; omega
    · obtain rfl : t = v.toNat := by omega
      have x11 := (hbw.cell (block_lt_of_cell x10)).trans x10
      have hB11 := HB10.out.trans (hbw.mono HB10.out.size)
      have hE11 := HP.out.env (HP.out.env hE HBX.out) hB11
      have m90 : (0 : Int) ≤ (m9 : Int) := Int.natCast_nonneg m9
      have HCB := Lib.hid (cut_yes HP.out hE11 (HSX.out.below hB11) HRV.out (m9 : Int) m90 (by omega))
      have HB11 := Lib.hid (HBX.out.trans (hB11.mono HBX.out.size))
      have HSb11 := Lib.hid (HSb.out.below hB11)
      clear hB11 hE11
      go_upto_region 18 with (go_at_call 23; with_reducible refine HCB.out.mono ?_; rintro e w12 ⟨A12, m12, c12, r2, rfl, hS12, hr2, he2, hb12⟩)
      have hW12 : Below w.heap.size w (w12.alloc (.cells #[.slice A12 m12 c12, .int .i64 0] 40)) := by
        have h1 := HB11.out.trans (hb12.mono HB11.out.size)
        exact h1.alloc h1.size _
      by_cases hlt : v.toNat < m9
      · have hlt' : (v.toNat : Int) < (m9 : Int) := Int.ofNat_lt.2 hlt
        clear hr2 he2 hS12
        go_wp2
        go_ret
        exact ⟨rfl, hW12⟩
      · have hlt' : ¬ (v.toNat : Int) < (m9 : Int) := fun h => hlt (Int.ofNat_lt.1 h)
        have hback : r2 = b := valid_eq hr2 HBV.out (by
          rw [he2, HRE.out, ← HL9.out]
          exact cutB_back (by rw [HL9.out]; omega))
        subst hback
        have hbY : Below w12.heap.size w12 (w12.alloc (.cells #[.slice A12 m12 c12, .int .i64 0] 40)) := (Below.refl _ w12).alloc (Nat.le_refl _) _
        have hb3l := valid_len HBV.out
        have HSM := Lib.hid (same_any A12 A3 m12 m3 c12 c3 r2 r2 hS12.plen HSb.out.plen (by rw [← hS12.plen]; omega) (by rw [← HSb.out.plen]; omega) 0 0 (w12.alloc (.cells #[.slice A12 m12 c12, .int .i64 0] 40)) (hS12.pcs.below hbY) (Sp.pcs ((HSb11.out.below hb12).below hbY)))
        simp only [decide_true, Bool.true_and, BEq.rfl] at HSM
        clear hr2 he2 hS12 hbY hb3l
        go_wp2_with (go_at_call 22; with_reducible refine HSM.out.mono ?_; rintro e w13 ⟨rfl, hb13⟩)
        go_ret
        exact ⟨rfl, hW12.trans (hb13.mono hW12.size)⟩
end Go.Proofs.Ytggnklcjhbahhaa
