/-
  Walk of the law ExtentForms.
-/
import Derived.Test.YtggnklcjhbahhaaEm
namespace Go.Proofs.Ytggnklcjhbahhaa
open Go.RowKit Ex
set_option maxHeartbeats 400000
set_option maxRecDepth 100000

theorem ok_of_valid {l : List Pc} (h : validL l = true) : ∀ p ∈ l, Pc.ok p := fun p hp => by
  have h1 := right_iff.1 ((valid_iff.1 h).1.right p hp)
  have h2 : -1 ≤ p.id ∧ p.id < 4096 := by rcases h1.2.2.2 with ⟨h | h, _⟩ | h <;> omega
  have h3 : p.fr ≤ 1048576 := by rcases h1.2.2.2 with ⟨_, h⟩ | h <;> omega
  exact ⟨wf_of_i64 (by omega), wf_of_i64 (by omega), wf_of_i64 (by omega)⟩
theorem wholeB (bs : List (Int × Int)) (n : Nat) (h : bs.length ≤ n) : putB bs 0 9 (n : Int) = eachL [⟨9, 0, (n : Int)⟩] := by
  refine List.ext_getElem? fun t => ?_
  have hl : (putB bs 0 9 (n : Int)).length = n := by rw [putB_len]; simp; omega
  by_cases ht : t < n
  · rw [putB_in (by simp) (by simpa using ht), eachL_one, eachP_get (by simpa using ht)]
    simp
  · rw [List.getElem?_eq_none (by rw [hl]; omega), List.getElem?_eq_none (by rw [eachL_one, eachP_len]; simp; omega)]
theorem one_valid (n : Nat) (h1 : 1 ≤ n) (h2 : n ≤ 1048576) : validL [⟨9, 0, (n : Int)⟩] = true := by
  refine valid_iff.2 ⟨⟨fun p hp => ?_, rfl⟩, by simp [sizeL]; omega⟩
  simp at hp
  subst hp
  exact right_iff.2 ⟨by simp; omega, by simp; omega, by simp, Or.inr ⟨by simp, by simp, by simp; omega⟩⟩
theorem each_same {l m : List Pc} (hl : validL l = true) (hm : validL m = true) : decide (eachL l = eachL m) = decide (l = m) := by
  by_cases h : l = m
  · subst h; simp
  · rw [decide_eq_false h, decide_eq_false (fun e => h (valid_eq hl hm e))]
theorem valid_nil : validL [] = true := rfl
theorem Sp.none (W : World) : Sp 0 W none 0 0 [] := ⟨rfl, Nat.le_refl _, by omega, fun _ => rfl, fun h => absurd rfl h⟩
theorem tm72 (v : UInt8) : (v.toNat : Int).tmod 72 = ((v.toNat % 72 : Nat) : Int) := by rw [Int.tmod_eq_emod_of_nonneg (Int.natCast_nonneg _)]; omega
theorem Sp.ofown {w : World} {base n c : Nat} {e : TypeId} {A : Option Addr} {l : List Pc} (h : w.ownsRow base e 3 (.slice A n c) n (ints (flat3 l))) : Sp 0 w A n c l := (Si.own h).mono (Nat.zero_le _)

set_option maxHeartbeats 8000000 in
set_option maxRecDepth 20000 in
theorem lawForms_any {Env : World → Prop} (P : Prg Env) (S : SanOk Env) (A A2 : Option Addr) (n c n2 c2 : Nat) (l l2 : List T8) (hn : l.length = n) (hn2 : l2.length = n2) (hl : n ≤ 9223372036854775807) (hl2 : n2 ≤ 9223372036854775807) (v0 v1 : UInt8) (w : World) (hE : Env w) (hA : Trs w A l) (hA2 : Trs w A2 l2) :
    Calls Try.prog 8 #[.agg #[.slice A n c, .slice A2 n2 c2], .agg #[.int .u8 v0.toNat, .int .u8 v1.toNat]] w fun e w' => e = .returned (.bool true) ∧ Below w.heap.size w w' := by
  have hW1 : Below w.heap.size w ((w.alloc (.cells #[.slice A n c, .slice A2 n2 c2] 62)).alloc (.cells #[.int .u8 v0.toNat, .int .u8 v1.toNat] 63)) := by go_grown
  have hE1 := P.env hE hW1
  have hA1 := hA.below hW1
  have hA12 := hA2.below hW1
  obtain ⟨w1, hw1⟩ : ∃ W, (w.alloc (.cells #[.slice A n c, .slice A2 n2 c2] 62)).alloc (.cells #[.int .u8 v0.toNat, .int .u8 v1.toNat] 63) = W := ⟨_, rfl⟩
  have b0 : w1.cell? ⟨w.heap.size, 0, none⟩ = some (.slice A n c) := by rw [← hw1]; exact cell_of_row _ _ 0 _ _ _ (heap_alloc2_old w _ _)
  have b1 : w1.cell? ⟨w.heap.size, 1, none⟩ = some (.slice A2 n2 c2) := by rw [← hw1]; exact cell_of_row _ _ 1 _ _ _ (heap_alloc2_old w _ _)
  have c0 : w1.cell? ⟨w.heap.size + 1, 0, none⟩ = some (.int .u8 v0.toNat) := by rw [← hw1]; exact cell_of_row _ _ 0 _ _ _ (heap_alloc2_new w _ _)
  have HC : Hid (∀ W, Below w1.heap.size w1 W → W.cell? ⟨w.heap.size, 0, none⟩ = some (.slice A n c) ∧ W.cell? ⟨w.heap.size, 1, none⟩ = some (.slice A2 n2 c2)) := Lib.hid fun W hb => ⟨(hb.cell (block_lt_of_cell b0)).trans b0, (hb.cell (block_lt_of_cell b1)).trans b1⟩
  have HD : Hid (∀ W, Below w1.heap.size w1 W → W.cell? ⟨w.heap.size + 1, 0, none⟩ = some (.int .u8 v0.toNat)) := Lib.hid fun W hb => (hb.cell (block_lt_of_cell c0)).trans c0
  have HW1 := Lib.hid hw1
  rw [hw1] at hW1 hE1 hA1 hA12
  have HS := Lib.hid (show ∀ W, Env W → Calls Try.prog 10 #[] W fun e w' => e = .returned (.bool true) ∧ Below W.heap.size W w' from S)
  have HP := Lib.hid P
  have HM := Lib.hid (fun W (hb : Below w1.heap.size w1 W) => Made_any A n c l hn hl W (hA1.below hb))
  have HM2 := Lib.hid (fun W (hb : Below w1.heap.size w1 W) => Made_any A2 n2 c2 l2 hn2 hl2 W (hA12.below hb))
  have hav := made_valid l
  have hbv := made_valid l2
  obtain ⟨a, ha⟩ : ∃ b, madeL l = b := ⟨_, rfl⟩
  obtain ⟨b, hb⟩ : ∃ b, madeL l2 = b := ⟨_, rfl⟩
  have ha72 := (made_form l).2
  have hb72 := (made_form l2).2
  rw [ha] at HM hav ha72
  rw [hb] at HM2 hbv hb72
  have HAV := Lib.hid hav
  have HBV := Lib.hid hbv
  have HBW1 := Lib.hid hW1
  have hv0 := v0.toNat_lt
  clear S P hA hA2 hn hn2 ha hb hav hbv hA1 hA12 b0 b1 c0 hw1 hW1
  go_enter Try.func8, Try.ntmps8
  go_upto_region 2 with (go_at_call 10; rw [HW1.out]; with_reducible refine (HS.out _ hE1).mono ?_; rintro e w2 ⟨rfl, hb2⟩)
  have HB2 : Hid (Below w1.heap.size w1 w2.drew) := Lib.hid (hb2.trans ((below_drewN w2 1).mono hb2.size))
  clear hb2
  refine wp_region_held_drew (S := (fun W' => W'.cell? ⟨w.heap.size, 0, none⟩ = some (.slice A n c) ∧ W'.cell? ⟨w.heap.size, 1, none⟩ = some (.slice A2 n2 c2))) (by kernel_rfl) (by exact HC.out _ HB2.out) (fun hHeld => ?_)
  refine wpAnyH_take (i := 0) (v := ?_) rfl (by kernel_rfl) (by kernel_rfl) (by kernel_rfl) (fun _ _ _ h => h) (Or.inl ⟨by rfl, ?_⟩) (by assumption) ?_
  rotate_left
  · ((intro w' hSw); (try dsimp only at hSw); go_simp; all_goals (with_reducible rfl))
  simp only [Act.put, List.getElem_toArray, List.getElem_cons_zero, List.setIfInBounds_toArray, List.set_cons_zero, List.set_cons_succ]
  refine wpAnyH_take (i := 1) (v := ?_) rfl (by kernel_rfl) (by kernel_rfl) (by kernel_rfl) (fun _ _ _ h => h) (Or.inl ⟨by rfl, ?_⟩) (by assumption) ?_
  rotate_left
  · ((intro w' hSw); (try dsimp only at hSw); go_simp; all_goals (with_reducible rfl))
  simp only [Act.put, List.getElem_toArray, List.getElem_cons_succ, List.getElem_cons_zero, List.setIfInBounds_toArray, List.set_cons_zero, List.set_cons_succ]
  refine wpAnyH_take (i := 3) (v := ?_) rfl (by kernel_rfl) (by kernel_rfl) (by kernel_rfl) (fun _ _ _ h => h) (Or.inl ⟨by rfl, ?_⟩) (by assumption) ?_
  rotate_left
  · ((intro w' hSw); (try dsimp only at hSw); go_simp; all_goals (with_reducible rfl))
  simp only [Act.put, List.getElem_toArray, List.getElem_cons_succ, List.getElem_cons_zero, List.setIfInBounds_toArray, List.set_cons_zero, List.set_cons_succ]
  refine wpAnyH_take (i := 4) (v := ?_) rfl (by kernel_rfl) (by kernel_rfl) (by kernel_rfl) (fun _ _ _ h => h) (Or.inl ⟨by rfl, ?_⟩) (by assumption) ?_
  rotate_left
  · ((intro w' hSw); (try dsimp only at hSw); go_simp; all_goals (with_reducible rfl))
  simp only [Act.put, List.getElem_toArray, List.getElem_cons_succ, List.getElem_cons_zero, List.setIfInBounds_toArray, List.set_cons_zero, List.set_cons_succ]
  refine wpAnyH_ready (rs := [2]) (by kernel_rfl) (by simp) ?_
  refine AllReadyH.cons rfl (fun K hK => ?_) AllReadyH.nil
  go_simp
  go_wp2_with (go_at_call 11; (with_reducible refine (HM.out _ HB2.out).mono ?_); rintro e w3 ⟨A3, m3, c3, rfl, hown3, hb3⟩; have HS3 := Lib.hid (Sp.ofown hown3); have HB3 := Lib.hid (HB2.out.trans (hb3.mono HB2.out.size)); have hC3 := HC.out _ HB3.out; clear hown3 hb3)
  refine hK.out _ _ ?_ (fun hHeld => ?_)
  · exact hC3
  clear hK K
  refine wpAnyH_ready (rs := [5]) (by kernel_rfl) (by simp) ?_
  refine AllReadyH.cons rfl (fun K hK => ?_) AllReadyH.nil
  go_simp
  go_wp2_with (go_at_call 11; (with_reducible refine (HM2.out _ HB3.out).mono ?_); rintro e w4 ⟨A4, m4, c4, rfl, hown4, hb4⟩; have HS4 := Lib.hid (Sp.ofown hown4); have HB4 := Lib.hid (HB3.out.trans (hb4.mono HB3.out.size)); have HS34 := Lib.hid (HS3.out.below hb4); have hC4 := HC.out _ HB4.out; clear hown4 hb4)
  refine hK.out _ _ ?_ (fun hHeld => ?_)
  · exact hC4
  clear hK K
  refine wpAnyH_take (i := 6) (v := ?_) rfl (by kernel_rfl) (by kernel_rfl) (by kernel_rfl) (fun _ _ _ h => h) (Or.inl ⟨by rfl, ?_⟩) (by assumption) ?_
  rotate_left
  · ((intro w' hSw); (try dsimp only at hSw); go_simp; all_goals (with_reducible rfl))
  simp only [Act.put, List.getElem_toArray, List.getElem_cons_succ, List.getElem_cons_zero, List.setIfInBounds_toArray, List.set_cons_zero, List.set_cons_succ]
  refine wpAnyH_take (i := 7) (v := ?_) rfl (by kernel_rfl) (by kernel_rfl) (by kernel_rfl) (fun _ _ _ h => h) (Or.inl ⟨by rfl, ?_⟩) (by assumption) ?_
  rotate_left
  · ((intro w' hSw); (try dsimp only at hSw); go_simp; all_goals (with_reducible rfl))
  simp only [Act.put, List.getElem_toArray, List.getElem_cons_succ, List.getElem_cons_zero, List.setIfInBounds_toArray, List.set_cons_zero, List.set_cons_succ]
  refine wpAnyH_done (by kernel_rfl) ?_ _
  have hE4 := HP.out.env hE1 HB4.out
  have al := valid_len HAV.out
  have bl := valid_len HBV.out
  have HSA := Lib.hid (HP.out.same A3 A4 m3 c3 m4 c4 a b w4 hE4 HS34.out HS4.out)
  have HEa := Lib.hid (each_c HS34.out HAV.out)
  have HEb := Lib.hid (each_c HS4.out HBV.out)
  have hES := each_same HAV.out HBV.out
  obtain ⟨d, hd⟩ : ∃ d, decide (a = b) = d := ⟨_, rfl⟩
  rw [hd] at hES HSA
  have HSB := Lib.hid (show ∀ (A A2 : Option Addr) (n n2 c c2 : Nat) (w : World), (eachL a).length = n → (eachL b).length = n2 → n ≤ 72 → n2 ≤ 72 → Bts w A (eachL a) → Bts w A2 (eachL b) → Calls Try.prog 16 #[.slice A n c, .slice A2 n2 c2] w fun e w' => e = .returned (.bool d) ∧ Below w.heap.size w w' from fun A A2 n n2 c c2 w h1 h2 h3 h4 h5 h6 => by rw [← hES]; exact SameBytes_any A A2 n n2 c c2 _ _ h1 h2 (by omega) (by omega) w h5 h6)
  have HVA := Lib.hid (fun W (hb : Below w4.heap.size w4 W) => HP.out.valid A3 m3 c3 a W (HP.out.env hE4 hb) (HS34.out.below hb) (by rw [← Sp.plen HS34.out]; omega) (ok_of_valid HAV.out))
  rw [HAV.out] at HVA
  have HA72 := Lib.hid ha72
  have HB72 := Lib.hid hb72
  clear hES hd
  go_upto_region 5 with (first
    | (go_at_call 30; with_reducible refine HSA.out.mono ?_; rintro e w5 ⟨rfl, hb5⟩; have H5 := Lib.hid hb5; clear hb5)
    | (go_at_call 12; with_reducible refine (HEa.out _ H5.out).mono ?_; rintro e w6 ⟨A6, m6, c6, rfl, hown6, hb6⟩; have HO6 := Lib.hid hown6; have H6 := Lib.hid (H5.out.trans (hb6.mono H5.out.size)); clear hown6 hb6)
    | (go_at_call 12; with_reducible refine (HEb.out _ H6.out).mono ?_; rintro e w7 ⟨A7, m7, c7, rfl, hown7, hb7⟩; have HO7 := Lib.hid hown7; have HO67 := Lib.hid (own_keep HO6.out hb7); have H7 := Lib.hid (H6.out.trans (hb7.mono H6.out.size)); clear hown7 hb7)
    | (go_at_call 16; with_reducible refine (HSB.out _ _ _ _ _ _ _ (own_blen HO67.out) (own_blen HO7.out) (by rw [← own_blen HO67.out]; exact HA72.out) (by rw [← own_blen HO7.out]; exact HB72.out) (Bts.of_own HO67.out) (Bts.of_own HO7.out)).mono ?_; rintro e w8 ⟨rfl, hb8⟩; have H8 := Lib.hid (H7.out.trans (hb8.mono H7.out.size)); clear hb8)
    | (go_at_call 31; with_reducible refine (HVA.out _ H8.out).mono ?_; rintro e w9 ⟨rfl, hb9⟩; have H9 := Lib.hid (H8.out.trans (hb9.mono H8.out.size)); clear hb9))
  have H49 := Lib.hid (HB4.out.trans (H9.out.mono HB4.out.size))
  have q0 := HD.out _ H49.out
  have hE9 := HP.out.env hE1 H49.out
  have HS9 := Lib.hid (HS34.out.below H9.out)
  have HPU := Lib.hid (put_yes HP.out hE9 HS9.out HAV.out 0 9 (1 + (v0.toNat : Int) % 72) (by omega) (by omega) (by omega) (by omega) (by omega))
  have ht := tm72 v0
  clear HSA HSB HVA HEa HEb hE4
  go_upto_region 6 with (go_at_call 20; with_reducible refine HPU.out.mono ?_; rintro e w10 ⟨A10, m10, c10, r, rfl, hS10, hr, he, hb10⟩)
  have hbX : Below w10.heap.size w10 (w10.alloc (.cells #[.slice A10 m10 c10, .int .i64 0] 40)) := (Below.refl _ w10).alloc (Nat.le_refl _) _
  have x7 : (w10.alloc (.cells #[.slice A10 m10 c10, .int .i64 0] 40)).cell? ⟨w10.heap.size, 0, none⟩ = some (.slice A10 m10 c10) := cell_of_row _ _ 0 _ _ _ (heap_alloc_new w10 _)
  have x7b : (w10.alloc (.cells #[.slice A10 m10 c10, .int .i64 0] 40)).cell? ⟨w10.heap.size, 1, none⟩ = some (.int .i64 0) := cell_of_row _ _ 1 _ _ _ (heap_alloc_new w10 _)
  have HSX : Hid (Sp 0 (w10.alloc (.cells #[.slice A10 m10 c10, .int .i64 0] 40)) A10 m10 c10 r) := Lib.hid ((hS10.mono (Nat.zero_le _)).below hbX)
  have hBX := H49.out.trans ((hb10.trans (hbX.mono hb10.size)).mono H49.out.size)
  obtain ⟨wX, hwX⟩ : ∃ W, w10.alloc (.cells #[.slice A10 m10 c10, .int .i64 0] 40) = W := ⟨_, rfl⟩
  rw [hwX] at x7 x7b HSX hBX
  rw [hwX]
  have hrl := valid_len hr
  have HRV := Lib.hid hr
  have hrn : (eachL r).length = max (eachL a).length (1 + (v0.toNat : Int) % 72).toNat := by rw [he, putB_len]; simp
  have HBX := Lib.hid hBX
  obtain ⟨Z, hZ⟩ : ∃ Z, (eachL r).length = Z := ⟨_, rfl⟩
  have hZ1 : 1 ≤ Z ∧ Z ≤ 72 := by rw [← hZ, hrn]; have := HA72.out; omega
  have HSA := Lib.hid (sane_yes A10 m10 c10 r (Sp.plen HSX.out) (by rw [← Sp.plen HSX.out]; omega) hr (by rw [hrl.2.2, hZ]; omega) wX (Sp.pcs HSX.out))
  have HZX := Lib.hid (size_c HSX.out hr)
  rw [hZ] at HZX
  have HEX := Lib.hid hBX
  have hEX := HP.out.env hE1 hBX
  have HZ := Lib.hid hZ
  clear hbX hwX hr he hrl hrn hS10 hb10 hBX q0 ht hE9 hZ
  go_upto_region 9 with (first | (go_at_call 21; with_reducible refine HSA.out.mono ?_; rintro e w11 ⟨rfl, hb11⟩; have y11 := (hb11.cell (block_lt_of_cell x7)).trans x7; have y11b := (hb11.cell (block_lt_of_cell x7b)).trans x7b; have H11 := Lib.hid hb11; clear hb11) | (go_at_call 15; with_reducible refine (HZX.out _ H11.out).mono ?_; rintro e w12 ⟨rfl, hww⟩; subst hww))
  have hE12 := HP.out.env hEX H11.out
  have HSY := Lib.hid (HSX.out.below H11.out)
  have HPA := Lib.hid (put_yes HP.out hE12 HSY.out HRV.out 0 9 (Z : Int) (by omega) (by omega) (by omega) (by omega) (by omega))
  have HPB := Lib.hid (fun W (hb : Below w12.heap.size w12 W) => put_yes HP.out (HP.out.env hE12 hb) (Sp.none W) valid_nil 0 9 (Z : Int) (by omega) (by omega) (by omega) (by omega) (by omega))
  clear HSA HZX hE12
  go_upto_region 10 with (first
    | (go_at_call 20; with_reducible refine HPA.out.mono ?_; rintro e w13 ⟨A13, m13, c13, r1, rfl, hS13, hr1, he1, hb13⟩; have H13 := Lib.hid hb13)
    | (go_at_call 20; with_reducible refine (HPB.out _ hb13).mono ?_; rintro e w14 ⟨A14, m14, c14, r2, rfl, hS14, hr2, he2, hb14⟩))
  have f1 : r1 = [⟨9, 0, (Z : Int)⟩] := valid_eq hr1 (one_valid Z hZ1.1 (by omega)) (by rw [he1, wholeB _ Z (by rw [HZ.out]; exact Nat.le_refl _)])
  have f2 : r2 = [⟨9, 0, (Z : Int)⟩] := valid_eq hr2 (one_valid Z hZ1.1 (by omega)) (by rw [he2, wholeB _ Z (by simp [eachL])])
  subst f1 f2
  obtain rfl : 1 = m13 := Sp.plen hS13
  obtain rfl : 1 = m14 := Sp.plen hS14
  have hbY : Below w14.heap.size w14 ((w14.alloc (.cells #[.slice A13 1 c13, .int .i64 0] 40)).alloc (.cells #[.slice A14 1 c14, .int .i64 0] 40)) := by go_grown
  have yb : ((w14.alloc (.cells #[.slice A13 1 c13, .int .i64 0] 40)).alloc (.cells #[.slice A14 1 c14, .int .i64 0] 40)).cell? ⟨w14.heap.size, 0, none⟩ = some (.slice A13 1 c13) := cell_of_row _ _ 0 _ _ _ (heap_alloc2_old w14 _ _)
  have HYB := Lib.hid yb
  have H1Y := Lib.hid (HEX.out.trans ((H11.out.trans ((H13.out.trans ((hb14.trans (hbY.mono hb14.size)).mono H13.out.size)).mono H11.out.size)).mono HEX.out.size))
  have HSM := Lib.hid (same_any A13 A14 1 1 c13 c14 [⟨9, 0, (Z : Int)⟩] [⟨9, 0, (Z : Int)⟩] rfl rfl (by omega) (by omega) 0 0 ((w14.alloc (.cells #[.slice A13 1 c13, .int .i64 0] 40)).alloc (.cells #[.slice A14 1 c14, .int .i64 0] 40)) (((Sp.pcs hS13).below hb14).below hbY) ((Sp.pcs hS14).below hbY))
  simp only [decide_true, Bool.true_and, BEq.rfl] at HSM
  clear hr1 hr2 he1 he2 hS13 hS14 hbY yb hb13 hb14
  go_wp2_with (go_at_call 22; with_reducible refine HSM.out.mono ?_; rintro e w15 ⟨rfl, hb15⟩; have y15 := (hb15.cell (block_lt_of_cell HYB.out)).trans HYB.out)
  go_ret
  have h1 := H1Y.out.trans (hb15.mono H1Y.out.size)
  exact ⟨rfl, HBW1.out.trans (h1.mono HBW1.out.size)⟩
end Go.Proofs.Ytggnklcjhbahhaa
