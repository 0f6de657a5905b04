/-
  Walk of the law ExtentLimits.
-/
import Derived.Test.YtggnklcjhbahhaaEo
import Derived.Deep.CutRange
namespace Go.Proofs.Ytggnklcjhbahhaa
open Go.RowKit Ex
set_option maxHeartbeats 400000
set_option maxRecDepth 100000

theorem valid_one (p : Pc) : validL [p] = rightB p := by
  have h : noJoin [p] = true := rfl
  rw [Bool.eq_iff_iff]
  constructor
  · intro hv
    exact (valid_iff.1 hv).1.right p (by simp)
  · intro hr
    have := right_iff.1 hr
    exact valid_iff.2 ⟨⟨fun q hq => by simp at hq; subst hq; exact hr, h⟩, by simp [sizeL]; omega⟩
theorem two_below (W : World) (o o2 : Obj) : Below W.heap.size W ((W.alloc o).alloc o2) := by go_grown
theorem boxes2 (W : World) (A : Option Addr) (m c : Nat) (e : Int) (A2 : Option Addr) (m2 c2 : Nat) (e2 : Int) (t : TypeId) (W' : World) (hb : Below ((W.alloc (.cells #[.slice A m c, .int .i64 e] t)).alloc (.cells #[.slice A2 m2 c2, .int .i64 e2] t)).heap.size ((W.alloc (.cells #[.slice A m c, .int .i64 e] t)).alloc (.cells #[.slice A2 m2 c2, .int .i64 e2] t)) W') :
    W'.cell? ⟨W.heap.size, 0, none⟩ = some (.slice A m c) ∧ W'.cell? ⟨W.heap.size, 1, none⟩ = some (.int .i64 e) ∧ W'.cell? ⟨W.heap.size + 1, 0, none⟩ = some (.slice A2 m2 c2) ∧ W'.cell? ⟨W.heap.size + 1, 1, none⟩ = some (.int .i64 e2) := by
  have x0 : ((W.alloc (.cells #[.slice A m c, .int .i64 e] t)).alloc (.cells #[.slice A2 m2 c2, .int .i64 e2] t)).cell? ⟨W.heap.size, 0, none⟩ = some (.slice A m c) := cell_of_row _ _ 0 _ _ _ (heap_alloc2_old W _ _)
  have x1 : ((W.alloc (.cells #[.slice A m c, .int .i64 e] t)).alloc (.cells #[.slice A2 m2 c2, .int .i64 e2] t)).cell? ⟨W.heap.size, 1, none⟩ = some (.int .i64 e) := cell_of_row _ _ 1 _ _ _ (heap_alloc2_old W _ _)
  have x2 : ((W.alloc (.cells #[.slice A m c, .int .i64 e] t)).alloc (.cells #[.slice A2 m2 c2, .int .i64 e2] t)).cell? ⟨W.heap.size + 1, 0, none⟩ = some (.slice A2 m2 c2) := cell_of_row _ _ 0 _ _ _ (heap_alloc2_new W _ _)
  have x3 : ((W.alloc (.cells #[.slice A m c, .int .i64 e] t)).alloc (.cells #[.slice A2 m2 c2, .int .i64 e2] t)).cell? ⟨W.heap.size + 1, 1, none⟩ = some (.int .i64 e2) := cell_of_row _ _ 1 _ _ _ (heap_alloc2_new W _ _)
  exact ⟨(hb.cell (block_lt_of_cell x0)).trans x0, (hb.cell (block_lt_of_cell x1)).trans x1, (hb.cell (block_lt_of_cell x2)).trans x2, (hb.cell (block_lt_of_cell x3)).trans x3⟩
theorem sp_new (w : World) (p : Pc) (t : TypeId) : Sp 0 (w.alloc (.cells #[.int .i64 p.id, .int .i64 p.fr, .int .i64 p.n] t)) (some ⟨w.heap.size, 0, none⟩) 1 1 [p] :=
  ⟨rfl, Nat.le_refl _, (by omega), fun h => (by cases h), fun _ => ⟨w.heap.size, 0, rfl, Nat.zero_le _, by simp, fun j x hx => by
    have h := cells_new w #[.int .i64 p.id, .int .i64 p.fr, .int .i64 p.n] t j (.int .i64 x) (ints_get hx)
    rw [Addr.add_lit] at h
    exact h⟩⟩

set_option maxHeartbeats 8000000 in
set_option maxRecDepth 20000 in
theorem lawLimits_any {Env : World → Prop} (P : Prg Env) (S : SanOk Env) (p : Pc) (hok : Pc.ok p) (off k : Int) (hoff : (Lit.int .i64 off).wf = true) (hk : (Lit.int .i64 k).wf = true) (w : World) (hE : Env w) :
    Calls Try.prog 9 #[.agg #[.int .i64 p.id, .int .i64 p.fr, .int .i64 p.n], .int .i64 off, .int .i64 k] w fun e w' => e = .returned (.bool true) ∧ Below w.heap.size w w' := by
  obtain ⟨o1, o2⟩ := i64_of_wf hoff
  obtain ⟨k1, k2⟩ := i64_of_wf hk
  have hW1 : Below w.heap.size w (w.alloc (.cells #[.int .i64 p.id, .int .i64 p.fr, .int .i64 p.n] 66)) := (Below.refl _ w).alloc (Nat.le_refl _) _
  have hE1 := P.env hE hW1
  obtain ⟨w1, hw1⟩ : ∃ W, w.alloc (.cells #[.int .i64 p.id, .int .i64 p.fr, .int .i64 p.n] 66) = W := ⟨_, rfl⟩
  have c0 : w1.cell? ⟨w.heap.size, 0, none⟩ = some (.int .i64 p.id) := by rw [← hw1]; exact cell_of_row _ _ 0 _ _ _ (heap_alloc_new w _)
  have c1 : w1.cell? ⟨w.heap.size, 1, none⟩ = some (.int .i64 p.fr) := by rw [← hw1]; exact cell_of_row _ _ 1 _ _ _ (heap_alloc_new w _)
  have c2 : w1.cell? ⟨w.heap.size, 2, none⟩ = some (.int .i64 p.n) := by rw [← hw1]; exact cell_of_row _ _ 2 _ _ _ (heap_alloc_new w _)
  have HC : Hid (∀ W, Below w1.heap.size w1 W → W.cell? ⟨w.heap.size, 0, none⟩ = some (.int .i64 p.id) ∧ W.cell? ⟨w.heap.size, 1, none⟩ = some (.int .i64 p.fr) ∧ W.cell? ⟨w.heap.size, 2, none⟩ = some (.int .i64 p.n)) := Lib.hid fun W hb => ⟨(hb.cell (block_lt_of_cell c0)).trans c0, (hb.cell (block_lt_of_cell c1)).trans c1, (hb.cell (block_lt_of_cell c2)).trans c2⟩
  have HW1 := Lib.hid hw1
  rw [hw1] at hW1 hE1
  have HS := Lib.hid (show ∀ W, Env W → Calls Try.prog 10 #[] W fun e w' => e = .returned (.bool true) ∧ Below W.heap.size W w' from S)
  have HP := Lib.hid P
  have HBW1 := Lib.hid hW1
  have HOK := Lib.hid hok
  clear S P c0 c1 c2 hw1 hW1 hok
  go_enter Try.func9, Try.ntmps9
  go_upto_region 2 with (go_at_call 10; rw [HW1.out]; with_reducible refine (HS.out _ hE1).mono ?_; rintro e w2 ⟨rfl, hb2⟩)
  have HB2 := Lib.hid hb2
  obtain ⟨q0, q1, q2⟩ := HC.out _ hb2
  clear hb2
  obtain ⟨wb, hwb⟩ : ∃ W, W = w2 := ⟨_, rfl⟩
  subst hwb
  generalize Value.agg #[.int .i64 p.id, .int .i64 p.fr, .int .i64 p.n] = PV
  go_cut [8] from 13 to 68 (fun s8 wx => s8 = .bool (rightB p) ∧ wx = wb)
  case first =>
    obtain ⟨id, fr, n⟩ := p
    simp only [] at q0 q1 q2
    clear HC HW1 HS HP HBW1 HOK HB2
    go_wp2
    all_goals
      go_meet
      clear q0 q1 q2 hoff hk
      refine ⟨congrArg Value.bool ?_, rfl⟩
      rw [Bool.eq_iff_iff, right_iff]
      simp at *
      omega
  case rest =>
    obtain ⟨rfl, hwc⟩ := hcut
    subst hwc
    have HVA := Lib.hid (HP.out.valid (some ⟨wc.heap.size, 0, none⟩) 1 1 [p] (wc.alloc (.cells #[.int .i64 p.id, .int .i64 p.fr, .int .i64 p.n] 66)) (HP.out.env (HP.out.env hE1 HB2.out) ((Below.refl _ wc).alloc (Nat.le_refl _) _)) (sp_new wc p _) (by omega) (fun q hq => by simp at hq; subst hq; exact HOK.out))
    rw [valid_one] at HVA
    have HB3 := Lib.hid (HB2.out.alloc HB2.out.size (.cells #[.int .i64 p.id, .int .i64 p.fr, .int .i64 p.n] 66))
    clear hoff hk
    generalize rightB p = q at HVA ⊢
    go_upto_region 5 with (go_at_call 31; with_reducible refine HVA.out.mono ?_; rintro e w4 ⟨rfl, hb4⟩)
    have HB4 := Lib.hid (HB3.out.trans (hb4.mono HB3.out.size))
    clear hb4 HB3 HVA q0 q1 q2
    obtain ⟨wd, hwd⟩ : ∃ W, W = w4 := ⟨_, rfl⟩
    subst hwd
    have hE4 := HP.out.env hE1 HB4.out
    by_cases hpos : 0 ≤ off ∧ 1 ≤ k
    · obtain ⟨p1, p2⟩ := hpos
      go_cut [9] from 74 to 85 (fun s9 wx => s9 = .bool (decide (off + k ≤ 1048576)) ∧ wx = wd)
      case first =>
        clear HC HW1 HS HP HBW1 HOK HB2 HB4
        go_wp2
        all_goals
          go_meet
          refine ⟨congrArg Value.bool ?_, rfl⟩
          first
          | rfl
          | (rw [Bool.eq_iff_iff]; simp at *; done)
          | (rw [Bool.eq_iff_iff]; simp at *; omega)
      case rest =>
        obtain ⟨rfl, hwc⟩ := hcut
        subst hwc
        have hE5 := HP.out.env hE1 HB4.out
        clear hE4
        have g1 : ¬ off < 0 := by omega
        have g2 : ¬ k < 1 := by omega
        by_cases hfit : off + k ≤ 1048576
        · rw [decide_eq_true hfit]
          have HPU := Lib.hid (put_yes HP.out hE5 (Sp.none wc) valid_nil off 1 k (by omega) (by omega) (by omega) (by omega) (by omega))
          have HCU := Lib.hid (fun W (hb : Below wc.heap.size wc W) => cut_yes HP.out (HP.out.env hE5 hb) (Sp.none W) valid_nil k (by omega) (by omega))
          go_upto_region 7 with (first | (go_at_call 20; with_reducible refine HPU.out.mono ?_; rintro e w5 ⟨A5, m5, c5, r, rfl, hS5, hr, he, hb5⟩; have H5 := Lib.hid hb5) | (go_at_call 23; with_reducible refine (HCU.out _ hb5).mono ?_; rintro e w6 ⟨A6, m6, c6, r2, rfl, hS6, hr2, he2, hb6⟩; have H6 := Lib.hid (H5.out.trans (hb6.mono H5.out.size))))
          have HY := Lib.hid (boxes2 w6 A5 m5 c5 0 A6 m6 c6 0 40)
          have HYB := Lib.hid (HB4.out.trans ((H6.out.trans ((two_below w6 (.cells #[.slice A5 m5 c5, .int .i64 0] 40) (.cells #[.slice A6 m6 c6, .int .i64 0] 40)).mono H6.out.size)).mono HB4.out.size))
          have e1 : (eachL r).length = (off + k).toNat := by rw [he, putB_len]; simp [eachL]; omega
          have e2 : (eachL r2).length = k.toNat := by rw [he2, cutB_len]
          have hbY := two_below w6 (.cells #[.slice A5 m5 c5, .int .i64 0] 40) (.cells #[.slice A6 m6 c6, .int .i64 0] 40)
          have vr := valid_len hr
          have HVX := Lib.hid (valid_c (((hS5.mono (Nat.zero_le _)).below hb6).below hbY) (by omega) hr _ (Below.refl _ _))
          have HZX := Lib.hid (size_c (((hS5.mono (Nat.zero_le _)).below hb6).below hbY) hr)
          have HZY := Lib.hid (size_c ((hS6.mono (Nat.zero_le _)).below hbY) hr2)
          rw [e1, show (((off + k).toNat : Nat) : Int) = off + k by omega] at HZX
          rw [e2, show ((k.toNat : Nat) : Int) = k by omega] at HZY
          clear hb5 hb6 HPU HCU hS5 hS6 hr hr2 he he2 e1 e2 vr hbY
          go_wp2_with (first
            | (go_at_call 14; with_reducible refine HVX.out.mono ?_; rintro e w7 ⟨rfl, hb7⟩; obtain ⟨y0, y1, y2, y3⟩ := HY.out _ hb7; have H7 := Lib.hid hb7; clear hb7)
            | (go_at_call 15; with_reducible refine (HZX.out _ H7.out).mono ?_; rintro e w8 ⟨rfl, hww⟩; subst hww)
            | (go_at_call 15; with_reducible refine (HZY.out _ H7.out).mono ?_; rintro e w8 ⟨rfl, hww⟩; subst hww))
          go_ret
          have h1 := HYB.out.trans (H7.out.mono HYB.out.size)
          exact ⟨rfl, HBW1.out.trans (h1.mono HBW1.out.size)⟩
        · rw [decide_eq_false hfit]
          by_cases hkk : k ≤ 1048576
          · have hkd : decide (k ≤ 1048576) = true := decide_eq_true hkk
            have HPU := Lib.hid (put_big HP.out hE5 (Sp.none wc) valid_nil off 1 k (wf_of_i64 (by omega)) (by decide) (wf_of_i64 (by omega)) (by omega) (by omega) (by omega) (by omega) (by omega))
            have HCU := Lib.hid (fun W (hb : Below wc.heap.size wc W) => cut_yes HP.out (HP.out.env hE5 hb) (Sp.none W) valid_nil k (by omega) (by omega))
            go_upto_region 7 with (first | (go_at_call 20; with_reducible refine HPU.out.mono ?_; rintro e w5 ⟨A5, c5, rfl, hb5⟩; have H5 := Lib.hid hb5) | (go_at_call 23; with_reducible refine (HCU.out _ hb5).mono ?_; rintro e w6 ⟨A6, m6, c6, r2, rfl, hS6, hr2, he2, hb6⟩; have H6 := Lib.hid (H5.out.trans (hb6.mono H5.out.size))))
            have HY := Lib.hid (boxes2 w6 A5 0 c5 2 A6 m6 c6 0 40)
            have HYB := Lib.hid (HB4.out.trans ((H6.out.trans ((two_below w6 (.cells #[.slice A5 0 c5, .int .i64 2] 40) (.cells #[.slice A6 m6 c6, .int .i64 0] 40)).mono H6.out.size)).mono HB4.out.size))
            clear hb5 hb6 HPU HCU
            go_wp2
            all_goals
              go_ret
              exact ⟨rfl, HBW1.out.trans (HYB.out.mono HBW1.out.size)⟩
          · have hkd : decide (k ≤ 1048576) = false := decide_eq_false hkk
            have HPU := Lib.hid (put_big HP.out hE5 (Sp.none wc) valid_nil off 1 k (wf_of_i64 (by omega)) (by decide) (wf_of_i64 (by omega)) (by omega) (by omega) (by omega) (by omega) (by omega))
            have HCU := Lib.hid (fun W (hb : Below wc.heap.size wc W) => cut_big HP.out (HP.out.env hE5 hb) (Sp.none W) valid_nil k (wf_of_i64 (by omega)) (by omega))
            go_upto_region 7 with (first | (go_at_call 20; with_reducible refine HPU.out.mono ?_; rintro e w5 ⟨A5, c5, rfl, hb5⟩; have H5 := Lib.hid hb5) | (go_at_call 23; with_reducible refine (HCU.out _ hb5).mono ?_; rintro e w6 ⟨A6, c6, rfl, hb6⟩; have H6 := Lib.hid (H5.out.trans (hb6.mono H5.out.size))))
            have HY := Lib.hid (boxes2 w6 A5 0 c5 2 A6 0 c6 2 40)
            have HYB := Lib.hid (HB4.out.trans ((H6.out.trans ((two_below w6 (.cells #[.slice A5 0 c5, .int .i64 2] 40) (.cells #[.slice A6 0 c6, .int .i64 2] 40)).mono H6.out.size)).mono HB4.out.size))
            clear hb5 hb6 HPU HCU
            go_wp2
            all_goals
              go_ret
              exact ⟨rfl, HBW1.out.trans (HYB.out.mono HBW1.out.size)⟩
    · go_cut [9] from 74 to 85 (fun s9 wx => (∃ q, s9 = .bool q) ∧ wx = wd)
      case first =>
        clear HC HW1 HS HP HBW1 HOK HB2 HB4
        go_wp2
        all_goals
          go_meet
          exact ⟨⟨_, rfl⟩, rfl⟩
      case rest =>
        obtain ⟨⟨fq, rfl⟩, hwc⟩ := hcut
        subst hwc
        have hE5 := HP.out.env hE1 HB4.out
        clear hE4
        by_cases ho : off < 0
        · by_cases hk0 : k < 0
          · have hkb : (k == 0) = false := by simp; omega
            have HPU := Lib.hid (put_arg HP.out hE5 (Sp.none wc) valid_nil off 1 k (wf_of_i64 (by omega)) (by decide) (wf_of_i64 (by omega)) (by omega))
            have HCU := Lib.hid (fun W (hb : Below wc.heap.size wc W) => cut_arg HP.out (HP.out.env hE5 hb) (Sp.none W) valid_nil k (wf_of_i64 (by omega)) (by omega))
            go_upto_region 7 with (first | (go_at_call 20; with_reducible refine HPU.out.mono ?_; rintro e w5 ⟨A5, c5, rfl, hb5⟩; have H5 := Lib.hid hb5) | (go_at_call 23; with_reducible refine (HCU.out _ hb5).mono ?_; rintro e w6 ⟨A6, c6, rfl, hb6⟩; have H6 := Lib.hid (H5.out.trans (hb6.mono H5.out.size))))
            have HY := Lib.hid (boxes2 w6 A5 0 c5 1 A6 0 c6 1 40)
            have HYB := Lib.hid (HB4.out.trans ((H6.out.trans ((two_below w6 (.cells #[.slice A5 0 c5, .int .i64 1] 40) (.cells #[.slice A6 0 c6, .int .i64 1] 40)).mono H6.out.size)).mono HB4.out.size))
            clear hb5 hb6 HPU HCU
            go_wp2
            all_goals
              go_ret
              exact ⟨rfl, HBW1.out.trans (HYB.out.mono HBW1.out.size)⟩
          · by_cases hkz : k = 0
            · subst hkz
              have HPU := Lib.hid (put_arg HP.out hE5 (Sp.none wc) valid_nil off 1 0 (wf_of_i64 (by omega)) (by decide) (wf_of_i64 (by omega)) (by omega))
              have HCU := Lib.hid (fun W (hb : Below wc.heap.size wc W) => cut_yes HP.out (HP.out.env hE5 hb) (Sp.none W) valid_nil 0 (by omega) (by omega))
              go_upto_region 7 with (first | (go_at_call 20; with_reducible refine HPU.out.mono ?_; rintro e w5 ⟨A5, c5, rfl, hb5⟩; have H5 := Lib.hid hb5) | (go_at_call 23; with_reducible refine (HCU.out _ hb5).mono ?_; rintro e w6 ⟨A6, m6, c6, r2, rfl, hS6, hr2, he2, hb6⟩; have H6 := Lib.hid (H5.out.trans (hb6.mono H5.out.size))))
              have HY := Lib.hid (boxes2 w6 A5 0 c5 1 A6 m6 c6 0 40)
              have HYB := Lib.hid (HB4.out.trans ((H6.out.trans ((two_below w6 (.cells #[.slice A5 0 c5, .int .i64 1] 40) (.cells #[.slice A6 m6 c6, .int .i64 0] 40)).mono H6.out.size)).mono HB4.out.size))
              clear hb5 hb6 HPU HCU
              go_wp2
              all_goals
                go_ret
                exact ⟨rfl, HBW1.out.trans (HYB.out.mono HBW1.out.size)⟩
            · have hkb : (k == 0) = false := by simp; omega
              have hkp : 0 < k := by omega
              by_cases hkk : k ≤ 1048576
              · have HPU := Lib.hid (put_arg HP.out hE5 (Sp.none wc) valid_nil off 1 k (wf_of_i64 (by omega)) (by decide) (wf_of_i64 (by omega)) (by omega))
                have HCU := Lib.hid (fun W (hb : Below wc.heap.size wc W) => cut_yes HP.out (HP.out.env hE5 hb) (Sp.none W) valid_nil k (by omega) (by omega))
                go_upto_region 7 with (first | (go_at_call 20; with_reducible refine HPU.out.mono ?_; rintro e w5 ⟨A5, c5, rfl, hb5⟩; have H5 := Lib.hid hb5) | (go_at_call 23; with_reducible refine (HCU.out _ hb5).mono ?_; rintro e w6 ⟨A6, m6, c6, r2, rfl, hS6, hr2, he2, hb6⟩; have H6 := Lib.hid (H5.out.trans (hb6.mono H5.out.size))))
                have HY := Lib.hid (boxes2 w6 A5 0 c5 1 A6 m6 c6 0 40)
                have HYB := Lib.hid (HB4.out.trans ((H6.out.trans ((two_below w6 (.cells #[.slice A5 0 c5, .int .i64 1] 40) (.cells #[.slice A6 m6 c6, .int .i64 0] 40)).mono H6.out.size)).mono HB4.out.size))
                clear hb5 hb6 HPU HCU
                go_wp2
                all_goals
                  go_ret
                  exact ⟨rfl, HBW1.out.trans (HYB.out.mono HBW1.out.size)⟩
              · have HPU := Lib.hid (put_arg HP.out hE5 (Sp.none wc) valid_nil off 1 k (wf_of_i64 (by omega)) (by decide) (wf_of_i64 (by omega)) (by omega))
                have HCU := Lib.hid (fun W (hb : Below wc.heap.size wc W) => cut_big HP.out (HP.out.env hE5 hb) (Sp.none W) valid_nil k (wf_of_i64 (by omega)) (by omega))
                go_upto_region 7 with (first | (go_at_call 20; with_reducible refine HPU.out.mono ?_; rintro e w5 ⟨A5, c5, rfl, hb5⟩; have H5 := Lib.hid hb5) | (go_at_call 23; with_reducible refine (HCU.out _ hb5).mono ?_; rintro e w6 ⟨A6, c6, rfl, hb6⟩; have H6 := Lib.hid (H5.out.trans (hb6.mono H5.out.size))))
                have HY := Lib.hid (boxes2 w6 A5 0 c5 1 A6 0 c6 2 40)
                have HYB := Lib.hid (HB4.out.trans ((H6.out.trans ((two_below w6 (.cells #[.slice A5 0 c5, .int .i64 1] 40) (.cells #[.slice A6 0 c6, .int .i64 2] 40)).mono H6.out.size)).mono HB4.out.size))
                clear hb5 hb6 HPU HCU
                go_wp2
                all_goals
                  go_ret
                  exact ⟨rfl, HBW1.out.trans (HYB.out.mono HBW1.out.size)⟩
        · have hk1 : k < 1 := by omega
          by_cases hk0 : k < 0
          · have hkb : (k == 0) = false := by simp; omega
            have HPU := Lib.hid (put_arg HP.out hE5 (Sp.none wc) valid_nil off 1 k (wf_of_i64 (by omega)) (by decide) (wf_of_i64 (by omega)) (by omega))
            have HCU := Lib.hid (fun W (hb : Below wc.heap.size wc W) => cut_arg HP.out (HP.out.env hE5 hb) (Sp.none W) valid_nil k (wf_of_i64 (by omega)) (by omega))
            go_upto_region 7 with (first | (go_at_call 20; with_reducible refine HPU.out.mono ?_; rintro e w5 ⟨A5, c5, rfl, hb5⟩; have H5 := Lib.hid hb5) | (go_at_call 23; with_reducible refine (HCU.out _ hb5).mono ?_; rintro e w6 ⟨A6, c6, rfl, hb6⟩; have H6 := Lib.hid (H5.out.trans (hb6.mono H5.out.size))))
            have HY := Lib.hid (boxes2 w6 A5 0 c5 1 A6 0 c6 1 40)
            have HYB := Lib.hid (HB4.out.trans ((H6.out.trans ((two_below w6 (.cells #[.slice A5 0 c5, .int .i64 1] 40) (.cells #[.slice A6 0 c6, .int .i64 1] 40)).mono H6.out.size)).mono HB4.out.size))
            clear hb5 hb6 HPU HCU
            go_wp2
            all_goals
              go_ret
              exact ⟨rfl, HBW1.out.trans (HYB.out.mono HBW1.out.size)⟩
          · obtain rfl : k = 0 := by omega
            have HPU := Lib.hid (put_arg HP.out hE5 (Sp.none wc) valid_nil off 1 0 (wf_of_i64 (by omega)) (by decide) (wf_of_i64 (by omega)) (by omega))
            have HCU := Lib.hid (fun W (hb : Below wc.heap.size wc W) => cut_yes HP.out (HP.out.env hE5 hb) (Sp.none W) valid_nil 0 (by omega) (by omega))
            go_upto_region 7 with (first | (go_at_call 20; with_reducible refine HPU.out.mono ?_; rintro e w5 ⟨A5, c5, rfl, hb5⟩; have H5 := Lib.hid hb5) | (go_at_call 23; with_reducible refine (HCU.out _ hb5).mono ?_; rintro e w6 ⟨A6, m6, c6, r2, rfl, hS6, hr2, he2, hb6⟩; have H6 := Lib.hid (H5.out.trans (hb6.mono H5.out.size))))
            have HY := Lib.hid (boxes2 w6 A5 0 c5 1 A6 m6 c6 0 40)
            have HYB := Lib.hid (HB4.out.trans ((H6.out.trans ((two_below w6 (.cells #[.slice A5 0 c5, .int .i64 1] 40) (.cells #[.slice A6 m6 c6, .int .i64 0] 40)).mono H6.out.size)).mono HB4.out.size))
            clear hb5 hb6 HPU HCU
            go_wp2
            all_goals
              go_ret
              exact ⟨rfl, HBW1.out.trans (HYB.out.mono HBW1.out.size)⟩
end Go.Proofs.Ytggnklcjhbahhaa
