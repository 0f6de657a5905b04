/-
  Texts QeEc QeEd, put together by program.
-/
import Derived.Test.YtemgejblnionlaaGreatDoorY0
import Derived.Test.YtemgejblnionlaaGreatDoorY7
namespace Go.Proofs.YtemgejblnionlaaGreatDoor.Ext
open Go.RowKit Ex
set_option maxHeartbeats 400000
set_option maxRecDepth 100000
theorem Right_any (p : Pc) (w : World) :
 Calls Tryz.prog 162 #[pv p] w fun e w' => e = .returned (.bool (rightB p)) ∧ Below w.heap.size w w' := by
 obtain ⟨id, fr, n⟩ := p
 simp only [pv]
 go_enter Tryz.func162, Tryz.ntmps162
 go_wp2
 all_goals
  go_ret
  refine ⟨ret_bool ?_, by go_grown⟩
  rw [Bool.eq_iff_iff, right_iff]
  simp at *
  omega
theorem One_any (p q : Pc) (hs : -9223372036854775808 ≤ p.fr + p.n ∧ p.fr + p.n ≤ 9223372036854775807) (w : World) :
 Calls Tryz.prog 163 #[pv p, pv q] w fun e w' => e = .returned (.bool (oneB p q)) ∧ Below w.heap.size w w' := by
 obtain ⟨id, fr, n⟩ := p
 obtain ⟨id2, fr2, n2⟩ := q
 simp only [pv] at hs ⊢
 go_enter Tryz.func163, Tryz.ntmps163
 go_wp2
 all_goals
  go_ret
  refine ⟨ret_bool ?_, by go_grown⟩
  rw [Bool.eq_iff_iff, one_iff]
  simp at *
  omega
end Go.Proofs.YtemgejblnionlaaGreatDoor.Ext
namespace Go.Proofs.YtemgejblnionlaaGreatDoor.Ext
open Go.RowKit Ex
set_option maxHeartbeats 400000
set_option maxRecDepth 100000
theorem right_c {p : Pc} {r : Bool} (h : rightB p = r) (W : World) : Calls Tryz.prog 162 #[.agg #[.int .i64 p.id, .int .i64 p.fr, .int .i64 p.n]] W fun e w' => e = .returned (.bool r) ∧ Below W.heap.size W w' := by
 subst h
 exact Right_any p W
theorem one_c {p q : Pc} {r : Bool} (h : oneB p q = r) (hp : rightB p = true) (W : World) : Calls Tryz.prog 163 #[.agg #[.int .i64 p.id, .int .i64 p.fr, .int .i64 p.n], .agg #[.int .i64 q.id, .int .i64 q.fr, .int .i64 q.n]] W fun e w' => e = .returned (.bool r) ∧ Below W.heap.size W w' := by
 subst h
 have := right_iff.1 hp
 exact One_any p q (by omega) W
abbrev Two (W : World) (g o o2 : Nat) (p q : Pc) : Prop := W.cell? ⟨g, o, none⟩ = some (.int .i64 p.id) ∧ W.cell? ⟨g, o + 1, none⟩ = some (.int .i64 p.fr) ∧ W.cell? ⟨g, o + 2, none⟩ = some (.int .i64 p.n) ∧ W.cell? ⟨g, o2, none⟩ = some (.int .i64 q.id) ∧ W.cell? ⟨g, o2 + 1, none⟩ = some (.int .i64 q.fr) ∧ W.cell? ⟨g, o2 + 2, none⟩ = some (.int .i64 q.n)
theorem two_keep {W W' : World} {g o o2 : Nat} {p q : Pc} (h : Two W g o o2 p q) (hb : Below W.heap.size W W') : Two W' g o o2 p q :=
 ⟨(hb.cell (block_lt_of_cell h.1)).trans h.1, (hb.cell (block_lt_of_cell h.2.1)).trans h.2.1, (hb.cell (block_lt_of_cell h.2.2.1)).trans h.2.2.1, (hb.cell (block_lt_of_cell h.2.2.2.1)).trans h.2.2.2.1, (hb.cell (block_lt_of_cell h.2.2.2.2.1)).trans h.2.2.2.2.1, (hb.cell (block_lt_of_cell h.2.2.2.2.2)).trans h.2.2.2.2.2⟩
theorem bool_ne {b : Bool} (h : ¬ b = true) : b = false := by simpa using h
set_option maxHeartbeats 4000000 in
theorem Valid_any (A : Option Addr) (n c : Nat) (l : List Pc) (hn : l.length = n) (hl : n ≤ 4294967296) (w : World) (hA : Pcs w A l) :
 Calls Tryz.prog 115 #[.slice A n c] w fun e w' => e = .returned (.bool (validL l)) ∧ Below w.heap.size w w' := by
 have HN := Lib.hid hn
 have SA := Lib.hid hA
 clear hn hA
 go_enter Tryz.func115, Tryz.ntmps115
 go_wp2
 go_loopw [3, 4] (fun s i wr => ∃ k : Nat, k ≤ n ∧ i = .int .i64 k ∧ s = .int .i64 (sizeL (l.take k)) ∧ validL (l.take k) = true ∧ Below w.heap.size w wr) (fun _ i _ => n - (intOf i).toNat)
 case atStart => exact ⟨0, Nat.zero_le _, rfl, rfl, rfl, Below.refl _ _⟩
 case round =>
  obtain ⟨k, hk, rfl, rfl, hv, hbw⟩ := hrel
  have hbs := hbw.size
  by_cases hlt : k < n
  · have hkl : k < l.length := by rw [HN.out]; exact hlt
    have hg : l[k]? = some l[k] := List.getElem?_eq_getElem hkl
    obtain ⟨p, hp⟩ : ∃ p, l[k] = p := ⟨_, rfl⟩
    rw [hp] at hg
    have hst := valid_take hg
    have hmono := valid_mono (l := l) (k + 1)
    have hsz := (valid_iff.1 hv).2
    have hsz0 := sizeL_pos (l := l.take k) (fun q hq => by have := (right_iff.1 ((valid_iff.1 hv).1.right q hq)).1; omega)
    have hsn := sizeL_take hg
    obtain ⟨g, o, hA', _, q0, q1, q2⟩ := (SA.out.below hbw).at_ hg
    obtain ⟨s, hs1⟩ : ∃ s, sizeL (l.take k) = s := ⟨_, rfl⟩
    rw [hs1] at hst hsz hsz0 hsn
    rw [hs1]
    have HST := Lib.hid hst
    have HMO := Lib.hid hmono
    have HSN := Lib.hid hsn
    have HV := Lib.hid hv
    have kn : (k : Int) < (n : Int) := Int.ofNat_lt.2 hlt
    have k0 : (0 : Int) ≤ (k : Int) := Int.natCast_nonneg k
    have HBW := Lib.hid hbw
    subst hA'
    clear hst hmono hsn hv hs1 hp
    cases hR : rightB p
    · have HF := Lib.hid (show validL l = false from bool_ne fun h => by
       have := (HST.out.1 (HMO.out h)).2.1
       rw [hR] at this
       cases this)
      have RC := Lib.hid (right_c hR)
      have F0 : Hid (Tri wr.drew g (o + k * 3) p) := Lib.hid ⟨q0, q1, q2⟩
      clear q0 q1 q2 hg hR
      go_wp2
      refine wp_region_held_drew (S := (fun W' => W'.cell? ⟨g, o + k * 3, none⟩ = some (.int .i64 p.id) ∧ W'.cell? ⟨g, o + k * 3 + 1, none⟩ = some (.int .i64 p.fr) ∧ W'.cell? ⟨g, o + k * 3 + 2, none⟩ = some (.int .i64 p.n))) (by kernel_rfl) (by exact F0.out) (fun hHeld => ?_)
      refine takeH 0 ?_ rfl (Or.inl ⟨by rfl, ?_⟩) ?_
      rotate_left
      · ((intro w' hSw); (try dsimp only at hSw); go_simp; all_goals (with_reducible rfl))
      simp only [Act.put, puts]
      refine takeH 1 ?_ rfl (Or.inl ⟨by rfl, ?_⟩) ?_
      rotate_left
      · ((intro w' hSw); (try dsimp only at hSw); go_simp; all_goals (with_reducible rfl))
      simp only [Act.put, puts]
      refine takeH 2 ?_ rfl (Or.inl ⟨by rfl, ?_⟩) ?_
      rotate_left
      · ((intro w' hSw); (try dsimp only at hSw); go_simp; all_goals (with_reducible rfl))
      simp only [Act.put, puts]
      refine takeH 3 ?_ rfl (Or.inl ⟨by rfl, ?_⟩) ?_
      rotate_left
      · ((intro w' hSw); (try dsimp only at hSw); go_simp; all_goals (with_reducible rfl))
      simp only [Act.put, puts]
      refine wpAnyH_ready (rs := [4]) (by kernel_rfl) (by simp) ?_
      refine AllReadyH.cons rfl (fun K hK => ?_) AllReadyH.nil
      go_simp
      go_wp2_with (go_at_call 162; (with_reducible refine (RC.out _).mono ?_); rintro e w1 ⟨rfl, hb1⟩; have F1 := Lib.hid (Tri.below F0.out hb1); have HB1 := Lib.hid hb1; clear hb1)
      refine hK.out _ _ ?_ (fun hHeld => ?_)
      · exact F1.out
      clear hK K
      refine takeH 5 ?_ rfl (Or.inl ⟨by rfl, ?_⟩) ?_
      rotate_left
      · ((intro w' hSw); (try dsimp only at hSw); go_simp; all_goals (with_reducible rfl))
      simp only [Act.put, puts]
      refine takeH 6 ?_ rfl (Or.inl ⟨by rfl, ?_⟩) ?_
      rotate_left
      · ((intro w' hSw); (try dsimp only at hSw); go_simp; all_goals (with_reducible rfl))
      simp only [Act.put, puts]
      refine takeH 7 ?_ rfl (Or.inr ⟨by rfl, by rfl⟩) ?_
      simp only [Act.put, puts]
      refine takeH 8 ?_ rfl (Or.inr ⟨by rfl, by rfl⟩) ?_
      simp only [Act.put, puts]
      refine takeH 9 ?_ rfl (Or.inr ⟨by rfl, by rfl⟩) ?_
      simp only [Act.put, puts]
      refine takeH 10 ?_ rfl (Or.inr ⟨by rfl, by rfl⟩) ?_
      simp only [Act.put, puts]
      refine takeH 11 ?_ rfl (Or.inr ⟨by rfl, by rfl⟩) ?_
      simp only [Act.put, puts]
      refine takeH 12 ?_ rfl (Or.inr ⟨by rfl, by rfl⟩) ?_
      simp only [Act.put, puts]
      refine takeH 13 ?_ rfl (Or.inr ⟨by rfl, by rfl⟩) ?_
      simp only [Act.put, puts]
      refine takeH 14 ?_ rfl (Or.inr ⟨by rfl, by rfl⟩) ?_
      simp only [Act.put, puts]
      refine takeH 15 ?_ rfl (Or.inr ⟨by rfl, by rfl⟩) ?_
      simp only [Act.put, puts]
      refine takeH 16 ?_ rfl (Or.inr ⟨by rfl, by rfl⟩) ?_
      simp only [Act.put, puts]
      refine takeH 17 ?_ rfl (Or.inr ⟨by rfl, by rfl⟩) ?_
      simp only [Act.put, puts]
      refine takeH 18 ?_ rfl (Or.inr ⟨by rfl, by rfl⟩) ?_
      simp only [Act.put, puts]
      refine takeH 19 ?_ rfl (Or.inr ⟨by rfl, by rfl⟩) ?_
      simp only [Act.put, puts]
      refine takeH 20 ?_ rfl (Or.inr ⟨by rfl, by rfl⟩) ?_
      simp only [Act.put, puts]
      refine takeH 21 ?_ rfl (Or.inl ⟨by rfl, ?_⟩) ?_
      rotate_left
      · ((intro w' hSw); (try dsimp only at hSw); go_simp; all_goals (with_reducible rfl))
      simp only [Act.put, puts]
      refine wpAnyH_done (by kernel_rfl) ?_ _
      go_wp2
      go_ret
      exact ⟨ret_bool HF.out.symm, HBW.out.trans (((below_drewN wr 1).trans (HB1.out.mono (below_drewN wr 1).size)).mono HBW.out.size)⟩
    · have hpr := right_iff.1 hR
      have RC := Lib.hid (right_c hR)
      have HR := Lib.hid hR
      have hp1 : 1 ≤ p.n := hpr.1
      have hp2 : p.n ≤ 1048576 := hpr.2.1
      clear hpr
      by_cases hk0 : k = 0
      · have HNO : Hid (∀ q, 0 < k → l[k - 1]? = some q → oneB q p = false) := Lib.hid (fun q h0 _ => absurd h0 (by omega))
        have F0 : Hid (Tri wr.drew g (o + k * 3) p) := Lib.hid ⟨q0, q1, q2⟩
        have k00 : decide ((0 : Int) < (k : Int)) = false := decide_eq_false (by omega)
        have k01 : decide (0 < k) = false := decide_eq_false (by omega)
        have q2' := q2
        clear q0 q1 hg hR hk0
        go_wp2
        refine wp_region_held_drew (S := (fun W' => W'.cell? ⟨g, o + k * 3, none⟩ = some (.int .i64 p.id) ∧ W'.cell? ⟨g, o + k * 3 + 1, none⟩ = some (.int .i64 p.fr) ∧ W'.cell? ⟨g, o + k * 3 + 2, none⟩ = some (.int .i64 p.n))) (by kernel_rfl) (by exact F0.out) (fun hHeld => ?_)
        refine takeH 0 ?_ rfl (Or.inl ⟨by rfl, ?_⟩) ?_
        rotate_left
        · ((intro w' hSw); (try dsimp only at hSw); go_simp; all_goals (with_reducible rfl))
        simp only [Act.put, puts]
        refine takeH 1 ?_ rfl (Or.inl ⟨by rfl, ?_⟩) ?_
        rotate_left
        · ((intro w' hSw); (try dsimp only at hSw); go_simp; all_goals (with_reducible rfl))
        simp only [Act.put, puts]
        refine takeH 2 ?_ rfl (Or.inl ⟨by rfl, ?_⟩) ?_
        rotate_left
        · ((intro w' hSw); (try dsimp only at hSw); go_simp; all_goals (with_reducible rfl))
        simp only [Act.put, puts]
        refine takeH 3 ?_ rfl (Or.inl ⟨by rfl, ?_⟩) ?_
        rotate_left
        · ((intro w' hSw); (try dsimp only at hSw); go_simp; all_goals (with_reducible rfl))
        simp only [Act.put, puts]
        refine wpAnyH_ready (rs := [4]) (by kernel_rfl) (by simp) ?_
        refine AllReadyH.cons rfl (fun K hK => ?_) AllReadyH.nil
        go_simp
        go_wp2_with (go_at_call 162; (with_reducible refine (RC.out _).mono ?_); rintro e w1 ⟨rfl, hb1⟩; have F1 := Lib.hid (Tri.below F0.out hb1); have HB1 := Lib.hid hb1; clear hb1)
        refine hK.out _ _ ?_ (fun hHeld => ?_)
        · exact F1.out
        clear hK K
        refine takeH 5 ?_ rfl (Or.inl ⟨by rfl, ?_⟩) ?_
        rotate_left
        · ((intro w' hSw); (try dsimp only at hSw); go_simp; all_goals (with_reducible rfl))
        simp only [Act.put, puts]
        refine takeH 6 ?_ rfl (Or.inl ⟨by rfl, ?_⟩) ?_
        rotate_left
        · ((intro w' hSw); (try dsimp only at hSw); go_simp; all_goals (with_reducible rfl))
        simp only [Act.put, puts]
        refine takeH 7 ?_ rfl (Or.inl ⟨by rfl, ?_⟩) ?_
        rotate_left
        · ((intro w' hSw); (try dsimp only at hSw); go_simp; all_goals (with_reducible rfl))
        simp only [Act.put, puts]
        refine takeH 8 ?_ rfl (Or.inl ⟨by rfl, ?_⟩) ?_
        rotate_left
        · ((intro w' hSw); (try dsimp only at hSw); go_simp; all_goals (with_reducible rfl))
        simp only [Act.put, puts]
        refine takeH 9 ?_ rfl (Or.inl ⟨by rfl, ?_⟩) ?_
        rotate_left
        · ((intro w' hSw); (try dsimp only at hSw); go_simp; all_goals (with_reducible rfl))
        simp only [Act.put, puts]
        refine takeH 10 ?_ rfl (Or.inr ⟨by rfl, by rfl⟩) ?_
        simp only [Act.put, puts]
        refine takeH 11 ?_ rfl (Or.inr ⟨by rfl, by rfl⟩) ?_
        simp only [Act.put, puts]
        refine takeH 12 ?_ rfl (Or.inr ⟨by rfl, by rfl⟩) ?_
        simp only [Act.put, puts]
        refine takeH 13 ?_ rfl (Or.inr ⟨by rfl, by rfl⟩) ?_
        simp only [Act.put, puts]
        refine takeH 14 ?_ rfl (Or.inr ⟨by rfl, by rfl⟩) ?_
        simp only [Act.put, puts]
        refine takeH 15 ?_ rfl (Or.inr ⟨by rfl, by rfl⟩) ?_
        simp only [Act.put, puts]
        refine takeH 16 ?_ rfl (Or.inr ⟨by rfl, by rfl⟩) ?_
        simp only [Act.put, puts]
        refine takeH 17 ?_ rfl (Or.inr ⟨by rfl, by rfl⟩) ?_
        simp only [Act.put, puts]
        refine takeH 18 ?_ rfl (Or.inr ⟨by rfl, by rfl⟩) ?_
        simp only [Act.put, puts]
        refine takeH 19 ?_ rfl (Or.inr ⟨by rfl, by rfl⟩) ?_
        simp only [Act.put, puts]
        refine takeH 20 ?_ rfl (Or.inl ⟨by rfl, ?_⟩) ?_
        rotate_left
        · ((intro w' hSw); (try dsimp only at hSw); go_simp; all_goals (with_reducible rfl))
        simp only [Act.put, puts]
        refine takeH 21 ?_ rfl (Or.inl ⟨by rfl, ?_⟩) ?_
        rotate_left
        · ((intro w' hSw); (try dsimp only at hSw); go_simp; all_goals (with_reducible rfl))
        simp only [Act.put, puts]
        refine wpAnyH_done (by kernel_rfl) ?_ _
        have HD := Lib.hid ((below_drewN wr 1).trans (HB1.out.mono (below_drewN wr 1).size))
        have q3 := (HD.out.cell (block_lt_of_cell q2')).trans q2'
        clear q2 q2'
        by_cases hbig : 1048576 < s + p.n
        · have HF := Lib.hid (show validL l = false from bool_ne fun h => by
           have := (HST.out.1 (HMO.out h)).2.2.2
           omega)
          go_wp2
          go_ret
          exact ⟨ret_bool HF.out.symm, HBW.out.trans (HD.out.mono HBW.out.size)⟩
        · have hbig' : s + p.n ≤ 1048576 := by omega
          have HV2 := Lib.hid (HST.out.2 ⟨HV.out, HR.out, HNO.out, hbig'⟩)
          go_wp2
          go_roundw
          case rel => exact ⟨k + 1, by omega, by go_num, by rw [HSN.out], HV2.out, HBW.out.trans (HD.out.mono HBW.out.size)⟩
          case measure => simp [intOf]; omega
      · obtain ⟨m, hm⟩ : ∃ m, m + 1 = k := ⟨k - 1, by omega⟩
        obtain ⟨q, hq⟩ : ∃ q, l[m]? = some q := ⟨_, List.getElem?_eq_getElem (by omega)⟩
        obtain ⟨g', o', hA', _, e0, e1, e2⟩ := (SA.out.below HBW.out).at_ hq
        injection hA' with hA'
        injection hA' with x1 x2 _
        subst x1; subst x2
        have hqr := (valid_iff.1 HV.out).1.right q (by
         have : (l.take k)[m]? = some q := by rw [List.getElem?_take, if_pos (by omega)]; exact hq
         exact List.mem_of_getElem? this)
        have k00 : decide ((0 : Int) < (k : Int)) = true := decide_eq_true (by omega)
        have k01 : decide (0 < k) = true := decide_eq_true (by omega)
        have hkm : (k : Int) - 1 = (m : Int) := by omega
        have hmw : IntKind.i64.wrap (m : Int) = (m : Int) := IntWalk.i64_in _ (by omega)
        have m0 : (0 : Int) ≤ (m : Int) := Int.natCast_nonneg m
        have mn : (m : Int) < (n : Int) := by omega
        have F0 : Hid (Two wr.drew g (o + k * 3) (o + m * 3) p q) := Lib.hid ⟨q0, q1, q2, e0, e1, e2⟩
        have q2' := q2
        cases hO : oneB q p
        · have HNO : Hid (∀ q, 0 < k → l[k - 1]? = some q → oneB q p = false) := Lib.hid (fun q' _ hq' => by
           rw [← hm, Nat.add_sub_cancel, hq] at hq'
           rw [← Option.some.inj hq']; exact hO)
          have OC := Lib.hid (one_c hO hqr)
          clear q0 q1 hg hR hk0 e0 e1 e2 hO hqr hq hm
          go_wp2
          refine wp_region_held_drew (S := (fun W' => W'.cell? ⟨g, o + k * 3, none⟩ = some (.int .i64 p.id) ∧ W'.cell? ⟨g, o + k * 3 + 1, none⟩ = some (.int .i64 p.fr) ∧ W'.cell? ⟨g, o + k * 3 + 2, none⟩ = some (.int .i64 p.n) ∧ W'.cell? ⟨g, o + m * 3, none⟩ = some (.int .i64 q.id) ∧ W'.cell? ⟨g, o + m * 3 + 1, none⟩ = some (.int .i64 q.fr) ∧ W'.cell? ⟨g, o + m * 3 + 2, none⟩ = some (.int .i64 q.n))) (by kernel_rfl) (by exact F0.out) (fun hHeld => ?_)
          refine takeH 0 ?_ rfl (Or.inl ⟨by rfl, ?_⟩) ?_
          rotate_left
          · ((intro w' hSw); (try dsimp only at hSw); go_simp; all_goals (with_reducible rfl))
          simp only [Act.put, puts]
          refine takeH 1 ?_ rfl (Or.inl ⟨by rfl, ?_⟩) ?_
          rotate_left
          · ((intro w' hSw); (try dsimp only at hSw); go_simp; all_goals (with_reducible rfl))
          simp only [Act.put, puts]
          refine takeH 2 ?_ rfl (Or.inl ⟨by rfl, ?_⟩) ?_
          rotate_left
          · ((intro w' hSw); (try dsimp only at hSw); go_simp; all_goals (with_reducible rfl))
          simp only [Act.put, puts]
          refine takeH 3 ?_ rfl (Or.inl ⟨by rfl, ?_⟩) ?_
          rotate_left
          · ((intro w' hSw); (try dsimp only at hSw); go_simp; all_goals (with_reducible rfl))
          simp only [Act.put, puts]
          refine wpAnyH_ready (rs := [4]) (by kernel_rfl) (by simp) ?_
          refine AllReadyH.cons rfl (fun K hK => ?_) AllReadyH.nil
          go_simp
          go_wp2_with (go_at_call 162; (with_reducible refine (RC.out _).mono ?_); rintro e w1 ⟨rfl, hb1⟩; have F1 := Lib.hid (two_keep F0.out hb1); have HB1 := Lib.hid hb1; clear hb1)
          refine hK.out _ _ ?_ (fun hHeld => ?_)
          · exact F1.out
          clear hK K
          refine takeH 5 ?_ rfl (Or.inl ⟨by rfl, ?_⟩) ?_
          rotate_left
          · ((intro w' hSw); (try dsimp only at hSw); go_simp; all_goals (with_reducible rfl))
          simp only [Act.put, puts]
          refine takeH 6 ?_ rfl (Or.inl ⟨by rfl, ?_⟩) ?_
          rotate_left
          · ((intro w' hSw); (try dsimp only at hSw); go_simp; all_goals (with_reducible rfl))
          simp only [Act.put, puts]
          refine takeH 7 ?_ rfl (Or.inl ⟨by rfl, ?_⟩) ?_
          rotate_left
          · ((intro w' hSw); (try dsimp only at hSw); go_simp; all_goals (with_reducible rfl))
          simp only [Act.put, puts]
          refine takeH 8 ?_ rfl (Or.inl ⟨by rfl, ?_⟩) ?_
          rotate_left
          · ((intro w' hSw); (try dsimp only at hSw); go_simp; all_goals (with_reducible rfl))
          simp only [Act.put, puts]
          refine takeH 9 ?_ rfl (Or.inl ⟨by rfl, ?_⟩) ?_
          rotate_left
          · ((intro w' hSw); (try dsimp only at hSw); go_simp; all_goals (with_reducible rfl))
          simp only [Act.put, puts]
          refine takeH 10 ?_ rfl (Or.inl ⟨by rfl, ?_⟩) ?_
          rotate_left
          · ((intro w' hSw); (try dsimp only at hSw); go_simp; all_goals (with_reducible rfl))
          simp only [Act.put, puts]
          refine takeH 11 ?_ rfl (Or.inl ⟨by rfl, ?_⟩) ?_
          rotate_left
          · ((intro w' hSw); (try dsimp only at hSw); go_simp; all_goals (with_reducible rfl))
          simp only [Act.put, puts]
          refine takeH 12 ?_ rfl (Or.inl ⟨by rfl, ?_⟩) ?_
          rotate_left
          · ((intro w' hSw); (try dsimp only at hSw); go_simp; all_goals (with_reducible rfl))
          simp only [Act.put, puts]
          refine takeH 13 ?_ rfl (Or.inl ⟨by rfl, ?_⟩) ?_
          rotate_left
          · ((intro w' hSw); (try dsimp only at hSw); go_simp; all_goals (with_reducible rfl))
          simp only [Act.put, puts]
          refine takeH 14 ?_ rfl (Or.inl ⟨by rfl, ?_⟩) ?_
          rotate_left
          · ((intro w' hSw); (try dsimp only at hSw); go_simp; all_goals (with_reducible rfl))
          simp only [Act.put, puts]
          refine takeH 15 ?_ rfl (Or.inl ⟨by rfl, ?_⟩) ?_
          rotate_left
          · ((intro w' hSw); (try dsimp only at hSw); go_simp; all_goals (with_reducible rfl))
          simp only [Act.put, puts]
          refine takeH 16 ?_ rfl (Or.inl ⟨by rfl, ?_⟩) ?_
          rotate_left
          · ((intro w' hSw); (try dsimp only at hSw); go_simp; all_goals (with_reducible rfl))
          simp only [Act.put, puts]
          refine takeH 17 ?_ rfl (Or.inl ⟨by rfl, ?_⟩) ?_
          rotate_left
          · ((intro w' hSw); (try dsimp only at hSw); go_simp; all_goals (with_reducible rfl))
          simp only [Act.put, puts]
          refine takeH 18 ?_ rfl (Or.inl ⟨by rfl, ?_⟩) ?_
          rotate_left
          · ((intro w' hSw); (try dsimp only at hSw); go_simp; all_goals (with_reducible rfl))
          simp only [Act.put, puts]
          refine wpAnyH_ready (rs := [19]) (by kernel_rfl) (by simp) ?_
          refine AllReadyH.cons rfl (fun K hK => ?_) AllReadyH.nil
          go_simp
          go_wp2_with (go_at_call 163; (with_reducible refine (OC.out _).mono ?_); rintro e w2 ⟨rfl, hb2⟩; have F2 := Lib.hid (two_keep F1.out hb2); have HB2 := Lib.hid (HB1.out.trans (hb2.mono HB1.out.size)); clear hb2)
          refine hK.out _ _ ?_ (fun hHeld => ?_)
          · exact F2.out
          clear hK K
          refine takeH 20 ?_ rfl (Or.inl ⟨by rfl, ?_⟩) ?_
          rotate_left
          · ((intro w' hSw); (try dsimp only at hSw); go_simp; all_goals (with_reducible rfl))
          simp only [Act.put, puts]
          refine takeH 21 ?_ rfl (Or.inl ⟨by rfl, ?_⟩) ?_
          rotate_left
          · ((intro w' hSw); (try dsimp only at hSw); go_simp; all_goals (with_reducible rfl))
          simp only [Act.put, puts]
          refine wpAnyH_done (by kernel_rfl) ?_ _
          have HD := Lib.hid ((below_drewN wr 1).trans (HB2.out.mono (below_drewN wr 1).size))
          have q3 := (HD.out.cell (block_lt_of_cell q2')).trans q2'
          clear q2 q2' hkm
          by_cases hbig : 1048576 < s + p.n
          · have HF := Lib.hid (show validL l = false from bool_ne fun h => by
             have := (HST.out.1 (HMO.out h)).2.2.2
             omega)
            go_wp2
            go_ret
            exact ⟨ret_bool HF.out.symm, HBW.out.trans (HD.out.mono HBW.out.size)⟩
          · have hbig' : s + p.n ≤ 1048576 := by omega
            have HV2 := Lib.hid (HST.out.2 ⟨HV.out, HR.out, HNO.out, hbig'⟩)
            go_wp2
            go_roundw
            case rel => exact ⟨k + 1, by omega, by go_num, by rw [HSN.out], HV2.out, HBW.out.trans (HD.out.mono HBW.out.size)⟩
            case measure => simp [intOf]; omega
        · have HF := Lib.hid (show validL l = false from bool_ne fun h => by
           have := (HST.out.1 (HMO.out h)).2.2.1 q (by omega) (by rw [← hm, Nat.add_sub_cancel]; exact hq)
           rw [hO] at this
           cases this)
          have OC := Lib.hid (one_c hO hqr)
          clear q0 q1 q2 hg hR hk0 e0 e1 e2 hO hqr hq hm
          go_wp2
          refine wp_region_held_drew (S := (fun W' => W'.cell? ⟨g, o + k * 3, none⟩ = some (.int .i64 p.id) ∧ W'.cell? ⟨g, o + k * 3 + 1, none⟩ = some (.int .i64 p.fr) ∧ W'.cell? ⟨g, o + k * 3 + 2, none⟩ = some (.int .i64 p.n) ∧ W'.cell? ⟨g, o + m * 3, none⟩ = some (.int .i64 q.id) ∧ W'.cell? ⟨g, o + m * 3 + 1, none⟩ = some (.int .i64 q.fr) ∧ W'.cell? ⟨g, o + m * 3 + 2, none⟩ = some (.int .i64 q.n))) (by kernel_rfl) (by exact F0.out) (fun hHeld => ?_)
          refine takeH 0 ?_ rfl (Or.inl ⟨by rfl, ?_⟩) ?_
          rotate_left
          · ((intro w' hSw); (try dsimp only at hSw); go_simp; all_goals (with_reducible rfl))
          simp only [Act.put, puts]
          refine takeH 1 ?_ rfl (Or.inl ⟨by rfl, ?_⟩) ?_
          rotate_left
          · ((intro w' hSw); (try dsimp only at hSw); go_simp; all_goals (with_reducible rfl))
          simp only [Act.put, puts]
          refine takeH 2 ?_ rfl (Or.inl ⟨by rfl, ?_⟩) ?_
          rotate_left
          · ((intro w' hSw); (try dsimp only at hSw); go_simp; all_goals (with_reducible rfl))
          simp only [Act.put, puts]
          refine takeH 3 ?_ rfl (Or.inl ⟨by rfl, ?_⟩) ?_
          rotate_left
          · ((intro w' hSw); (try dsimp only at hSw); go_simp; all_goals (with_reducible rfl))
          simp only [Act.put, puts]
          refine wpAnyH_ready (rs := [4]) (by kernel_rfl) (by simp) ?_
          refine AllReadyH.cons rfl (fun K hK => ?_) AllReadyH.nil
          go_simp
          go_wp2_with (go_at_call 162; (with_reducible refine (RC.out _).mono ?_); rintro e w1 ⟨rfl, hb1⟩; have F1 := Lib.hid (two_keep F0.out hb1); have HB1 := Lib.hid hb1; clear hb1)
          refine hK.out _ _ ?_ (fun hHeld => ?_)
          · exact F1.out
          clear hK K
          refine takeH 5 ?_ rfl (Or.inl ⟨by rfl, ?_⟩) ?_
          rotate_left
          · ((intro w' hSw); (try dsimp only at hSw); go_simp; all_goals (with_reducible rfl))
          simp only [Act.put, puts]
          refine takeH 6 ?_ rfl (Or.inl ⟨by rfl, ?_⟩) ?_
          rotate_left
          · ((intro w' hSw); (try dsimp only at hSw); go_simp; all_goals (with_reducible rfl))
          simp only [Act.put, puts]
          refine takeH 7 ?_ rfl (Or.inl ⟨by rfl, ?_⟩) ?_
          rotate_left
          · ((intro w' hSw); (try dsimp only at hSw); go_simp; all_goals (with_reducible rfl))
          simp only [Act.put, puts]
          refine takeH 8 ?_ rfl (Or.inl ⟨by rfl, ?_⟩) ?_
          rotate_left
          · ((intro w' hSw); (try dsimp only at hSw); go_simp; all_goals (with_reducible rfl))
          simp only [Act.put, puts]
          refine takeH 9 ?_ rfl (Or.inl ⟨by rfl, ?_⟩) ?_
          rotate_left
          · ((intro w' hSw); (try dsimp only at hSw); go_simp; all_goals (with_reducible rfl))
          simp only [Act.put, puts]
          refine takeH 10 ?_ rfl (Or.inl ⟨by rfl, ?_⟩) ?_
          rotate_left
          · ((intro w' hSw); (try dsimp only at hSw); go_simp; all_goals (with_reducible rfl))
          simp only [Act.put, puts]
          refine takeH 11 ?_ rfl (Or.inl ⟨by rfl, ?_⟩) ?_
          rotate_left
          · ((intro w' hSw); (try dsimp only at hSw); go_simp; all_goals (with_reducible rfl))
          simp only [Act.put, puts]
          refine takeH 12 ?_ rfl (Or.inl ⟨by rfl, ?_⟩) ?_
          rotate_left
          · ((intro w' hSw); (try dsimp only at hSw); go_simp; all_goals (with_reducible rfl))
          simp only [Act.put, puts]
          refine takeH 13 ?_ rfl (Or.inl ⟨by rfl, ?_⟩) ?_
          rotate_left
          · ((intro w' hSw); (try dsimp only at hSw); go_simp; all_goals (with_reducible rfl))
          simp only [Act.put, puts]
          refine takeH 14 ?_ rfl (Or.inl ⟨by rfl, ?_⟩) ?_
          rotate_left
          · ((intro w' hSw); (try dsimp only at hSw); go_simp; all_goals (with_reducible rfl))
          simp only [Act.put, puts]
          refine takeH 15 ?_ rfl (Or.inl ⟨by rfl, ?_⟩) ?_
          rotate_left
          · ((intro w' hSw); (try dsimp only at hSw); go_simp; all_goals (with_reducible rfl))
          simp only [Act.put, puts]
          refine takeH 16 ?_ rfl (Or.inl ⟨by rfl, ?_⟩) ?_
          rotate_left
          · ((intro w' hSw); (try dsimp only at hSw); go_simp; all_goals (with_reducible rfl))
          simp only [Act.put, puts]
          refine takeH 17 ?_ rfl (Or.inl ⟨by rfl, ?_⟩) ?_
          rotate_left
          · ((intro w' hSw); (try dsimp only at hSw); go_simp; all_goals (with_reducible rfl))
          simp only [Act.put, puts]
          refine takeH 18 ?_ rfl (Or.inl ⟨by rfl, ?_⟩) ?_
          rotate_left
          · ((intro w' hSw); (try dsimp only at hSw); go_simp; all_goals (with_reducible rfl))
          simp only [Act.put, puts]
          refine wpAnyH_ready (rs := [19]) (by kernel_rfl) (by simp) ?_
          refine AllReadyH.cons rfl (fun K hK => ?_) AllReadyH.nil
          go_simp
          go_wp2_with (go_at_call 163; (with_reducible refine (OC.out _).mono ?_); rintro e w2 ⟨rfl, hb2⟩; have F2 := Lib.hid (two_keep F1.out hb2); have HB2 := Lib.hid (HB1.out.trans (hb2.mono HB1.out.size)); clear hb2)
          refine hK.out _ _ ?_ (fun hHeld => ?_)
          · exact F2.out
          clear hK K
          refine takeH 20 ?_ rfl (Or.inl ⟨by rfl, ?_⟩) ?_
          rotate_left
          · ((intro w' hSw); (try dsimp only at hSw); go_simp; all_goals (with_reducible rfl))
          simp only [Act.put, puts]
          refine takeH 21 ?_ rfl (Or.inl ⟨by rfl, ?_⟩) ?_
          rotate_left
          · ((intro w' hSw); (try dsimp only at hSw); go_simp; all_goals (with_reducible rfl))
          simp only [Act.put, puts]
          refine wpAnyH_done (by kernel_rfl) ?_ _
          have HD := Lib.hid ((below_drewN wr 1).trans (HB2.out.mono (below_drewN wr 1).size))
          go_wp2
          go_ret
          exact ⟨ret_bool HF.out.symm, HBW.out.trans (HD.out.mono HBW.out.size)⟩
  · obtain rfl : k = n := by omega
    have he : l.take k = l := List.take_of_length_le (by rw [HN.out]; exact Nat.le_refl _)
    rw [he] at hv ⊢
    have HV := Lib.hid hv
    clear hv
    go_wp2
    go_ret
    exact ⟨ret_bool HV.out.symm, hbw⟩
end Go.Proofs.YtemgejblnionlaaGreatDoor.Ext
