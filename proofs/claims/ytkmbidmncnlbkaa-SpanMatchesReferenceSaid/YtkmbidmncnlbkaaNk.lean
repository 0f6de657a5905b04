/-
  Walks of the reference's Made and of the law file's small.
-/
import Derived.Test.YtkmbidmncnlbkaaNj
namespace Go.Proofs.Ytkmbidmncnlbkaa
open Go.RowKit Sn
set_option maxHeartbeats 400000
set_option maxRecDepth 100000

/-- Two numbers of eight bits, of which a range is made. -/
abbrev T2 := Int × Int
def ok2 (t : T2) : Prop := (-128 ≤ t.1 ∧ t.1 ≤ 127) ∧ (-128 ≤ t.2 ∧ t.2 ≤ 127)
def madeS (t : T2) : S := ⟨t.1.tmod 21, t.2.tmod 21⟩
def madeL (l : List T2) : List S := (l.take 8).map madeS
theorem tmod_lim (x : Int) : -20 ≤ x.tmod 21 ∧ x.tmod 21 ≤ 20 := by
  rcases Int.le_total 0 x with h | h
  · rw [Int.tmod_eq_emod_of_nonneg h]; omega
  · obtain ⟨y, rfl⟩ : ∃ y, x = -y := ⟨-x, by omega⟩
    rw [Int.neg_tmod, Int.tmod_eq_emod_of_nonneg (by omega)]; omega
theorem made_len (l : List T2) : (madeL l).length ≤ 8 := by unfold madeL; simp; omega
theorem made_lim (l : List T2) : ∀ x ∈ bnds (madeL l), -20 ≤ x ∧ x ≤ 20 := fun x hx => by
  obtain ⟨s, hs, h⟩ := bnds_mem.1 hx
  unfold madeL at hs
  obtain ⟨t, _, rfl⟩ := List.mem_map.1 hs
  rcases h with rfl | rfl <;> exact tmod_lim _
/-- The slice at A holds these pairs. -/
def Tws (w : World) (A : Option Addr) (l : List T2) : Prop :=
  l ≠ [] → ∃ g o, A = some ⟨g, o, none⟩ ∧ g < w.heap.size ∧ ∀ (j : Nat) (t : T2), l[j]? = some t → w.cell? ⟨g, o + j * 2, none⟩ = some (.int .i8 t.1) ∧ w.cell? ⟨g, o + j * 2 + 1, none⟩ = some (.int .i8 t.2)
theorem Tws.below {w w' : World} {A : Option Addr} {l : List T2} (h : Tws w A l) (hb : Below w.heap.size w w') : Tws w' A l := fun hn => by
  obtain ⟨g, o, hA, hg, hc⟩ := h hn
  exact ⟨g, o, hA, Nat.lt_of_lt_of_le hg hb.size, fun j t ht => ⟨(hb.cell (p := ⟨g, o + j * 2, none⟩) hg).trans (hc j t ht).1, (hb.cell (p := ⟨g, o + j * 2 + 1, none⟩) hg).trans (hc j t ht).2⟩⟩
set_option maxHeartbeats 4000000 in
theorem Made_any (A : Option Addr) (n c : Nat) (l : List T2) (hn : l.length = n) (hok : ∀ t ∈ l, ok2 t) (w : World) (hA : Tws w A l) :
    Calls Try.prog 23 #[.slice A n c] w fun e w' => ∃ A' m c', e = .returned (.slice A' m c') ∧ w'.ownsRow w.heap.size 24 2 (.slice A' m c') m (ints (flat2 (madeL l))) ∧ Below w.heap.size w w' := by
  obtain ⟨i2, hj, hj0, hj1, hj2⟩ := info_parts info_span
  have HN := Lib.hid hn
  have SA := Lib.hid hA
  have HOK := Lib.hid hok
  clear hn hA hok
  go_enter Try.func23, Try.ntmps23
  go_wp2
  go_loopw [3, 4] (fun s i wr => ∃ (k : Nat) (A' : Option Addr) (c' : Nat), k ≤ n ∧ k ≤ 8 ∧ i = .int .i64 k ∧ s = .slice A' k c' ∧ wr.ownsRow w.heap.size 24 2 (.slice A' k c') k (ints (flat2 ((l.take k).map madeS))) ∧ Below w.heap.size w wr) (fun _ i _ => 8 - (intOf i).toNat)
  case atStart => exact ⟨0, some ⟨w.heap.size, 0, none⟩, 0, Nat.zero_le _, Nat.zero_le _, rfl, rfl, own_empty _ _ _, by go_grown⟩
  case round =>
    obtain ⟨k, A', c', hk, hk8, rfl, rfl, hown, hbw⟩ := hrel
    have hbs := hbw.size
    have HO := Lib.hid hown
    have HBW := Lib.hid hbw
    clear hown hbw
    by_cases hlt : k < n ∧ k < 8
    · obtain ⟨hlt, hlt8⟩ := hlt
      have hkl : k < l.length := by rw [HN.out]; exact hlt
      obtain ⟨g, o, rfl, hg, hc⟩ := SA.out (List.ne_nil_of_length_pos (by omega))
      obtain ⟨t, ht⟩ : ∃ t, l[k] = t := ⟨_, rfl⟩
      obtain ⟨q0, q1⟩ := hc k t (by rw [List.getElem?_eq_getElem hkl, ht])
      have K0 := Lib.hid q0
      have K1 := Lib.hid q1
      have HTS := Lib.hid (show (l.take (k + 1)).map madeS = (l.take k).map madeS ++ [madeS t] from by rw [List.take_succ_eq_append_getElem hkl, ht, List.map_append]; rfl)
      obtain ⟨⟨o1, o2⟩, o3, o4⟩ := HOK.out t (by rw [← ht]; exact List.getElem_mem hkl)
      obtain ⟨x, y⟩ := t
      simp only at q0 q1 o1 o2 o3 o4
      replace q0 := (HBW.out.cell hg).trans q0
      replace q1 := (HBW.out.cell hg).trans q1
      obtain ⟨rx, hrx⟩ : ∃ r, x.tmod 21 = r := ⟨_, rfl⟩
      obtain ⟨ry, hry⟩ : ∃ r, y.tmod 21 = r := ⟨_, rfl⟩
      have hx1 := tmod_lim x
      have hy1 := tmod_lim y
      rw [hrx] at hx1
      rw [hry] at hy1
      have hm : madeS (x, y) = ⟨rx, ry⟩ := by unfold madeS; rw [hrx, hry]
      rw [hm] at HTS
      have e1 : IntKind.i64.wrap x = x := IntWalk.i64_in _ (by omega)
      have e2 : IntKind.i64.wrap y = y := IntWalk.i64_in _ (by omega)
      have e3 : IntKind.i64.wrap rx = rx := IntWalk.i64_in _ (by omega)
      have e4 : IntKind.i64.wrap ry = ry := IntWalk.i64_in _ (by omega)
      have kn : (k : Int) < (n : Int) := Int.ofNat_lt.2 hlt
      have k8 : (k : Int) < 8 := by omega
      have k0 : (0 : Int) ≤ (k : Int) := Int.natCast_nonneg k
      have hgr : g < wr.heap.size := Nat.lt_of_lt_of_le hg hbs
      clear hc ht hm
      go_upto_region 5 with (fail)
      refine wp_region_held_drew (S := (fun W' => W'.cell? ⟨g, o + k * 2, none⟩ = some (.int .i8 x) ∧ W'.cell? ⟨g, o + k * 2 + 1, none⟩ = some (.int .i8 y))) (by kernel_rfl) (by exact ⟨q0, q1⟩) (fun hHeld => ?_)
      refine wpAnyH_take (i := 0) (v := ?_) rfl (by kernel_rfl) (by kernel_rfl) (by kernel_rfl) (fun _ _ _ h => h) (Or.inl ⟨by rfl, ?_⟩) (by assumption) ?_
      rotate_left
      · ((intro w' hSw); (try dsimp only at hSw); go_simp; all_goals (with_reducible rfl))
      simp only [Act.put, List.getElem_toArray, List.getElem_cons_zero, List.setIfInBounds_toArray, List.set_cons_zero, List.set_cons_succ]
      refine wpAnyH_take (i := 1) (v := ?_) rfl (by kernel_rfl) (by kernel_rfl) (by kernel_rfl) (fun _ _ _ h => h) (Or.inl ⟨by rfl, ?_⟩) (by assumption) ?_
      rotate_left
      · ((intro w' hSw); (try dsimp only at hSw); go_simp; all_goals (with_reducible rfl))
      simp only [Act.put, List.getElem_toArray, List.getElem_cons_succ, List.getElem_cons_zero, List.setIfInBounds_toArray, List.set_cons_zero, List.set_cons_succ]
      refine wpAnyH_take (i := 2) (v := ?_) rfl (by kernel_rfl) (by kernel_rfl) (by kernel_rfl) (fun _ _ _ h => h) (Or.inl ⟨by rfl, ?_⟩) (by assumption) ?_
      rotate_left
      · ((intro w' hSw); (try dsimp only at hSw); go_simp; all_goals (with_reducible rfl))
      simp only [Act.put, List.getElem_toArray, List.getElem_cons_succ, List.getElem_cons_zero, List.setIfInBounds_toArray, List.set_cons_zero, List.set_cons_succ]
      refine wpAnyH_take (i := 3) (v := ?_) rfl (by kernel_rfl) (by kernel_rfl) (by kernel_rfl) (fun _ _ _ h => h) (Or.inl ⟨by rfl, ?_⟩) (by assumption) ?_
      rotate_left
      · ((intro w' hSw); (try dsimp only at hSw); go_simp; all_goals (with_reducible rfl))
      simp only [Act.put, List.getElem_toArray, List.getElem_cons_succ, List.getElem_cons_zero, List.setIfInBounds_toArray, List.set_cons_zero, List.set_cons_succ]
      refine wpAnyH_take (i := 4) (v := ?_) rfl (by kernel_rfl) (by kernel_rfl) (by kernel_rfl) (fun _ _ _ h => h) (Or.inl ⟨by rfl, ?_⟩) (by assumption) ?_
      rotate_left
      · ((intro w' hSw); (try dsimp only at hSw); go_simp; all_goals (with_reducible rfl))
      simp only [Act.put, List.getElem_toArray, List.getElem_cons_succ, List.getElem_cons_zero, List.setIfInBounds_toArray, List.set_cons_zero, List.set_cons_succ]
      refine wpAnyH_take (i := 5) (v := ?_) rfl (by kernel_rfl) (by kernel_rfl) (by kernel_rfl) (fun _ _ _ h => h) (Or.inl ⟨by rfl, ?_⟩) (by assumption) ?_
      rotate_left
      · ((intro w' hSw); (try dsimp only at hSw); go_simp; all_goals (with_reducible rfl))
      simp only [Act.put, List.getElem_toArray, List.getElem_cons_succ, List.getElem_cons_zero, List.setIfInBounds_toArray, List.set_cons_zero, List.set_cons_succ]
      refine wpAnyH_take (i := 6) (v := ?_) rfl (by kernel_rfl) (by kernel_rfl) (by kernel_rfl) (fun _ _ _ h => h) (Or.inl ⟨by rfl, ?_⟩) (by assumption) ?_
      rotate_left
      · ((intro w' hSw); (try dsimp only at hSw); go_simp; all_goals (with_reducible rfl))
      simp only [Act.put, List.getElem_toArray, List.getElem_cons_succ, List.getElem_cons_zero, List.setIfInBounds_toArray, List.set_cons_zero, List.set_cons_succ]
      refine wpAnyH_take (i := 7) (v := ?_) rfl (by kernel_rfl) (by kernel_rfl) (by kernel_rfl) (fun _ _ _ h => h) (Or.inl ⟨by rfl, ?_⟩) (by assumption) ?_
      rotate_left
      · ((intro w' hSw); (try dsimp only at hSw); go_simp; all_goals (with_reducible rfl))
      simp only [Act.put, List.getElem_toArray, List.getElem_cons_succ, List.getElem_cons_zero, List.setIfInBounds_toArray, List.set_cons_zero, List.set_cons_succ]
      refine wpAnyH_take (i := 8) (v := ?_) rfl (by kernel_rfl) (by kernel_rfl) (by kernel_rfl) (fun _ _ _ h => h) (Or.inl ⟨by rfl, ?_⟩) (by assumption) ?_
      rotate_left
      · ((intro w' hSw); (try dsimp only at hSw); go_simp; all_goals (with_reducible rfl))
      simp only [Act.put, List.getElem_toArray, List.getElem_cons_succ, List.getElem_cons_zero, List.setIfInBounds_toArray, List.set_cons_zero, List.set_cons_succ]
      refine wpAnyH_take (i := 9) (v := ?_) rfl (by kernel_rfl) (by kernel_rfl) (by kernel_rfl) (fun _ _ _ h => h) (Or.inl ⟨by rfl, ?_⟩) (by assumption) ?_
      rotate_left
      · ((intro w' hSw); (try dsimp only at hSw); go_simp; all_goals (with_reducible rfl))
      simp only [Act.put, List.getElem_toArray, List.getElem_cons_succ, List.getElem_cons_zero, List.setIfInBounds_toArray, List.set_cons_zero, List.set_cons_succ]
      refine wpAnyH_take (i := 10) (v := ?_) rfl (by kernel_rfl) (by kernel_rfl) (by kernel_rfl) (fun _ _ _ h => h) (Or.inl ⟨by rfl, ?_⟩) (by assumption) ?_
      rotate_left
      · ((intro w' hSw); (try dsimp only at hSw); go_simp; all_goals (with_reducible rfl))
      simp only [Act.put, List.getElem_toArray, List.getElem_cons_succ, List.getElem_cons_zero, List.setIfInBounds_toArray, List.set_cons_zero, List.set_cons_succ]
      refine wpAnyH_take (i := 11) (v := ?_) rfl (by kernel_rfl) (by kernel_rfl) (by kernel_rfl) (fun _ _ _ h => h) (Or.inl ⟨by rfl, ?_⟩) (by assumption) ?_
      rotate_left
      · ((intro w' hSw); (try dsimp only at hSw); go_simp; all_goals (with_reducible rfl))
      simp only [Act.put, List.getElem_toArray, List.getElem_cons_succ, List.getElem_cons_zero, List.setIfInBounds_toArray, List.set_cons_zero, List.set_cons_succ]
      refine wpAnyH_take (i := 12) (v := ?_) rfl (by kernel_rfl) (by kernel_rfl) (by kernel_rfl) (fun _ _ _ h => h) (Or.inl ⟨by rfl, ?_⟩) (by assumption) ?_
      rotate_left
      · ((intro w' hSw); (try dsimp only at hSw); go_simp; all_goals (with_reducible rfl))
      simp only [Act.put, List.getElem_toArray, List.getElem_cons_succ, List.getElem_cons_zero, List.setIfInBounds_toArray, List.set_cons_zero, List.set_cons_succ]
      refine wpAnyH_take (i := 13) (v := ?_) rfl (by kernel_rfl) (by kernel_rfl) (by kernel_rfl) (fun _ _ _ h => h) (Or.inl ⟨by rfl, ?_⟩) (by assumption) ?_
      rotate_left
      · ((intro w' hSw); (try dsimp only at hSw); go_simp; all_goals (with_reducible rfl))
      simp only [Act.put, List.getElem_toArray, List.getElem_cons_succ, List.getElem_cons_zero, List.setIfInBounds_toArray, List.set_cons_zero, List.set_cons_succ]
      refine wpAnyH_take (i := 14) (v := ?_) rfl (by kernel_rfl) (by kernel_rfl) (by kernel_rfl) (fun _ _ _ h => h) (Or.inl ⟨by rfl, ?_⟩) (by assumption) ?_
      rotate_left
      · ((intro w' hSw); (try dsimp only at hSw); go_simp; all_goals (with_reducible rfl))
      simp only [Act.put, List.getElem_toArray, List.getElem_cons_succ, List.getElem_cons_zero, List.setIfInBounds_toArray, List.set_cons_zero, List.set_cons_succ]
      refine wpAnyH_take (i := 15) (v := ?_) rfl (by kernel_rfl) (by kernel_rfl) (by kernel_rfl) (fun _ _ _ h => h) (Or.inl ⟨by rfl, ?_⟩) (by assumption) ?_
      rotate_left
      · ((intro w' hSw); (try dsimp only at hSw); go_simp; all_goals (with_reducible rfl))
      simp only [Act.put, List.getElem_toArray, List.getElem_cons_succ, List.getElem_cons_zero, List.setIfInBounds_toArray, List.set_cons_zero, List.set_cons_succ]
      refine wpAnyH_ready (rs := [16]) (by kernel_rfl) (by simp) ?_
      refine AllReadyH.cons rfl (fun K hK => ?_) AllReadyH.nil
      go_simp
      refine hK.out _ _ ?_ (fun hHeld => ?_)
      · exact ⟨((Below.refl _ _).alloc (Nat.le_refl _) _).cell hgr |>.trans q0, ((Below.refl _ _).alloc (Nat.le_refl _) _).cell hgr |>.trans q1⟩
      clear hK K
      refine wpAnyH_ready (rs := [17]) (by kernel_rfl) (by simp) ?_
      refine AllReadyH.cons rfl (fun K hK => ?_) AllReadyH.nil
      refine step_append rfl (.tmp 16) (.tmp 32) 22 rfl w.heap.size 24 i2 _ 2 16 Try.underlying22 hj hj0 hj1 hj2 rfl (by decide) _ _ _ rfl (own_keep HO.out ((below_drewN wr _).alloc (Nat.le_refl _) _)) ⟨wr.heap.size, 0, none⟩ 1 1 (ints (flat2 [⟨rx, ry⟩])) rfl rfl (cells_new _ _ _) (ints_cells _) (by unfold maxLen; omega) (by omega) (by simp; omega) 33 rfl ?_; intro v7 w7 hown7 hg7; obtain ⟨A7, c7, rfl⟩ := own_form hown7; rw [← ints_append, ← flat2_append] at hown7; have HO7 := Lib.hid hown7; have HB7 := Lib.hid (((HBW.out.trans ((below_drewN wr _).mono hbs)).alloc hbs _).grown hg7 (by simp; omega) (fun t ht => (HO.out.lt t ht).1)); clear hown7 hg7
      refine hK.out _ _ ?_ (fun hHeld => ?_)
      · exact ⟨(HB7.out.cell hg).trans K0.out, (HB7.out.cell hg).trans K1.out⟩
      clear hK K
      refine wpAnyH_take (i := 18) (v := ?_) rfl (by kernel_rfl) (by kernel_rfl) (by kernel_rfl) (fun _ _ _ h => h) (Or.inl ⟨by rfl, ?_⟩) (by assumption) ?_
      rotate_left
      · ((intro w' hSw); (try dsimp only at hSw); go_simp; all_goals (with_reducible rfl))
      simp only [Act.put, List.getElem_toArray, List.getElem_cons_succ, List.getElem_cons_zero, List.setIfInBounds_toArray, List.set_cons_zero, List.set_cons_succ]
      refine wpAnyH_done (by kernel_rfl) ?_ _
      go_wp2
      go_roundw
      case rel => exact ⟨k + 1, A7, c7, by omega, by omega, by go_num, rfl, by rw [HTS.out]; exact HO7.out, HB7.out⟩
      case measure => simp [intOf]; omega
    · have hraw : (l.take k).map madeS = madeL l := by
        unfold madeL
        congr 1
        rcases Nat.lt_or_ge k n with h | h
        · rw [show k = 8 by omega]
        · rw [List.take_of_length_le (by rw [HN.out]; omega), List.take_of_length_le (by rw [HN.out]; omega)]
      rw [hraw] at HO
      by_cases hkn : k < n
      · have kn : (k : Int) < (n : Int) := Int.ofNat_lt.2 hkn
        have k8 : ¬ (k : Int) < 8 := by omega
        clear hraw
        go_wp2
        go_ret
        exact ⟨A', k, c', rfl, HO.out, HBW.out⟩
      · have kn : ¬ (k : Int) < (n : Int) := fun h => hkn (Int.ofNat_lt.1 h)
        clear hraw
        go_wp2
        go_ret
        exact ⟨A', k, c', rfl, HO.out, HBW.out⟩
set_option maxHeartbeats 2000000 in
theorem small_any (A : Option Addr) (n c : Nat) (l : List S) (hl : n ≤ 16) (hr : ∀ x ∈ bnds l, -20 ≤ x ∧ x ≤ 20) (w : World) (hA : Sl 0 w A n c l) :
    Calls Try.prog 30 #[.slice A n c] w fun e w' => e = .returned (.bool true) ∧ Below w.heap.size w w' := by
  have HL := Lib.hid hA.plen
  have SA := Lib.hid hA
  have HR := Lib.hid hr
  clear hA hr
  go_enter Try.func30, Try.ntmps30
  go_wp2
  go_loopw [3] (fun i wr => ∃ k : Nat, k ≤ n ∧ i = .int .i64 k ∧ wr = w) (fun i _ => n - (intOf i).toNat)
  case atStart => exact ⟨0, Nat.zero_le _, rfl, rfl⟩
  case round =>
    obtain ⟨k, hk, rfl, rfl⟩ := hrel
    by_cases hlt : k < n
    · have hkl : k < l.length := by rw [HL.out]; exact hlt
      have hg : l[k]? = some l[k] := List.getElem?_eq_getElem hkl
      obtain ⟨s, hs⟩ : ∃ s, l[k] = s := ⟨_, rfl⟩
      rw [hs] at hg
      have hm := List.mem_of_getElem? hg
      have b1 := HR.out s.lo (bnds_mem.2 ⟨s, hm, .inl rfl⟩)
      have b2 := HR.out s.hi (bnds_mem.2 ⟨s, hm, .inr rfl⟩)
      obtain ⟨g, o, hA', hgw, q0, q1⟩ := SA.out.sps.at_ hg
      subst hA'
      obtain ⟨x, y⟩ := s
      simp only at q0 q1 b1 b2
      have kn : (k : Int) < (n : Int) := Int.ofNat_lt.2 hlt
      have k00 : (0 : Int) ≤ (k : Int) := Int.natCast_nonneg k
      have d1 : ¬ x < -20 := by omega
      have d2 : ¬ 20 < y := by omega
      have d3 : ¬ y < -20 := by omega
      have d4 : ¬ 20 < x := by omega
      clear hs hg hm hkl hgw b1 b2
      go_wp2
      go_roundw
      case rel => exact ⟨k + 1, by omega, by go_num, trivial⟩
      case measure => simp [intOf]; omega
    · obtain rfl : k = n := by omega
      have k16 : (k : Int) ≤ 16 := by omega
      go_wp2
      go_ret
      exact ⟨rfl, Below.refl _ _⟩
end Go.Proofs.Ytkmbidmncnlbkaa
