/-
  The law SpanCovers.
-/
import Derived.Test.YtkmbidmncnlbkaaNl
namespace Go.Proofs.Ytkmbidmncnlbkaa
open Go.RowKit Sn
set_option maxHeartbeats 4000000
set_option maxRecDepth 100000
theorem covers_own {l : List Sn.S} {s : Sn.S} (h : s ∈ l) : coversB l s = true := covers_iff.2 fun _ h1 h2 => hasB_iff.2 ⟨s, h, h1, h2⟩
theorem covers_nil (lo hi : Int) : coversB [] ⟨lo, hi⟩ = decide (hi ≤ lo) := by
  rw [Bool.eq_iff_iff, covers_iff, decide_eq_true_eq]
  constructor
  · intro h
    by_cases hh : hi ≤ lo
    · exact hh
    · have := h lo (Int.le_refl _) (by show lo < hi; omega)
      cases this
  · intro h x h1 h2
    have h1' : lo ≤ x := h1
    have h2' : x < hi := h2
    omega
theorem covers_split {l : List Sn.S} {lo hi cut : Int} (h1 : lo ≤ cut) (h2 : cut ≤ hi) : coversB l ⟨lo, hi⟩ = (coversB l ⟨lo, cut⟩ && coversB l ⟨cut, hi⟩) := by
  rw [Bool.eq_iff_iff, Bool.and_eq_true, covers_iff, covers_iff, covers_iff]
  constructor
  · exact fun h => ⟨fun x a b => h x a (by have b' : x < cut := b; show x < hi; omega), fun x a b => h x (by have a' : cut ≤ x := a; show lo ≤ x; omega) b⟩
  · rintro ⟨ha, hb⟩ x a b
    rcases Int.lt_or_le x cut with h | h
    · exact ha x a h
    · exact hb x h b
theorem covers_out {l : List Sn.S} {s : Sn.S} : (∀ t, (hasB [s] t && !hasB l t) = false) ↔ coversB l s = true := by
  rw [covers_iff]
  constructor
  · intro h x h1 h2
    have := h x
    have h3 : hasB [s] x = true := hasB_iff.2 ⟨s, by simp, h1, h2⟩
    rw [h3] at this
    simpa using this
  · intro h t
    cases h3 : hasB [s] t
    · rfl
    · obtain ⟨u, hu, h1, h2⟩ := hasB_iff.1 h3
      obtain rfl : u = s := by simpa using hu
      rw [h t h1 h2]
      rfl
theorem Held.nil {Env : World → Prop} {w0 W : World} {L : List Ent} (K : Held Env w0 W L) : Held Env w0 W (⟨none, 0, 0, [], fun _ => false, true, true, 0⟩ :: L) :=
  K.add ⟨sl_nil W, Nat.le_refl _, fun _ => rfl, fun _ => rfl, fun _ hx => (by cases hx), fun _ _ hx => (by cases hx)⟩
theorem Held.drop {Env : World → Prop} {w0 W : World} {L : List Ent} {e : Ent} (K : Held Env w0 W (e :: L)) : Held Env w0 W L := ⟨K.env, K.low, fun x hx => K.ok x (List.Mem.tail _ hx)⟩
theorem Held.lit {Env : World → Prop} {w0 W' : World} {L : List Ent} (K : Held Env w0 W' L) (W : World) (s : Sn.S) (h0 : In64 s.lo) (h1 : In64 s.hi) (hW : W' = (W.alloc (.cells #[.int .i64 s.lo, .int .i64 s.hi] 24)).drew) :
    Held Env w0 W' (⟨some ⟨W.heap.size, 0, none⟩, 1, 1, [s], fun t => hasB [s] t, false, false, 1⟩ :: L) := by
  subst hW
  exact K.add ⟨(sl_one W s).below (below_drewN _ _), Nat.le_refl _, (fun h => by cases h), fun _ => rfl, fun x hx => (by
    rcases (show x = s.lo ∨ x = s.hi by simpa [bnds] using hx) with rfl | rfl
    · exact h0
    · exact h1), (fun h => by cases h)⟩
variable {Env : World → Prop} (P : PrgS Env) (S : SanOkS Env)
include P S

theorem lawCovers_any (A : Option Addr) (n c : Nat) (x : List Sn.S) (lo hi cut : Int) (hlo : In64 lo) (hhi : In64 hi) (hcut : In64 cut) (hox : OkB x) (w : World) (he : Env w) (hA : Sl 0 w A n c x) :
    Calls Try.prog 7 #[.slice A n c, .agg #[.int .i64 lo, .int .i64 hi], .int .i64 cut] w fun e w' => e = .returned (.bool true) ∧ Below w.heap.size w w' := by
  have hb0 : Below w.heap.size w (w.alloc (.cells #[.int .i64 lo, .int .i64 hi] 24)) := (Below.refl _ w).alloc (Nat.le_refl _) _
  have hbx := heap_alloc_new w (.cells #[.int .i64 lo, .int .i64 hi] 24)
  obtain ⟨w0, hw0⟩ : ∃ w0, w.alloc (.cells #[.int .i64 lo, .int .i64 hi] 24) = w0 := ⟨_, rfl⟩
  rw [hw0] at hb0 hbx
  have hlt : w.heap.size < w0.heap.size := (Array.getElem?_eq_some_iff.1 hbx).1
  have BX : Hid (∀ W, Below w0.heap.size w0 W → W.cell? ⟨w.heap.size, 0, none⟩ = some (.int .i64 lo) ∧ W.cell? ⟨w.heap.size, 1, none⟩ = some (.int .i64 hi)) := Lib.hid fun W h =>
    ⟨(h.cell hlt).trans (cell_of_row w0 _ 0 _ _ _ hbx), (h.cell hlt).trans (cell_of_row w0 _ 1 _ _ _ hbx)⟩
  have k := Lib.hid (Held.start (P.env he hb0))
  have X := Lib.hid (And.intro (hA.below hb0) hox)
  have N := Lib.hid (And.intro hlo (And.intro hhi hcut))
  have B0 := Lib.hid hb0
  have HW0 := Lib.hid hw0
  obtain ⟨cv, hcv⟩ : ∃ q, coversB (x.take 12) ⟨lo, hi⟩ = q := ⟨_, rfl⟩
  obtain ⟨c1, hc1⟩ : ∃ q, coversB (x.take 12) ⟨lo, cut⟩ = q := ⟨_, rfl⟩
  obtain ⟨c2, hc2⟩ : ∃ q, coversB (x.take 12) ⟨cut, hi⟩ = q := ⟨_, rfl⟩
  have CV := Lib.hid hcv
  have C1 := Lib.hid hc1
  have C2 := Lib.hid hc2
  have CS : Hid (lo ≤ cut → cut ≤ hi → cv = (c1 && c2)) := Lib.hid fun h1 h2 => by rw [← hcv, ← hc1, ← hc2]; exact covers_split h1 h2
  have M : Hid (∀ m : Nat, (m = 0 ↔ ∀ t, (hasB [(⟨lo, hi⟩ : Sn.S)] t && !hasB (x.take 12) t) = false) → ((m : Int) == 0) = cv) := Lib.hid fun m h => by
    rw [covers_out, hcv] at h
    rw [Bool.eq_iff_iff, beq_iff_eq, ← h]
    omega
  have ST := Lib.hid (fun (L : List Ent) (W : World) (h : Held Env w0 W L) => (show W.cell? ⟨w.heap.size, 0, none⟩ = some (.int .i64 lo) ∧ W.cell? ⟨w.heap.size, 1, none⟩ = some (.int .i64 hi) ∧ Held Env w0 W L from ⟨(BX.out W h.low).1, (BX.out W h.low).2, h⟩))
  clear hlo hhi hcut hox hA hb0 hbx hlt hw0 hcv hc1 hc2
  go_enter Try.func7, Try.ntmps7
  (try rw [HW0.out])
  go_wp2_with (first | (go_at_call 10; refine (S (by first | with_reducible exact k.out | (rw [HW0.out]; exact k.out))).mono ?_; rintro e w1 ⟨rfl, k'⟩; replace k := Lib.hid k'; clear k') | (go_at_call 11; with_reducible refine (l_short P (by first | with_reducible exact k.out | with_reducible exact k.out.step P (below_drewN _ _) | exact k.out.step P (by go_grown)) X.out.1 X.out.2).mono ?_; rintro e w1 ⟨A', m, c', rfl, hm, k'⟩; replace k := Lib.hid k'; clear k') | fail)
  have HM := Lib.hid hm
  obtain ⟨L, hL, kL⟩ := k.out.pack
  have HL := Lib.hid hL
  have KL := Lib.hid kL
  clear hL kL k hm
  go_loopw [9] (fun i wr => ∃ j : Nat, j ≤ m ∧ i = .int .i64 j ∧ Held Env w0 wr L) (fun i _ => m - (intOf i).toNat)
  case atStart => exact ⟨0, Nat.zero_le _, rfl, KL.out⟩
  case round =>
    obtain ⟨j, hj, rfl, kr⟩ := hrel
    rw [HL.out] at kr
    have k := Lib.hid kr
    clear KL
    by_cases hlt : j < m
    · have hok := kr.ok _ (List.Mem.head _)
      have hlen : (x.take 12).length = m := hok.sl.plen
      have hkl : j < (x.take 12).length := by rw [hlen]; exact hlt
      have hg : (x.take 12)[j]? = some (x.take 12)[j] := List.getElem?_eq_getElem hkl
      obtain ⟨s, hs⟩ : ∃ s, (x.take 12)[j] = s := ⟨_, rfl⟩
      rw [hs] at hg
      have hms := List.mem_of_getElem? hg
      have HC := Lib.hid (covers_own hms)
      have H6 := Lib.hid (And.intro (hok.bnd s.lo (bnds_mem.2 ⟨s, hms, .inl rfl⟩)) (hok.bnd s.hi (bnds_mem.2 ⟨s, hms, .inr rfl⟩)))
      obtain ⟨g, o, hA', hgw, q0, q1⟩ := hok.sl.sps.at_ hg
      have hA'' : A' = some ⟨g, o, none⟩ := hA'
      clear hA'
      subst hA''
      have kn : (j : Int) < (m : Int) := Int.ofNat_lt.2 hlt
      have k00 : (0 : Int) ≤ (j : Int) := Int.natCast_nonneg j
      have HLT := Lib.hid hlt
      have hwj : IntKind.i64.wrap ((j : Int) + 1) = (j : Int) + 1 := IntWalk.i64_in _ (by have := HM.out; omega)
      clear hok hlen hkl hg hs hms hgw kr hlt hj
      go_wp2_with (first | (go_at_call 26; refine (p_covers P (by first | with_reducible exact k.out | with_reducible exact k.out.step P (below_drewN _ _) | exact k.out.step P (by go_grown)) (by repeat (first | exact List.Mem.head _ | refine List.Mem.tail _ ?_)) (by rfl) s H6.out.1 H6.out.2 true (by first | (with_reducible exact HC.out) | fail)).mono ?_; rintro e w1 ⟨rfl, k'⟩; replace k := Lib.hid k'; clear k') | fail)
      go_roundw
      case rel => exact ⟨j + 1, HLT.out, by go_num, by rw [HL.out]; exact k.out⟩
      case measure => have := HLT.out; simp [intOf]; omega
    · obtain rfl : j = m := by omega
      obtain ⟨q0, q1⟩ := BX.out _ k.out.low
      clear kr hlt hj
      go_upto_region 9 with (first | (go_at_call 26; refine (p_covers P (by first | with_reducible exact k.out | with_reducible exact k.out.step P (below_drewN _ _) | exact k.out.step P (by go_grown)) (by repeat (first | exact List.Mem.head _ | refine List.Mem.tail _ ?_)) (by rfl) ⟨lo, hi⟩ N.out.1 N.out.2.1 cv (by first | (with_reducible exact CV.out) | fail)).mono ?_; rintro e w1 ⟨rfl, k'⟩; replace k := Lib.hid k'; clear k') | fail)
      have KR := Lib.hid (show Held Env w0 w1 L by rw [HL.out]; exact k.out)
      clear k
      have CN := Lib.hid (covers_nil lo hi)
      by_cases hlh : hi ≤ lo
      · rw [decide_eq_true hlh] at CN
        cases cv
        · refine wp_region_held_drew (S := (fun W' => W'.cell? ⟨w.heap.size, 0, none⟩ = some (.int .i64 lo) ∧ W'.cell? ⟨w.heap.size, 1, none⟩ = some (.int .i64 hi) ∧ Held Env w0 W' L)) (by kernel_rfl) (by exact ST.out L _ (KR.out.step P (below_drewN _ _))) (fun hHeld => ?_)
          refine wpAnyH_take (i := 0) (v := ?_) rfl (by kernel_rfl) (by kernel_rfl) (by kernel_rfl) (fun _ _ _ h => h) (Or.inl ⟨by rfl, ?_⟩) (by assumption) ?_
          rotate_left
          · ((intro w' hSw); (try dsimp only at hSw); go_simp; all_goals (with_reducible rfl))
          simp only [Act.put, List.getElem_toArray, List.getElem_cons_zero, List.setIfInBounds_toArray, List.set_cons_zero, List.set_cons_succ]
          refine wpAnyH_take (i := 1) (v := ?_) rfl (by kernel_rfl) (by kernel_rfl) (by kernel_rfl) (fun _ _ _ h => h) (Or.inl ⟨by rfl, ?_⟩) (by assumption) ?_
          rotate_left
          · ((intro w' hSw); (try dsimp only at hSw); go_simp; all_goals (with_reducible rfl))
          simp only [Act.put, List.getElem_toArray, List.getElem_cons_succ, List.getElem_cons_zero, List.setIfInBounds_toArray, List.set_cons_zero, List.set_cons_succ]
          refine wpAnyH_take (i := 3) (v := ?_) rfl (by kernel_rfl) (by kernel_rfl) (by kernel_rfl) (fun _ _ _ h => h) (Or.inl ⟨by rfl, ?_⟩) (by assumption) ?_
          rotate_left
          · ((intro w' hSw); (try dsimp only at hSw); go_simp; all_goals (with_reducible rfl))
          simp only [Act.put, List.getElem_toArray, List.getElem_cons_succ, List.getElem_cons_zero, List.setIfInBounds_toArray, List.set_cons_zero, List.set_cons_succ]
          refine wpAnyH_ready (rs := [2]) (by kernel_rfl) (by simp) ?_
          refine AllReadyH.cons rfl (fun K hK => ?_) AllReadyH.nil
          go_simp
          refine hK.out _ _ ?_ (fun hHeld => ?_)
          · exact ST.out L _ (hHeld.2.2.step P ((Below.refl _ _).alloc (Nat.le_refl _) _))
          clear hK K
          refine wpAnyH_ready (rs := [4]) (by kernel_rfl) (by simp) ?_
          refine AllReadyH.cons rfl (fun K hK => ?_) AllReadyH.nil
          go_simp
          go_wp2_with (first | (go_at_call 21; refine (p_minus_none P (Held.lit hHeld.2.2 _ ⟨lo, hi⟩ N.out.1 N.out.2.1 rfl) (by first | exact List.Mem.head _ | exact List.Mem.tail _ (by rw [HL.out]; exact List.Mem.head _)) (by rfl) (by first | exact List.Mem.head _ | exact List.Mem.tail _ (by rw [HL.out]; exact List.Mem.head _)) (by rfl)).mono ?_; rintro e w1 ⟨A7, m7, c7, rfl, hm7, k7⟩; have H7 := Lib.hid (M.out m7 hm7); clear hm7; have k' := Held.drop k7; clear k7) | (go_at_call 26; refine (p_covers P (Held.nil hHeld.2.2) (List.Mem.head _) (by rfl) ⟨lo, hi⟩ N.out.1 N.out.2.1 _ CN.out).mono ?_; rintro e w1 ⟨rfl, k7⟩; have k' := Held.drop k7; clear k7) | fail)
          refine hK.out _ _ ?_ (fun hHeld => ?_)
          · exact ST.out L _ k'
          clear hK K
          refine wpAnyH_take (i := 5) (v := ?_) rfl (by kernel_rfl) (by kernel_rfl) (by kernel_rfl) (fun _ _ _ h => h) (Or.inl ⟨by rfl, ?_⟩) (by assumption) ?_
          rotate_left
          · ((intro w' hSw); (try dsimp only at hSw); go_simp; all_goals (with_reducible rfl))
          simp only [Act.put, List.getElem_toArray, List.getElem_cons_succ, List.getElem_cons_zero, List.setIfInBounds_toArray, List.set_cons_zero, List.set_cons_succ]
          refine wpAnyH_take (i := 6) (v := ?_) rfl (by kernel_rfl) (by kernel_rfl) (by kernel_rfl) (fun _ _ _ h => h) (Or.inl ⟨by rfl, ?_⟩) (by assumption) ?_
          rotate_left
          · ((intro w' hSw); (try dsimp only at hSw); go_simp; all_goals (with_reducible rfl))
          simp only [Act.put, List.getElem_toArray, List.getElem_cons_succ, List.getElem_cons_zero, List.setIfInBounds_toArray, List.set_cons_zero, List.set_cons_succ]
          rw [H7.out]
          refine wpAnyH_take (i := 7) (v := ?_) rfl (by kernel_rfl) (by kernel_rfl) (by kernel_rfl) (fun _ _ _ h => h) (Or.inl ⟨by rfl, ?_⟩) (by assumption) ?_
          rotate_left
          · ((intro w' hSw); (try dsimp only at hSw); go_simp; all_goals (with_reducible rfl))
          simp only [Act.put, List.getElem_toArray, List.getElem_cons_succ, List.getElem_cons_zero, List.setIfInBounds_toArray, List.set_cons_zero, List.set_cons_succ]
          refine wpAnyH_take (i := 8) (v := ?_) rfl (by kernel_rfl) (by kernel_rfl) (by kernel_rfl) (fun _ _ _ h => h) (Or.inl ⟨by rfl, ?_⟩) (by assumption) ?_
          rotate_left
          · ((intro w' hSw); (try dsimp only at hSw); go_simp; all_goals (with_reducible rfl))
          simp only [Act.put, List.getElem_toArray, List.getElem_cons_succ, List.getElem_cons_zero, List.setIfInBounds_toArray, List.set_cons_zero, List.set_cons_succ]
          refine wpAnyH_take (i := 9) (v := ?_) rfl (by kernel_rfl) (by kernel_rfl) (by kernel_rfl) (fun _ _ _ h => h) (Or.inl ⟨by rfl, ?_⟩) (by assumption) ?_
          rotate_left
          · ((intro w' hSw); (try dsimp only at hSw); go_simp; all_goals (with_reducible rfl))
          simp only [Act.put, List.getElem_toArray, List.getElem_cons_succ, List.getElem_cons_zero, List.setIfInBounds_toArray, List.set_cons_zero, List.set_cons_succ]
          refine wpAnyH_take (i := 11) (v := ?_) rfl (by kernel_rfl) (by kernel_rfl) (by kernel_rfl) (fun _ _ _ h => h) (Or.inl ⟨by rfl, ?_⟩) (by assumption) ?_
          rotate_left
          · ((intro w' hSw); (try dsimp only at hSw); go_simp; all_goals (with_reducible rfl))
          simp only [Act.put, List.getElem_toArray, List.getElem_cons_succ, List.getElem_cons_zero, List.setIfInBounds_toArray, List.set_cons_zero, List.set_cons_succ]
          refine wpAnyH_take (i := 12) (v := ?_) rfl (by kernel_rfl) (by kernel_rfl) (by kernel_rfl) (fun _ _ _ h => h) (Or.inl ⟨by rfl, ?_⟩) (by assumption) ?_
          rotate_left
          · ((intro w' hSw); (try dsimp only at hSw); go_simp; all_goals (with_reducible rfl))
          simp only [Act.put, List.getElem_toArray, List.getElem_cons_succ, List.getElem_cons_zero, List.setIfInBounds_toArray, List.set_cons_zero, List.set_cons_succ]
          refine wpAnyH_take (i := 13) (v := ?_) rfl (by kernel_rfl) (by kernel_rfl) (by kernel_rfl) (fun _ _ _ h => h) (Or.inl ⟨by rfl, ?_⟩) (by assumption) ?_
          rotate_left
          · ((intro w' hSw); (try dsimp only at hSw); go_simp; all_goals (with_reducible rfl))
          simp only [Act.put, List.getElem_toArray, List.getElem_cons_succ, List.getElem_cons_zero, List.setIfInBounds_toArray, List.set_cons_zero, List.set_cons_succ]
          refine wpAnyH_take (i := 14) (v := ?_) rfl (by kernel_rfl) (by kernel_rfl) (by kernel_rfl) (fun _ _ _ h => h) (Or.inl ⟨by rfl, ?_⟩) (by assumption) ?_
          rotate_left
          · ((intro w' hSw); (try dsimp only at hSw); go_simp; all_goals (with_reducible rfl))
          simp only [Act.put, List.getElem_toArray, List.getElem_cons_succ, List.getElem_cons_zero, List.setIfInBounds_toArray, List.set_cons_zero, List.set_cons_succ]
          refine wpAnyH_take (i := 15) (v := ?_) rfl (by kernel_rfl) (by kernel_rfl) (by kernel_rfl) (fun _ _ _ h => h) (Or.inl ⟨by rfl, ?_⟩) (by assumption) ?_
          rotate_left
          · ((intro w' hSw); (try dsimp only at hSw); go_simp; all_goals (with_reducible rfl))
          simp only [Act.put, List.getElem_toArray, List.getElem_cons_succ, List.getElem_cons_zero, List.setIfInBounds_toArray, List.set_cons_zero, List.set_cons_succ]
          (try rw [DG.out])
          refine wpAnyH_ready (rs := [10]) (by kernel_rfl) (by simp) ?_
          refine AllReadyH.cons rfl (fun K hK => ?_) AllReadyH.nil
          go_simp
          go_wp2_with (first | (go_at_call 21; refine (p_minus_none P (Held.lit hHeld.2.2 _ ⟨lo, hi⟩ N.out.1 N.out.2.1 rfl) (by first | exact List.Mem.head _ | exact List.Mem.tail _ (by rw [HL.out]; exact List.Mem.head _)) (by rfl) (by first | exact List.Mem.head _ | exact List.Mem.tail _ (by rw [HL.out]; exact List.Mem.head _)) (by rfl)).mono ?_; rintro e w1 ⟨A7, m7, c7, rfl, hm7, k7⟩; have H7 := Lib.hid (M.out m7 hm7); clear hm7; have k' := Held.drop k7; clear k7) | (go_at_call 26; refine (p_covers P (Held.nil hHeld.2.2) (List.Mem.head _) (by rfl) ⟨lo, hi⟩ N.out.1 N.out.2.1 _ CN.out).mono ?_; rintro e w1 ⟨rfl, k7⟩; have k' := Held.drop k7; clear k7) | fail)
          refine hK.out _ _ ?_ (fun hHeld => ?_)
          · exact ST.out L _ k'
          clear hK K
          refine wpAnyH_take (i := 16) (v := ?_) rfl (by kernel_rfl) (by kernel_rfl) (by kernel_rfl) (fun _ _ _ h => h) (Or.inl ⟨by rfl, ?_⟩) (by assumption) ?_
          rotate_left
          · ((intro w' hSw); (try dsimp only at hSw); go_simp; all_goals (with_reducible rfl))
          simp only [Act.put, List.getElem_toArray, List.getElem_cons_succ, List.getElem_cons_zero, List.setIfInBounds_toArray, List.set_cons_zero, List.set_cons_succ]
          refine wpAnyH_take (i := 17) (v := ?_) rfl (by kernel_rfl) (by kernel_rfl) (by kernel_rfl) (fun _ _ _ h => h) (Or.inl ⟨by rfl, ?_⟩) (by assumption) ?_
          rotate_left
          · ((intro w' hSw); (try dsimp only at hSw); go_simp; all_goals (with_reducible rfl))
          simp only [Act.put, List.getElem_toArray, List.getElem_cons_succ, List.getElem_cons_zero, List.setIfInBounds_toArray, List.set_cons_zero, List.set_cons_succ]
          refine wpAnyH_done (by kernel_rfl) ?_ _
          have K9 := Lib.hid hHeld.2.2
          obtain ⟨q0, q1⟩ := BX.out _ K9.out.low
          clear hHeld hlh
          by_cases d1 : cut < lo
          · go_wp2
            go_ret
            exact ⟨rfl, B0.out.trans (K9.out.low.mono B0.out.size)⟩
          · by_cases d2 : hi < cut
            · go_wp2
              go_ret
              exact ⟨rfl, B0.out.trans (K9.out.low.mono B0.out.size)⟩
            · have hcs := CS.out (by omega) (by omega)
              cases c1 <;> cases c2 <;> first | (exact absurd hcs (by decide)) | skip
              all_goals
                clear hcs
                go_wp2_with (first | (go_at_call 26; with_reducible refine (p_covers P (by with_reducible exact K9.out) (by rw [HL.out]; exact List.mem_cons_self ..) (by decide) ⟨lo, cut⟩ N.out.1 N.out.2.2 _ (by first | (with_reducible exact C1.out) | fail)).mono ?_; rintro e w1 ⟨rfl, k'⟩; replace K9 := Lib.hid k'; clear k'; obtain ⟨q0, q1⟩ := BX.out _ K9.out.low) | (go_at_call 26; with_reducible refine (p_covers P (by with_reducible exact K9.out) (by rw [HL.out]; exact List.mem_cons_self ..) (by decide) ⟨cut, hi⟩ N.out.2.2 N.out.2.1 _ (by first | (with_reducible exact C2.out) | fail)).mono ?_; rintro e w1 ⟨rfl, k'⟩; replace K9 := Lib.hid k'; clear k'; obtain ⟨q0, q1⟩ := BX.out _ K9.out.low) | fail)
                go_ret
                exact ⟨rfl, B0.out.trans (K9.out.low.mono B0.out.size)⟩
        · refine wp_region_held_drew (S := (fun W' => W'.cell? ⟨w.heap.size, 0, none⟩ = some (.int .i64 lo) ∧ W'.cell? ⟨w.heap.size, 1, none⟩ = some (.int .i64 hi) ∧ Held Env w0 W' L)) (by kernel_rfl) (by exact ST.out L _ (KR.out.step P (below_drewN _ _))) (fun hHeld => ?_)
          refine wpAnyH_take (i := 0) (v := ?_) rfl (by kernel_rfl) (by kernel_rfl) (by kernel_rfl) (fun _ _ _ h => h) (Or.inl ⟨by rfl, ?_⟩) (by assumption) ?_
          rotate_left
          · ((intro w' hSw); (try dsimp only at hSw); go_simp; all_goals (with_reducible rfl))
          simp only [Act.put, List.getElem_toArray, List.getElem_cons_zero, List.setIfInBounds_toArray, List.set_cons_zero, List.set_cons_succ]
          refine wpAnyH_take (i := 1) (v := ?_) rfl (by kernel_rfl) (by kernel_rfl) (by kernel_rfl) (fun _ _ _ h => h) (Or.inl ⟨by rfl, ?_⟩) (by assumption) ?_
          rotate_left
          · ((intro w' hSw); (try dsimp only at hSw); go_simp; all_goals (with_reducible rfl))
          simp only [Act.put, List.getElem_toArray, List.getElem_cons_succ, List.getElem_cons_zero, List.setIfInBounds_toArray, List.set_cons_zero, List.set_cons_succ]
          refine wpAnyH_take (i := 3) (v := ?_) rfl (by kernel_rfl) (by kernel_rfl) (by kernel_rfl) (fun _ _ _ h => h) (Or.inl ⟨by rfl, ?_⟩) (by assumption) ?_
          rotate_left
          · ((intro w' hSw); (try dsimp only at hSw); go_simp; all_goals (with_reducible rfl))
          simp only [Act.put, List.getElem_toArray, List.getElem_cons_succ, List.getElem_cons_zero, List.setIfInBounds_toArray, List.set_cons_zero, List.set_cons_succ]
          refine wpAnyH_ready (rs := [2]) (by kernel_rfl) (by simp) ?_
          refine AllReadyH.cons rfl (fun K hK => ?_) AllReadyH.nil
          go_simp
          refine hK.out _ _ ?_ (fun hHeld => ?_)
          · exact ST.out L _ (hHeld.2.2.step P ((Below.refl _ _).alloc (Nat.le_refl _) _))
          clear hK K
          refine wpAnyH_ready (rs := [4]) (by kernel_rfl) (by simp) ?_
          refine AllReadyH.cons rfl (fun K hK => ?_) AllReadyH.nil
          go_simp
          go_wp2_with (first | (go_at_call 21; refine (p_minus_none P (Held.lit hHeld.2.2 _ ⟨lo, hi⟩ N.out.1 N.out.2.1 rfl) (by first | exact List.Mem.head _ | exact List.Mem.tail _ (by rw [HL.out]; exact List.Mem.head _)) (by rfl) (by first | exact List.Mem.head _ | exact List.Mem.tail _ (by rw [HL.out]; exact List.Mem.head _)) (by rfl)).mono ?_; rintro e w1 ⟨A7, m7, c7, rfl, hm7, k7⟩; have H7 := Lib.hid (M.out m7 hm7); clear hm7; have k' := Held.drop k7; clear k7) | (go_at_call 26; refine (p_covers P (Held.nil hHeld.2.2) (List.Mem.head _) (by rfl) ⟨lo, hi⟩ N.out.1 N.out.2.1 _ CN.out).mono ?_; rintro e w1 ⟨rfl, k7⟩; have k' := Held.drop k7; clear k7) | fail)
          refine hK.out _ _ ?_ (fun hHeld => ?_)
          · exact ST.out L _ k'
          clear hK K
          refine wpAnyH_take (i := 5) (v := ?_) rfl (by kernel_rfl) (by kernel_rfl) (by kernel_rfl) (fun _ _ _ h => h) (Or.inl ⟨by rfl, ?_⟩) (by assumption) ?_
          rotate_left
          · ((intro w' hSw); (try dsimp only at hSw); go_simp; all_goals (with_reducible rfl))
          simp only [Act.put, List.getElem_toArray, List.getElem_cons_succ, List.getElem_cons_zero, List.setIfInBounds_toArray, List.set_cons_zero, List.set_cons_succ]
          refine wpAnyH_take (i := 6) (v := ?_) rfl (by kernel_rfl) (by kernel_rfl) (by kernel_rfl) (fun _ _ _ h => h) (Or.inl ⟨by rfl, ?_⟩) (by assumption) ?_
          rotate_left
          · ((intro w' hSw); (try dsimp only at hSw); go_simp; all_goals (with_reducible rfl))
          simp only [Act.put, List.getElem_toArray, List.getElem_cons_succ, List.getElem_cons_zero, List.setIfInBounds_toArray, List.set_cons_zero, List.set_cons_succ]
          rw [H7.out]
          refine wpAnyH_take (i := 7) (v := ?_) rfl (by kernel_rfl) (by kernel_rfl) (by kernel_rfl) (fun _ _ _ h => h) (Or.inl ⟨by rfl, ?_⟩) (by assumption) ?_
          rotate_left
          · ((intro w' hSw); (try dsimp only at hSw); go_simp; all_goals (with_reducible rfl))
          simp only [Act.put, List.getElem_toArray, List.getElem_cons_succ, List.getElem_cons_zero, List.setIfInBounds_toArray, List.set_cons_zero, List.set_cons_succ]
          refine wpAnyH_take (i := 8) (v := ?_) rfl (by kernel_rfl) (by kernel_rfl) (by kernel_rfl) (fun _ _ _ h => h) (Or.inl ⟨by rfl, ?_⟩) (by assumption) ?_
          rotate_left
          · ((intro w' hSw); (try dsimp only at hSw); go_simp; all_goals (with_reducible rfl))
          simp only [Act.put, List.getElem_toArray, List.getElem_cons_succ, List.getElem_cons_zero, List.setIfInBounds_toArray, List.set_cons_zero, List.set_cons_succ]
          refine wpAnyH_take (i := 9) (v := ?_) rfl (by kernel_rfl) (by kernel_rfl) (by kernel_rfl) (fun _ _ _ h => h) (Or.inl ⟨by rfl, ?_⟩) (by assumption) ?_
          rotate_left
          · ((intro w' hSw); (try dsimp only at hSw); go_simp; all_goals (with_reducible rfl))
          simp only [Act.put, List.getElem_toArray, List.getElem_cons_succ, List.getElem_cons_zero, List.setIfInBounds_toArray, List.set_cons_zero, List.set_cons_succ]
          refine wpAnyH_take (i := 11) (v := ?_) rfl (by kernel_rfl) (by kernel_rfl) (by kernel_rfl) (fun _ _ _ h => h) (Or.inl ⟨by rfl, ?_⟩) (by assumption) ?_
          rotate_left
          · ((intro w' hSw); (try dsimp only at hSw); go_simp; all_goals (with_reducible rfl))
          simp only [Act.put, List.getElem_toArray, List.getElem_cons_succ, List.getElem_cons_zero, List.setIfInBounds_toArray, List.set_cons_zero, List.set_cons_succ]
          refine wpAnyH_take (i := 12) (v := ?_) rfl (by kernel_rfl) (by kernel_rfl) (by kernel_rfl) (fun _ _ _ h => h) (Or.inl ⟨by rfl, ?_⟩) (by assumption) ?_
          rotate_left
          · ((intro w' hSw); (try dsimp only at hSw); go_simp; all_goals (with_reducible rfl))
          simp only [Act.put, List.getElem_toArray, List.getElem_cons_succ, List.getElem_cons_zero, List.setIfInBounds_toArray, List.set_cons_zero, List.set_cons_succ]
          refine wpAnyH_take (i := 13) (v := ?_) rfl (by kernel_rfl) (by kernel_rfl) (by kernel_rfl) (fun _ _ _ h => h) (Or.inl ⟨by rfl, ?_⟩) (by assumption) ?_
          rotate_left
          · ((intro w' hSw); (try dsimp only at hSw); go_simp; all_goals (with_reducible rfl))
          simp only [Act.put, List.getElem_toArray, List.getElem_cons_succ, List.getElem_cons_zero, List.setIfInBounds_toArray, List.set_cons_zero, List.set_cons_succ]
          refine wpAnyH_take (i := 14) (v := ?_) rfl (by kernel_rfl) (by kernel_rfl) (by kernel_rfl) (fun _ _ _ h => h) (Or.inl ⟨by rfl, ?_⟩) (by assumption) ?_
          rotate_left
          · ((intro w' hSw); (try dsimp only at hSw); go_simp; all_goals (with_reducible rfl))
          simp only [Act.put, List.getElem_toArray, List.getElem_cons_succ, List.getElem_cons_zero, List.setIfInBounds_toArray, List.set_cons_zero, List.set_cons_succ]
          refine wpAnyH_take (i := 15) (v := ?_) rfl (by kernel_rfl) (by kernel_rfl) (by kernel_rfl) (fun _ _ _ h => h) (Or.inl ⟨by rfl, ?_⟩) (by assumption) ?_
          rotate_left
          · ((intro w' hSw); (try dsimp only at hSw); go_simp; all_goals (with_reducible rfl))
          simp only [Act.put, List.getElem_toArray, List.getElem_cons_succ, List.getElem_cons_zero, List.setIfInBounds_toArray, List.set_cons_zero, List.set_cons_succ]
          (try rw [DG.out])
          refine wpAnyH_ready (rs := [10]) (by kernel_rfl) (by simp) ?_
          refine AllReadyH.cons rfl (fun K hK => ?_) AllReadyH.nil
          go_simp
          go_wp2_with (first | (go_at_call 21; refine (p_minus_none P (Held.lit hHeld.2.2 _ ⟨lo, hi⟩ N.out.1 N.out.2.1 rfl) (by first | exact List.Mem.head _ | exact List.Mem.tail _ (by rw [HL.out]; exact List.Mem.head _)) (by rfl) (by first | exact List.Mem.head _ | exact List.Mem.tail _ (by rw [HL.out]; exact List.Mem.head _)) (by rfl)).mono ?_; rintro e w1 ⟨A7, m7, c7, rfl, hm7, k7⟩; have H7 := Lib.hid (M.out m7 hm7); clear hm7; have k' := Held.drop k7; clear k7) | (go_at_call 26; refine (p_covers P (Held.nil hHeld.2.2) (List.Mem.head _) (by rfl) ⟨lo, hi⟩ N.out.1 N.out.2.1 _ CN.out).mono ?_; rintro e w1 ⟨rfl, k7⟩; have k' := Held.drop k7; clear k7) | fail)
          refine hK.out _ _ ?_ (fun hHeld => ?_)
          · exact ST.out L _ k'
          clear hK K
          refine wpAnyH_take (i := 16) (v := ?_) rfl (by kernel_rfl) (by kernel_rfl) (by kernel_rfl) (fun _ _ _ h => h) (Or.inl ⟨by rfl, ?_⟩) (by assumption) ?_
          rotate_left
          · ((intro w' hSw); (try dsimp only at hSw); go_simp; all_goals (with_reducible rfl))
          simp only [Act.put, List.getElem_toArray, List.getElem_cons_succ, List.getElem_cons_zero, List.setIfInBounds_toArray, List.set_cons_zero, List.set_cons_succ]
          refine wpAnyH_take (i := 17) (v := ?_) rfl (by kernel_rfl) (by kernel_rfl) (by kernel_rfl) (fun _ _ _ h => h) (Or.inl ⟨by rfl, ?_⟩) (by assumption) ?_
          rotate_left
          · ((intro w' hSw); (try dsimp only at hSw); go_simp; all_goals (with_reducible rfl))
          simp only [Act.put, List.getElem_toArray, List.getElem_cons_succ, List.getElem_cons_zero, List.setIfInBounds_toArray, List.set_cons_zero, List.set_cons_succ]
          refine wpAnyH_done (by kernel_rfl) ?_ _
          have K9 := Lib.hid hHeld.2.2
          obtain ⟨q0, q1⟩ := BX.out _ K9.out.low
          clear hHeld hlh
          by_cases d1 : cut < lo
          · go_wp2
            go_ret
            exact ⟨rfl, B0.out.trans (K9.out.low.mono B0.out.size)⟩
          · by_cases d2 : hi < cut
            · go_wp2
              go_ret
              exact ⟨rfl, B0.out.trans (K9.out.low.mono B0.out.size)⟩
            · have hcs := CS.out (by omega) (by omega)
              cases c1 <;> cases c2 <;> first | (exact absurd hcs (by decide)) | skip
              all_goals
                clear hcs
                go_wp2_with (first | (go_at_call 26; with_reducible refine (p_covers P (by with_reducible exact K9.out) (by rw [HL.out]; exact List.mem_cons_self ..) (by decide) ⟨lo, cut⟩ N.out.1 N.out.2.2 _ (by first | (with_reducible exact C1.out) | fail)).mono ?_; rintro e w1 ⟨rfl, k'⟩; replace K9 := Lib.hid k'; clear k'; obtain ⟨q0, q1⟩ := BX.out _ K9.out.low) | (go_at_call 26; with_reducible refine (p_covers P (by with_reducible exact K9.out) (by rw [HL.out]; exact List.mem_cons_self ..) (by decide) ⟨cut, hi⟩ N.out.2.2 N.out.2.1 _ (by first | (with_reducible exact C2.out) | fail)).mono ?_; rintro e w1 ⟨rfl, k'⟩; replace K9 := Lib.hid k'; clear k'; obtain ⟨q0, q1⟩ := BX.out _ K9.out.low) | fail)
                go_ret
                exact ⟨rfl, B0.out.trans (K9.out.low.mono B0.out.size)⟩
      · rw [decide_eq_false hlh] at CN
        have DG := Lib.hid (decide_eq_false hlh)
        cases cv
        · refine wp_region_held_drew (S := (fun W' => W'.cell? ⟨w.heap.size, 0, none⟩ = some (.int .i64 lo) ∧ W'.cell? ⟨w.heap.size, 1, none⟩ = some (.int .i64 hi) ∧ Held Env w0 W' L)) (by kernel_rfl) (by exact ST.out L _ (KR.out.step P (below_drewN _ _))) (fun hHeld => ?_)
          refine wpAnyH_take (i := 0) (v := ?_) rfl (by kernel_rfl) (by kernel_rfl) (by kernel_rfl) (fun _ _ _ h => h) (Or.inl ⟨by rfl, ?_⟩) (by assumption) ?_
          rotate_left
          · ((intro w' hSw); (try dsimp only at hSw); go_simp; all_goals (with_reducible rfl))
          simp only [Act.put, List.getElem_toArray, List.getElem_cons_zero, List.setIfInBounds_toArray, List.set_cons_zero, List.set_cons_succ]
          refine wpAnyH_take (i := 1) (v := ?_) rfl (by kernel_rfl) (by kernel_rfl) (by kernel_rfl) (fun _ _ _ h => h) (Or.inl ⟨by rfl, ?_⟩) (by assumption) ?_
          rotate_left
          · ((intro w' hSw); (try dsimp only at hSw); go_simp; all_goals (with_reducible rfl))
          simp only [Act.put, List.getElem_toArray, List.getElem_cons_succ, List.getElem_cons_zero, List.setIfInBounds_toArray, List.set_cons_zero, List.set_cons_succ]
          refine wpAnyH_take (i := 3) (v := ?_) rfl (by kernel_rfl) (by kernel_rfl) (by kernel_rfl) (fun _ _ _ h => h) (Or.inl ⟨by rfl, ?_⟩) (by assumption) ?_
          rotate_left
          · ((intro w' hSw); (try dsimp only at hSw); go_simp; all_goals (with_reducible rfl))
          simp only [Act.put, List.getElem_toArray, List.getElem_cons_succ, List.getElem_cons_zero, List.setIfInBounds_toArray, List.set_cons_zero, List.set_cons_succ]
          refine wpAnyH_ready (rs := [2]) (by kernel_rfl) (by simp) ?_
          refine AllReadyH.cons rfl (fun K hK => ?_) AllReadyH.nil
          go_simp
          refine hK.out _ _ ?_ (fun hHeld => ?_)
          · exact ST.out L _ (hHeld.2.2.step P ((Below.refl _ _).alloc (Nat.le_refl _) _))
          clear hK K
          refine wpAnyH_ready (rs := [4]) (by kernel_rfl) (by simp) ?_
          refine AllReadyH.cons rfl (fun K hK => ?_) AllReadyH.nil
          go_simp
          go_wp2_with (first | (go_at_call 21; refine (p_minus_none P (Held.lit hHeld.2.2 _ ⟨lo, hi⟩ N.out.1 N.out.2.1 rfl) (by first | exact List.Mem.head _ | exact List.Mem.tail _ (by rw [HL.out]; exact List.Mem.head _)) (by rfl) (by first | exact List.Mem.head _ | exact List.Mem.tail _ (by rw [HL.out]; exact List.Mem.head _)) (by rfl)).mono ?_; rintro e w1 ⟨A7, m7, c7, rfl, hm7, k7⟩; have H7 := Lib.hid (M.out m7 hm7); clear hm7; have k' := Held.drop k7; clear k7) | (go_at_call 26; refine (p_covers P (Held.nil hHeld.2.2) (List.Mem.head _) (by rfl) ⟨lo, hi⟩ N.out.1 N.out.2.1 _ CN.out).mono ?_; rintro e w1 ⟨rfl, k7⟩; have k' := Held.drop k7; clear k7) | fail)
          refine hK.out _ _ ?_ (fun hHeld => ?_)
          · exact ST.out L _ k'
          clear hK K
          refine wpAnyH_take (i := 5) (v := ?_) rfl (by kernel_rfl) (by kernel_rfl) (by kernel_rfl) (fun _ _ _ h => h) (Or.inl ⟨by rfl, ?_⟩) (by assumption) ?_
          rotate_left
          · ((intro w' hSw); (try dsimp only at hSw); go_simp; all_goals (with_reducible rfl))
          simp only [Act.put, List.getElem_toArray, List.getElem_cons_succ, List.getElem_cons_zero, List.setIfInBounds_toArray, List.set_cons_zero, List.set_cons_succ]
          refine wpAnyH_take (i := 6) (v := ?_) rfl (by kernel_rfl) (by kernel_rfl) (by kernel_rfl) (fun _ _ _ h => h) (Or.inl ⟨by rfl, ?_⟩) (by assumption) ?_
          rotate_left
          · ((intro w' hSw); (try dsimp only at hSw); go_simp; all_goals (with_reducible rfl))
          simp only [Act.put, List.getElem_toArray, List.getElem_cons_succ, List.getElem_cons_zero, List.setIfInBounds_toArray, List.set_cons_zero, List.set_cons_succ]
          rw [H7.out]
          refine wpAnyH_take (i := 7) (v := ?_) rfl (by kernel_rfl) (by kernel_rfl) (by kernel_rfl) (fun _ _ _ h => h) (Or.inl ⟨by rfl, ?_⟩) (by assumption) ?_
          rotate_left
          · ((intro w' hSw); (try dsimp only at hSw); go_simp; all_goals (with_reducible rfl))
          simp only [Act.put, List.getElem_toArray, List.getElem_cons_succ, List.getElem_cons_zero, List.setIfInBounds_toArray, List.set_cons_zero, List.set_cons_succ]
          refine wpAnyH_take (i := 8) (v := ?_) rfl (by kernel_rfl) (by kernel_rfl) (by kernel_rfl) (fun _ _ _ h => h) (Or.inl ⟨by rfl, ?_⟩) (by assumption) ?_
          rotate_left
          · ((intro w' hSw); (try dsimp only at hSw); go_simp; all_goals (with_reducible rfl))
          simp only [Act.put, List.getElem_toArray, List.getElem_cons_succ, List.getElem_cons_zero, List.setIfInBounds_toArray, List.set_cons_zero, List.set_cons_succ]
          refine wpAnyH_take (i := 9) (v := ?_) rfl (by kernel_rfl) (by kernel_rfl) (by kernel_rfl) (fun _ _ _ h => h) (Or.inl ⟨by rfl, ?_⟩) (by assumption) ?_
          rotate_left
          · ((intro w' hSw); (try dsimp only at hSw); go_simp; all_goals (with_reducible rfl))
          simp only [Act.put, List.getElem_toArray, List.getElem_cons_succ, List.getElem_cons_zero, List.setIfInBounds_toArray, List.set_cons_zero, List.set_cons_succ]
          refine wpAnyH_take (i := 11) (v := ?_) rfl (by kernel_rfl) (by kernel_rfl) (by kernel_rfl) (fun _ _ _ h => h) (Or.inl ⟨by rfl, ?_⟩) (by assumption) ?_
          rotate_left
          · ((intro w' hSw); (try dsimp only at hSw); go_simp; all_goals (with_reducible rfl))
          simp only [Act.put, List.getElem_toArray, List.getElem_cons_succ, List.getElem_cons_zero, List.setIfInBounds_toArray, List.set_cons_zero, List.set_cons_succ]
          refine wpAnyH_take (i := 12) (v := ?_) rfl (by kernel_rfl) (by kernel_rfl) (by kernel_rfl) (fun _ _ _ h => h) (Or.inl ⟨by rfl, ?_⟩) (by assumption) ?_
          rotate_left
          · ((intro w' hSw); (try dsimp only at hSw); go_simp; all_goals (with_reducible rfl))
          simp only [Act.put, List.getElem_toArray, List.getElem_cons_succ, List.getElem_cons_zero, List.setIfInBounds_toArray, List.set_cons_zero, List.set_cons_succ]
          refine wpAnyH_take (i := 13) (v := ?_) rfl (by kernel_rfl) (by kernel_rfl) (by kernel_rfl) (fun _ _ _ h => h) (Or.inl ⟨by rfl, ?_⟩) (by assumption) ?_
          rotate_left
          · ((intro w' hSw); (try dsimp only at hSw); go_simp; all_goals (with_reducible rfl))
          simp only [Act.put, List.getElem_toArray, List.getElem_cons_succ, List.getElem_cons_zero, List.setIfInBounds_toArray, List.set_cons_zero, List.set_cons_succ]
          refine wpAnyH_take (i := 14) (v := ?_) rfl (by kernel_rfl) (by kernel_rfl) (by kernel_rfl) (fun _ _ _ h => h) (Or.inl ⟨by rfl, ?_⟩) (by assumption) ?_
          rotate_left
          · ((intro w' hSw); (try dsimp only at hSw); go_simp; all_goals (with_reducible rfl))
          simp only [Act.put, List.getElem_toArray, List.getElem_cons_succ, List.getElem_cons_zero, List.setIfInBounds_toArray, List.set_cons_zero, List.set_cons_succ]
          refine wpAnyH_take (i := 15) (v := ?_) rfl (by kernel_rfl) (by kernel_rfl) (by kernel_rfl) (fun _ _ _ h => h) (Or.inl ⟨by rfl, ?_⟩) (by assumption) ?_
          rotate_left
          · ((intro w' hSw); (try dsimp only at hSw); go_simp; all_goals (with_reducible rfl))
          simp only [Act.put, List.getElem_toArray, List.getElem_cons_succ, List.getElem_cons_zero, List.setIfInBounds_toArray, List.set_cons_zero, List.set_cons_succ]
          (try rw [DG.out])
          refine wpAnyH_ready (rs := [10]) (by kernel_rfl) (by simp) ?_
          refine AllReadyH.cons rfl (fun K hK => ?_) AllReadyH.nil
          go_simp
          go_wp2_with (first | (go_at_call 21; refine (p_minus_none P (Held.lit hHeld.2.2 _ ⟨lo, hi⟩ N.out.1 N.out.2.1 rfl) (by first | exact List.Mem.head _ | exact List.Mem.tail _ (by rw [HL.out]; exact List.Mem.head _)) (by rfl) (by first | exact List.Mem.head _ | exact List.Mem.tail _ (by rw [HL.out]; exact List.Mem.head _)) (by rfl)).mono ?_; rintro e w1 ⟨A7, m7, c7, rfl, hm7, k7⟩; have H7 := Lib.hid (M.out m7 hm7); clear hm7; have k' := Held.drop k7; clear k7) | (go_at_call 26; refine (p_covers P (Held.nil hHeld.2.2) (List.Mem.head _) (by rfl) ⟨lo, hi⟩ N.out.1 N.out.2.1 _ CN.out).mono ?_; rintro e w1 ⟨rfl, k7⟩; have k' := Held.drop k7; clear k7) | fail)
          refine hK.out _ _ ?_ (fun hHeld => ?_)
          · exact ST.out L _ k'
          clear hK K
          refine wpAnyH_take (i := 16) (v := ?_) rfl (by kernel_rfl) (by kernel_rfl) (by kernel_rfl) (fun _ _ _ h => h) (Or.inl ⟨by rfl, ?_⟩) (by assumption) ?_
          rotate_left
          · ((intro w' hSw); (try dsimp only at hSw); go_simp; all_goals (with_reducible rfl))
          simp only [Act.put, List.getElem_toArray, List.getElem_cons_succ, List.getElem_cons_zero, List.setIfInBounds_toArray, List.set_cons_zero, List.set_cons_succ]
          refine wpAnyH_take (i := 17) (v := ?_) rfl (by kernel_rfl) (by kernel_rfl) (by kernel_rfl) (fun _ _ _ h => h) (Or.inl ⟨by rfl, ?_⟩) (by assumption) ?_
          rotate_left
          · ((intro w' hSw); (try dsimp only at hSw); go_simp; all_goals (with_reducible rfl))
          simp only [Act.put, List.getElem_toArray, List.getElem_cons_succ, List.getElem_cons_zero, List.setIfInBounds_toArray, List.set_cons_zero, List.set_cons_succ]
          refine wpAnyH_done (by kernel_rfl) ?_ _
          have K9 := Lib.hid hHeld.2.2
          obtain ⟨q0, q1⟩ := BX.out _ K9.out.low
          clear hHeld hlh
          by_cases d1 : cut < lo
          · go_wp2
            go_ret
            exact ⟨rfl, B0.out.trans (K9.out.low.mono B0.out.size)⟩
          · by_cases d2 : hi < cut
            · go_wp2
              go_ret
              exact ⟨rfl, B0.out.trans (K9.out.low.mono B0.out.size)⟩
            · have hcs := CS.out (by omega) (by omega)
              cases c1 <;> cases c2 <;> first | (exact absurd hcs (by decide)) | skip
              all_goals
                clear hcs
                go_wp2_with (first | (go_at_call 26; with_reducible refine (p_covers P (by with_reducible exact K9.out) (by rw [HL.out]; exact List.mem_cons_self ..) (by decide) ⟨lo, cut⟩ N.out.1 N.out.2.2 _ (by first | (with_reducible exact C1.out) | fail)).mono ?_; rintro e w1 ⟨rfl, k'⟩; replace K9 := Lib.hid k'; clear k'; obtain ⟨q0, q1⟩ := BX.out _ K9.out.low) | (go_at_call 26; with_reducible refine (p_covers P (by with_reducible exact K9.out) (by rw [HL.out]; exact List.mem_cons_self ..) (by decide) ⟨cut, hi⟩ N.out.2.2 N.out.2.1 _ (by first | (with_reducible exact C2.out) | fail)).mono ?_; rintro e w1 ⟨rfl, k'⟩; replace K9 := Lib.hid k'; clear k'; obtain ⟨q0, q1⟩ := BX.out _ K9.out.low) | fail)
                go_ret
                exact ⟨rfl, B0.out.trans (K9.out.low.mono B0.out.size)⟩
        · refine wp_region_held_drew (S := (fun W' => W'.cell? ⟨w.heap.size, 0, none⟩ = some (.int .i64 lo) ∧ W'.cell? ⟨w.heap.size, 1, none⟩ = some (.int .i64 hi) ∧ Held Env w0 W' L)) (by kernel_rfl) (by exact ST.out L _ (KR.out.step P (below_drewN _ _))) (fun hHeld => ?_)
          refine wpAnyH_take (i := 0) (v := ?_) rfl (by kernel_rfl) (by kernel_rfl) (by kernel_rfl) (fun _ _ _ h => h) (Or.inl ⟨by rfl, ?_⟩) (by assumption) ?_
          rotate_left
          · ((intro w' hSw); (try dsimp only at hSw); go_simp; all_goals (with_reducible rfl))
          simp only [Act.put, List.getElem_toArray, List.getElem_cons_zero, List.setIfInBounds_toArray, List.set_cons_zero, List.set_cons_succ]
          refine wpAnyH_take (i := 1) (v := ?_) rfl (by kernel_rfl) (by kernel_rfl) (by kernel_rfl) (fun _ _ _ h => h) (Or.inl ⟨by rfl, ?_⟩) (by assumption) ?_
          rotate_left
          · ((intro w' hSw); (try dsimp only at hSw); go_simp; all_goals (with_reducible rfl))
          simp only [Act.put, List.getElem_toArray, List.getElem_cons_succ, List.getElem_cons_zero, List.setIfInBounds_toArray, List.set_cons_zero, List.set_cons_succ]
          refine wpAnyH_take (i := 3) (v := ?_) rfl (by kernel_rfl) (by kernel_rfl) (by kernel_rfl) (fun _ _ _ h => h) (Or.inl ⟨by rfl, ?_⟩) (by assumption) ?_
          rotate_left
          · ((intro w' hSw); (try dsimp only at hSw); go_simp; all_goals (with_reducible rfl))
          simp only [Act.put, List.getElem_toArray, List.getElem_cons_succ, List.getElem_cons_zero, List.setIfInBounds_toArray, List.set_cons_zero, List.set_cons_succ]
          refine wpAnyH_ready (rs := [2]) (by kernel_rfl) (by simp) ?_
          refine AllReadyH.cons rfl (fun K hK => ?_) AllReadyH.nil
          go_simp
          refine hK.out _ _ ?_ (fun hHeld => ?_)
          · exact ST.out L _ (hHeld.2.2.step P ((Below.refl _ _).alloc (Nat.le_refl _) _))
          clear hK K
          refine wpAnyH_ready (rs := [4]) (by kernel_rfl) (by simp) ?_
          refine AllReadyH.cons rfl (fun K hK => ?_) AllReadyH.nil
          go_simp
          go_wp2_with (first | (go_at_call 21; refine (p_minus_none P (Held.lit hHeld.2.2 _ ⟨lo, hi⟩ N.out.1 N.out.2.1 rfl) (by first | exact List.Mem.head _ | exact List.Mem.tail _ (by rw [HL.out]; exact List.Mem.head _)) (by rfl) (by first | exact List.Mem.head _ | exact List.Mem.tail _ (by rw [HL.out]; exact List.Mem.head _)) (by rfl)).mono ?_; rintro e w1 ⟨A7, m7, c7, rfl, hm7, k7⟩; have H7 := Lib.hid (M.out m7 hm7); clear hm7; have k' := Held.drop k7; clear k7) | (go_at_call 26; refine (p_covers P (Held.nil hHeld.2.2) (List.Mem.head _) (by rfl) ⟨lo, hi⟩ N.out.1 N.out.2.1 _ CN.out).mono ?_; rintro e w1 ⟨rfl, k7⟩; have k' := Held.drop k7; clear k7) | fail)
          refine hK.out _ _ ?_ (fun hHeld => ?_)
          · exact ST.out L _ k'
          clear hK K
          refine wpAnyH_take (i := 5) (v := ?_) rfl (by kernel_rfl) (by kernel_rfl) (by kernel_rfl) (fun _ _ _ h => h) (Or.inl ⟨by rfl, ?_⟩) (by assumption) ?_
          rotate_left
          · ((intro w' hSw); (try dsimp only at hSw); go_simp; all_goals (with_reducible rfl))
          simp only [Act.put, List.getElem_toArray, List.getElem_cons_succ, List.getElem_cons_zero, List.setIfInBounds_toArray, List.set_cons_zero, List.set_cons_succ]
          refine wpAnyH_take (i := 6) (v := ?_) rfl (by kernel_rfl) (by kernel_rfl) (by kernel_rfl) (fun _ _ _ h => h) (Or.inl ⟨by rfl, ?_⟩) (by assumption) ?_
          rotate_left
          · ((intro w' hSw); (try dsimp only at hSw); go_simp; all_goals (with_reducible rfl))
          simp only [Act.put, List.getElem_toArray, List.getElem_cons_succ, List.getElem_cons_zero, List.setIfInBounds_toArray, List.set_cons_zero, List.set_cons_succ]
          rw [H7.out]
          refine wpAnyH_take (i := 7) (v := ?_) rfl (by kernel_rfl) (by kernel_rfl) (by kernel_rfl) (fun _ _ _ h => h) (Or.inl ⟨by rfl, ?_⟩) (by assumption) ?_
          rotate_left
          · ((intro w' hSw); (try dsimp only at hSw); go_simp; all_goals (with_reducible rfl))
          simp only [Act.put, List.getElem_toArray, List.getElem_cons_succ, List.getElem_cons_zero, List.setIfInBounds_toArray, List.set_cons_zero, List.set_cons_succ]
          refine wpAnyH_take (i := 8) (v := ?_) rfl (by kernel_rfl) (by kernel_rfl) (by kernel_rfl) (fun _ _ _ h => h) (Or.inl ⟨by rfl, ?_⟩) (by assumption) ?_
          rotate_left
          · ((intro w' hSw); (try dsimp only at hSw); go_simp; all_goals (with_reducible rfl))
          simp only [Act.put, List.getElem_toArray, List.getElem_cons_succ, List.getElem_cons_zero, List.setIfInBounds_toArray, List.set_cons_zero, List.set_cons_succ]
          refine wpAnyH_take (i := 9) (v := ?_) rfl (by kernel_rfl) (by kernel_rfl) (by kernel_rfl) (fun _ _ _ h => h) (Or.inl ⟨by rfl, ?_⟩) (by assumption) ?_
          rotate_left
          · ((intro w' hSw); (try dsimp only at hSw); go_simp; all_goals (with_reducible rfl))
          simp only [Act.put, List.getElem_toArray, List.getElem_cons_succ, List.getElem_cons_zero, List.setIfInBounds_toArray, List.set_cons_zero, List.set_cons_succ]
          refine wpAnyH_take (i := 11) (v := ?_) rfl (by kernel_rfl) (by kernel_rfl) (by kernel_rfl) (fun _ _ _ h => h) (Or.inl ⟨by rfl, ?_⟩) (by assumption) ?_
          rotate_left
          · ((intro w' hSw); (try dsimp only at hSw); go_simp; all_goals (with_reducible rfl))
          simp only [Act.put, List.getElem_toArray, List.getElem_cons_succ, List.getElem_cons_zero, List.setIfInBounds_toArray, List.set_cons_zero, List.set_cons_succ]
          refine wpAnyH_take (i := 12) (v := ?_) rfl (by kernel_rfl) (by kernel_rfl) (by kernel_rfl) (fun _ _ _ h => h) (Or.inl ⟨by rfl, ?_⟩) (by assumption) ?_
          rotate_left
          · ((intro w' hSw); (try dsimp only at hSw); go_simp; all_goals (with_reducible rfl))
          simp only [Act.put, List.getElem_toArray, List.getElem_cons_succ, List.getElem_cons_zero, List.setIfInBounds_toArray, List.set_cons_zero, List.set_cons_succ]
          refine wpAnyH_take (i := 13) (v := ?_) rfl (by kernel_rfl) (by kernel_rfl) (by kernel_rfl) (fun _ _ _ h => h) (Or.inl ⟨by rfl, ?_⟩) (by assumption) ?_
          rotate_left
          · ((intro w' hSw); (try dsimp only at hSw); go_simp; all_goals (with_reducible rfl))
          simp only [Act.put, List.getElem_toArray, List.getElem_cons_succ, List.getElem_cons_zero, List.setIfInBounds_toArray, List.set_cons_zero, List.set_cons_succ]
          refine wpAnyH_take (i := 14) (v := ?_) rfl (by kernel_rfl) (by kernel_rfl) (by kernel_rfl) (fun _ _ _ h => h) (Or.inl ⟨by rfl, ?_⟩) (by assumption) ?_
          rotate_left
          · ((intro w' hSw); (try dsimp only at hSw); go_simp; all_goals (with_reducible rfl))
          simp only [Act.put, List.getElem_toArray, List.getElem_cons_succ, List.getElem_cons_zero, List.setIfInBounds_toArray, List.set_cons_zero, List.set_cons_succ]
          refine wpAnyH_take (i := 15) (v := ?_) rfl (by kernel_rfl) (by kernel_rfl) (by kernel_rfl) (fun _ _ _ h => h) (Or.inl ⟨by rfl, ?_⟩) (by assumption) ?_
          rotate_left
          · ((intro w' hSw); (try dsimp only at hSw); go_simp; all_goals (with_reducible rfl))
          simp only [Act.put, List.getElem_toArray, List.getElem_cons_succ, List.getElem_cons_zero, List.setIfInBounds_toArray, List.set_cons_zero, List.set_cons_succ]
          (try rw [DG.out])
          refine wpAnyH_ready (rs := [10]) (by kernel_rfl) (by simp) ?_
          refine AllReadyH.cons rfl (fun K hK => ?_) AllReadyH.nil
          go_simp
          go_wp2_with (first | (go_at_call 21; refine (p_minus_none P (Held.lit hHeld.2.2 _ ⟨lo, hi⟩ N.out.1 N.out.2.1 rfl) (by first | exact List.Mem.head _ | exact List.Mem.tail _ (by rw [HL.out]; exact List.Mem.head _)) (by rfl) (by first | exact List.Mem.head _ | exact List.Mem.tail _ (by rw [HL.out]; exact List.Mem.head _)) (by rfl)).mono ?_; rintro e w1 ⟨A7, m7, c7, rfl, hm7, k7⟩; have H7 := Lib.hid (M.out m7 hm7); clear hm7; have k' := Held.drop k7; clear k7) | (go_at_call 26; refine (p_covers P (Held.nil hHeld.2.2) (List.Mem.head _) (by rfl) ⟨lo, hi⟩ N.out.1 N.out.2.1 _ CN.out).mono ?_; rintro e w1 ⟨rfl, k7⟩; have k' := Held.drop k7; clear k7) | fail)
          refine hK.out _ _ ?_ (fun hHeld => ?_)
          · exact ST.out L _ k'
          clear hK K
          refine wpAnyH_take (i := 16) (v := ?_) rfl (by kernel_rfl) (by kernel_rfl) (by kernel_rfl) (fun _ _ _ h => h) (Or.inl ⟨by rfl, ?_⟩) (by assumption) ?_
          rotate_left
          · ((intro w' hSw); (try dsimp only at hSw); go_simp; all_goals (with_reducible rfl))
          simp only [Act.put, List.getElem_toArray, List.getElem_cons_succ, List.getElem_cons_zero, List.setIfInBounds_toArray, List.set_cons_zero, List.set_cons_succ]
          refine wpAnyH_take (i := 17) (v := ?_) rfl (by kernel_rfl) (by kernel_rfl) (by kernel_rfl) (fun _ _ _ h => h) (Or.inl ⟨by rfl, ?_⟩) (by assumption) ?_
          rotate_left
          · ((intro w' hSw); (try dsimp only at hSw); go_simp; all_goals (with_reducible rfl))
          simp only [Act.put, List.getElem_toArray, List.getElem_cons_succ, List.getElem_cons_zero, List.setIfInBounds_toArray, List.set_cons_zero, List.set_cons_succ]
          refine wpAnyH_done (by kernel_rfl) ?_ _
          have K9 := Lib.hid hHeld.2.2
          obtain ⟨q0, q1⟩ := BX.out _ K9.out.low
          clear hHeld hlh
          by_cases d1 : cut < lo
          · go_wp2
            go_ret
            exact ⟨rfl, B0.out.trans (K9.out.low.mono B0.out.size)⟩
          · by_cases d2 : hi < cut
            · go_wp2
              go_ret
              exact ⟨rfl, B0.out.trans (K9.out.low.mono B0.out.size)⟩
            · have hcs := CS.out (by omega) (by omega)
              cases c1 <;> cases c2 <;> first | (exact absurd hcs (by decide)) | skip
              all_goals
                clear hcs
                go_wp2_with (first | (go_at_call 26; with_reducible refine (p_covers P (by with_reducible exact K9.out) (by rw [HL.out]; exact List.mem_cons_self ..) (by decide) ⟨lo, cut⟩ N.out.1 N.out.2.2 _ (by first | (with_reducible exact C1.out) | fail)).mono ?_; rintro e w1 ⟨rfl, k'⟩; replace K9 := Lib.hid k'; clear k'; obtain ⟨q0, q1⟩ := BX.out _ K9.out.low) | (go_at_call 26; with_reducible refine (p_covers P (by with_reducible exact K9.out) (by rw [HL.out]; exact List.mem_cons_self ..) (by decide) ⟨cut, hi⟩ N.out.2.2 N.out.2.1 _ (by first | (with_reducible exact C2.out) | fail)).mono ?_; rintro e w1 ⟨rfl, k'⟩; replace K9 := Lib.hid k'; clear k'; obtain ⟨q0, q1⟩ := BX.out _ K9.out.low) | fail)
                go_ret
                exact ⟨rfl, B0.out.trans (K9.out.low.mono B0.out.size)⟩
end Go.Proofs.Ytkmbidmncnlbkaa
