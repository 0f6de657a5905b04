/-
  Contracts of the landed package: Put, Cut.
-/
import Derived.Test.YtggnklcjhbahhaaFl
namespace Go.Proofs.Ytggnklcjhbahhaa
open Go.RowKit Go.Shelf Ex
attribute [local go_sem] Oper.semAt_some
set_option maxHeartbeats 400000
set_option maxRecDepth 100000

section
variable (A : Option Addr) (n c : Nat) (b : List Pc) (h : Bod b n) (w : World) (hA : Pcs w A b)
include h hA
theorem exPutArg_any (off id k : Int) (hno : ¬ (1 ≤ id ∧ id < 4096 ∧ 0 ≤ off ∧ 1 ≤ k)) :
    Calls Try.prog 39 #[.slice A n c, .int .i64 off, .int .i64 id, .int .i64 k] w fun e w' => ∃ A' c', e = .returned (.tuple #[.slice A' 0 c', .int .i64 1]) ∧ Below w.heap.size w w' := by
  have CV := Lib.hid (h.validC A c hA w (Below.refl _ _))
  obtain ⟨r, hr⟩ : ∃ r, chunkB id = r := ⟨_, rfl⟩
  have CC := Lib.hid (chunk_c hr)
  clear h hA
  cases r
  · clear hr hno
    go_enter Try.func39, Try.ntmps39
    go_wp2_with (first | (go_at_call 31; refine CV.out.mono ?_; rintro e w1 ⟨rfl, hb1⟩; have HB1 := Lib.hid hb1; clear hb1) | (go_at_call 41; refine (CC.out _).mono ?_; rintro e w2 ⟨rfl, rfl⟩))
    refine bodyPost_ret (results_tmp2 rfl _ _ _) rfl ?_
    exact ⟨_, _, rfl, HB1.out⟩
  · have hc := chunk_iff.1 hr
    clear hr
    by_cases h0 : off < 0
    · clear hno
      go_enter Try.func39, Try.ntmps39
      go_wp2_with (first | (go_at_call 31; refine CV.out.mono ?_; rintro e w1 ⟨rfl, hb1⟩; have HB1 := Lib.hid hb1; clear hb1) | (go_at_call 41; refine (CC.out _).mono ?_; rintro e w2 ⟨rfl, rfl⟩))
      refine bodyPost_ret (results_tmp2 rfl _ _ _) rfl ?_
      exact ⟨_, _, rfl, HB1.out⟩
    · have h1 : k < 1 := by omega
      clear hno
      go_enter Try.func39, Try.ntmps39
      go_wp2_with (first | (go_at_call 31; refine CV.out.mono ?_; rintro e w1 ⟨rfl, hb1⟩; have HB1 := Lib.hid hb1; clear hb1) | (go_at_call 41; refine (CC.out _).mono ?_; rintro e w2 ⟨rfl, rfl⟩))
      refine bodyPost_ret (results_tmp2 rfl _ _ _) rfl ?_
      exact ⟨_, _, rfl, HB1.out⟩
theorem exPutBig_any (off id k : Int) (hid : 1 ≤ id) (hid' : id < 4096) (h0 : 0 ≤ off) (h1 : 1 ≤ k) (h2 : 1048576 < off + k) (hk : k ≤ 9223372036854775807) :
    Calls Try.prog 39 #[.slice A n c, .int .i64 off, .int .i64 id, .int .i64 k] w fun e w' => ∃ A' c', e = .returned (.tuple #[.slice A' 0 c', .int .i64 2]) ∧ Below w.heap.size w w' := by
  have CV := Lib.hid (h.validC A c hA w (Below.refl _ _))
  have CC := Lib.hid (chunk_c (chunk_iff.2 ⟨hid, hid'⟩))
  have e0 : ¬ off < 0 := by omega
  have e1 : ¬ k < 1 := by omega
  have hw : IntKind.i64.wrap (1048576 - k) = 1048576 - k := IntWalk.i64_in _ (by omega)
  have e2 : off > 1048576 - k := by omega
  clear h hA
  go_enter Try.func39, Try.ntmps39
  go_wp2_with (first | (go_at_call 31; refine CV.out.mono ?_; rintro e w1 ⟨rfl, hb1⟩; have HB1 := Lib.hid hb1; clear hb1) | (go_at_call 41; refine (CC.out _).mono ?_; rintro e w2 ⟨rfl, rfl⟩))
  refine bodyPost_ret (results_tmp2 rfl _ _ _) rfl ?_
  exact ⟨_, _, rfl, HB1.out⟩
set_option maxHeartbeats 2000000 in
theorem exPutYes_any (off id k : Int) (hid : 1 ≤ id) (hid' : id < 4096) (h0 : 0 ≤ off) (h1 : 1 ≤ k) (h2 : off + k ≤ 1048576) :
    Calls Try.prog 39 #[.slice A n c, .int .i64 off, .int .i64 id, .int .i64 k] w fun e w' => ∃ A' m c' r, e = .returned (.tuple #[.slice A' m c', .int .i64 0]) ∧ Sp w.heap.size w' A' m c' r ∧ validL r = true ∧ eachL r = putB (eachL b) off id k ∧ Below w.heap.size w w' := by
  have CV := Lib.hid (h.validC A c hA w (Below.refl _ _))
  have CC := Lib.hid (chunk_c (chunk_iff.2 ⟨hid, hid'⟩))
  have CS := Lib.hid (fun W hW => h.sizeC A c hA W hW)
  have e0 : ¬ off < 0 := by omega
  have e1 : ¬ k < 1 := by omega
  have hw : IntKind.i64.wrap (1048576 - k) = 1048576 - k := IntWalk.i64_in _ (by omega)
  have e2 : ¬ off > 1048576 - k := by omega
  have s0 := h.size0
  have s1 := h.size
  have hpr : rightB ⟨id, 0, k⟩ = true := right_iff.2 ⟨h1, by simp only []; omega, Int.le_refl _, .inr ⟨hid, hid', by simp only []; omega⟩⟩
  have hE := put_each h.right hid h0 h1
  have hlen : ((eachL b).length : Int) = sizeL b := eachL_len fun p hp => by have := (right_iff.1 (h.right p hp)).1; omega
  obtain ⟨s, hs⟩ : ∃ s, sizeL b = s := ⟨_, rfl⟩
  rw [hs] at s0 s1 CS hE hlen
  have CW1 := Lib.hid (fun W hW => h.withinC A c hA W hW 0 off (by omega) (by omega) (by omega) (by omega))
  have CW2 := Lib.hid (fun W hW => h.withinC A c hA W hW (off + k) s (by omega) (by omega) (by omega) (by omega))
  have CH := Lib.hid (fun W => hole_c (off - s) (by omega) W)
  have CO := Lib.hid (fun W => oneSeq_c ⟨id, 0, k⟩ hpr W)
  have hR : ∀ p ∈ withinL 0 off 0 b ++ (holeL (off - s) ++ ([⟨id, 0, k⟩] ++ withinL (off + k) s 0 b)), rightB p = true := fun p hp => by
    rcases List.mem_append.1 hp with hp | hp
    · exact within_right h.right p hp
    rcases List.mem_append.1 hp with hp | hp
    · exact hole_right (by omega) p hp
    rcases List.mem_append.1 hp with hp | hp
    · rw [List.mem_singleton.1 hp]; exact hpr
    · exact within_right h.right p hp
  have hL : (putB (eachL b) off id k).length ≤ 1048576 := by
    unfold putB
    rw [List.length_map, List.length_range]
    omega
  have CJ := Lib.hid (fun (W : World) (v1 v2 v3 v4 : Value) (g1 : Gives W v1 (withinL 0 off 0 b)) (g2 : Gives W v2 (holeL (off - s))) (g3 : Gives W v3 [⟨id, 0, k⟩]) (g4 : Gives W v4 (withinL (off + k) s 0 b)) =>
    joined_c [(v1, withinL 0 off 0 b), (v2, holeL (off - s)), (v3, [⟨id, 0, k⟩]), (v4, withinL (off + k) s 0 b)] (by simp) W (fun r hr => by
      simp only [List.mem_cons, List.not_mem_nil, or_false] at hr
      rcases hr with rfl | rfl | rfl | rfl
      · exact g1
      · exact g2
      · exact g3
      · exact g4) (by simpa [flatR] using hR) (by
        have : flatR [(v1, withinL 0 off 0 b), (v2, holeL (off - s)), (v3, [⟨id, 0, k⟩]), (v4, withinL (off + k) s 0 b)] = withinL 0 off 0 b ++ (holeL (off - s) ++ ([⟨id, 0, k⟩] ++ withinL (off + k) s 0 b)) := by simp [flatR]
        rw [this, hE]; exact hL) (withinL 0 off 0 b ++ (holeL (off - s) ++ ([⟨id, 0, k⟩] ++ withinL (off + k) s 0 b))) (by simp [flatR]) [v1, v2, v3, v4] rfl 4 rfl)
  have HE := Lib.hid hE
  clear h hA hE hR hL hlen hpr hs
  go_enter Try.func39, Try.ntmps39
  go_wp2_with (first | (go_at_call 32; refine (CJ.out _ _ _ _ _ HG4.out HG5.out HG6.out HG7.out).mono ?_; rintro e w8 ⟨A', m, c', rfl, hr1, hr2, hr3, hr4⟩; have HX := Lib.hid (And.intro hr1 (And.intro hr2 (And.intro hr3 hr4))); clear hr1 hr2 hr3 hr4) | (go_at_call 31; refine CV.out.mono ?_; rintro e w1 ⟨rfl, hb1⟩; have HB1 := Lib.hid hb1; clear hb1) | (go_at_call 41; refine (CC.out _).mono ?_; rintro e w2 ⟨rfl, rfl⟩) | (go_at_call 19; refine (CS.out _ HB1.out).mono ?_; rintro e w3 ⟨rfl, hb3⟩; have HB3 := Lib.hid (HB1.out.trans (hb3.mono HB1.out.size)); clear hb3) | (go_at_call 33; (with_reducible refine (CW1.out _ HB3.out).mono ?_); rintro e w4 ⟨gf4, lb4, rfl, hg4, hb4⟩; have HB4 := Lib.hid (HB3.out.trans (hb4.mono HB3.out.size)); have HG4 := Lib.hid hg4; clear hb4 hg4) | (go_at_call 53; refine (CH.out _).mono ?_; rintro e w5 ⟨gf5, lb5, rfl, hg5, hb5⟩; have HB5 := Lib.hid (HB4.out.trans (hb5.mono HB4.out.size)); have HG5 := Lib.hid hg5; replace HG4 := Lib.hid (HG4.out.below hb5); clear hb5 hg5) | (go_at_call 54; refine (CO.out _).mono ?_; rintro e w6 ⟨gf6, lb6, rfl, hg6, hb6⟩; have HB6 := Lib.hid (HB5.out.trans (hb6.mono HB5.out.size)); have HG6 := Lib.hid hg6; replace HG4 := Lib.hid (HG4.out.below hb6); replace HG5 := Lib.hid (HG5.out.below hb6); clear hb6 hg6) | (go_at_call 33; (with_reducible refine (CW2.out _ HB6.out).mono ?_); rintro e w7 ⟨gf7, lb7, rfl, hg7, hb7⟩; have HB7 := Lib.hid (HB6.out.trans (hb7.mono HB6.out.size)); have HG7 := Lib.hid hg7; replace HG4 := Lib.hid (HG4.out.below hb7); replace HG5 := Lib.hid (HG5.out.below hb7); replace HG6 := Lib.hid (HG6.out.below hb7); clear hb7 hg7))
  refine bodyPost_ret (results_tmp2 rfl _ _ _) rfl ?_
  obtain ⟨x1, x2, x3, x4⟩ := HX.out
  exact ⟨_, _, _, _, rfl, x1.mono HB7.out.size, x2, x3.trans HE.out, HB7.out.trans (x4.mono HB7.out.size)⟩
theorem exCutArg_any (k : Int) (hk : k < 0) :
    Calls Try.prog 40 #[.slice A n c, .int .i64 k] w fun e w' => ∃ A' c', e = .returned (.tuple #[.slice A' 0 c', .int .i64 1]) ∧ Below w.heap.size w w' := by
  have CV := Lib.hid (h.validC A c hA w (Below.refl _ _))
  clear h hA
  go_enter Try.func40, Try.ntmps40
  go_wp2_with (go_at_call 31; refine CV.out.mono ?_; rintro e w1 ⟨rfl, hb1⟩; have HB1 := Lib.hid hb1; clear hb1)
  refine bodyPost_ret (results_tmp2 rfl _ _ _) rfl ?_
  exact ⟨_, _, rfl, HB1.out⟩
theorem exCutBig_any (k : Int) (hk : 1048576 < k) :
    Calls Try.prog 40 #[.slice A n c, .int .i64 k] w fun e w' => ∃ A' c', e = .returned (.tuple #[.slice A' 0 c', .int .i64 2]) ∧ Below w.heap.size w w' := by
  have CV := Lib.hid (h.validC A c hA w (Below.refl _ _))
  have e0 : ¬ k < 0 := by omega
  clear h hA
  go_enter Try.func40, Try.ntmps40
  go_wp2_with (go_at_call 31; refine CV.out.mono ?_; rintro e w1 ⟨rfl, hb1⟩; have HB1 := Lib.hid hb1; clear hb1)
  refine bodyPost_ret (results_tmp2 rfl _ _ _) rfl ?_
  exact ⟨_, _, rfl, HB1.out⟩
set_option maxHeartbeats 2000000 in
theorem exCutYes_any (k : Int) (h0 : 0 ≤ k) (h1 : k ≤ 1048576) :
    Calls Try.prog 40 #[.slice A n c, .int .i64 k] w fun e w' => ∃ A' m c' r, e = .returned (.tuple #[.slice A' m c', .int .i64 0]) ∧ Sp w.heap.size w' A' m c' r ∧ validL r = true ∧ eachL r = cutB (eachL b) k ∧ Below w.heap.size w w' := by
  have CV := Lib.hid (h.validC A c hA w (Below.refl _ _))
  have CS := Lib.hid (fun W hW => h.sizeC A c hA W hW)
  have e0 : ¬ k < 0 := by omega
  have e1 : ¬ k > 1048576 := by omega
  have s0 := h.size0
  have s1 := h.size
  have hE := cut_each h.right h0
  obtain ⟨s, hs⟩ : ∃ s, sizeL b = s := ⟨_, rfl⟩
  rw [hs] at s0 s1 CS hE
  have CW1 := Lib.hid (fun W hW => h.withinC A c hA W hW 0 k (by omega) (by omega) (by omega) (by omega))
  have CH := Lib.hid (fun W => hole_c (k - s) (by omega) W)
  have hR : ∀ p ∈ withinL 0 k 0 b ++ holeL (k - s), rightB p = true := fun p hp => by
    rcases List.mem_append.1 hp with hp | hp
    · exact within_right h.right p hp
    · exact hole_right (by omega) p hp
  have hL : (cutB (eachL b) k).length ≤ 1048576 := by
    unfold cutB
    rw [List.length_map, List.length_range]
    omega
  have CJ := Lib.hid (fun (W : World) (v1 v2 : Value) (g1 : Gives W v1 (withinL 0 k 0 b)) (g2 : Gives W v2 (holeL (k - s))) =>
    joined_c [(v1, withinL 0 k 0 b), (v2, holeL (k - s))] (by simp) W (fun r hr => by
      simp only [List.mem_cons, List.not_mem_nil, or_false] at hr
      rcases hr with rfl | rfl
      · exact g1
      · exact g2) (by simpa [flatR] using hR) (by
        have : flatR [(v1, withinL 0 k 0 b), (v2, holeL (k - s))] = withinL 0 k 0 b ++ holeL (k - s) := by simp [flatR]
        rw [this, hE]; exact hL) (withinL 0 k 0 b ++ holeL (k - s)) (by simp [flatR]) [v1, v2] rfl 2 rfl)
  have HE := Lib.hid hE
  clear h hA hE hR hL hs
  go_enter Try.func40, Try.ntmps40
  go_wp2_with (first | (go_at_call 32; refine (CJ.out _ _ _ HG4.out HG5.out).mono ?_; rintro e w8 ⟨A', m, c', rfl, hr1, hr2, hr3, hr4⟩; have HX := Lib.hid (And.intro hr1 (And.intro hr2 (And.intro hr3 hr4))); clear hr1 hr2 hr3 hr4) | (go_at_call 31; refine CV.out.mono ?_; rintro e w1 ⟨rfl, hb1⟩; have HB1 := Lib.hid hb1; clear hb1) | (go_at_call 33; refine (CW1.out _ HB1.out).mono ?_; rintro e w4 ⟨gf4, lb4, rfl, hg4, hb4⟩; have HB4 := Lib.hid (HB1.out.trans (hb4.mono HB1.out.size)); have HG4 := Lib.hid hg4; clear hb4 hg4) | (go_at_call 19; refine (CS.out _ HB4.out).mono ?_; rintro e w3 ⟨rfl, hb3⟩; have HB3 := Lib.hid (HB4.out.trans (hb3.mono HB4.out.size)); replace HG4 := Lib.hid (HG4.out.below hb3); clear hb3) | (go_at_call 53; refine (CH.out _).mono ?_; rintro e w5 ⟨gf5, lb5, rfl, hg5, hb5⟩; have HB5 := Lib.hid (HB3.out.trans (hb5.mono HB3.out.size)); have HG5 := Lib.hid hg5; replace HG4 := Lib.hid (HG4.out.below hb5); clear hb5 hg5))
  refine bodyPost_ret (results_tmp2 rfl _ _ _) rfl ?_
  obtain ⟨x1, x2, x3, x4⟩ := HX.out
  exact ⟨_, _, _, _, rfl, x1.mono HB5.out.size, x2, x3.trans HE.out, HB5.out.trans (x4.mono HB5.out.size)⟩
end
end Go.Proofs.Ytggnklcjhbahhaa
