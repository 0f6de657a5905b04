/-
  Contracts of the landed package: Valid, and the test of Has.
-/
import Derived.Test.YtkmbidmncnlbkaaNd
import Derived.Test.YtkmbidmncnlbkaaNj
namespace Go.Proofs.Ytkmbidmncnlbkaa
open Go.RowKit Sn
set_option maxHeartbeats 400000
set_option maxRecDepth 100000

abbrev bx (w : World) (s : S) : World := w.alloc (.cells #[.int .i64 s.lo, .int .i64 s.hi] 24)
theorem box_two (w : World) (s : S) : (bx w s).cell? ⟨w.heap.size, 0, none⟩ = some (.int .i64 s.lo) ∧ (bx w s).cell? ⟨w.heap.size, 1, none⟩ = some (.int .i64 s.hi) := by
  have h := fun j => cell_of_row (bx w s) w.heap.size j _ _ (0, 0) (heap_alloc_new w _)
  exact ⟨h 0, h 1⟩
theorem box_low (w : World) (s : S) : Below w.heap.size w (bx w s) := (Below.refl _ w).alloc (Nat.le_refl _) _

set_option maxHeartbeats 4000000 in
theorem spValid_any (A : Option Addr) (n c : Nat) (l : List S) (hn : l.length = n) (hl : n ≤ 4294967296) (w : World) (hA : Sps w A l) :
    Calls Try.prog 12 #[.slice A n c] w fun e w' => e = .returned (.bool (setB l)) ∧ Below w.heap.size w w' := by
  have HN := Lib.hid hn
  have SA := Lib.hid hA
  clear hn hA
  go_enter Try.func12, Try.ntmps12
  go_wp2
  go_loopw [7] (fun i wr => ∃ k : Nat, k ≤ n ∧ i = .int .i64 k ∧ setB (l.take k) = true ∧ Below w.heap.size w wr) (fun i _ => n - (intOf i).toNat)
  case atStart => exact ⟨0, Nat.zero_le _, rfl, rfl, Below.refl _ _⟩
  case round =>
    obtain ⟨k, hk, rfl, hlk, hbw⟩ := hrel
    have HLK := Lib.hid hlk
    have HB := Lib.hid hbw
    clear hlk
    by_cases hlt : k < n
    · have hkl : k < l.length := by rw [HN.out]; exact hlt
      obtain ⟨g, o, rfl, hg, q0, q1⟩ := (SA.out.below hbw).at_ (List.getElem?_eq_getElem hkl)
      have k0 : (0 : Int) ≤ (k : Int) := Int.natCast_nonneg k
      have kn : (k : Int) < (n : Int) := Int.ofNat_lt.2 hlt
      rcases Nat.eq_zero_or_pos k with hz | hz
      · subst hz
        have hst : setB (l.take (0 + 1)) = decide (l[0].lo < l[0].hi) := by
          rw [List.take_succ_eq_append_getElem hkl]; exact set_first _
        obtain ⟨s, hs⟩ : ∃ a, l[0] = a := ⟨_, rfl⟩
        rw [hs] at q0 q1 hst
        have HST := Lib.hid hst
        clear hst hs SA
        have q0' : wr.cell? ⟨g, o, none⟩ = some (.int .i64 s.lo) := by simpa using q0
        have q1' : wr.cell? ⟨g, o + 1, none⟩ = some (.int .i64 s.hi) := by simpa using q1
        obtain ⟨b0, b1⟩ := box_two wr s
        have BW := Lib.hid (fun m => HB.out.trans (((box_low wr s).trans ((below_drewN _ m).mono (box_low wr s).size)).mono HB.out.size))
        have kn' : (0 : Int) < (n : Int) := by omega
        have kn2 : 0 < n := hlt
        clear hbw
        by_cases h1 : s.hi ≤ s.lo
        · have HV := Lib.hid (set_bad (HST.out.trans (decide_eq_false (by omega))))
          have d1 : decide (s.hi ≤ s.lo) = true := decide_eq_true h1
          go_wp2
          go_quiet (fail)
          go_wp2
          go_ret
          exact ⟨ret_bool HV.out.symm, BW.out _⟩
        · have HG := Lib.hid (HST.out.trans (decide_eq_true (by omega)))
          have d1 : decide (s.hi ≤ s.lo) = false := decide_eq_false h1
          go_wp2
          go_quiet (fail)
          go_wp2
          go_roundw
          case rel => exact ⟨1, by omega, by go_num, HG.out, BW.out _⟩
          case measure => simp [intOf]; omega
      · obtain ⟨j, rfl⟩ : ∃ j, k = j + 1 := ⟨k - 1, by omega⟩
        have hjl : j < l.length := by omega
        obtain ⟨g2, o2, e2, _, r0, r1⟩ := (SA.out.below hbw).at_ (List.getElem?_eq_getElem hjl)
        injection e2 with e2
        injection e2 with e3 e4
        subst e3 e4
        have hst := set_next hkl
        obtain ⟨s, hs⟩ : ∃ a, l[j + 1] = a := ⟨_, rfl⟩
        obtain ⟨u, hu⟩ : ∃ a, l[j] = a := ⟨_, rfl⟩
        rw [hs] at q0 q1 hst
        rw [hu] at r0 r1 hst
        have HST := Lib.hid hst
        clear hst hs hu SA
        obtain ⟨b0, b1⟩ := box_two wr s
        have r1' : (bx wr s).cell? ⟨g, o + j * 2 + 1, none⟩ = some (.int .i64 u.hi) := ((box_low wr s).cell (p := ⟨g, o + j * 2 + 1, none⟩) hg).trans r1
        have BW := Lib.hid (fun m => HB.out.trans (((box_low wr s).trans ((below_drewN _ m).mono (box_low wr s).size)).mono HB.out.size))
        have z1 : decide ((0 : Int) < ((j + 1 : Nat) : Int)) = true := decide_eq_true (by omega)
        have z2 : decide (0 < j + 1) = true := decide_eq_true (by omega)
        have z3 : IntKind.i64.wrap (((j + 1 : Nat) : Int) - 1) = (j : Int) := by rw [IntWalk.i64_in _ (by omega)]; omega
        have z4 : ((j + 1 : Nat) : Int) - 1 = (j : Int) := by omega
        have j0 : (0 : Int) ≤ (j : Int) := Int.natCast_nonneg j
        have jn : (j : Int) < (n : Int) := by omega
        clear hbw
        by_cases h1 : s.hi ≤ s.lo
        · have HV := Lib.hid (set_bad (l := l) (k := j + 1 + 1) (by cases h : setB (l.take (j + 1 + 1)); rfl; exact absurd (HST.out.1 h).2.2 (by omega)))
          have d1 : decide (s.hi ≤ s.lo) = true := decide_eq_true h1
          go_wp2
          go_quiet (fail)
          go_wp2
          go_ret
          exact ⟨ret_bool HV.out.symm, BW.out _⟩
        · have d1 : decide (s.hi ≤ s.lo) = false := decide_eq_false h1
          by_cases h2 : s.lo ≤ u.hi
          · have HV := Lib.hid (set_bad (l := l) (k := j + 1 + 1) (by cases h : setB (l.take (j + 1 + 1)); rfl; exact absurd (HST.out.1 h).2.1 (by omega)))
            have d2 : decide (s.lo ≤ u.hi) = true := decide_eq_true h2
            go_wp2
            go_quiet (fail)
            go_wp2
            go_ret
            exact ⟨ret_bool HV.out.symm, BW.out _⟩
          · have HG := Lib.hid (HST.out.2 ⟨HLK.out, by omega, by omega⟩)
            have d2 : decide (s.lo ≤ u.hi) = false := decide_eq_false h2
            go_wp2
            go_quiet (fail)
            go_wp2
            go_roundw
            case rel => exact ⟨j + 1 + 1, by omega, by go_num, HG.out, BW.out _⟩
            case measure => simp [intOf]; omega
    · obtain rfl : k = n := by omega
      have HE := Lib.hid (show setB l = true by
        have h := HLK.out
        rwa [List.take_of_length_le (by rw [HN.out]; exact Nat.le_refl _)] at h)
      go_wp2
      go_ret
      exact ⟨ret_bool HE.out.symm, HB.out⟩
/-- The test of Has: whether a span has the number in a box of the caller's. -/
theorem has_test (x : Int) (B : Nat) (W : World) (s : S) (hB : B < W.heap.size) (hc : W.cell? ⟨B, 0, none⟩ = some (.int .i64 x)) :
    Calls Try.prog 35 #[.agg #[.int .i64 s.lo, .int .i64 s.hi], .pointer (some ⟨B, 0, none⟩)] W fun e w' => e = .returned (.bool (inB s x)) ∧ Below W.heap.size W w' := by
  have hne : B ≠ W.heap.size := by omega
  obtain ⟨b0, b1⟩ := box_two W s
  have hc' : (bx W s).cell? ⟨B, 0, none⟩ = some (.int .i64 x) := ((box_low W s).cell (p := ⟨B, 0, none⟩) hB).trans hc
  have HB := Lib.hid (box_low W s)
  obtain ⟨r, hr⟩ : ∃ r, inB s x = r := ⟨_, rfl⟩
  rw [hr]
  unfold inB at hr
  by_cases h1 : s.lo ≤ x
  · have d1 : decide (s.lo ≤ x) = true := decide_eq_true h1
    obtain ⟨q, hq⟩ : ∃ q, decide (x < s.hi) = q := ⟨_, rfl⟩
    rw [d1, hq, Bool.true_and] at hr
    subst hr
    go_enter Try.func35, Try.ntmps35
    go_wp2
    go_ret
    exact ⟨by simp_all, HB.out⟩
  · have d1 : decide (s.lo ≤ x) = false := decide_eq_false h1
    rw [d1, Bool.false_and] at hr
    subst hr
    go_enter Try.func35, Try.ntmps35
    go_wp2
    go_ret
    exact ⟨by simp_all, HB.out⟩
end Go.Proofs.Ytkmbidmncnlbkaa
