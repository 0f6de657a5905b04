/-
  Walk of the reference's Valid.
-/
import Derived.Test.YtkmbidmncnlbkaaNc
namespace Go.Proofs.Ytkmbidmncnlbkaa
open Go.RowKit Sn
set_option maxHeartbeats 400000
set_option maxRecDepth 100000

theorem set_prefix : ∀ {a b : List S} {o : Option Int}, setFrom o (a ++ b) = true → setFrom o a = true
  | [], b, o, _ => by cases o <;> rfl
  | s :: a, b, none, h => by rw [List.cons_append, setFrom_none] at h; exact setFrom_none.2 ⟨h.1, set_prefix h.2⟩
  | s :: a, b, some x, h => by rw [List.cons_append, setFrom_some] at h; exact setFrom_some.2 ⟨h.1, h.2.1, set_prefix h.2.2⟩
theorem set_two : ∀ {t : List S} {o : Option Int} {u s : S}, setFrom o (t ++ [u, s]) = true ↔ setFrom o (t ++ [u]) = true ∧ u.hi < s.lo ∧ s.lo < s.hi
  | [], none, u, s => by simp [setFrom]
  | [], some x, u, s => by simp [setFrom]; omega
  | v :: t, none, u, s => by rw [List.cons_append, List.cons_append, setFrom_none, setFrom_none, set_two (t := t)]; simp [and_assoc]
  | v :: t, some x, u, s => by rw [List.cons_append, List.cons_append, setFrom_some, setFrom_some, set_two (t := t)]; simp [and_assoc]
theorem set_first (s : S) : setB [s] = decide (s.lo < s.hi) := by simp [setB, setFrom]
/-- One range more. -/
theorem set_next {l : List S} {k : Nat} (hk : k + 1 < l.length) : setB (l.take (k + 1 + 1)) = true ↔ setB (l.take (k + 1)) = true ∧ l[k].hi < l[k + 1].lo ∧ l[k + 1].lo < l[k + 1].hi := by
  have h1 : l.take (k + 1) = l.take k ++ [l[k]] := List.take_succ_eq_append_getElem (by omega)
  have h2 : l.take (k + 1 + 1) = l.take k ++ [l[k], l[k + 1]] := by
    rw [List.take_succ_eq_append_getElem hk, h1, List.append_assoc]; rfl
  rw [h1, h2]
  exact set_two
theorem set_bad {l : List S} {k : Nat} (h : setB (l.take k) = false) : setB l = false := by
  cases hs : setB l
  · rfl
  · have := set_prefix (a := l.take k) (b := l.drop k) (o := none) (by rw [List.take_append_drop]; exact hs)
    have h' : setB (l.take k) = true := this
    rw [h] at h'; cases h'

set_option maxHeartbeats 4000000 in
theorem Valid_any (A : Option Addr) (n c : Nat) (l : List S) (hn : l.length = n) (hl : n ≤ 4294967296) (w : World) (hA : Sps w A l) :
    Calls Try.prog 13 #[.slice A n c] w fun e w' => e = .returned (.bool (setB l)) ∧ Below w.heap.size w w' := by
  have HN := Lib.hid hn
  have SA := Lib.hid hA
  clear hn hA
  go_enter Try.func13, Try.ntmps13
  go_wp2
  go_loopw [3] (fun i wr => ∃ k m : Nat, k ≤ n ∧ i = .int .i64 k ∧ setB (l.take k) = true ∧ wr = w.drewN m) (fun i _ => n - (intOf i).toNat)
  case atStart => exact ⟨0, 0, Nat.zero_le _, rfl, rfl, rfl⟩
  case round =>
    obtain ⟨k, m, hk, rfl, hlk, rfl⟩ := hrel
    have HLK := Lib.hid hlk
    clear hlk
    by_cases hlt : k < n
    · have hkl : k < l.length := by rw [HN.out]; exact hlt
      obtain ⟨g, o, rfl, _, q0, q1⟩ := SA.out.at_ (List.getElem?_eq_getElem hkl)
      have k0 : (0 : Int) ≤ (k : Int) := Int.natCast_nonneg k
      have kn : (k : Int) < (n : Int) := Int.ofNat_lt.2 hlt
      rcases Nat.eq_zero_or_pos k with hz | hz
      · subst hz
        have hst : setB (l.take (0 + 1)) = decide (l[0].lo < l[0].hi) := by
          rw [List.take_succ_eq_append_getElem hkl]; exact set_first _
        obtain ⟨s, hs⟩ : ∃ a, l[0] = a := ⟨_, rfl⟩
        rw [hs] at q0 q1 hst
        have HST := Lib.hid hst
        clear hst hs SA
        have q0' : w.cell? ⟨g, o, none⟩ = some (.int .i64 s.lo) := by simpa using q0
        have q1' : w.cell? ⟨g, o + 1, none⟩ = some (.int .i64 s.hi) := by simpa using q1
        have kn' : (0 : Int) < (n : Int) := by omega
        have kn2 : 0 < n := hlt
        by_cases h1 : s.hi ≤ s.lo
        · have HB := Lib.hid (set_bad (HST.out.trans (decide_eq_false (by omega))))
          have d1 : decide (s.hi ≤ s.lo) = true := decide_eq_true h1
          go_wp2
          go_quiet (fail)
          go_wp2
          go_ret
          exact ⟨ret_bool HB.out.symm, by rw [World.drewN_drewN]; exact below_drewN _ _⟩
        · have HG := Lib.hid (HST.out.trans (decide_eq_true (by omega)))
          have d1 : decide (s.hi ≤ s.lo) = false := decide_eq_false h1
          go_wp2
          go_quiet (fail)
          go_wp2
          go_roundw
          case rel => exact ⟨1, _, by omega, by go_num, HG.out, rfl⟩
          case measure => simp [intOf]; omega
      · obtain ⟨j, rfl⟩ : ∃ j, k = j + 1 := ⟨k - 1, by omega⟩
        have hjl : j < l.length := by omega
        obtain ⟨g2, o2, e2, _, r0, r1⟩ := SA.out.at_ (List.getElem?_eq_getElem hjl)
        injection e2 with e2
        injection e2 with e3 e4
        subst e3 e4
        have hst := set_next hkl
        obtain ⟨s, hs⟩ : ∃ a, l[j + 1] = a := ⟨_, rfl⟩
        obtain ⟨u, hu⟩ : ∃ a, l[j] = a := ⟨_, rfl⟩
        rw [hs] at q0 q1 hst
        rw [hu] at r0 r1 hst
        have HST := Lib.hid hst
        clear hst hs hu SA
        have z1 : decide ((0 : Int) < ((j + 1 : Nat) : Int)) = true := decide_eq_true (by omega)
        have z2 : decide (0 < j + 1) = true := decide_eq_true (by omega)
        have z3 : IntKind.i64.wrap (((j + 1 : Nat) : Int) - 1) = (j : Int) := by rw [IntWalk.i64_in _ (by omega)]; omega
        have z4 : ((j + 1 : Nat) : Int) - 1 = (j : Int) := by omega
        have j0 : (0 : Int) ≤ (j : Int) := Int.natCast_nonneg j
        have jn : (j : Int) < (n : Int) := by omega
        by_cases h1 : s.hi ≤ s.lo
        · have HB := Lib.hid (set_bad (l := l) (k := j + 1 + 1) (by cases h : setB (l.take (j + 1 + 1)); rfl; exact absurd (HST.out.1 h).2.2 (by omega)))
          have d1 : decide (s.hi ≤ s.lo) = true := decide_eq_true h1
          go_wp2
          go_quiet (fail)
          go_wp2
          go_ret
          exact ⟨ret_bool HB.out.symm, by rw [World.drewN_drewN]; exact below_drewN _ _⟩
        · have d1 : decide (s.hi ≤ s.lo) = false := decide_eq_false h1
          by_cases h2 : s.lo ≤ u.hi
          · have HB := Lib.hid (set_bad (l := l) (k := j + 1 + 1) (by cases h : setB (l.take (j + 1 + 1)); rfl; exact absurd (HST.out.1 h).2.1 (by omega)))
            have d2 : decide (s.lo ≤ u.hi) = true := decide_eq_true h2
            go_wp2
            go_quiet (fail)
            go_wp2
            go_ret
            exact ⟨ret_bool HB.out.symm, by rw [World.drewN_drewN]; exact below_drewN _ _⟩
          · have HG := Lib.hid (HST.out.2 ⟨HLK.out, by omega, by omega⟩)
            have d2 : decide (s.lo ≤ u.hi) = false := decide_eq_false h2
            go_wp2
            go_quiet (fail)
            go_wp2
            go_roundw
            case rel => exact ⟨j + 1 + 1, _, by omega, by go_num, HG.out, rfl⟩
            case measure => simp [intOf]; omega
    · obtain rfl : k = n := by omega
      have HE := Lib.hid (show setB l = true by
        have h := HLK.out
        rwa [List.take_of_length_le (by rw [HN.out]; exact Nat.le_refl _)] at h)
      go_wp2
      go_ret
      exact ⟨ret_bool HE.out.symm, below_drewN _ _⟩
end Go.Proofs.Ytkmbidmncnlbkaa
