/-
  Walks of the reference's Same, Has and Valid.
-/
import Derived.Test.YtkmbidmncnlbkaaNb
import Derived.Laws.StructEq
namespace Go.Proofs.Ytkmbidmncnlbkaa
open Go.RowKit Sn
set_option maxHeartbeats 400000
set_option maxRecDepth 100000

theorem take_next {α : Type} {l m : List α} {k : Nat} (hl : k < l.length) (hm : k < m.length) : (l.take (k + 1) = m.take (k + 1)) ↔ (l.take k = m.take k ∧ l[k] = m[k]) := by
  rw [List.take_succ_eq_append_getElem hl, List.take_succ_eq_append_getElem hm]
  constructor
  · intro h
    obtain ⟨h1, h2⟩ := List.append_inj h (by simp; omega)
    exact ⟨h1, by simpa using h2⟩
  · rintro ⟨h1, h2⟩; rw [h1, h2]
theorem guardSpan : Try.prog.eqGuardType Try.prog.depth 24 = false := by kernel_rfl
theorem equalSpan (x y : S) (w : World) : (Op.equalIn 10000 24 (sv x) (sv y)).run Try.prog w = .ok (decide (x = y)) w := by
  obtain ⟨xi, xf⟩ := x
  obtain ⟨yi, yf⟩ := y
  have u3 := Try.underlying3
  have a3 := Try.isAgg3
  have z3 := Try.sizeOf3
  have hS : Try.prog.underlying 24 = some (.struct (Try.prog.fieldsOf 24)) := by kernel_rfl
  have hp : Try.prog.stoodInHeld 24 = false := by kernel_rfl
  simp only [sv]
  rw [show (10000 : Nat) = 9999 + 1 from rfl, run_equalIn_agg w 9999 24 _ _ hS hp]
  simp only [Program.fieldsOf, Try.underlying24]
  go_simp
  by_cases h1 : xi = yi <;> by_cases h2 : xf = yf <;> simp [h1, h2]
theorem neqSpan (x y : S) (w : World) : (binOp .neq 24 (sv x) (sv y)).run Try.prog w = .ok (.bool (!decide (x = y))) w := by
  have h := equalSpan x y w
  unfold sv at h ⊢
  rw [run_neq_struct, h]; rfl

set_option maxHeartbeats 2000000 in
theorem Same_any (A A2 : Option Addr) (n n2 c c2 : Nat) (l l2 : List S) (hn : l.length = n) (hn2 : l2.length = n2) (hl : n ≤ 4294967296) (hl2 : n2 ≤ 4294967296) (w : World) (hA : Sps w A l) (hA2 : Sps w A2 l2) :
    Calls Try.prog 14 #[.slice A n c, .slice A2 n2 c2] w fun e w' => e = .returned (.bool (decide (l = l2))) ∧ Below w.heap.size w w' := by
  by_cases hnn : n = n2
  · subst hnn
    have HN := Lib.hid hn
    have HN2 := Lib.hid hn2
    have SA := Lib.hid hA
    have SB := Lib.hid hA2
    clear hn hn2 hA hA2
    go_enter Try.func14, Try.ntmps14
    go_wp2
    go_loopw [5] (fun i wr => ∃ k m : Nat, k ≤ n ∧ i = .int .i64 k ∧ l.take k = l2.take k ∧ wr = w.drewN m) (fun i _ => n - (intOf i).toNat)
    case atStart => exact ⟨0, 0, Nat.zero_le _, rfl, rfl, rfl⟩
    case round =>
      obtain ⟨k, m, hk, rfl, hlk, rfl⟩ := hrel
      have HLK := Lib.hid hlk
      clear hlk
      by_cases hlt : k < n
      · have hkl : k < l.length := by rw [HN.out]; exact hlt
        have hkl2 : k < l2.length := by rw [HN2.out]; exact hlt
        obtain ⟨g, o, rfl, _, q0, q1⟩ := SA.out.at_ (List.getElem?_eq_getElem hkl)
        obtain ⟨g2, o2, rfl, _, r0, r1⟩ := SB.out.at_ (List.getElem?_eq_getElem hkl2)
        have hst := take_next hkl hkl2
        obtain ⟨x, hx⟩ : ∃ a, l[k] = a := ⟨_, rfl⟩
        obtain ⟨y, hy⟩ : ∃ a, l2[k] = a := ⟨_, rfl⟩
        rw [hx] at q0 q1
        rw [hy] at r0 r1
        rw [hx, hy] at hst
        have HST := Lib.hid hst
        have hne := neqSpan x y
        unfold sv at hne
        have gA := guardSpan
        have k0 : (0 : Int) ≤ (k : Int) := Int.natCast_nonneg k
        have kn : (k : Int) < (n : Int) := Int.ofNat_lt.2 hlt
        clear hx hy hst SA SB
        by_cases hxy : x = y
        · have e1 : decide (x = y) = true := decide_eq_true hxy
          have HXY := Lib.hid hxy
          clear hxy
          rw [e1] at hne
          clear e1
          go_wp2
          go_quiet (fail)
          go_wp2
          go_roundw
          case rel => exact ⟨k + 1, _, by omega, by go_num, HST.out.2 ⟨HLK.out, HXY.out⟩, rfl⟩
          case measure => simp [intOf]; omega
        · have e1 : decide (x = y) = false := decide_eq_false hxy
          have HXY := Lib.hid hxy
          clear hxy
          rw [e1] at hne
          clear e1
          go_wp2
          go_quiet (fail)
          go_wp2
          go_ret
          refine ⟨ret_bool ?_, by rw [World.drewN_drewN]; exact below_drewN _ _⟩
          exact (decide_eq_false (fun e => by subst e; exact HXY.out (HST.out.1 rfl).2)).symm
      · obtain rfl : k = n := by omega
        have HE := Lib.hid (show l = l2 by
          have h := HLK.out
          rwa [List.take_of_length_le (by rw [HN.out]; exact Nat.le_refl _), List.take_of_length_le (by rw [HN2.out]; exact Nat.le_refl _)] at h)
        go_wp2
        go_ret
        exact ⟨ret_bool (decide_eq_true HE.out).symm, below_drewN _ _⟩
  · have hb : ((n : Int) != (n2 : Int)) = true := by simp; omega
    have HE := Lib.hid (show l ≠ l2 from fun e => hnn (by rw [← hn, ← hn2, e]))
    clear hn hn2 hA hA2 hnn
    go_enter Try.func14, Try.ntmps14
    go_wp2
    go_ret
    exact ⟨ret_bool (decide_eq_false HE.out).symm, Below.refl _ _⟩

set_option maxHeartbeats 2000000 in
theorem Has_any (A : Option Addr) (n c : Nat) (l : List S) (x : Int) (hn : l.length = n) (hl : n ≤ 4294967296) (w : World) (hA : Sps w A l) :
    Calls Try.prog 25 #[.slice A n c, .int .i64 x] w fun e w' => e = .returned (.bool (hasB l x)) ∧ w' = w := by
  have HN := Lib.hid hn
  have SA := Lib.hid hA
  clear hn hA
  go_enter Try.func25, Try.ntmps25
  go_wp2
  go_loopw [5] (fun i wr => ∃ k : Nat, k ≤ n ∧ i = .int .i64 k ∧ hasB (l.take k) x = false ∧ wr = w) (fun i _ => n - (intOf i).toNat)
  case atStart => exact ⟨0, Nat.zero_le _, rfl, rfl, rfl⟩
  case round =>
    obtain ⟨k, hk, rfl, hlk, rfl⟩ := hrel
    have HLK := Lib.hid hlk
    clear hlk
    by_cases hlt : k < n
    · have hkl : k < l.length := by rw [HN.out]; exact hlt
      obtain ⟨g, o, rfl, _, q0, q1⟩ := SA.out.at_ (List.getElem?_eq_getElem hkl)
      have k0 : (0 : Int) ≤ (k : Int) := Int.natCast_nonneg k
      have kn : (k : Int) < (n : Int) := Int.ofNat_lt.2 hlt
      have hst : hasB (l.take (k + 1)) x = inB l[k] x := by
        rw [List.take_succ_eq_append_getElem hkl, hasB_append, HLK.out]; simp [hasB]
      have hyes : inB l[k] x = true → hasB l x = true := fun h => hasB_iff.2 ⟨l[k], List.getElem_mem hkl, inB_iff.1 h⟩
      obtain ⟨s, hs⟩ : ∃ a, l[k] = a := ⟨_, rfl⟩
      rw [hs] at q0 q1 hst hyes
      have HST := Lib.hid hst
      have HY := Lib.hid hyes
      clear hst hyes hs SA
      by_cases h1 : s.lo ≤ x
      · by_cases h2 : x < s.hi
        · have HI := Lib.hid (show inB s x = true from inB_iff.2 ⟨h1, h2⟩)
          go_wp2
          go_ret
          exact ⟨ret_bool (HY.out HI.out).symm, rfl⟩
        · have HI := Lib.hid (show inB s x = false by cases h : inB s x; rfl; exact absurd (inB_iff.1 h).2 h2)
          go_wp2
          go_roundw
          case rel => exact ⟨k + 1, by omega, by go_num, by rw [HST.out, HI.out], trivial⟩
          case measure => simp [intOf]; omega
      · have HI := Lib.hid (show inB s x = false by cases h : inB s x; rfl; exact absurd (inB_iff.1 h).1 h1)
        go_wp2
        go_roundw
        case rel => exact ⟨k + 1, by omega, by go_num, by rw [HST.out, HI.out], trivial⟩
        case measure => simp [intOf]; omega
    · obtain rfl : k = n := by omega
      have HE := Lib.hid (show hasB l x = false by
        have h := HLK.out
        rwa [List.take_of_length_le (by rw [HN.out]; exact Nat.le_refl _)] at h)
      go_wp2
      go_ret
      exact ⟨ret_bool HE.out.symm, rfl⟩
end Go.Proofs.Ytkmbidmncnlbkaa
