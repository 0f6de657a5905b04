/-
  Walks of the reference's Same, SameBytes and Has.
-/
import Derived.Test.YtggnklcjhbahhaaEf
import Derived.Laws.StructEq
namespace Go.Proofs.Ytggnklcjhbahhaa
open Go.RowKit Ex
set_option maxHeartbeats 400000
set_option maxRecDepth 100000

def bv (x : Int × Int) : Value := .agg #[.int .i64 x.1, .int .i64 x.2]
theorem take_next {α : Type} {l m : List α} {k : Nat} (hl : k < l.length) (hm : k < m.length) : (l.take (k + 1) = m.take (k + 1)) ↔ (l.take k = m.take k ∧ l[k] = m[k]) := by
  rw [List.take_succ_eq_append_getElem hl, List.take_succ_eq_append_getElem hm]
  constructor
  · intro h
    obtain ⟨h1, h2⟩ := List.append_inj h (by simp; omega)
    exact ⟨h1, by simpa using h2⟩
  · rintro ⟨h1, h2⟩; rw [h1, h2]
theorem guardSame : Try.prog.eqGuardType Try.prog.depth 66 = false := by kernel_rfl
theorem equalSame (x y : Pc) (w : World) : (Op.equalIn 10000 66 (pv x) (pv y)).run Try.prog w = .ok (decide (x = y)) w := by
  obtain ⟨xi, xf, xn⟩ := x
  obtain ⟨yi, yf, yn⟩ := y
  have u3 := Try.underlying3
  have a3 := Try.isAgg3
  have z3 := Try.sizeOf3
  have hS : Try.prog.underlying 66 = some (.struct (Try.prog.fieldsOf 66)) := by kernel_rfl
  have hp : Try.prog.stoodInHeld 66 = false := by kernel_rfl
  simp only [pv]
  rw [show (10000 : Nat) = 9999 + 1 from rfl, run_equalIn_agg w 9999 66 _ _ hS hp]
  simp only [Program.fieldsOf, Try.underlying66]
  go_simp
  by_cases h1 : xi = yi <;> by_cases h2 : xf = yf <;> by_cases h3 : xn = yn <;> simp [h1, h2, h3]
theorem neqSame (x y : Pc) (w : World) : (binOp .neq 66 (pv x) (pv y)).run Try.prog w = .ok (.bool (!decide (x = y))) w := by
  have h := equalSame x y w
  unfold pv at h ⊢
  rw [run_neq_struct, h]; rfl
theorem guardSameBytes : Try.prog.eqGuardType Try.prog.depth 32 = false := by kernel_rfl
theorem equalSameBytes (x y : (Int × Int)) (w : World) : (Op.equalIn 10000 32 (bv x) (bv y)).run Try.prog w = .ok (decide (x = y)) w := by
  obtain ⟨xi, xf⟩ := x
  obtain ⟨yi, yf⟩ := y
  have u3 := Try.underlying3
  have a3 := Try.isAgg3
  have z3 := Try.sizeOf3
  have hS : Try.prog.underlying 32 = some (.struct (Try.prog.fieldsOf 32)) := by kernel_rfl
  have hp : Try.prog.stoodInHeld 32 = false := by kernel_rfl
  simp only [bv]
  rw [show (10000 : Nat) = 9999 + 1 from rfl, run_equalIn_agg w 9999 32 _ _ hS hp]
  simp only [Program.fieldsOf, Try.underlying32]
  go_simp
  by_cases h1 : xi = yi <;> by_cases h2 : xf = yf <;> simp [h1, h2]
theorem neqSameBytes (x y : (Int × Int)) (w : World) : (binOp .neq 32 (bv x) (bv y)).run Try.prog w = .ok (.bool (!decide (x = y))) w := by
  have h := equalSameBytes x y w
  unfold bv at h ⊢
  rw [run_neq_struct, h]; rfl
set_option maxHeartbeats 2000000 in
theorem Same_any (A A2 : Option Addr) (n n2 c c2 : Nat) (l l2 : List Pc) (hn : l.length = n) (hn2 : l2.length = n2) (hl : n ≤ 4294967296) (hl2 : n2 ≤ 4294967296) (w : World) (hA : Pcs w A l) (hA2 : Pcs w A2 l2) :
    Calls Try.prog 17 #[.slice A n c, .slice A2 n2 c2] w fun e w' => e = .returned (.bool (decide (l = l2))) ∧ Below w.heap.size w w' := by
  by_cases hnn : n = n2
  · subst hnn
    have HN := Lib.hid hn
    have HN2 := Lib.hid hn2
    have SA := Lib.hid hA
    have SB := Lib.hid hA2
    clear hn hn2 hA hA2
    go_enter Try.func17, Try.ntmps17
    go_wp2
    go_loopw [5] (fun i wr => ∃ k m : Nat, k ≤ n ∧ i = .int .i64 k ∧ l.take k = l2.take k ∧ wr = w.drewN m) (fun i _ => n - (intOf i).toNat)
    case atStart => exact ⟨0, 0, Nat.zero_le _, rfl, rfl, rfl⟩
    case round =>
      obtain ⟨k, m, hk, rfl, hlk, rfl⟩ := hrel
      have HLK := Lib.hid hlk
      clear hlk
      by_cases hlt : k < n
      · have hkl : k < l.length := by rw [HN.out]; exact hlt
        have hkl2 : k < l2.length := by rw [HN2.out]; exact hlt
        obtain ⟨g, o, rfl, _, q0, q1, q2⟩ := SA.out.at_ (List.getElem?_eq_getElem hkl)
        obtain ⟨g2, o2, rfl, _, r0, r1, r2⟩ := SB.out.at_ (List.getElem?_eq_getElem hkl2)
        have hst := take_next hkl hkl2
        obtain ⟨x, hx⟩ : ∃ a, l[k] = a := ⟨_, rfl⟩
        obtain ⟨y, hy⟩ : ∃ a, l2[k] = a := ⟨_, rfl⟩
        rw [hx] at q0 q1 q2
        rw [hy] at r0 r1 r2
        rw [hx, hy] at hst
        have HST := Lib.hid hst
        have hne := neqSame x y
        unfold pv at hne
        have gA := guardSame
        have k0 : (0 : Int) ≤ (k : Int) := Int.natCast_nonneg k
        have kn : (k : Int) < (n : Int) := Int.ofNat_lt.2 hlt
        clear hx hy hst SA SB
        by_cases hxy : x = y
        · have e1 : decide (x = y) = true := decide_eq_true hxy
          have HXY := Lib.hid hxy
          clear hxy
          rw [e1] at hne
          clear e1
          go_wp2
          go_quiet (fail)
          go_wp2
          go_roundw
          case rel => exact ⟨k + 1, _, by omega, by go_num, HST.out.2 ⟨HLK.out, HXY.out⟩, rfl⟩
          case measure => simp [intOf]; omega
        · have e1 : decide (x = y) = false := decide_eq_false hxy
          have HXY := Lib.hid hxy
          clear hxy
          rw [e1] at hne
          clear e1
          go_wp2
          go_quiet (fail)
          go_wp2
          go_ret
          refine ⟨ret_bool (decide_eq_false fun e => ?_).symm, ?_⟩
          · exact HXY.out (HST.out.1 (by rw [e])).2
          · exact (below_drewN w m).trans ((below_drewN _ nq).mono (Nat.le_refl _))
      · obtain rfl : k = n := by omega
        go_wp2
        go_ret
        refine ⟨ret_bool (decide_eq_true ?_).symm, below_drewN w m⟩
        have := HLK.out
        rwa [List.take_of_length_le (by rw [HN.out]; exact Nat.le_refl _), List.take_of_length_le (by rw [HN2.out]; exact Nat.le_refl _)] at this
  · have e1 : ((n : Int) != (n2 : Int)) = true := by simp; omega
    have HV := Lib.hid (show decide (l = l2) = false from decide_eq_false fun e => hnn (by rw [← hn, ← hn2, e]))
    clear hn hn2 hnn hA hA2
    go_enter Try.func17, Try.ntmps17
    go_wp2
    go_ret
    exact ⟨ret_bool HV.out.symm, Below.refl _ _⟩
set_option maxHeartbeats 2000000 in
theorem SameBytes_any (A A2 : Option Addr) (n n2 c c2 : Nat) (l l2 : List (Int × Int)) (hn : l.length = n) (hn2 : l2.length = n2) (hl : n ≤ 4294967296) (hl2 : n2 ≤ 4294967296) (w : World) (hA : Bts w A l) (hA2 : Bts w A2 l2) :
    Calls Try.prog 16 #[.slice A n c, .slice A2 n2 c2] w fun e w' => e = .returned (.bool (decide (l = l2))) ∧ Below w.heap.size w w' := by
  by_cases hnn : n = n2
  · subst hnn
    have HN := Lib.hid hn
    have HN2 := Lib.hid hn2
    have SA := Lib.hid hA
    have SB := Lib.hid hA2
    clear hn hn2 hA hA2
    go_enter Try.func16, Try.ntmps16
    go_wp2
    go_loopw [5] (fun i wr => ∃ k m : Nat, k ≤ n ∧ i = .int .i64 k ∧ l.take k = l2.take k ∧ wr = w.drewN m) (fun i _ => n - (intOf i).toNat)
    case atStart => exact ⟨0, 0, Nat.zero_le _, rfl, rfl, rfl⟩
    case round =>
      obtain ⟨k, m, hk, rfl, hlk, rfl⟩ := hrel
      have HLK := Lib.hid hlk
      clear hlk
      by_cases hlt : k < n
      · have hkl : k < l.length := by rw [HN.out]; exact hlt
        have hkl2 : k < l2.length := by rw [HN2.out]; exact hlt
        obtain ⟨g, o, rfl, _, q0, q1⟩ := SA.out.at_ (List.getElem?_eq_getElem hkl)
        obtain ⟨g2, o2, rfl, _, r0, r1⟩ := SB.out.at_ (List.getElem?_eq_getElem hkl2)
        have hst := take_next hkl hkl2
        obtain ⟨x, hx⟩ : ∃ a, l[k] = a := ⟨_, rfl⟩
        obtain ⟨y, hy⟩ : ∃ a, l2[k] = a := ⟨_, rfl⟩
        rw [hx] at q0 q1
        rw [hy] at r0 r1
        rw [hx, hy] at hst
        have HST := Lib.hid hst
        have hne := neqSameBytes x y
        unfold bv at hne
        have gA := guardSameBytes
        have k0 : (0 : Int) ≤ (k : Int) := Int.natCast_nonneg k
        have kn : (k : Int) < (n : Int) := Int.ofNat_lt.2 hlt
        clear hx hy hst SA SB
        by_cases hxy : x = y
        · have e1 : decide (x = y) = true := decide_eq_true hxy
          have HXY := Lib.hid hxy
          clear hxy
          rw [e1] at hne
          clear e1
          go_wp2
          go_quiet (fail)
          go_wp2
          go_roundw
          case rel => exact ⟨k + 1, _, by omega, by go_num, HST.out.2 ⟨HLK.out, HXY.out⟩, rfl⟩
          case measure => simp [intOf]; omega
        · have e1 : decide (x = y) = false := decide_eq_false hxy
          have HXY := Lib.hid hxy
          clear hxy
          rw [e1] at hne
          clear e1
          go_wp2
          go_quiet (fail)
          go_wp2
          go_ret
          refine ⟨ret_bool (decide_eq_false fun e => ?_).symm, ?_⟩
          · exact HXY.out (HST.out.1 (by rw [e])).2
          · exact (below_drewN w m).trans ((below_drewN _ nq).mono (Nat.le_refl _))
      · obtain rfl : k = n := by omega
        go_wp2
        go_ret
        refine ⟨ret_bool (decide_eq_true ?_).symm, below_drewN w m⟩
        have := HLK.out
        rwa [List.take_of_length_le (by rw [HN.out]; exact Nat.le_refl _), List.take_of_length_le (by rw [HN2.out]; exact Nat.le_refl _)] at this
  · have e1 : ((n : Int) != (n2 : Int)) = true := by simp; omega
    have HV := Lib.hid (show decide (l = l2) = false from decide_eq_false fun e => hnn (by rw [← hn, ← hn2, e]))
    clear hn hn2 hnn hA hA2
    go_enter Try.func16, Try.ntmps16
    go_wp2
    go_ret
    exact ⟨ret_bool HV.out.symm, Below.refl _ _⟩

set_option maxHeartbeats 1000000 in
theorem Has_any (A : Option Addr) (n c : Nat) (l : List Int) (hn : l.length = n) (hl : n ≤ 4294967296) (x : Int) (w : World) (hA : Cells w A l) :
    Calls Try.prog 25 #[.slice A n c, .int .i64 x] w fun e w' => e = .returned (.bool (decide (x ∈ l))) ∧ w' = w := by
  have HN := Lib.hid hn
  have SA := Lib.hid hA
  clear hn hA
  go_enter Try.func25, Try.ntmps25
  go_wp2
  go_loop [5] (fun i => ∃ k : Nat, k ≤ n ∧ i = .int .i64 k ∧ x ∉ l.take k) (fun i => n - (intOf i).toNat)
  case atStart => exact ⟨0, Nat.zero_le _, rfl, by simp⟩
  case round =>
    obtain ⟨k, hk, rfl, hx⟩ := hrel
    have HX := Lib.hid hx
    clear hx
    by_cases hlt : k < n
    · have hkl : k < l.length := by rw [HN.out]; exact hlt
      obtain ⟨g, o, rfl, _, hc⟩ := SA.out (List.ne_nil_of_length_pos (by omega))
      have q0 := hc k l[k] (List.getElem?_eq_getElem hkl)
      have hts := List.take_succ_eq_append_getElem hkl
      have hmem : l[k] ∈ l := List.getElem_mem hkl
      obtain ⟨y, hy⟩ : ∃ y, l[k] = y := ⟨_, rfl⟩
      rw [hy] at q0 hts hmem
      have HTS := Lib.hid hts
      have HM := Lib.hid hmem
      have k0 : (0 : Int) ≤ (k : Int) := Int.natCast_nonneg k
      have kn : (k : Int) < (n : Int) := Int.ofNat_lt.2 hlt
      clear hc hts hmem hy SA
      by_cases hxy : y = x
      · subst hxy
        have hb : (y == y) = true := by simp
        go_wp2
        go_ret
        exact ⟨ret_bool (decide_eq_true HM.out).symm, rfl⟩
      · have hb : (y == x) = false := by simp [hxy]
        have HXY := Lib.hid hxy
        clear hxy
        go_wp2
        go_round
        case rel => exact ⟨k + 1, by omega, by go_num, by rw [HTS.out]; simp; exact ⟨HX.out, fun e => HXY.out e.symm⟩⟩
        case measure => simp [intOf]; omega
    · obtain rfl : k = n := by omega
      go_wp2
      go_ret
      have := HX.out
      rw [List.take_of_length_le (by rw [HN.out]; exact Nat.le_refl _)] at this
      exact ⟨ret_bool (decide_eq_false this).symm, rfl⟩
end Go.Proofs.Ytggnklcjhbahhaa
