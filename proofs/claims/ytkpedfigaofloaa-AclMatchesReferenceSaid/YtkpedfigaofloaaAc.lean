/-
  Walks: comparing two lists, entry by entry (the library's Equal, and the reference's Same); the own entries by the program; cloning.
-/
import Derived.Test.YtkpedfigaofloaaAb
import Derived.Laws.StructEq
import Derived.RegionTactic
import Derived.Deep.QuietTactic
import Derived.BigQuiet
namespace Go.Proofs.Ytkpedfigaofloaa
open Go.RowKit Ap
set_option maxHeartbeats 400000

theorem guardAce : Try.prog.eqGuardType Try.prog.depth 31 = false := by kernel_rfl
theorem guardMark : Try.prog.eqGuardType Try.prog.depth 58 = false := by kernel_rfl
theorem equalAce (x y : Ac) (w : World) : (Op.equalIn 10000 31 (av x) (av y)).run Try.prog w = .ok (decide (x = y)) w := by
  obtain ⟨xw, xa, xr, xe, xg⟩ := x
  obtain ⟨yw, ya, yr, ye, yg⟩ := y
  have u3 := Try.underlying3
  have a3 := Try.isAgg3
  have z3 := Try.sizeOf3
  have u4 := Try.underlying4
  have a4 := Try.isAgg4
  have z4 := Try.sizeOf4
  have hS : Try.prog.underlying 31 = some (.struct (Try.prog.fieldsOf 31)) := by kernel_rfl
  have hp : Try.prog.stoodInHeld 31 = false := by kernel_rfl
  simp only [av]
  rw [show (10000 : Nat) = 9999 + 1 from rfl, run_equalIn_agg w 9999 31 _ _ hS hp]
  simp only [Program.fieldsOf, Try.underlying31]
  go_simp
  by_cases h1 : xw = yw <;> by_cases h2 : xa = ya <;> by_cases h3 : xr = yr <;> by_cases h4 : xe = ye <;> by_cases h5 : xg = yg <;> simp [h1, h2, h3, h4, h5]
theorem equalMark (x y : Ac) (w : World) : (Op.equalIn 10000 58 (av x) (av y)).run Try.prog w = .ok (decide (x = y)) w := by
  obtain ⟨xw, xa, xr, xe, xg⟩ := x
  obtain ⟨yw, ya, yr, ye, yg⟩ := y
  have u3 := Try.underlying3
  have a3 := Try.isAgg3
  have z3 := Try.sizeOf3
  have u4 := Try.underlying4
  have a4 := Try.isAgg4
  have z4 := Try.sizeOf4
  have hS : Try.prog.underlying 58 = some (.struct (Try.prog.fieldsOf 58)) := by kernel_rfl
  have hp : Try.prog.stoodInHeld 58 = false := by kernel_rfl
  simp only [av]
  rw [show (10000 : Nat) = 9999 + 1 from rfl, run_equalIn_agg w 9999 58 _ _ hS hp]
  simp only [Program.fieldsOf, Try.underlying58]
  go_simp
  by_cases h1 : xw = yw <;> by_cases h2 : xa = ya <;> by_cases h3 : xr = yr <;> by_cases h4 : xe = ye <;> by_cases h5 : xg = yg <;> simp [h1, h2, h3, h4, h5]
theorem neqAce (x y : Ac) (w : World) : (binOp .neq 31 (av x) (av y)).run Try.prog w = .ok (.bool (!decide (x = y))) w := by
  have h := equalAce x y w
  unfold av at h ⊢
  rw [run_neq_struct, h]; rfl
theorem eqlMark (x y : Ac) (w : World) : (binOp .eql 58 (av x) (av y)).run Try.prog w = .ok (.bool (decide (x = y))) w := by
  have h := equalMark x y w
  unfold av at h ⊢
  rw [run_eql_struct, h]; rfl

theorem take_next {α : Type} {l m : List α} {k : Nat} (hl : k < l.length) (hm : k < m.length) : (l.take (k + 1) = m.take (k + 1)) ↔ (l.take k = m.take k ∧ l[k] = m[k]) := by
  rw [List.take_succ_eq_append_getElem hl, List.take_succ_eq_append_getElem hm]
  constructor
  · intro h
    obtain ⟨h1, h2⟩ := List.append_inj h (by simp; omega)
    exact ⟨h1, by simpa using h2⟩
  · rintro ⟨h1, h2⟩; rw [h1, h2]

set_option maxHeartbeats 1000000 in
theorem equal_any (A A' : Option Addr) (n n' c c' : Nat) (l l' : List Ac) (hn : l.length = n) (hn' : l'.length = n') (hl : n ≤ 1000) (hl' : n' ≤ 1000) (w : World) (hA : Aces w A l) (hA' : Aces w A' l') :
    Calls Try.prog 38 #[.slice A n c, .slice A' n' c'] w fun e w' => e = .returned (.bool (decide (l = l'))) ∧ Below w.heap.size w w' := by
  by_cases hnn : n = n'
  · subst hnn
    have HN := Lib.hid hn
    have HN' := Lib.hid hn'
    have SA := Lib.hid hA
    have SA' := Lib.hid hA'
    clear hn hn' hA hA'
    go_enter Try.func38, Try.ntmps38
    go_wp2
    go_loopw [5, 13] (fun _ i wr => ∃ k : Nat, k ≤ n ∧ i = .int .i64 k ∧ l.take k = l'.take k ∧ Below w.heap.size w wr) (fun _ i _ => n - (intOf i).toNat)
    case atStart => exact ⟨0, Nat.zero_le _, rfl, rfl, Below.refl _ _⟩
    case round =>
      obtain ⟨k, hk, rfl, hlk, hbw⟩ := hrel
      have HLK := Lib.hid hlk
      clear hlk
      by_cases hlt : k < n
      · have hkl : k < l.length := by rw [HN.out]; exact hlt
        have hkl' : k < l'.length := by rw [HN'.out]; exact hlt
        obtain ⟨g, o, rfl, hg, hc⟩ := (SA.out.below hbw) (List.ne_nil_of_length_pos (by omega))
        obtain ⟨g', o', rfl, hg', hc'⟩ := (SA'.out.below hbw) (List.ne_nil_of_length_pos (by omega))
        obtain ⟨c0, c1, c2, c3, c4⟩ := hc k l[k] (List.getElem?_eq_getElem hkl)
        obtain ⟨d0, d1, d2, d3, d4⟩ := hc' k l'[k] (List.getElem?_eq_getElem hkl')
        have hst := take_next hkl hkl'
        obtain ⟨x, hx⟩ : ∃ a, l[k] = a := ⟨_, rfl⟩
        obtain ⟨y, hy⟩ : ∃ a, l'[k] = a := ⟨_, rfl⟩
        rw [hx] at c0 c1 c2 c3 c4
        rw [hy] at d0 d1 d2 d3 d4
        rw [hx, hy] at hst
        have HST := Lib.hid hst
        have HX := Lib.hid hx
        have HY := Lib.hid hy
        have hne := neqAce x y
        unfold av at hne
        have gA := guardAce
        have k0 : (0 : Int) ≤ (k : Int) := by omega
        have kn : (k : Int) < (n : Int) := by omega
        clear hc hc' hx hy hst SA SA'
        by_cases hxy : x = y
        · have e1 : decide (x = y) = true := decide_eq_true hxy
          have HXY := Lib.hid hxy
          clear hxy
          rw [e1] at hne
          clear e1
          go_wp2
          go_quiet (fail)
          go_wp2
          go_roundw
          case rel => exact ⟨k + 1, by omega, by go_num, HST.out.2 ⟨HLK.out, HXY.out⟩, ⟨hbw.os, hbw.tape, hbw.output, hbw.size, hbw.block⟩⟩
          case measure => simp [intOf]; omega
        · have e1 : decide (x = y) = false := decide_eq_false hxy
          have HXY := Lib.hid hxy
          clear hxy
          rw [e1] at hne
          clear e1
          go_wp2
          go_quiet (fail)
          go_wp2
          go_ret
          refine ⟨ret_bool (decide_eq_false fun e => ?_).symm, ⟨hbw.os, hbw.tape, hbw.output, hbw.size, hbw.block⟩⟩
          exact HXY.out (HST.out.1 (by rw [e])).2
      · obtain rfl : k = n := by omega
        go_wp2
        go_ret
        refine ⟨ret_bool (decide_eq_true ?_).symm, hbw⟩
        have := HLK.out
        rwa [List.take_of_length_le (by rw [HN.out]; exact Nat.le_refl _), List.take_of_length_le (by rw [HN'.out]; exact Nat.le_refl _)] at this
  · have e1 : ((n : Int) != (n' : Int)) = true := by simp; omega
    have HV := Lib.hid (show decide (l = l') = false from decide_eq_false fun e => hnn (by rw [← hn, ← hn', e]))
    clear hn hn' hnn hA hA'
    go_enter Try.func38, Try.ntmps38
    go_wp2
    go_ret
    exact ⟨ret_bool HV.out.symm, Below.refl _ _⟩
end Go.Proofs.Ytkpedfigaofloaa
