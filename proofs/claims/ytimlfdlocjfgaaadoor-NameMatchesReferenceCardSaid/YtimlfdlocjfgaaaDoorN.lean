/-
  Walk of the reference's Same: two lists of texts are compared. The world must hold the lists' texts.
-/
import Derived.Test.YtimlfdlocjfgaaaDoorG
import Derived.Deep.QuietTactic
import Derived.BigQuiet
namespace Go.Proofs.YtimlfdlocjfgaaaDoor
open Go.RowKit Pl
set_option maxHeartbeats 400000

def sameB (l : List Bs) (e : Int) (l' : List Bs) (e' : Int) : Bool := decide (l = l') && decide (e = e')
def Eqto (l l' : List Bs) (k : Nat) : Prop := l.take k = l'.take k

set_option maxHeartbeats 1000000 in
theorem same_any {lo lo' : Nat} (A A' : Option Addr) (n n' c c' : Nat) (e e' : Int) (l l' : List Bs) (hn : l.length = n) (hn' : l'.length = n') (hl : n ≤ 4294967295) (w : World) (hA : Strs lo w A l) (hA' : Strs lo' w A' l') :
    Calls Tryd.prog 15 #[.agg #[.slice A n c, .int .i64 e], .agg #[.slice A' n' c', .int .i64 e']] w fun x w' => x = .returned (.bool (sameB l e l' e')) ∧ Below w.heap.size w w' := by
  by_cases hc : n = n' ∧ e = e'
  · obtain ⟨rfl, rfl⟩ := hc
    have hb : sameB l e l' e = decide (l = l') := by simp [sameB]
    rw [hb]
    have b1 : ((n : Int) != n) = false := by simp
    have b2 : (e != e) = false := by simp
    have HN := Lib.hid hn
    have HN' := Lib.hid hn'
    have SA := Lib.hid hA
    have SA' := Lib.hid hA'
    clear hb hn hn' hA hA'
    go_enter Tryd.func15, Tryd.ntmps15
    go_wp2
    go_loopw [5] (fun i wr => ∃ k : Nat, k ≤ n ∧ i = .int .i64 k ∧ Eqto l l' k ∧ Below w.heap.size w wr ∧ wr.cell? ⟨w.heap.size, 0, none⟩ = some (.slice A n c) ∧ wr.cell? ⟨w.heap.size + 1, 0, none⟩ = some (.slice A' n c')) (fun i _ => n - (intOf i).toNat)
    case atStart => exact ⟨0, Nat.zero_le _, rfl, rfl, by go_grown, by go_cell, by go_cell⟩
    case round =>
      obtain ⟨k, hk, rfl, heq, hbw, hc1, hc2⟩ := hrel
      have HEQ := Lib.hid heq
      clear heq
      by_cases hlt : k < n
      · have hkl : k < l.length := by rw [HN.out]; exact hlt
        have hkl' : k < l'.length := by rw [HN'.out]; exact hlt
        obtain ⟨g, rfl, _, _, hcg⟩ := (SA.out.below hbw) (List.ne_nil_of_length_pos (by omega))
        obtain ⟨g', rfl, _, _, hcg'⟩ := (SA'.out.below hbw) (List.ne_nil_of_length_pos (by omega))
        have hx := hcg k l[k] (List.getElem?_eq_getElem hkl)
        have hy := hcg' k l'[k] (List.getElem?_eq_getElem hkl')
        obtain ⟨x, hxe⟩ : ∃ x, l[k] = x := ⟨_, rfl⟩
        obtain ⟨y, hye⟩ : ∃ y, l'[k] = y := ⟨_, rfl⟩
        rw [hxe] at hx
        rw [hye] at hy
        have HX := Lib.hid hxe
        have HY := Lib.hid hye
        have hk0 : (0 : Int) ≤ (k : Int) := by omega
        have hk1 : (k : Int) < (n : Int) := by omega
        clear hxe hye hcg hcg'
        by_cases hxy : x = y
        · have bxy : (x == y) = true := beq_iff_eq.2 hxy
          have HXY := Lib.hid hxy
          clear hxy
          go_wp2
          go_quiet (fail)
          go_wp2
          go_roundw
          case rel =>
            refine ⟨k + 1, by omega, by go_num, ?_, ⟨hbw.os, hbw.tape, hbw.output, hbw.size, hbw.block⟩, hc1, hc2⟩
            unfold Eqto
            rw [List.take_succ_eq_append_getElem hkl, List.take_succ_eq_append_getElem hkl', HX.out, HY.out, HXY.out]
            have h := HEQ.out
            unfold Eqto at h
            rw [h]
          case measure => simp [intOf]; omega
        · have bxy : (x == y) = false := beq_eq_false_iff_ne.2 hxy
          have HXY := Lib.hid hxy
          clear hxy
          go_wp2
          go_quiet (fail)
          go_wp2
          go_ret
          refine ⟨ret_bool ?_, ⟨hbw.os, hbw.tape, hbw.output, hbw.size, hbw.block⟩⟩
          symm
          rw [decide_eq_false_iff_not]
          intro e
          refine HXY.out ?_
          rw [← HX.out, ← HY.out]
          subst e
          rfl
      · obtain rfl : k = n := by omega
        go_wp2
        go_ret
        refine ⟨ret_bool ?_, hbw⟩
        have h := HEQ.out
        unfold Eqto at h
        rw [List.take_of_length_le (by rw [HN.out]; exact Nat.le_refl _), List.take_of_length_le (by rw [HN'.out]; exact Nat.le_refl _)] at h
        simp [h]
  · have hb : sameB l e l' e' = false := by
      unfold sameB
      by_cases h1 : l = l'
      · have : e ≠ e' := fun h2 => hc ⟨by rw [← hn, ← hn', h1], h2⟩
        simp [this]
      · simp [h1]
    rw [hb]
    clear hb
    by_cases hnn : n = n'
    · subst hnn
      have b1 : ((n : Int) != n) = false := by simp
      have b2 : (e != e') = true := by rw [bne_iff_ne]; exact fun h => hc ⟨rfl, h⟩
      clear hc hn hn' hA hA'
      go_enter Tryd.func15, Tryd.ntmps15
      go_wp2
      go_ret
      exact ⟨rfl, by go_grown⟩
    · have b1 : ((n : Int) != n') = true := by rw [bne_iff_ne]; omega
      clear hc hn hn' hA hA' hnn
      go_enter Tryd.func15, Tryd.ntmps15
      go_wp2
      go_ret
      exact ⟨rfl, by go_grown⟩
end Go.Proofs.YtimlfdlocjfgaaaDoor
