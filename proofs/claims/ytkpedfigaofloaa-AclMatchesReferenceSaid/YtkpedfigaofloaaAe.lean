/-
  Walks of the program's Rights and Allows.
-/
import Derived.Test.YtkpedfigaofloaaAd
import Derived.Test.YtkpedfigaofloaaPb
namespace Go.Proofs.Ytkpedfigaofloaa
open Go.RowKit Ap
set_option maxHeartbeats 400000

set_option maxHeartbeats 1000000 in
theorem rights_any (A : Option Addr) (n c : Nat) (l : List Ac) (hn : l.length = n) (hl : n ≤ 1000) (who owner : Int) (w : World) (hA : Aces w A l) :
    Calls Try.prog 15 #[.slice A n c, .int .i64 who, .int .i64 owner] w fun e w' => e = .returned (.int .i64 (rightsV l who owner).toInt) ∧ Below w.heap.size w w' := by
  by_cases h0 : who = 0
  · have HR := Lib.hid (show (rightsV l who owner).toInt = 15 by unfold rightsV; rw [if_pos h0]; rfl)
    have b0 : (who == 0) = true := by simp [h0]
    clear h0 hn hA
    go_enter Try.func15, Try.ntmps15
    go_wp2
    go_ret
    exact ⟨ret_int HR.out.symm, Below.refl _ _⟩
  · have HR := Lib.hid (show rightsV l who owner = if who = owner then (foldR l who owner).1 ||| 8 else (foldR l who owner).1 by unfold rightsV; rw [if_neg h0])
    have b0 : (who == 0) = false := by simp [h0]
    have HN := Lib.hid hn
    have SA := Lib.hid hA
    clear h0 hn hA
    go_enter Try.func15, Try.ntmps15
    go_wp2
    go_loopw [7, 8, 10, 15] (fun al op _ i wr => ∃ k : Nat, k ≤ n ∧ i = .int .i64 k ∧ al = .int .i64 (foldR (l.take k) who owner).1.toInt ∧ op = .int .i64 (foldR (l.take k) who owner).2.toInt ∧ Below w.heap.size w wr) (fun _ _ _ i _ => n - (intOf i).toNat)
    case atStart => exact ⟨0, Nat.zero_le _, rfl, rfl, rfl, Below.refl _ _⟩
    case round =>
      obtain ⟨k, hk, rfl, hal, hop, hbw⟩ := hrel
      obtain ⟨a, ha⟩ : ∃ a, (foldR (l.take k) who owner).1 = a := ⟨_, rfl⟩
      obtain ⟨p, hp⟩ : ∃ p, (foldR (l.take k) who owner).2 = p := ⟨_, rfl⟩
      rw [ha] at hal
      rw [hp] at hop
      subst hal hop
      have hbs := hbw.size
      have HAP := Lib.hid (show foldR (l.take k) who owner = (a, p) by rw [← ha, ← hp])
      clear ha hp
      by_cases hlt : k < n
      · have hkl : k < l.length := by rw [HN.out]; exact hlt
        obtain ⟨g, o, rfl, hg, hc⟩ := (SA.out.below hbw) (List.ne_nil_of_length_pos (by omega))
        obtain ⟨c0, c1, c2, c3, c4⟩ := hc k l[k] (List.getElem?_eq_getElem hkl)
        have hst : foldR (l.take (k + 1)) who owner = stepR who owner (a, p) l[k] := by rw [List.take_succ_eq_append_getElem hkl, foldR_snoc, HAP.out]
        obtain ⟨x, hx⟩ : ∃ a, l[k] = a := ⟨_, rfl⟩
        rw [hx] at c0 c1 c2 c3 c4 hst
        have cC := fun W => counts_any x who owner W
        obtain ⟨aw, al, ri, re, ag⟩ := x
        dsimp only at c0 c1 c2 c3 c4
        unfold av at cC
        dsimp only at cC
        unfold stepR at hst
        dsimp only at hst
        clear hc hx SA
        cases hcn : cnt ⟨aw, al, ri, re, ag⟩ who owner
        · rw [hcn] at cC hst
          have CC := Lib.hid cC
          have HST := Lib.hid hst
          clear cC hst hcn
          go_wp2_with (go_at_call 36; refine (CC.out _).mono ?_; rintro e w1 ⟨rfl, hb1⟩)
          go_roundw
          case rel =>
            refine ⟨k + 1, by omega, by go_num, ?_, ?_, ?_⟩
            · rw [HST.out, if_neg (by simp)]
            · rw [HST.out, if_neg (by simp)]
            · exact (hbw.alloc hbs _).trans (hb1.mono (by simp; omega))
          case measure => simp [intOf]; omega
        · rw [hcn] at cC hst
          have CC := Lib.hid cC
          have HST := Lib.hid hst
          clear cC hst hcn
          cases al
          all_goals
            go_wp2_with (go_at_call 36; refine (CC.out _).mono ?_; rintro e w1 ⟨rfl, hb1⟩; obtain ⟨h0, h1, h2, h3, h4, f0, f1, f2, f3, f4, hlt1⟩ := after5 hb1)
            go_roundw
            case rel =>
              refine ⟨k + 1, by omega, by go_num, ?_, ?_, ?_⟩
              · rw [HST.out]; simp only [if_true, Bool.false_eq_true, if_false, bits_or, bits_and, bv_toInt]
              · rw [HST.out]; simp only [if_true, Bool.false_eq_true, if_false, bits_andNot, bv_toInt]
              · exact (hbw.alloc hbs _).trans (hb1.mono (by simp; omega))
            case measure => simp [intOf]; omega
      · obtain rfl : k = n := by omega
        have hfull : l.take k = l := List.take_of_length_le (by rw [HN.out]; exact Nat.le_refl _)
        have HA2 := Lib.hid (show (foldR l who owner).1 = a by have := HAP.out; rw [hfull] at this; rw [this])
        clear hfull
        by_cases hwo : who = owner
        · have HV := Lib.hid (show rightsV l who owner = a ||| 8 by rw [HR.out, if_pos hwo, HA2.out])
          have bwo : (who == owner) = true := by simp [hwo]
          clear hwo
          go_wp2
          go_ret
          exact ⟨ret_int (by rw [HV.out, bits_or, bv_toInt]; rfl), hbw⟩
        · have HV := Lib.hid (show rightsV l who owner = a by rw [HR.out, if_neg hwo, HA2.out])
          have bwo : (who == owner) = false := by simp [hwo]
          clear hwo
          go_wp2
          go_ret
          exact ⟨ret_int (by rw [HV.out]), hbw⟩

def allowsB (l : List Ac) (who owner want : Int) : Bool := (rightsV l who owner &&& bv want).toInt == want
theorem allows_any (A : Option Addr) (n c : Nat) (l : List Ac) (hn : l.length = n) (hl : n ≤ 1000) (who owner want : Int) (w : World) (hA : Aces w A l) :
    Calls Try.prog 17 #[.slice A n c, .int .i64 who, .int .i64 owner, .int .i64 want] w fun e w' => e = .returned (.bool (allowsB l who owner want)) ∧ Below w.heap.size w w' := by
  unfold allowsB
  have C := Lib.hid (rights_any A n c l hn hl who owner w hA)
  clear hn hA
  go_enter Try.func17, Try.ntmps17
  go_wp2_with (go_at_call 15; refine C.out.mono ?_; rintro e w1 ⟨rfl, hb1⟩)
  all_goals
    go_ret
    refine ⟨ret_bool ?_, hb1⟩
    rw [bits_and, bv_toInt]
end Go.Proofs.Ytkpedfigaofloaa
