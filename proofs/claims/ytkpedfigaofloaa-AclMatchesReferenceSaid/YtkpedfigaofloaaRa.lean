/-
  Walk of the reference's has: the first entry that counts and bears a right decides it.
-/
import Derived.Test.YtkpedfigaofloaaAt
namespace Go.Proofs.Ytkpedfigaofloaa
open Go.RowKit Ap
set_option maxHeartbeats 400000

def hasP (who owner r : Int) (e : Ac) : Bool := cnt e who owner && (bits .and .i64 e.rights r != 0)
def hasB (l : List Ac) (who owner r : Int) : Bool := ((l.find? (hasP who owner r)).map Ac.allow).getD false
set_option maxHeartbeats 2000000 in
theorem has_any (A : Option Addr) (n c : Nat) (l : List Ac) (hn : l.length = n) (hl : n ≤ 1000) (who owner r : Int) (w : World) (hA : Aces w A l) :
    Calls Try.prog 37 #[.slice A n c, .int .i64 who, .int .i64 owner, .int .i64 r] w fun e w' => e = .returned (.bool (hasB l who owner r)) ∧ Below w.heap.size w w' := by
  have HN := Lib.hid hn
  have SA := Lib.hid hA
  clear hn hA
  go_enter Try.func37, Try.ntmps37
  go_wp2
  go_loopw [9] (fun i wr => ∃ k : Nat, k ≤ n ∧ i = .int .i64 k ∧ (l.take k).find? (hasP who owner r) = none ∧ Below w.heap.size w wr) (fun i _ => n - (intOf i).toNat)
  case atStart => exact ⟨0, Nat.zero_le _, rfl, rfl, Below.refl _ _⟩
  case round =>
    obtain ⟨k, hk, rfl, hfd, hbw⟩ := hrel
    have hbs := hbw.size
    by_cases hlt : k < n
    · have hkl : k < l.length := by rw [HN.out]; exact hlt
      obtain ⟨g, o, rfl, hg, hc⟩ := (SA.out.below hbw) (List.ne_nil_of_length_pos (by omega))
      have hat := hc k l[k] (List.getElem?_eq_getElem hkl)
      have hst := find_take hkl hfd
      obtain ⟨x, hx⟩ : ∃ a, l[k] = a := ⟨_, rfl⟩
      rw [hx] at hat hst
      have HAT := Lib.hid hat
      have cC := fun W => rcounts_any x who owner W
      obtain ⟨c0, c1, c2, c3, c4⟩ := hat
      obtain ⟨aw, al, ri, re, ag⟩ := x
      dsimp only at c0 c1 c2 c3 c4
      unfold av at cC
      dsimp only at cC
      unfold hasP at hst
      dsimp only at hst
      have k0 : (0 : Int) ≤ (k : Int) := by omega
      have kn : (k : Int) < (n : Int) := by omega
      clear hc hx SA hfd
      obtain ⟨cn, hcn⟩ : ∃ b, cnt ⟨aw, al, ri, re, ag⟩ who owner = b := ⟨_, rfl⟩
      rw [hcn] at cC hst
      have CC := Lib.hid cC
      have HST := Lib.hid hst
      clear cC hst hcn
      cases cn
      · go_wp2_with (go_at_call 46; refine (CC.out _).mono ?_; rintro e w1 ⟨rfl, hb1⟩)
        go_roundw
        case rel => exact ⟨k + 1, by omega, by go_num, HST.out.2 rfl, hbw.trans (hb1.mono hbs)⟩
        case measure => simp [intOf]; omega
      · cases hb : (bits .and .i64 ri r == 0)
        · have hb' : (bits .and .i64 ri r != 0) = true := by rw [bne, hb]; rfl
          have HS := Lib.hid (HST.out.1 (by rw [hb']; rfl))
          clear HST
          go_wp2_with (go_at_call 46; refine (CC.out _).mono ?_; rintro e w1 ⟨rfl, hb1⟩; obtain ⟨d0, d1, d2, d3, d4⟩ := HAT.out.below hb1)
          go_ret
          exact ⟨ret_bool (by unfold hasB; rw [show hasP who owner r = fun e => cnt e who owner && (bits .and .i64 e.rights r != 0) from rfl, HS.out]; rfl), hbw.trans (hb1.mono hbs)⟩
        · have hb' : (bits .and .i64 ri r != 0) = false := by rw [bne, hb]; rfl
          have HS := Lib.hid (HST.out.2 (by rw [hb']; rfl))
          clear HST
          go_wp2_with (go_at_call 46; refine (CC.out _).mono ?_; rintro e w1 ⟨rfl, hb1⟩; obtain ⟨d0, d1, d2, d3, d4⟩ := HAT.out.below hb1)
          go_roundw
          case rel => exact ⟨k + 1, by omega, by go_num, HS.out, hbw.trans (hb1.mono hbs)⟩
          case measure => simp [intOf]; omega
    · obtain rfl : k = n := by omega
      have hfull : l.take k = l := List.take_of_length_le (by rw [HN.out]; exact Nat.le_refl _)
      rw [hfull] at hfd
      have HF := Lib.hid hfd
      clear hfull hfd
      go_wp2
      go_ret
      exact ⟨ret_bool (by unfold hasB; rw [HF.out]; rfl), hbw⟩
end Go.Proofs.Ytkpedfigaofloaa
