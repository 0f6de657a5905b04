/-
  Walk of the program's Valid: whether a list is valid, with a map of the marks that were seen.
-/
import Derived.Test.YtkpedfigaofloaaAm
namespace Go.Proofs.Ytkpedfigaofloaa
open Go.RowKit Ap
set_option maxHeartbeats 400000

set_option maxHeartbeats 2000000 in
theorem valid_any (A : Option Addr) (n c : Nat) (l : List Ac) (hn : l.length = n) (hl : n ≤ 1000) (hok : ∀ a ∈ l, a.ok) (w : World) (hA : Aces w A l) :
    Calls Try.prog 13 #[.slice A n c] w fun e w' => e = .returned (.bool (validB l)) ∧ Below w.heap.size w w' := by
  by_cases h16 : n ≤ 16
  · have d16 : decide (16 < (n : Int)) = false := by simp; omega
    have HV := Lib.hid (show validB l = goV [] false l by unfold validB; rw [hn, decide_eq_true h16, Bool.true_and])
    have HN := Lib.hid hn
    have SA := Lib.hid hA
    have HOK := Lib.hid hok
    have hmm := @run_makeMap Try.prog
    clear hn hA hok
    go_enter Try.func13, Try.ntmps13
    go_wp2
    go_loopw [4, 6, 7, 14] (fun gv _ _ i wr => ∃ (k : Nat) (seen : List Ac) (gg : Bool), k ≤ n ∧ i = .int .i64 k ∧ gv = .bool gg ∧ SetM wr w.heap.size k (fun x => decide (x ∈ seen)) ∧ goV [] false l = goV seen gg (l.drop k) ∧ Below w.heap.size w wr) (fun _ _ _ i _ => n - (intOf i).toNat)
    case atStart => exact ⟨0, [], false, Nat.zero_le _, rfl, rfl, (SetM.made w).congr (fun _ => by simp), rfl, (Below.refl _ w).alloc (Nat.le_refl _) _⟩
    case round =>
      obtain ⟨k, seen, gg, hk, rfl, rfl, hset, hgo, hbw⟩ := hrel
      have hbs := hbw.size
      by_cases hlt : k < n
      · have hkl : k < l.length := by rw [HN.out]; exact hlt
        obtain ⟨g, o, rfl, hg, hc⟩ := (SA.out.below hbw) (List.ne_nil_of_length_pos (by omega))
        obtain ⟨c0, c1, c2, c3, c4⟩ := hc k l[k] (List.getElem?_eq_getElem hkl)
        have hxo : l[k].ok := HOK.out _ (List.getElem_mem hkl)
        rw [List.drop_eq_getElem_cons hkl, goV] at hgo
        obtain ⟨x, hx⟩ : ∃ a, l[k] = a := ⟨_, rfl⟩
        rw [hx] at c0 c1 c2 c3 c4 hgo hxo
        have hmo : x.mk0.ok := Ac.ok0 hxo
        have cM := fun W => markOf_any x W
        have cI := fun W => inRange_any x W
        have HXO := Lib.hid hmo
        obtain ⟨aw, al, ri, re, ag⟩ := x
        dsimp only at c0 c1 c2 c3 c4
        unfold badV at hgo
        dsimp only at hgo
        unfold av at cM cI
        dsimp only [Ac.mk0] at cM cI
        obtain ⟨r, hr⟩ : ∃ r, inR ⟨aw, al, ri, re, ag⟩ = r := ⟨_, rfl⟩
        obtain ⟨s, hs⟩ : ∃ s, decide ((⟨aw, al, ri, re, ag⟩ : Ac).mk0 ∈ seen) = s := ⟨_, rfl⟩
        rw [hr] at cI hgo
        rw [hs] at hgo
        have HSET := Lib.hid hset
        have CM := Lib.hid cM
        clear hc hx SA hxo hmo hr hset cM
        have ways : r = false ∨ (r = true ∧ (ri == 0) = true) ∨ (r = true ∧ (ri == 0) = false ∧ s = true) ∨ (r = true ∧ (ri == 0) = false ∧ s = false ∧ gg = true ∧ ag = false) ∨ (r = true ∧ (ri == 0) = false ∧ s = false ∧ gg = false) ∨ (r = true ∧ (ri == 0) = false ∧ s = false ∧ gg = true ∧ ag = true) := by
          cases r <;> cases (ri == 0) <;> cases s <;> cases gg <;> cases ag <;> simp
        rcases ways with rfl | ⟨rfl, e1⟩ | ⟨rfl, e1, rfl⟩ | ⟨rfl, e1, rfl, rfl, rfl⟩ | ⟨rfl, e1, rfl, rfl⟩ | ⟨rfl, e1, rfl, rfl, rfl⟩
        iterate 4
          · rw [if_pos (by simp [*])] at hgo
            have HGO := Lib.hid hgo
            have CI := Lib.hid cI
            have HS := Lib.hid hs
            clear hgo cI hs
            go_wp2_with (first | (go_at_call 33; refine (CM.out _).mono ?_; rintro e w1 ⟨rfl, hb1⟩; obtain ⟨h0, h1, h2, h3, h4, _, _, _, _, _, hlt1⟩ := after5 hb1) | (go_at_call 34; refine (CI.out _).mono ?_; rintro e w2 ⟨rfl, hb2⟩; obtain ⟨m0, m1, m2, m3, m4, _, _, _, _, _, hlt2⟩ := after5 hb2; obtain ⟨h0, h1, h2, h3, h4⟩ := keep5 h0 h1 h2 h3 h4 (below_new hb2); have hb12 : Below wr.heap.size wr w2 := (below_new hb1).trans ((below_new hb2).mono (Nat.le_of_lt hlt1)); have hs2 := Lib.hid (HSET.out.below hb12); have hlk := hs2.out.look_lit HXO.out HS.out; obtain ⟨w4, hup, hs4, hg4⟩ := hs2.out.update_lit (by unfold maxLen; omega) HXO.out; have g4 := grown_cell hg4 h4 (Nat.ne_of_lt HSET.out.lt); have hs4 := Lib.hid hs4; have hg4 := Lib.hid hg4))
            go_ret
            exact ⟨ret_bool (by rw [HV.out, HGO.out]), hbw.trans (hb12.mono hbs)⟩
        all_goals
          rw [if_neg (by simp [*])] at hgo
          have HGO := Lib.hid hgo
          have CI := Lib.hid cI
          have HS := Lib.hid hs
          clear hgo cI hs
          go_wp2_with (first | (go_at_call 33; refine (CM.out _).mono ?_; rintro e w1 ⟨rfl, hb1⟩; obtain ⟨h0, h1, h2, h3, h4, _, _, _, _, _, hlt1⟩ := after5 hb1) | (go_at_call 34; refine (CI.out _).mono ?_; rintro e w2 ⟨rfl, hb2⟩; obtain ⟨m0, m1, m2, m3, m4, _, _, _, _, _, hlt2⟩ := after5 hb2; obtain ⟨h0, h1, h2, h3, h4⟩ := keep5 h0 h1 h2 h3 h4 (below_new hb2); have hb12 : Below wr.heap.size wr w2 := (below_new hb1).trans ((below_new hb2).mono (Nat.le_of_lt hlt1)); have hs2 := Lib.hid (HSET.out.below hb12); have hlk := hs2.out.look_lit HXO.out HS.out; obtain ⟨w4, hup, hs4, hg4⟩ := hs2.out.update_lit (by unfold maxLen; omega) HXO.out; have g4 := grown_cell hg4 h4 (Nat.ne_of_lt HSET.out.lt); have hs4 := Lib.hid hs4; have hg4 := Lib.hid hg4))
          go_roundw
          case rel =>
            refine ⟨k + 1, _, _, by omega, by go_num, rfl, ?_, HGO.out, (hbw.trans (hb12.mono hbs)).grown hg4.out (by have := hb12.size; omega) (fun j hj => by cases hj; exact Nat.le_refl _)⟩
            exact hs4.out.congr (fun x => by simp)
          case measure => simp [intOf]; omega
      · obtain rfl : k = n := by omega
        have hdr : l.drop k = [] := List.drop_of_length_le (by rw [HN.out]; exact Nat.le_refl _)
        rw [hdr] at hgo
        have HGO := Lib.hid hgo
        clear hdr hgo hset
        go_wp2
        go_ret
        exact ⟨ret_bool (by rw [HV.out, HGO.out]; rfl), hbw⟩
  · have d16 : decide (16 < (n : Int)) = true := by simp; omega
    have HV := Lib.hid (show validB l = false by unfold validB; rw [hn, decide_eq_false h16, Bool.false_and])
    clear hn hA hok
    go_enter Try.func13, Try.ntmps13
    go_wp2
    go_ret
    exact ⟨ret_bool HV.out.symm, Below.refl _ _⟩
end Go.Proofs.Ytkpedfigaofloaa
