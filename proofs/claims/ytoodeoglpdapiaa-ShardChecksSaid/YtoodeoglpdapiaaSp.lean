/-
  Walk of the reference's Check.
-/
import Derived.Test.YtoodeoglpdapiaaSo
import Derived.Deep.RegionHeld
namespace Go.Proofs.Ytoodeoglpdapiaa
open Go.RowKit Gf
set_option maxHeartbeats 400000

theorem Lists.take {w : World} {A : Option Addr} {ls : List (List UInt8)} (h : Lists w A ls) (k : Nat) : Lists w A (ls.take k) := fun hn => by
  obtain ⟨g, o, hA, hg, hc⟩ := h (fun e => hn (by rw [e]; simp))
  refine ⟨g, o, hA, hg, fun j r hr => hc j r ?_⟩
  rw [List.getElem?_take] at hr
  split at hr
  · exact hr
  · cases hr
/-- All shards have the length of the first one, and each is the one that belongs to the first k. -/
def lenOk (ls : List (List UInt8)) (r : List UInt8) : Bool := r.length == (ls[0]?.getD []).length
def rowOk (ls : List (List UInt8)) (k i : Nat) : Bool := shardL (ls.take k) (firstL k) (UInt8.ofNat i) == ls[i]?.getD []
def chkL (ls : List (List UInt8)) (k : Nat) : Bool := ls.all (lenOk ls) && (List.range ls.length).all (rowOk ls k)
theorem all_take_succ {ls : List (List UInt8)} {p : List UInt8 → Bool} {j : Nat} (hj : j < ls.length) : (ls.take (j + 1)).all p = ((ls.take j).all p && p ls[j]) := by
  rw [List.take_succ_eq_append_getElem hj, List.all_append]; simp
theorem all_bad {ls : List (List UInt8)} {p : List UInt8 → Bool} {j : Nat} (hj : j < ls.length) (h : p ls[j] = false) : ls.all p = false := by
  rw [List.all_eq_false]; exact ⟨ls[j], List.getElem_mem _, by simp [h]⟩
theorem range_all_succ {p : Nat → Bool} {j : Nat} : (List.range (j + 1)).all p = ((List.range j).all p && p j) := by
  rw [List.range_succ, List.all_append]; simp
theorem range_all_bad {p : Nat → Bool} {n j : Nat} (hj : j < n) (h : p j = false) : (List.range n).all p = false := by
  rw [List.all_eq_false]; exact ⟨j, List.mem_range.2 hj, by simp [h]⟩

theorem Check_arg (A : Option Addr) (n c : Nat) (k : Int) (h : properB n k = false) (w : World) :
    Calls Try.prog 20 #[.slice A n c, .int .i64 k] w fun e w' => e = .returned (.bool false) ∧ w' = w := by
  have HP := Lib.hid (proper_any A n c k)
  rw [h] at HP
  clear h
  go_enter Try.func20, Try.ntmps20
  go_wp2_with (go_at_call 31; refine (HP.out _).mono ?_; rintro e w1 ⟨rfl, rfl⟩)
  go_ret
  exact ⟨rfl, rfl⟩

set_option maxHeartbeats 4000000 in
set_option maxRecDepth 20000 in
theorem Check_any (A : Option Addr) (n c : Nat) (ls : List (List UInt8)) (hn : ls.length = n) (hnc : n ≤ c) (hr : ∀ r ∈ ls, r.length ≤ 1000) (k : Nat) (hp : properB n k = true) (w : World) (hA : Lists w A ls) :
    Calls Try.prog 20 #[.slice A n c, .int .i64 k] w fun e w' => e = .returned (.bool (chkL ls k)) ∧ Below w.heap.size w w' := by
  obtain ⟨p1, p2, p3⟩ := properB_iff.1 hp
  have HP := Lib.hid (proper_any A n c k)
  rw [hp] at HP
  have HN := Lib.hid hn
  have HR := Lib.hid hr
  have SA := Lib.hid hA
  have h0l : 0 < ls.length := by omega
  obtain ⟨g, o, rfl, hg, hc⟩ := hA (List.ne_nil_of_length_pos h0l)
  obtain ⟨B0, cb0, q0, _, _, _⟩ := hc 0 ls[0] (List.getElem?_eq_getElem h0l)
  have q0' : w.cell? ⟨g, o, none⟩ = some (.slice B0 ls[0].length cb0) := q0
  have HLO := Lib.hid (fun r : List UInt8 => show lenOk ls r = (r.length == ls[0].length) by unfold lenOk; rw [List.getElem?_eq_getElem h0l]; rfl)
  obtain ⟨L, hL⟩ : ∃ L, ls[0].length = L := ⟨_, rfl⟩
  rw [hL] at q0' HLO
  have HC := Lib.hid hc
  have kn : (k : Int) ≤ (n : Int) := by omega
  clear hn hp hr hA hc q0 hL
  go_enter Try.func20, Try.ntmps20
  go_wp2_with (go_at_call 31; refine (HP.out _).mono ?_; rintro e w1 ⟨rfl, rfl⟩)
  go_loopw [5] (fun i wr => ∃ j m : Nat, j ≤ n ∧ i = .int .i64 j ∧ (ls.take j).all (lenOk ls) = true ∧ wr = w1.drewN m) (fun i _ => n - (intOf i).toNat)
  case atStart => exact ⟨0, 0, Nat.zero_le _, rfl, rfl, rfl⟩
  case round =>
    obtain ⟨j, m, hj, rfl, hok, rfl⟩ := hrel
    by_cases hlt : j < n
    · have jn : (j : Int) < (n : Int) := by omega
      have j0 : (0 : Int) ≤ (j : Int) := by omega
      have n0 : (0 : Int) < (n : Int) := by omega
      have hjl : j < ls.length := by rw [HN.out]; exact hlt
      obtain ⟨B, cb, q1, _, _, _⟩ := HC.out j ls[j] (List.getElem?_eq_getElem hjl)
      have hst := all_take_succ (p := lenOk ls) hjl
      have hbad := all_bad (p := lenOk ls) hjl
      rw [HLO.out] at hst hbad
      rw [hok] at hst
      obtain ⟨r, hr⟩ : ∃ r, ls[j].length = r := ⟨_, rfl⟩
      rw [hr] at q1 hst hbad
      have HST := Lib.hid hst
      have HBAD := Lib.hid hbad
      clear hst hbad hr hok
      by_cases hrl : r = L
      · have hb : ((r : Int) != (L : Int)) = false := by simp [hrl]
        have HRL := Lib.hid hrl
        clear hrl
        go_wp2
        go_quiet (fail)
        go_wp2
        go_roundw
        case rel => exact ⟨j + 1, _, by omega, by go_num, by rw [HST.out]; simp [HRL.out], rfl⟩
        case measure => simp [intOf]; omega
      · have hb : ((r : Int) != (L : Int)) = true := by simp; omega
        have HRL := Lib.hid hrl
        clear hrl
        go_wp2
        go_quiet (fail)
        go_wp2
        go_ret
        exact ⟨ret_bool (by unfold chkL; rw [HBAD.out (by simp [HRL.out])]; rfl), by rw [World.drewN_drewN]; exact below_drewN _ _⟩
    · obtain rfl : j = n := by omega
      have hall : ls.all (lenOk ls) = true := by rw [List.take_of_length_le (by rw [HN.out]; exact Nat.le_refl _)] at hok; exact hok
      have HALL := Lib.hid hall
      clear hall hok
      go_wp2
      go_loopw [6] (fun i wr => ∃ q : Nat, q ≤ j ∧ i = .int .i64 q ∧ (List.range q).all (rowOk ls k) = true ∧ Below w1.heap.size w1 wr) (fun i _ => j - (intOf i).toNat)
      case atStart => exact ⟨0, Nat.zero_le _, rfl, rfl, below_drewN _ _⟩
      case round =>
        obtain ⟨q, hq, rfl, hok, hbw⟩ := hrel
        have hbs := hbw.size
        by_cases hlq : q < j
        · have qn : (q : Int) < (j : Int) := by omega
          have q0 : (0 : Int) ≤ (q : Int) := by omega
          have hql : q < ls.length := by rw [HN.out]; exact hlq
          obtain ⟨B, cb, q1, _, _, _, q4⟩ := HC.out q ls[q] (List.getElem?_eq_getElem hql)
          have hst : (List.range (q + 1)).all (rowOk ls k) = (shardL (ls.take k) (firstL k) (UInt8.ofNat q) == ls[q]) := by
            rw [range_all_succ, hok, Bool.true_and]; unfold rowOk; rw [List.getElem?_eq_getElem hql]; rfl
          have hbad : (shardL (ls.take k) (firstL k) (UInt8.ofNat q) == ls[q]) = false → chkL ls k = false := fun h => by
            unfold chkL
            rw [range_all_bad (p := rowOk ls k) hql (by unfold rowOk; rw [List.getElem?_eq_getElem hql]; exact h), Bool.and_false]
          obtain ⟨x, hx⟩ : ∃ x, ls[q] = x := ⟨_, rfl⟩
          rw [hx] at q1 q4 hst hbad
          obtain ⟨nx, hnx⟩ : ∃ n, x.length = n := ⟨_, rfl⟩
          rw [hnx] at q1
          have hrl : ∀ p ∈ firstL k, (rowOf (ls.take k) p).length = L := fun p hp => by
            have h1 := firstL_mem (by omega) hp
            have h2 : p.toNat < ls.length := by rw [HN.out]; omega
            unfold rowOf
            rw [List.getElem?_take, if_pos h1, List.getElem?_eq_getElem h2]
            have := List.all_eq_true.1 HALL.out _ (List.getElem_mem h2)
            rw [HLO.out] at this
            simpa using this
          have hL1 : L ≤ 1000 := by
            have h1 := List.all_eq_true.1 HALL.out _ (List.getElem_mem h0l)
            rw [HLO.out] at h1
            have h2 := HR.out _ (List.getElem_mem h0l)
            have h3 : ls[0].length = L := by simpa using h1
            omega
          have hm0 : (firstL k)[0]?.getD 0 ∈ firstL k := by rw [firstL_get (by omega)]; exact List.mem_map.2 ⟨0, List.mem_range.2 (by omega), rfl⟩
          have HSL := Lib.hid (shardL_len (pts := firstL k) (hrl _ hm0) (UInt8.ofNat q))
          have HF := Lib.hid (fun W => first_any k (by omega) W)
          have HS := Lib.hid (fun (P : Option Addr) (cP : Nat) (W : World) (h1 : Lists W (some ⟨g, o, none⟩) (ls.take k)) (h2 : Byts W P (firstL k)) => shard_any (some ⟨g, o, none⟩) P k c k cP (ls.take k) (firstL k) (by rw [List.length_take, HN.out]; omega) (by omega) (firstL_len k) (by omega) (by omega) q (by omega) (fun p hp => firstL_mem (by omega) hp) L (by omega) (hrl _ hm0) (fun p hp => by rw [hrl p hp]; exact Nat.le_refl _) W h1 h2)
          obtain ⟨y, hy⟩ : ∃ y, shardL (ls.take k) (firstL k) (UInt8.ofNat q) = y := ⟨_, rfl⟩
          rw [hy] at hst hbad HSL HS
          have HK := Lib.hid (fun W (h : Below w1.heap.size w1 W) => show W.cell? ⟨g, o + q, none⟩ = some (.slice B nx cb) ∧ (convert 22 9 (.slice B nx cb)).run Try.prog W = .ok (.string (tx x)) W ∧ Below w1.heap.size w1 W from ⟨(h.cell (p := ⟨g, o + q, none⟩) hg).trans q1, str_any (q4.below h) nx cb hnx, h⟩)
          have HST := Lib.hid hst
          have HBAD := Lib.hid hbad
          have HTK := Lib.hid (fun W (h : Below w1.heap.size w1 W) => (SA.out.below h).take k)
          have hb0 := hbw
          have kc : (k : Int) ≤ (c : Int) := by omega
          have k0 : (0 : Int) ≤ (k : Int) := by omega
          clear hx hnx hrl hm0 hy q1 q4 hst hbad hok
          by_cases hyx : y = x
          · have ht : ((tx y).toList == (tx x).toList) = true := by rw [tx_beq]; simp [hyx]
            have HYX := Lib.hid hyx
            clear hyx
            go_wp2
            first | (go_region_held (fun W => W.cell? ⟨g, o + q, none⟩ = some (.slice B nx cb) ∧ (convert 22 9 (.slice B nx cb)).run Try.prog W = .ok (.string (tx x)) W ∧ Below w1.heap.size w1 W) (first | with_reducible exact HK.out _ hb0.drew | with_reducible exact HK.out _ hbA | with_reducible exact HK.out _ hbB) (first | (go_at_call 29; refine (HF.out _).mono ?_; rintro e w2 ⟨P, cP, rfl, hownP, hb1⟩; have hbA : Below w1.heap.size w1 w2 := hb0.drew.trans (hb1.mono hbs)) | (go_at_call 28; refine (HS.out P cP w2 (HTK.out _ hbA) (Byts.of_own hownP)).mono ?_; rintro e w3 ⟨gS, cS, rfl, hownS, hb2⟩; have hbB : Below w1.heap.size w1 w3 := hbA.trans (hb2.mono hbA.size); have s3 := str_any (Byts.of_own hownS) L cS HSL.out))) | fail
            all_goals
              go_wp2
              go_roundw
              case rel => exact ⟨q + 1, by omega, by go_num, by rw [HST.out]; simp [HYX.out], hbB⟩
              case measure => simp [intOf]; omega
          · have ht : ((tx y).toList == (tx x).toList) = false := by rw [tx_beq]; simp [hyx]
            have HYX := Lib.hid hyx
            clear hyx
            go_wp2
            first | (go_region_held (fun W => W.cell? ⟨g, o + q, none⟩ = some (.slice B nx cb) ∧ (convert 22 9 (.slice B nx cb)).run Try.prog W = .ok (.string (tx x)) W ∧ Below w1.heap.size w1 W) (first | with_reducible exact HK.out _ hb0.drew | with_reducible exact HK.out _ hbA | with_reducible exact HK.out _ hbB) (first | (go_at_call 29; refine (HF.out _).mono ?_; rintro e w2 ⟨P, cP, rfl, hownP, hb1⟩; have hbA : Below w1.heap.size w1 w2 := hb0.drew.trans (hb1.mono hbs)) | (go_at_call 28; refine (HS.out P cP w2 (HTK.out _ hbA) (Byts.of_own hownP)).mono ?_; rintro e w3 ⟨gS, cS, rfl, hownS, hb2⟩; have hbB : Below w1.heap.size w1 w3 := hbA.trans (hb2.mono hbA.size); have s3 := str_any (Byts.of_own hownS) L cS HSL.out))) | fail
            all_goals
              go_wp2
              go_ret
              exact ⟨ret_bool (HBAD.out (by simp [HYX.out])).symm, hbB⟩
        · obtain rfl : q = j := by omega
          have HOK := Lib.hid hok
          clear hok
          go_wp2
          go_ret
          refine ⟨ret_bool ?_, hbw⟩
          unfold chkL
          rw [HALL.out, HN.out, HOK.out]; rfl
end Go.Proofs.Ytoodeoglpdapiaa
