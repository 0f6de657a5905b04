/-
  Walk of the program's Rebuild.
-/
import Derived.Test.YtoodeoglpdapiaaUl
namespace Go.Proofs.Ytoodeoglpdapiaa
open Go.RowKit Gf
set_option maxHeartbeats 400000

theorem Rebuild_parg (A : Option Addr) (n c : Nat) (k i : Int) (h : properB n k = false ∨ i < 0 ∨ n ≤ i) (w : World) :
    Calls Try.prog 33 #[.slice A n c, .int .i64 k, .int .i64 i] w fun e w' => e = .returned (.tuple #[.slice none 0 0, .int .i64 1]) ∧ Below w.heap.size w w' := by
  have hf := fun W => (fits_any k (n : Int) W).mono (fun _ _ (h : _ ∧ _) => And.intro h.1 h.2.symm)
  rw [fits_proper] at hf
  have hc : properB n k = false ∨ (properB n k = true ∧ i < 0) ∨ (properB n k = true ∧ ¬ i < 0 ∧ (n : Int) ≤ i) := by
    cases hp : properB n k
    · exact .inl rfl
    · rw [hp] at h
      rcases h with h | h | h
      · cases h
      · exact .inr (.inl ⟨rfl, h⟩)
      · by_cases h2 : i < 0
        · exact .inr (.inl ⟨rfl, h2⟩)
        · exact .inr (.inr ⟨rfl, h2, h⟩)
  clear h
  rcases hc with hp | ⟨hp, h1⟩ | ⟨hp, h1, h2⟩
  all_goals
    rw [hp] at hf
    have HF := Lib.hid hf
    clear hp hf
    go_enter Try.func33, Try.ntmps33
    go_wp2_with (go_at_call 34; with_reducible refine (HF.out _).mono ?_; rintro e w1 ⟨rfl, rfl⟩)
    go_ret2
    exact ⟨rfl, by go_grown⟩

/-- What Rebuild gives where its numbers are in their ranges. -/
def RPost (okR : Nat → Prop) (w : World) (ls : List (List UInt8)) (k i : Nat) (e : Ending) (w' : World) : Prop :=
  (((rebP ls k i).length < k ∧ e = .returned (.tuple #[.slice none 0 0, .int .i64 70])) ∨
   ((rebP ls k i).length = k ∧ ∃ A' m c', e = .returned (.tuple #[.slice A' m c', .int .i64 0]) ∧ Slb (Or' okR w) w' A' m c' (rebL ls k i))) ∧ Below w.heap.size w w'
theorem RPost.few {okR : Nat → Prop} {w w' : World} {ls : List (List UInt8)} {k i : Nat} (h : (rebP ls k i).length < k) (hb : Below w.heap.size w w') : RPost okR w ls k i (.returned (.tuple #[.slice none 0 0, .int .i64 70])) w' := ⟨Or.inl ⟨h, rfl⟩, hb⟩
theorem RPost.yes {okR : Nat → Prop} {w w' : World} {ls : List (List UInt8)} {k i : Nat} {A' : Option Addr} {m c' : Nat} (h : (rebP ls k i).length = k) (hs : Slb (Or' okR w) w' A' m c' (rebL ls k i)) (hb : Below w.heap.size w w') : RPost okR w ls k i (.returned (.tuple #[.slice A' m c', .int .i64 0])) w' := ⟨Or.inr ⟨h, A', m, c', rfl, hs⟩, hb⟩

set_option maxHeartbeats 4000000 in
set_option maxRecDepth 20000 in
theorem Rebuild_p (okO okR : Nat → Prop) (A : Option Addr) (n c : Nat) (ls : List (List UInt8)) (hn : ls.length = n) (hr : ∀ r ∈ ls, r.length ≤ 1000) (k i : Nat) (hp : properB n k = true) (hi : i < n) (w : World) (hA : ListsO okO okR w A ls) :
    Calls Try.prog 33 #[.slice A n c, .int .i64 k, .int .i64 i] w (RPost okR w ls k i) := by
  obtain ⟨p1, p2, p3⟩ := properB_iff.1 hp
  have hf := fun W => (fits_any k (n : Int) W).mono (fun _ _ (h : _ ∧ _) => And.intro h.1 h.2.symm)
  rw [fits_proper, hp] at hf
  have HFI := Lib.hid hf
  have HN := Lib.hid hn
  have HR := Lib.hid hr
  have SA := Lib.hid hA
  have i0 : ¬ (i : Int) < 0 := by omega
  have i1 : ¬ (n : Int) ≤ (i : Int) := by omega
  clear hn hA hp hf hr
  go_enter Try.func33, Try.ntmps33
  go_upto_region 4 with (go_at_call 34; with_reducible refine (HFI.out _).mono ?_; rintro e w1 ⟨rfl, rfl⟩)
  have e3 : ((w.alloc (.cells #[.slice A n c] 23)).alloc (.cells #[.int .i64 i] 3)).heap.size = w.heap.size + 1 + 1 := by simp
  have gw0 : Below w.heap.size w (((w.alloc (.cells #[.slice A n c] 23)).alloc (.cells #[.int .i64 i] 3)).alloc (.cells #[.int .i64 0] 3)) := (((Below.refl _ w).alloc (Nat.le_refl _) _).alloc (by simp) _).alloc (by simp; omega) _
  have gw1 : (((w.alloc (.cells #[.slice A n c] 23)).alloc (.cells #[.int .i64 i] 3)).alloc (.cells #[.int .i64 0] 3)).cell? ⟨w.heap.size, 0, none⟩ = some (.slice A n c) := by
    rw [cell_of_row _ _ _ _ _ _ ((Below.heap_alloc _ _ _ (by rw [e3]; omega)).trans (heap_alloc2_old w _ _))]; rfl
  have gw2 : (((w.alloc (.cells #[.slice A n c] 23)).alloc (.cells #[.int .i64 i] 3)).alloc (.cells #[.int .i64 0] 3)).cell? ⟨w.heap.size + 1, 0, none⟩ = some (.int .i64 i) := by
    rw [cell_of_row _ _ _ _ _ _ ((Below.heap_alloc _ _ _ (by rw [e3]; omega)).trans (heap_alloc2_new w _ _))]; rfl
  have gw3 : (((w.alloc (.cells #[.slice A n c] 23)).alloc (.cells #[.int .i64 i] 3)).alloc (.cells #[.int .i64 0] 3)).heap[w.heap.size + 1 + 1]? = some (.cells #[.int .i64 (longTo ls i 0 : Nat)] 3 (0, 0)) := by
    have := heap_alloc_new ((w.alloc (.cells #[.slice A n c] 23)).alloc (.cells #[.int .i64 i] 3)) (.cells #[.int .i64 0] 3)
    rw [e3] at this
    exact this
  have gw4 : (((w.alloc (.cells #[.slice A n c] 23)).alloc (.cells #[.int .i64 i] 3)).alloc (.cells #[.int .i64 0] 3)).heap.size = w.heap.size + 1 + 1 + 1 := by simp
  generalize ((w.alloc (.cells #[.slice A n c] 23)).alloc (.cells #[.int .i64 i] 3)).alloc (.cells #[.int .i64 0] 3) = W at gw0 gw1 gw2 gw3 gw4 ⊢
  have HW0 := Lib.hid gw0
  have HW2 := Lib.hid gw2
  have HW1 := Lib.hid gw1
  have HW3 := Lib.hid gw3
  have HW4 := Lib.hid gw4
  clear gw0 gw2 gw3 gw4 e3
  obtain ⟨gL, hgL⟩ : ∃ g, w.heap.size + 1 + 1 = g := ⟨_, rfl⟩
  rw [hgL] at HW3 HW4
  rw [hgL]
  have HGL := Lib.hid hgL
  clear hgL
  go_wp2
  go_loopw [29] (fun j wr => ∃ q : Nat, q ≤ n ∧ j = .int .i64 q ∧ wr.heap[gL]? = some (.cells #[.int .i64 (longTo ls i q : Nat)] 3 (0, 0)) ∧ Below gL W wr) (fun j _ => n - (intOf j).toNat)
  case atStart => exact ⟨0, Nat.zero_le _, rfl, HW3.out, Below.refl _ _⟩
  case round =>
    obtain ⟨q, hq, rfl, hlg, hbw⟩ := hrel
    have k1 := (hbw.cell (p := ⟨w.heap.size, 0, none⟩) (show w.heap.size < gL by have := HGL.out; omega)).trans HW1.out
    have k2 := (hbw.cell (p := ⟨w.heap.size + 1, 0, none⟩) (show w.heap.size + 1 < gL by have := HGL.out; omega)).trans HW2.out
    by_cases hlt : q < n
    · have qn : (q : Int) < (n : Int) := by omega
      have q0 : (0 : Int) ≤ (q : Int) := by omega
      have hql : q < ls.length := by rw [HN.out]; exact hlt
      have HBW := Lib.hid hbw
      obtain ⟨g, o, rfl, _, hg, hc⟩ := (SA.out.below (HW0.out.trans (hbw.mono (by have := HGL.out; omega)))) (List.ne_nil_of_length_pos (by omega))
      obtain ⟨B, cb, q1, _⟩ := hc q ls[q] (List.getElem?_eq_getElem hql)
      have e : longTo ls i (q + 1) = if q = i then longTo ls i q else max (longTo ls i q) ls[q].length := by
        rw [longTo, List.getElem?_eq_getElem hql]; rfl
      obtain ⟨r, hr⟩ : ∃ r, ls[q].length = r := ⟨_, rfl⟩
      rw [hr] at q1 e
      obtain ⟨X, hX⟩ : ∃ X, longTo ls i q = X := ⟨_, rfl⟩
      rw [hX] at e hlg
      have HE := Lib.hid e
      have k3 := cell_of_one hlg
      have k4 := free_of_one hlg
      have HLG := Lib.hid hlg
      have HXX := Lib.hid hX
      rename_i hgar
      clear hgar hc hr e hbw hlg hX
      by_cases hqi : q = i
      · have hb : ((q : Int) != (i : Int)) = false := by simp [hqi]
        have HQ := Lib.hid hqi
        clear hqi
        go_wp2
        go_roundw
        case rel => exact ⟨q + 1, by omega, by go_num, by rw [HE.out, if_pos HQ.out]; exact HLG.out, HBW.out⟩
        case measure => simp [intOf]; omega
      · have hb : ((q : Int) != (i : Int)) = true := by simp; omega
        have hmax : ∀ W, (Builtin.max_ #[3, 3] 3 #[.int .i64 X, .int .i64 r]).run Try.prog W = .ok (.int .i64 (max X r : Nat)) W := fun W => by
          rw [run_max_int2]
          exact congrArg (fun z => Result.ok (Value.int .i64 z) W) (by split <;> omega)
        have HQ := Lib.hid hqi
        clear hqi
        go_wp2
        go_roundw
        case rel =>
          refine ⟨q + 1, by omega, by go_num, ?_, HBW.out.setCell (Nat.le_refl _) _⟩
          rw [HE.out, if_neg HQ.out]
          exact one_setCell HLG.out
        case measure => simp [intOf]; omega
    · obtain rfl : q = n := by omega
      have hlong : longTo ls i q = longOf ls i := by unfold longOf; rw [HN.out]
      have hL1 : longOf ls i ≤ 1000 := longTo_le HR.out i _
      rw [hlong] at hlg
      have HRP := Lib.hid (show rebP ls k i = ptsL ls k (longOf ls i) (i : Int) from rfl)
      obtain ⟨L, hL⟩ : ∃ L, longOf ls i = L := ⟨_, rfl⟩
      rw [hL] at hL1 hlg HRP
      have k3 := cell_of_one hlg
      have hgLw : gL < wr.heap.size := (Array.getElem?_eq_some_iff.1 hlg).1
      have HBW := Lib.hid (HW0.out.trans (hbw.mono (by have := HGL.out; omega)))
      have hfr := firstR_any A q c ls HN.out (by omega) k (w.heap.size + 1) w.heap.size gL i L okO (fun _ => True) wr (fun _ _ => trivial) ((SA.out.below HBW.out).mono (fun _ _ h => h) (fun _ _ _ => trivial)) k2 k1 k3
      rw [ptsL_isK HN.out, ptsL_isK_len HN.out] at hfr
      have hpn := ptsL_nodup (ls := ls) (k := k) (long := L) (but := (i : Int)) (by rw [HN.out]; omega)
      have hpm : ∀ q ∈ ptsL ls k L (i : Int), (rowOf ls q).length = L := fun q hq => (ptsL_mem (by rw [HN.out]; omega) hq).2.2
      have hpl := ptsL_le ls k L (i : Int)
      have HRL := Lib.hid (show rebL ls k i = shardL ls (rebP ls k i) (UInt8.ofNat i) from rfl)
      rw [HRP.out] at HRL
      obtain ⟨pts, hpts⟩ : ∃ p, ptsL ls k L (i : Int) = p := ⟨_, rfl⟩
      rw [hpts] at hfr hpn hpm hpl HRP HRL
      have HFR := Lib.hid hfr
      have HPN := Lib.hid hpn
      have HPM := Lib.hid hpm
      have HK2 := Lib.hid k2
      clear hfr hpn hpm hpts hL hlong hlg hbw
      by_cases hfw : pts.length < k
      · obtain ⟨m, hm⟩ : ∃ m, pts.length = m := ⟨_, rfl⟩
        rw [hm] at hfw hpl HFR
        have hmk : (m : Int) < (k : Int) := by omega
        have HM := Lib.hid hm
        clear hm
        go_wp2_with (go_at_call 43; with_reducible refine HFR.out.mono ?_; rintro e w1 ⟨P, cP, rfl, hK1, hb1⟩)
        go_ret2
        exact RPost.few (by rw [HRP.out, HM.out]; exact hfw) (HBW.out.trans (hb1.mono HBW.out.size))
      · have hm : pts.length = k := by omega
        rw [hm] at HFR
        have HM := Lib.hid hm
        clear hm hfw hpl
        have HJL := Lib.hid (shardL_len (ls := ls) (pts := pts) (L := L) (HPM.out _ (by rw [List.getElem?_eq_getElem (show 0 < pts.length by rw [HM.out]; omega)]; exact List.getElem_mem _)) (UInt8.ofNat i))
        have HTH := Lib.hid (fun (A' : Option Addr) (c' : Nat) (W : World) (hK : Kns (fun _ => True) W A' ls pts) => through_any (fun _ => True) A' k c' ls pts W (fun _ _ => trivial) hK)
        have HTR := Lib.hid (fun (bl p : Nat) (A' : Option Addr) (c' : Nat) (W : World) (hT : Thru (fun _ => True) W bl p A' k c' ls pts) => thru_any (fun _ => True) bl p A' k c' ls pts HM.out (by omega) (by omega) HPN.out L (by omega) HPM.out i (by omega) W hT)
        have kk : ¬ (k : Int) < (k : Int) := by omega
        go_upto_region 13 with (go_at_call 43; with_reducible refine HFR.out.mono ?_; rintro e w1 ⟨P, cP, rfl, hK1, hb1⟩)
        have HK1 := Lib.hid (show Kns (fun _ => True) w1.drew P ls pts from hK1)
        have hB1 : Below wr.heap.size wr w1.drew := hb1.drew
        have KS := Lib.hid (fun W' (h : Below wr.heap.size wr W') => show W'.cell? ⟨w.heap.size + 1, 0, none⟩ = some (.int .i64 i) from (h.cell (p := ⟨w.heap.size + 1, 0, none⟩) (show w.heap.size + 1 < wr.heap.size by have := HGL.out; omega)).trans HK2.out)
        have HB := Lib.hid (fun w2 (h : Below w1.drew.heap.size w1.drew w2) => show Below wr.heap.size wr w2 from hB1.trans (h.mono hB1.size))
        have HB3 := Lib.hid (fun w2 w3 (h : Below wr.heap.size wr w2) (h3 : Below w2.heap.size w2 w3) => show Below wr.heap.size wr w3 from h.trans (h3.mono h.size))
        clear hK1 hb1 k1 k2 k3
        go_region_held (fun W' => W'.cell? ⟨w.heap.size + 1, 0, none⟩ = some (.int .i64 i)) (first | with_reducible exact KS.out _ hb3' | with_reducible exact KS.out _ hb2' | with_reducible exact KS.out _ hB1) (first | (go_at_call 42; with_reducible refine (HTH.out P cP _ HK1.out).mono ?_; rintro e w2 ⟨bl, p, rfl, hT2, hb2⟩; have hb2' := HB.out w2 hb2) | (go_at_call 49; with_reducible refine (HTR.out bl p P cP w2 hT2).mono ?_; rintro e w3 ⟨rfl, hown3, hb3⟩; have hb3' := HB3.out w2 w3 hb2' hb3))
        rw [← HRL.out] at hown3
        have HO3 := Lib.hid hown3
        clear hown3
        go_wp2
        go_ret2
        have hbf := HBW.out.trans (hb3'.mono HBW.out.size)
        have hle : w.heap.size ≤ w2.heap.size := (HBW.out.trans (hb2'.mono HBW.out.size)).size
        have hO := Slb.own HO3.out
        exact RPost.yes (by rw [HRP.out, HM.out]) (hO.mono (fun b _ hb => Or.inr (Nat.le_trans hle hb))) hbf
end Go.Proofs.Ytoodeoglpdapiaa
