/-
  Walk of the reference's Encode.
-/
import Derived.Test.YtoodeoglpdapiaaSl
import Derived.Test.YtoodeoglpdapiaaSg
namespace Go.Proofs.Ytoodeoglpdapiaa
open Go.RowKit Gf
set_option maxHeartbeats 400000

/-- The result's own block, and the old world below it. -/
def RBox (w : World) (t : TypeId) (W : World) : Prop := W.heap[w.heap.size]? = some (.cells #[.slice none 0 0, .int .i64 0] t (0, 0)) ∧ Below w.heap.size w W
theorem RBox.step {w : World} {t : TypeId} {W W' : World} (h : RBox w t W) (hb : Below (w.heap.size + 1) W W') : RBox w t W' :=
  ⟨(hb.block w.heap.size (by omega)).trans h.1, h.2.trans (hb.mono (by omega))⟩
theorem rbox_start (w : World) (t : TypeId) : RBox w t (w.alloc (.cells #[.slice none 0 0, .int .i64 0] t)) :=
  ⟨heap_alloc_new w _, (Below.refl _ w).alloc (Nat.le_refl _) _⟩
theorem RBox.size {w : World} {t : TypeId} {W : World} (h : RBox w t W) : w.heap.size + 1 ≤ W.heap.size := (Array.getElem?_eq_some_iff.1 h.1).1
theorem RBox.cells {w : World} {t : TypeId} {W : World} (h : RBox w t W) : W.cell? ⟨w.heap.size, 0, none⟩ = some (.slice none 0 0) ∧ W.cell? ⟨w.heap.size, 1, none⟩ = some (.int .i64 0) ∧ W.frozen? ⟨w.heap.size, 0, none⟩ = false ∧ W.frozen? ⟨w.heap.size, 1, none⟩ = false :=
  ⟨cell_of_row W w.heap.size 0 _ t (0, 0) h.1, cell_of_row W w.heap.size 1 _ t (0, 0) h.1, frozen_of_row W w.heap.size 0 _ t h.1, frozen_of_row W w.heap.size 1 _ t h.1⟩

theorem Encode_no (A : Option Addr) (nb cb : Nat) (k n : Int) (h : ¬ (1 ≤ k ∧ k ≤ n ∧ n ≤ 12)) (w : World) :
    Calls Try.prog 12 #[.slice A nb cb, .int .i64 k, .int .i64 n] w fun e w' => e = .returned (.agg #[.slice none 0 0, .int .i64 1]) ∧ Below w.heap.size w w' := by
  have hc : (k < 1) ∨ (¬ k < 1 ∧ n < k) ∨ (¬ k < 1 ∧ ¬ n < k ∧ 12 < n) := by omega
  clear h
  rcases hc with h1 | ⟨h1, h2⟩ | ⟨h1, h2, h3⟩
  all_goals
    go_enter Try.func12, Try.ntmps12
    go_wp2
    refine bodyPost_ret (v := .agg #[.slice none 0 0, .int .i64 1]) ?_ rfl ⟨rfl, by go_grown⟩
    simp [results, Try.results12, go_sem]

set_option maxHeartbeats 4000000 in
set_option maxRecDepth 20000 in
theorem Encode_yes (A : Option Addr) (nb cb : Nat) (b : List UInt8) (hn : b.length = nb) (hl : nb ≤ 1000) (k n : Nat) (hk1 : 1 ≤ k) (hkn : k ≤ n) (hn12 : n ≤ 12) (w : World) (hA : Byts w A b) :
    Calls Try.prog 12 #[.slice A nb cb, .int .i64 k, .int .i64 n] w fun e w' => ∃ A' c', e = .returned (.agg #[.slice A' n c', .int .i64 0]) ∧ OwnRows (w.heap.size + 1) (w.heap.size + 1) w' A' n c' (encL b k n) ∧ Below w.heap.size w w' := by
  obtain ⟨i0, hi, hz0, hz1, hz2⟩ := info_parts info_sl
  obtain ⟨iu, hu, hu0, hu1, hu2⟩ := info_parts info_u8
  have HN := Lib.hid hn
  have SA := Lib.hid hA
  have HL := Lib.hid (fun W => Long_any nb k (by omega) hk1 (by omega) W)
  obtain ⟨L, hL⟩ : ∃ L, longN nb k = L := ⟨_, rfl⟩
  have hLn : L ≤ nb + 1 := by
    rw [← hL]; unfold longN
    have := Nat.div_le_self nb k
    split <;> omega
  rw [hL] at HL
  have HLL := Lib.hid (show encL b k n = encTo b L k n by unfold encL; rw [hn, hL])
  have hB0 := Lib.hid (rbox_start w 29)
  have h1 : ¬ (k : Int) < 1 := by omega
  have h2 : ¬ (n : Int) < (k : Int) := by omega
  have h3 : ¬ (12 : Int) < (n : Int) := by omega
  clear hn hA hL
  go_enter Try.func12, Try.ntmps12
  go_wp2_with (go_at_call 25; refine (HL.out _).mono ?_; rintro e w1 ⟨rfl, rfl⟩)
  go_loopw [7, 9, 10, 11, 12] (fun o i _ _ _ wr => ∃ (j : Nat) (A' : Option Addr) (c' : Nat), j ≤ k ∧ i = .int .i64 j ∧ o = .slice A' j c' ∧ OwnRows (w.heap.size + 1) (w.heap.size + 1) wr A' j c' (encTo b L k j) ∧ RBox w 29 wr) (fun _ i _ _ _ _ => k - (intOf i).toNat)
  case atStart => exact ⟨0, some ⟨w.heap.size + 1, 0, none⟩, 0, Nat.zero_le _, rfl, rfl, by simpa [encTo_zero] using OwnRows.empty (w.heap.size + 1) (w.alloc (.cells #[.slice none 0 0, .int .i64 0] 29)), hB0.out.step (by go_grown)⟩
  case round =>
    obtain ⟨j, A', c', hj, rfl, rfl, hown, hbw⟩ := hrel
    obtain ⟨wo, hwo⟩ : ∃ W, W = wr := ⟨_, rfl⟩
    subst hwo
    have hbs := hbw.size
    by_cases hlt : j < k
    · have jk : (j : Int) < (k : Int) := by omega
      have HO := Lib.hid hown
      have HBW := Lib.hid hbw
      have hbel := hbw.2
      clear hown hbw
      go_wp2
      go_loopw [10, 11, 12] (fun v i _ wz => ∃ (t : Nat) (A'' : Option Addr) (c'' : Nat), t ≤ L ∧ i = .int .i64 t ∧ v = .slice A'' t c'' ∧ wz.ownsRow wo.heap.size 5 1 (.slice A'' t c'') t (bys ((encRow b L j).take t)) ∧ Below wo.heap.size wo wz) (fun _ i _ _ => L - (intOf i).toNat)
      case atStart => exact ⟨0, some ⟨wo.heap.size, 0, none⟩, 0, Nat.zero_le _, rfl, rfl, own_empty _ _, by go_grown⟩
      case round =>
        obtain ⟨t, A'', c'', ht, rfl, rfl, hown2, hbz⟩ := hrel
        have hbzs := hbz.size
        by_cases htl : t < L
        · have tl : (t : Int) < (L : Int) := by omega
          have hrow := Lib.hid (encRow_succ b L j t htl)
          have hjL : j * L ≤ 12 * 1001 := Nat.mul_le_mul (by omega) (by omega)
          have em : (j : Int) * (L : Int) = ((j * L : Nat) : Int) := by simp
          obtain ⟨M, hM⟩ : ∃ M, j * L = M := ⟨_, rfl⟩
          rw [hM] at em hjL hrow
          clear hM
          by_cases hin : M + t < nb
          · have hin' : (M : Int) + (t : Int) < (nb : Int) := by omega
            have hil : M + t < b.length := by rw [HN.out]; exact hin
            obtain ⟨g, o, rfl, hg, hc⟩ := ((SA.out.below hbel).below hbz) (List.ne_nil_of_length_pos (by omega))
            obtain ⟨x, hx⟩ : ∃ x, b[M + t] = x := ⟨_, rfl⟩
            have hxc := hc (M + t) x (by rw [List.getElem?_eq_getElem hil, hx])
            have hrow2 := hrow.out
            rw [List.getElem?_eq_getElem hil, hx] at hrow2
            have HR := Lib.hid hrow2
            clear hc hx hrow2
            go_wp2_with (at_builtin; refine wpList_append_own _ rfl _ _ 22 rfl wo.heap.size 5 iu _ 1 1 Try.underlying22 hu hu0 hu1 hu2 rfl (by decide) _ _ _ rfl (hown2.alloc _) ⟨wr.heap.size, 0, none⟩ 1 1 [.int .u8 x.toNat] rfl rfl (cell_one_new _ _ _) (by simp [Value.oneCell']) (by unfold maxLen; omega) (by omega) (by simp; omega) ?_; intro v' w1 hown' hgrow _; obtain ⟨g', cap', rfl⟩ := ownsRow_succ hown')
            have hb2 : Below wo.heap.size wo w1 := (hbz.alloc hbzs _).grown hgrow (by simp; omega) (fun j hj => (hown2.lt j hj).1)
            go_roundw
            case rel =>
              refine ⟨t + 1, some ⟨g', 0, none⟩, cap', by omega, by go_num, rfl, ?_, hb2⟩
              rw [HR.out, bys_append]
              exact hown'
            case measure => simp [intOf]; omega
          · have hin' : ¬ (M : Int) + (t : Int) < (nb : Int) := by omega
            have hil : b.length ≤ M + t := by rw [HN.out]; omega
            have hrow2 := hrow.out
            rw [List.getElem?_eq_none hil] at hrow2
            have HR := Lib.hid hrow2
            clear hrow2
            go_wp2_with (at_builtin; refine wpList_append_own _ rfl _ _ 22 rfl wo.heap.size 5 iu _ 1 1 Try.underlying22 hu hu0 hu1 hu2 rfl (by decide) _ _ _ rfl (hown2.alloc _) ⟨wr.heap.size, 0, none⟩ 1 1 [.int .u8 0] rfl rfl (cell_one_new _ _ _) (by simp [Value.oneCell']) (by unfold maxLen; omega) (by omega) (by simp; omega) ?_; intro v' w1 hown' hgrow _; obtain ⟨g', cap', rfl⟩ := ownsRow_succ hown')
            have hb2 : Below wo.heap.size wo w1 := (hbz.alloc hbzs _).grown hgrow (by simp; omega) (fun j hj => (hown2.lt j hj).1)
            go_roundw
            case rel =>
              refine ⟨t + 1, some ⟨g', 0, none⟩, cap', by omega, by go_num, rfl, ?_, hb2⟩
              rw [HR.out, bys_append]
              exact hown'
            case measure => simp [intOf]; omega
        · obtain rfl : t = L := by omega
          have hfull : (encRow b t j).take t = encRow b t j := List.take_of_length_le (by rw [encRow_len]; exact Nat.le_refl _)
          rw [hfull] at hown2
          have hbw2 := HBW.out.step (hbz.mono HBW.out.size)
          obtain ⟨cs, hown1, hrws⟩ := HO.out
          have hown1r := own_keep hown1 hbz
          have hcap := own_cap hown2
          have hcn := own_none hown2
          have hbx : BytsX (w.heap.size + 1) (Value.ownBlock (.slice A' j c')) wr A'' (encRow b t j) := (BytsX.of_own hown2 hown1 (Nat.le_refl _)).mono HBW.out.size
          have HRW := Lib.hid (hrws.below hbz)
          have HBX := Lib.hid hbx
          have HB2 := Lib.hid hbw2
          have hs2 := hbw2.size
          have HO1 := Lib.hid hown1
          clear hown2 hfull hrws hbx hbw2 HO hown1
          go_wp2_with (at_builtin; refine wpList_append_lies _ rfl _ _ 23 rfl (w.heap.size + 1) 22 i0 _ 1 24 Try.underlying23 hi hz0 hz1 hz2 rfl (by decide) _ _ _ rfl (hown1r.alloc _) ⟨wr.heap.size, 0, none⟩ 1 1 [.slice A'' t c''] rfl rfl (cell_one_new _ _ _) (by simp [Value.oneCell']) (by decide) (by unfold maxLen; omega) (by omega) (by simp; omega) (wr.heap.size + 1) (by simp) ?_; intro g1 cap1 w1 hown' hgrow hat hlt1)
          have hb2 : Below (w.heap.size + 1) wr w1 := ((Below.refl (w.heap.size + 1) wr).alloc hs2 _).grown hgrow (by simp; omega) (fun j hj => (hown1r.lt j hj).1)
          go_roundw
          case rel =>
            refine ⟨j + 1, some ⟨g1, 0, none⟩, cap1, by omega, by go_num, rfl, ?_, HB2.out.step hb2⟩
            rw [encTo_succ, show encAt b t k j = encRow b t j from by unfold encAt; rw [if_pos hlt]]
            exact OwnRows.push (HRW.out.below ((Below.refl _ wr).alloc (Nat.le_refl _) _)) (encRow_len _ _ _) hcap.1 hcap.2 hcn (HBX.out.below ((Below.refl _ wr).alloc (Nat.le_refl _) _)) hown' hgrow (hat.imp (fun h => h) (fun h => by simpa using h))
          case measure => simp [intOf]; omega
    · obtain rfl : j = k := by omega
      have hkn' : (j : Int) ≤ (n : Int) := by omega
      go_wp2
      go_loopw [7, 13] (fun o i wr => ∃ (q : Nat) (A' : Option Addr) (c' : Nat), j ≤ q ∧ q ≤ n ∧ i = .int .i64 q ∧ o = .slice A' q c' ∧ OwnRows (w.heap.size + 1) (w.heap.size + 1) wr A' q c' (encTo b L j q) ∧ RBox w 29 wr) (fun _ i _ => n - (intOf i).toNat)
      case atStart => exact ⟨j, A', c', Nat.le_refl _, hkn, rfl, rfl, hown, hbw⟩
      case round =>
        obtain ⟨q, A1, c1, hq1, hq2, rfl, rfl, hownq, hbq⟩ := hrel
        have hbqs := hbq.size
        by_cases hlq : q < n
        · have qn : (q : Int) < (n : Int) := by omega
          obtain ⟨cs, hown1, hrws⟩ := hownq
          have HLI := Lib.hid (OwnRows.lists ⟨cs, hown1, hrws⟩)
          have HF := Lib.hid (first_any j (by omega) wr)
          have HS := Lib.hid (fun (P : Option Addr) (cP : Nat) (W : World) (h1 : Lists W A1 (encTo b L j q)) (h2 : Byts W P (firstL j)) => shard_any A1 P q c1 j cP (encTo b L j q) (firstL j) (encTo_len _ _ _ _) (by omega) (firstL_len j) (by omega) hk1 q (by omega) (fun p hp => by have := firstL_mem (by omega) hp; omega) L (by omega) (by
              rw [firstL_get (by omega)]; show (rowOf (encTo b L j q) (UInt8.ofNat 0)).length = L
              rw [rowOf_enc (by rw [ofNat_toNat (by decide)]; omega) hq1, encRow_len]) (fun p hp => by rw [rowOf_enc (firstL_mem (by omega) hp) hq1, encRow_len]; exact Nat.le_refl _) W h1 h2)
          rw [shardL_enc hk1 (by omega) hq1] at HS
          have HRW := Lib.hid hrws
          have HBQ := Lib.hid hbq
          have HO1 := Lib.hid hown1
          clear hrws hbq hown1
          go_wp2_with (first | (go_at_call 29; refine HF.out.mono ?_; rintro e w1 ⟨P, cP, rfl, hownP, hb1⟩) | (go_at_call 28; refine (HS.out P cP w1 (HLI.out.below hb1) (Byts.of_own hownP)).mono ?_; rintro e w2 ⟨gS, cS, rfl, hownS, hb2⟩; have hs1 := hb1.size; have hs2 := hb2.size; have hownr := own_keep (own_keep HO1.out hb1) hb2) | (at_builtin; refine wpList_append_lies _ rfl _ _ 23 rfl (w.heap.size + 1) 22 i0 _ 1 24 Try.underlying23 hi hz0 hz1 hz2 rfl (by decide) _ _ _ rfl (hownr.alloc _) ⟨w2.heap.size, 0, none⟩ 1 1 [.slice (some ⟨gS, 0, none⟩) L cS] rfl rfl (cell_one_new _ _ _) (by simp [Value.oneCell']) (by decide) (by unfold maxLen; omega) (by omega) (by simp; omega) (w2.heap.size + 1) (by simp) ?_; intro g1 cap1 w3 hown' hgrow hat hlt1))
          have hbb : Below (w.heap.size + 1) wr w2 := (hb1.mono hbqs).trans (hb2.mono (by omega))
          have hb3 : Below (w.heap.size + 1) wr w3 := (hbb.alloc (by omega) _).grown hgrow (by simp; omega) (fun j hj => (hownr.lt j hj).1)
          have hcap := own_cap hownS
          have hlS : (encAt b L j q).length = L := encAt_len q hk1 (by omega)
          have hbx : BytsX (w.heap.size + 1) (Value.ownBlock (.slice A1 q c1)) w2 (some ⟨gS, 0, none⟩) (encAt b L j q) := (BytsX.of_own hownS (own_keep HO1.out hb1) (Nat.le_refl _)).mono (by omega)
          go_roundw
          case rel =>
            refine ⟨q + 1, some ⟨g1, 0, none⟩, cap1, by omega, by omega, by go_num, rfl, ?_, HBQ.out.step hb3⟩
            rw [encTo_succ]
            exact OwnRows.push (((HRW.out.below hb1).below hb2).below ((Below.refl _ w2).alloc (Nat.le_refl _) _)) hlS hcap.1 hcap.2 (own_none hownS) (hbx.below ((Below.refl _ w2).alloc (Nat.le_refl _) _)) hown' hgrow (hat.imp (fun h => h) (fun h => by simpa using h))
          case measure => simp [intOf]; omega
        · obtain rfl : q = n := by omega
          obtain ⟨z0, z1, f0, f1⟩ := hbq.cells
          have hls : w.heap.size < wr.heap.size := by omega
          have HOQ := Lib.hid hownq
          have HBQ := Lib.hid hbq
          clear hownq hbq
          go_wp2
          refine bodyPost_ret (v := .agg #[.slice A1 q c1, .int .i64 0]) ?_ rfl ⟨A1, c1, rfl, ?_, ?_⟩
          · have d0 : ((wr.setCell ⟨w.heap.size, 0, none⟩ (.slice A1 q c1)).setCell ⟨w.heap.size, 1, none⟩ (.int .i64 0)).cell? ⟨w.heap.size, 0, none⟩ = some (.slice A1 q c1) := by
              rw [World.cell?_setCell_other _ _ _ _ (by simp)]
              exact World.cell?_setCell_same _ _ _ z0
            have d1 : ((wr.setCell ⟨w.heap.size, 0, none⟩ (.slice A1 q c1)).setCell ⟨w.heap.size, 1, none⟩ (.int .i64 0)).cell? ⟨w.heap.size, 1, none⟩ = some (.int .i64 0) :=
              World.cell?_setCell_same _ _ _ ((World.cell?_setCell_other _ _ _ _ (by simp)).trans z1)
            simp [results, Try.results12, go_sem, d0, d1]
          · rw [HLL.out]
            exact (HOQ.out.set (by simp) (by simp) _).set (by simp) (by simp) _
          · exact (HBQ.out.2.setCell (by simp) _).setCell (by simp) _
end Go.Proofs.Ytoodeoglpdapiaa
