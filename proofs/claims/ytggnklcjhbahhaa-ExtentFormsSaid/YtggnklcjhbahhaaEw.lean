/-
  Walk of the law file's blobs.
-/
import Derived.Test.YtggnklcjhbahhaaEv
namespace Go.Proofs.Ytggnklcjhbahhaa
open Go.RowKit Ex
set_option maxHeartbeats 400000
set_option maxRecDepth 100000

theorem info_u8 : (Try.prog.info? 5).map (fun i => (i.zero, i.size, i.bytes)) = some (some (.int .u8 0), 1, 1) := by kernel_rfl
theorem info_blob : (Try.prog.info? 69).map (fun i => (i.zero, i.size, i.bytes)) = some (some (.agg #[.int .i64 0, .slice none 0 0]), 2, 32) := by kernel_rfl

set_option maxHeartbeats 4000000 in
theorem blobs_any (v0 v1 v2 v3 : UInt8) (w : World) :
    Calls Try.prog 27 #[.agg #[.int .u8 v0.toNat, .int .u8 v1.toNat, .int .u8 v2.toNat, .int .u8 v3.toNat]] w fun e w' => ∃ A' m c', e = .returned (.slice A' m c') ∧ Bl w' A' m c' (blobsL [v0, v1, v2, v3] 4) ∧ Below w.heap.size w w' := by
  obtain ⟨iu, hu, hu0, hu1, hu2⟩ := info_parts info_u8
  obtain ⟨ib, hb, hb0, hb1, hb2⟩ := info_parts info_blob
  have hW1 : Below w.heap.size w (w.alloc (.cells #[.int .u8 v0.toNat, .int .u8 v1.toNat, .int .u8 v2.toNat, .int .u8 v3.toNat] 52)) := (Below.refl _ w).alloc (Nat.le_refl _) _
  obtain ⟨w1, hw1⟩ : ∃ W, w.alloc (.cells #[.int .u8 v0.toNat, .int .u8 v1.toNat, .int .u8 v2.toNat, .int .u8 v3.toNat] 52) = W := ⟨_, rfl⟩
  have c0 : w1.cell? ⟨w.heap.size, 0, none⟩ = some (.int .u8 v0.toNat) := by rw [← hw1]; exact cell_of_row _ _ 0 _ _ _ (heap_alloc_new w _)
  have c1 : w1.cell? ⟨w.heap.size, 1, none⟩ = some (.int .u8 v1.toNat) := by rw [← hw1]; exact cell_of_row _ _ 1 _ _ _ (heap_alloc_new w _)
  have c2 : w1.cell? ⟨w.heap.size, 2, none⟩ = some (.int .u8 v2.toNat) := by rw [← hw1]; exact cell_of_row _ _ 2 _ _ _ (heap_alloc_new w _)
  have c3 : w1.cell? ⟨w.heap.size, 3, none⟩ = some (.int .u8 v3.toNat) := by rw [← hw1]; exact cell_of_row _ _ 3 _ _ _ (heap_alloc_new w _)
  obtain ⟨V, hV⟩ : ∃ V, [v0, v1, v2, v3] = V := ⟨_, rfl⟩
  have HC : Hid (∀ W, Below w1.heap.size w1 W → ∀ t, t < 4 → W.cell? ⟨w.heap.size, t, none⟩ = some (.int .u8 (V.getD t 0).toNat)) := Lib.hid fun W hb t ht => by
    rw [← hV]
    rcases (show t = 0 ∨ t = 1 ∨ t = 2 ∨ t = 3 by omega) with rfl | rfl | rfl | rfl
    · exact (hb.cell (block_lt_of_cell c0)).trans c0
    · exact (hb.cell (block_lt_of_cell c1)).trans c1
    · exact (hb.cell (block_lt_of_cell c2)).trans c2
    · exact (hb.cell (block_lt_of_cell c3)).trans c3
  have HW1 := Lib.hid hw1
  rw [hw1] at hW1
  have HBW1 := Lib.hid hW1
  rw [hV]
  clear c0 c1 c2 c3 hw1 hW1 hV
  go_enter Try.func27, Try.ntmps27
  go_upto_region 1 with (fail)
  rw [HW1.out]
  go_wp2
  go_loopw [3, 4] (fun s i wz => ∃ (t m g c' : Nat) (vs : List Value), t ≤ 4 ∧ i = .int .i64 t ∧ s = .slice (some ⟨g, 0, none⟩) m c' ∧ wz.ownsRow w1.heap.size 69 2 (.slice (some ⟨g, 0, none⟩) m c') m vs ∧ OutL w1.heap.size 5 wz g (blobsL V t) vs ∧ (blobsL V t).length = m ∧ Below w1.heap.size w1 wz) (fun _ i _ => 4 - (intOf i).toNat)
  case atStart => exact ⟨0, 0, w1.heap.size, 0, [], Nat.zero_le _, rfl, rfl, own_empty _ _ _, OutL.nil, rfl, by go_grown⟩
  case round =>
    obtain ⟨t, m, g, c', vs, ht, rfl, rfl, hown, hout, hlen, hbw⟩ := hrel
    obtain ⟨wo, hwo⟩ : ∃ W, W = wr := ⟨_, rfl⟩
    subst hwo
    have HO := Lib.hid hown
    have HU := Lib.hid hout
    have HLN := Lib.hid hlen
    have HBW := Lib.hid hbw
    clear hown hout hlen hbw
    by_cases ht4 : t < 4
    · have ht4' : (t : Int) < 4 := by omega
      have t0 : (0 : Int) ≤ (t : Int) := Int.natCast_nonneg t
      obtain ⟨x, hx⟩ : ∃ x, V.getD t 0 = x := ⟨_, rfl⟩
      have HQ := Lib.hid (fun W (hb : Below w1.heap.size w1 W) => HC.out W hb t ht4)
      rw [hx] at HQ
      have HX := Lib.hid hx
      obtain ⟨M, hM⟩ : ∃ M, x.toNat % 40 = M := ⟨_, rfl⟩
      have hM40 : M < 40 := by rw [← hM]; exact Nat.mod_lt _ (by decide)
      have e40 : (x.toNat : Int).tmod 40 = (M : Int) := by rw [Int.tmod_eq_emod_of_nonneg (Int.natCast_nonneg _), ← hM]; simp
      have HM := Lib.hid hM
      have hx255 := x.toNat_lt
      clear hx hM
      go_wp2
      go_loopw [5, 6] (fun s i wz => ∃ (k cb : Nat) (B : Option Addr), k ≤ M ∧ i = .int .i64 k ∧ s = .slice B k cb ∧ wz.ownsRow wo.heap.size 5 1 (.slice B k cb) k (by8 (dataL t k)) ∧ Below wo.heap.size wo wz) (fun _ i _ => M - (intOf i).toNat)
      case atStart => exact ⟨0, 0, some ⟨wo.heap.size, 0, none⟩, Nat.zero_le _, rfl, rfl, own_empty _ _ _, (Below.refl _ wo).alloc (Nat.le_refl _) _⟩
      case round =>
        obtain ⟨k, cb, B, hkM, rfl, rfl, hd, hbk⟩ := hrel
        have hbs := hbk.size
        have HD := Lib.hid hd
        have HBK := Lib.hid hbk
        have h1k := HBW.out.trans (hbk.mono HBW.out.size)
        have q := HQ.out _ h1k
        have H1K := Lib.hid h1k
        clear hd hbk h1k
        by_cases hk : k < M
        · have hk' : (k : Int) < (M : Int) := Int.ofNat_lt.2 hk
          have k0 : (0 : Int) ≤ (k : Int) := Int.natCast_nonneg k
          have r8 : IntKind.u8.wrap (16 * (t : Int) + (k : Int) + 1) = 16 * (t : Int) + (k : Int) + 1 := IntWalk.u8_in _ (by omega)
          have HN8 := Lib.hid (show by8 (dataL t (k + 1)) = by8 (dataL t k) ++ [.int .u8 (16 * (t : Int) + (k : Int) + 1)] from by
            rw [dataL_next]
            simp only [by8, List.map_append, List.map_cons, List.map_nil]
            congr 3
            all_goals first | (simp; done) | (simp; omega))
          go_wp2_with (at_builtin; refine wpList_append_own _ rfl _ _ 55 rfl wo.heap.size 5 iu _ 1 1 Try.underlying55 hu hu0 hu1 hu2 rfl (by decide) _ _ _ rfl (HD.out.alloc _) ⟨wr.heap.size, 0, none⟩ 1 1 [.int .u8 (16 * (t : Int) + (k : Int) + 1)] rfl rfl (cells_new _ _ _) (by simp [Value.oneCell']) (by unfold maxLen; omega) (by omega) (by simp; omega) ?_; intro v' w7 hown7 hgrow7 _; obtain ⟨g7, c7, rfl⟩ := ownsRow_succ hown7)
          have hb7 : Below wo.heap.size wo w7 := (HBK.out.alloc hbs _).grown hgrow7 (by simp; omega) (fun t ht => (HD.out.lt t ht).1)
          go_roundw
          case rel => exact ⟨k + 1, c7, some ⟨g7, 0, none⟩, by omega, by go_num, rfl, by rw [HN8.out]; exact hown7, hb7⟩
          case measure => simp [intOf]; omega
        · obtain rfl : k = M := by omega
          have hkk : ¬ (k : Int) < (k : Int) := by omega
          by_cases h250 : x.toNat < 250
          · have h250' : (x.toNat : Int) < 250 := by omega
            have HNX := Lib.hid (show blobsL V (t + 1) = blobsL V t ++ [((t : Int) + 1, dataL t k)] from by rw [blobsL_next, HX.out, HM.out, if_pos (by rw [UInt8.lt_iff_toNat_lt]; exact h250)])
            have HA := Lib.hid (HBK.out.alloc hbs (.cells #[.int .i64 ((t : Int) + 1), .slice B k cb] 69))
            have hm4 : m ≤ 4 := by
              rw [← HLN.out]
              unfold blobsL
              exact Nat.le_trans (List.length_filterMap_le _ _) (by simp; omega)
            have HO2 := Lib.hid (own_keep HO.out HA.out)
            have HU2 := Lib.hid (HU.out.below HA.out)
            have HVL := Lib.hid (own_slen HO.out)
            have HDN := Lib.hid (show (Value.slice B k cb).ownBlock ≠ some g from fun e => by
              have h1 := (HD.out.lt g e).1
              have h2 := (HO.out.lt g rfl).2
              omega)
            go_wp2_with (at_builtin; refine wpList_append_lies _ rfl _ _ 53 rfl w1.heap.size 69 ib _ 2 32 Try.underlying53 hb hb0 hb1 hb2 rfl (by decide) _ _ _ rfl HO2.out ⟨wr.heap.size, 0, none⟩ 1 1 [.int .i64 ((t : Int) + 1), .slice B k cb] rfl rfl (cells_new _ _ _) (by simp [Value.oneCell']) (by decide) (by unfold maxLen; omega) (by omega) (by have := HBW.out.size; simp; omega) _ rfl ?_; intro g7 c7 w7 hown7 hgrow7 hat7 hlt7)
            have hb7 : Below w1.heap.size w1 w7 := (HBW.out.trans (HA.out.mono HBW.out.size)).grown hgrow7 (by have := HBW.out.size; simp; omega) (fun t ht => (HO.out.lt t ht).1)
            have hu7 := HU2.out.push (by rw [HVL.out, HLN.out]) ((t : Int) + 1, dataL t k) B cb (by simp only [dataL_len]; exact own_weak (HD.out.alloc _) HBW.out.size) (by simp only [dataL_len]; exact HDN.out) hgrow7 hat7
            simp only [dataL_len] at hu7
            go_roundw
            case rel => exact ⟨t + 1, m + 1, g7, c7, _, by omega, by go_num, rfl, hown7, by rw [HNX.out]; exact hu7, by rw [HNX.out, List.length_append, HLN.out]; rfl, hb7⟩
            case measure => simp [intOf]; omega
          · have h250' : ¬ (x.toNat : Int) < 250 := by omega
            have HNX := Lib.hid (show blobsL V (t + 1) = blobsL V t from by rw [blobsL_next, HX.out, if_neg (by rw [UInt8.lt_iff_toNat_lt]; exact h250)]; simp)
            go_wp2
            go_roundw
            case rel => exact ⟨t + 1, m, g, c', vs, by omega, by go_num, rfl, own_keep HO.out HBK.out, by rw [HNX.out]; exact HU.out.below HBK.out, by rw [HNX.out]; exact HLN.out, H1K.out⟩
            case measure => simp [intOf]; omega
    · obtain rfl : t = 4 := by omega
      have hcp := own_cap HO.out
      go_wp2
      go_ret
      exact ⟨_, m, c', rfl, ⟨HLN.out, hcp.1, hcp.2, (fun h => by cases h), HU.out.blbs HO.out⟩, HBW1.out.trans (HBW.out.mono HBW1.out.size)⟩
end Go.Proofs.Ytggnklcjhbahhaa
