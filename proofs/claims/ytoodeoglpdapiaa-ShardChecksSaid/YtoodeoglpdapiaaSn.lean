/-
  Walk of the reference's Decode.
-/
import Derived.Test.YtoodeoglpdapiaaSm
namespace Go.Proofs.Ytoodeoglpdapiaa
open Go.RowKit Gf
set_option maxHeartbeats 400000

theorem thereL_mem {ls : List (List UInt8)} {long : Nat} {but : Int} {n i : Nat} (h : i ∈ thereL ls long but n) : i < n ∧ (i : Int) ≠ but ∧ (ls[i]?.getD []).length = long := by
  unfold thereL at h
  obtain ⟨h1, h2⟩ := List.mem_filter.1 h
  unfold isT at h2
  simp only [Bool.and_eq_true, decide_eq_true_eq, beq_iff_eq] at h2
  exact ⟨List.mem_range.1 h1, h2.1, h2.2⟩
theorem ptsL_le (ls : List (List UInt8)) (k long : Nat) (but : Int) : (ptsL ls k long but).length ≤ k := by
  unfold ptsL; rw [List.length_map, List.length_take]; omega
theorem ptsL_mem {ls : List (List UInt8)} {k long : Nat} {but : Int} (hl : ls.length ≤ 256) {p : UInt8} (h : p ∈ ptsL ls k long but) : p.toNat < ls.length ∧ (p.toNat : Int) ≠ but ∧ (rowOf ls p).length = long := by
  unfold ptsL at h
  obtain ⟨i, hi, rfl⟩ := List.mem_map.1 h
  have h1 := thereL_mem (List.mem_of_mem_take hi)
  unfold rowOf
  rw [ofNat_toNat (by omega)]
  exact h1
theorem ptsL_nodup {ls : List (List UInt8)} {k long : Nat} {but : Int} (hl : ls.length ≤ 256) : (ptsL ls k long but).Nodup := by
  unfold ptsL thereL
  refine List.pairwise_map.2 (List.Pairwise.imp_of_mem ?_ ((List.nodup_range.filter _).take))
  intro a b ha hb hne e
  have h1 := List.mem_range.1 (List.mem_filter.1 (List.mem_of_mem_take ha)).1
  have h2 := List.mem_range.1 (List.mem_filter.1 (List.mem_of_mem_take hb)).1
  have := congrArg UInt8.toNat e
  rw [ofNat_toNat (by omega), ofNat_toNat (by omega)] at this
  exact hne this
/-- The first i shards out of those that are there, one after the other. -/
def joinTo (ls : List (List UInt8)) (pts : List UInt8) : Nat → List UInt8
  | 0 => []
  | i + 1 => joinTo ls pts i ++ shardL ls pts (UInt8.ofNat i)
theorem joinTo_len {ls : List (List UInt8)} {pts : List UInt8} {L : Nat} (h : ∀ x, (shardL ls pts x).length = L) : ∀ i, (joinTo ls pts i).length = i * L
  | 0 => by simp [joinTo]
  | i + 1 => by rw [joinTo, List.length_append, joinTo_len h i, h, Nat.succ_mul]
def decL (ls : List (List UInt8)) (k size : Nat) : List UInt8 := (joinTo ls (ptsL ls k (longN size k) (-1)) k).take size
theorem longN_le (size k : Nat) (hk : 1 ≤ k) : size ≤ k * longN size k ∧ longN size k ≤ size := by
  have h1 := Nat.div_add_mod size k
  have h2 := Nat.mod_lt size (show k > 0 by omega)
  have h3 : size / k ≤ size := Nat.div_le_self _ _
  unfold longN
  split
  · constructor <;> omega
  · rw [Nat.mul_succ]
    refine ⟨by omega, ?_⟩
    rcases Nat.lt_or_ge 1 k with h4 | h4
    · have : size / k < size := Nat.div_lt_self (by rcases Nat.eq_zero_or_pos size with h0 | h0; subst h0; simp at *; exact h0) h4
      omega
    · obtain rfl : k = 1 := by omega
      simp [Nat.mod_one] at *
theorem properB_iff {n : Nat} {k : Int} : properB n k = true ↔ n ≤ 12 ∧ 1 ≤ k ∧ k ≤ n := by
  unfold properB; simp only [Bool.and_eq_true, decide_eq_true_eq]; omega
theorem shardL_len {ls : List (List UInt8)} {pts : List UInt8} {L : Nat} (h : (rowOf ls (pts[0]?.getD 0)).length = L) (x : UInt8) : (shardL ls pts x).length = L := by unfold shardL; rw [shardTo_len, h]

theorem Decode_arg (A : Option Addr) (n c : Nat) (k size : Int) (h : properB n k = false ∨ size < 0) (w : World) :
    Calls Try.prog 16 #[.slice A n c, .int .i64 k, .int .i64 size] w fun e w' => e = .returned (.agg #[.slice none 0 0, .int .i64 1]) ∧ Below w.heap.size w w' := by
  have HP := Lib.hid (proper_any A n c k)
  cases hp : properB n k
  · rw [hp] at HP
    clear h hp
    go_enter Try.func16, Try.ntmps16
    go_wp2_with (go_at_call 31; refine (HP.out _).mono ?_; rintro e w1 ⟨rfl, rfl⟩)
    refine bodyPost_ret (v := .agg #[.slice none 0 0, .int .i64 1]) ?_ rfl ⟨rfl, by go_grown⟩
    simp [results, Try.results16, go_sem]
  · have h1 : size < 0 := by
      rcases h with h | h
      · rw [h] at hp; cases hp
      · exact h
    rw [hp] at HP
    clear h hp
    go_enter Try.func16, Try.ntmps16
    go_wp2_with (go_at_call 31; refine (HP.out _).mono ?_; rintro e w1 ⟨rfl, rfl⟩)
    refine bodyPost_ret (v := .agg #[.slice none 0 0, .int .i64 1]) ?_ rfl ⟨rfl, by go_grown⟩
    simp [results, Try.results16, go_sem]

theorem set_results {w W : World} {t : TypeId} (hb : RBox w t W) (v : Value) (hv : Int) : ((W.setCell ⟨w.heap.size, 0, none⟩ v).setCell ⟨w.heap.size, 1, none⟩ (.int .i64 hv)).cell? ⟨w.heap.size, 0, none⟩ = some v ∧ ((W.setCell ⟨w.heap.size, 0, none⟩ v).setCell ⟨w.heap.size, 1, none⟩ (.int .i64 hv)).cell? ⟨w.heap.size, 1, none⟩ = some (.int .i64 hv) := by
  obtain ⟨z0, z1, _, _⟩ := hb.cells
  constructor
  · rw [World.cell?_setCell_other _ _ _ _ (by simp)]
    exact World.cell?_setCell_same _ _ _ z0
  · exact World.cell?_setCell_same _ _ _ ((World.cell?_setCell_other _ _ _ _ (by simp)).trans z1)

set_option maxHeartbeats 2000000 in
theorem Decode_few (A : Option Addr) (n c : Nat) (ls : List (List UInt8)) (hn : ls.length = n) (k size : Nat) (hp : properB n k = true) (hs : size ≤ 1000) (hf : (ptsL ls k (longN size k) (-1)).length < k) (w : World) (hA : Lists w A ls) :
    Calls Try.prog 16 #[.slice A n c, .int .i64 k, .int .i64 size] w fun e w' => e = .returned (.agg #[.slice none 0 0, .int .i64 70]) ∧ Below w.heap.size w w' := by
  obtain ⟨p1, p2, p3⟩ := properB_iff.1 hp
  have HP := Lib.hid (proper_any A n c k)
  rw [hp] at HP
  have HL := Lib.hid (fun W => Long_any size k (by omega) (by omega) (by omega) W)
  obtain ⟨L, hL⟩ : ∃ L, longN size k = L := ⟨_, rfl⟩
  rw [hL] at HL hf
  have HT := Lib.hid (fun W hW => there_any A n c ls hn (by omega) k L (-1) W hW)
  obtain ⟨m, hm⟩ : ∃ m, (ptsL ls k L (-1)).length = m := ⟨_, rfl⟩
  rw [hm] at hf
  have HM := Lib.hid hm
  have SA := Lib.hid hA
  have hB0 := Lib.hid (rbox_start w 34)
  have s0 : ¬ (size : Int) < 0 := by omega
  clear hn hA hL hm hp
  go_enter Try.func16, Try.ntmps16
  go_wp2_with (first | (go_at_call 31; refine (HP.out _).mono ?_; rintro e w1 ⟨rfl, rfl⟩) | (go_at_call 25; refine (HL.out _).mono ?_; rintro e w1 ⟨rfl, rfl⟩) | (go_at_call 32; refine (HT.out _ (SA.out.below hB0.out.2)).mono ?_; rintro e w1 ⟨P, mP, cP, rfl, hownP, hb1⟩; have hmm := own_len hownP; rw [bys_length, HM.out] at hmm; subst hmm; have hB1 := hB0.out.step (hb1.mono (by simp)); obtain ⟨z0, z1, f0, f1⟩ := hB1.cells; have hls := hB1.size; have hBH := Lib.hid hB1; have hm1 : (m : Int) < (k : Int) := by omega))
  have hd := set_results hBH.out (.slice none 0 0) 70
  refine bodyPost_ret (v := .agg #[.slice none 0 0, .int .i64 70]) ?_ rfl ⟨rfl, (hBH.out.2.setCell (by simp) _).setCell (by simp) _⟩
  simp [results, Try.results16, go_sem, hd.1, hd.2]

theorem own_take {w : World} {base n m c : Nat} {e : TypeId} {A : Option Addr} {l : List UInt8} (h : w.ownsRow base e 1 (.slice A n c) n (bys l)) : Byts w A (l.take m) := (Byts.of_own h).take m

set_option maxHeartbeats 4000000 in
set_option maxRecDepth 20000 in
theorem Decode_yes (A : Option Addr) (n c : Nat) (ls : List (List UInt8)) (hn : ls.length = n) (k size : Nat) (hp : properB n k = true) (hs : size ≤ 1000) (hf : (ptsL ls k (longN size k) (-1)).length = k) (w : World) (hA : Lists w A ls) :
    Calls Try.prog 16 #[.slice A n c, .int .i64 k, .int .i64 size] w fun e w' => ∃ A' c', e = .returned (.agg #[.slice A' size c', .int .i64 0]) ∧ Byts w' A' (decL ls k size) ∧ (decL ls k size).length = size ∧ Below w.heap.size w w' := by
  obtain ⟨iu, hu, hu0, hu1, hu2⟩ := info_parts info_u8
  obtain ⟨p1, p2, p3⟩ := properB_iff.1 hp
  have HP := Lib.hid (proper_any A n c k)
  rw [hp] at HP
  have HL := Lib.hid (fun W => Long_any size k (by omega) (by omega) (by omega) W)
  have hsz := longN_le size k (by omega)
  have HDL := Lib.hid (show decL ls k size = (joinTo ls (ptsL ls k (longN size k) (-1)) k).take size from rfl)
  obtain ⟨L, hL⟩ : ∃ L, longN size k = L := ⟨_, rfl⟩
  rw [hL] at HL hf HDL hsz
  have HT := Lib.hid (fun W hW => there_any A n c ls hn (by omega) k L (-1) W hW)
  obtain ⟨pts, hpts⟩ : ∃ p, ptsL ls k L (-1) = p := ⟨_, rfl⟩
  have hpm : ∀ p ∈ pts, p.toNat < n ∧ (rowOf ls p).length = L := fun p hp => by
    have := ptsL_mem (by omega) (hpts.symm ▸ hp)
    exact ⟨by omega, this.2.2⟩
  rw [hpts] at hf HT HDL
  have hp0 : pts[0]?.getD 0 ∈ pts := by rw [List.getElem?_eq_getElem (by omega)]; exact List.getElem_mem _
  have HSL := Lib.hid (fun x => shardL_len (pts := pts) (hpm _ hp0).2 x)
  have HS := Lib.hid (fun (P : Option Addr) (cP i : Nat) (hi : i ≤ 255) (W : World) (h1 : Lists W A ls) (h2 : Byts W P pts) => shard_any A P n c k cP ls pts hn (by omega) hf (by omega) (by omega) i hi (fun p hp => (hpm p hp).1) L (by omega) (hpm _ hp0).2 (fun p hp => by rw [(hpm p hp).2]; exact Nat.le_refl _) W h1 h2)
  have HF := Lib.hid hf
  have SA := Lib.hid hA
  have hB0 := Lib.hid (rbox_start w 34)
  have s0 : ¬ (size : Int) < 0 := by omega
  clear hn hA hL hp hf hpts hpm hp0
  go_enter Try.func16, Try.ntmps16
  go_wp2_with (first | (go_at_call 31; refine (HP.out _).mono ?_; rintro e w1 ⟨rfl, rfl⟩) | (go_at_call 25; refine (HL.out _).mono ?_; rintro e w1 ⟨rfl, rfl⟩) | (go_at_call 32; refine (HT.out _ (SA.out.below hB0.out.2)).mono ?_; rintro e w1 ⟨P, mP, cP, rfl, hownP, hb1⟩; have hmm := own_len hownP; rw [bys_length, HF.out] at hmm; subst hmm; have hB1 := hB0.out.step (hb1.mono (by simp)); have hls := hB1.size; have hBH := Lib.hid hB1; have hPB := Lib.hid (Byts.of_own hownP)))
  go_loopw [8, 9] (fun o i wr => ∃ (j g c' : Nat), j ≤ k ∧ i = .int .i64 j ∧ o = .slice (some ⟨g, 0, none⟩) (j * L) c' ∧ wr.ownsRow w1.heap.size 5 1 (.slice (some ⟨g, 0, none⟩) (j * L) c') (j * L) (bys (joinTo ls pts j)) ∧ Below w1.heap.size w1 wr) (fun _ i _ => k - (intOf i).toNat)
  case atStart => exact ⟨0, w1.heap.size, 0, Nat.zero_le _, rfl, by simp, by simpa [joinTo, bys] using own_empty w1 5, by go_grown⟩
  case round =>
    obtain ⟨j, g, c', hj, rfl, rfl, hown, hbw⟩ := hrel
    have hbs := hbw.size
    have hjL : j * L ≤ 12 * 1000 := Nat.mul_le_mul (by omega) (by omega)
    obtain ⟨M, hM⟩ : ∃ M, j * L = M := ⟨_, rfl⟩
    rw [hM] at hown hjL
    rw [hM]
    have HMM := Lib.hid hM
    clear hM
    by_cases hlt : j < k
    · have jk : (j : Int) < (k : Int) := by omega
      go_wp2_with (first | (go_at_call 28; refine (HS.out P cP j (by omega) wr ((SA.out.below hBH.out.2).below (hbw.mono (by have := hBH.out.2.size; omega)) ) (hPB.out.below hbw)).mono ?_; rintro e w2 ⟨gS, cS, rfl, hownS, hb2⟩; have hs2 := hb2.size; have hownr := own_keep hown hb2) | (at_builtin; refine wpList_append_own _ rfl _ _ 22 rfl w1.heap.size 5 iu _ 1 1 Try.underlying22 hu hu0 hu1 hu2 rfl (by decide) _ _ _ rfl hownr ⟨gS, 0, none⟩ L cS (bys (shardL ls pts (UInt8.ofNat j))) rfl (by rw [bys_length, HSL.out]; simp) (hownS.cells rfl) (bys_cells _) (by unfold maxLen; omega) (by omega) (by omega) ?_; intro v' w3 hown' hgrow hnil))
      have hb3 : Below w1.heap.size w1 w3 := (hbw.trans (hb2.mono hbs)).grown hgrow (by omega) (fun j hj => (hown.lt j hj).1)
      obtain ⟨A3, c3, rfl⟩ := own_form hown'
      have hA3 : ∃ g3, A3 = some ⟨g3, 0, none⟩ := by
        rcases hown'.2 with ⟨hv, _⟩ | ⟨g3, _, _, hv, _⟩
        · have := (hnil.1 hv).1
          cases this
        · injection hv with h1
          exact ⟨g3, h1⟩
      obtain ⟨g3, rfl⟩ := hA3
      have e3 : (j + 1) * L = M + L := by rw [Nat.succ_mul, HMM.out]
      go_roundw
      case rel =>
        refine ⟨j + 1, g3, c3, by omega, by go_num, ?_, ?_, hb3⟩
        · rw [e3]
        · rw [e3, joinTo, bys_append]
          exact hown'
      case measure => simp [intOf]; omega
    · obtain rfl : j = k := by omega
      have hcap := own_cap hown
      have hBR := hBH.out.step (hbw.mono (by omega))
      obtain ⟨z0, z1, f0, f1⟩ := hBR.cells
      have hls2 := hBR.size
      have hsM : size ≤ M := by rw [← HMM.out]; exact hsz.1
      have HBR := Lib.hid hBR
      have HOW := Lib.hid hown
      have sc : (size : Int) ≤ (c' : Int) := by omega
      have s1 : (0 : Int) ≤ (size : Int) := by omega
      clear hBR hown
      go_wp2
      have hd := set_results HBR.out (.slice (some ⟨g, 0, none⟩) size c') 0
      refine bodyPost_ret (v := .agg #[.slice (some ⟨g, 0, none⟩) size c', .int .i64 0]) ?_ rfl ⟨some ⟨g, 0, none⟩, c', rfl, ?_, ?_, (HBR.out.2.setCell (by simp) _).setCell (by simp) _⟩
      · simp [results, Try.results16, go_sem, hd.1, hd.2]
      · rw [HDL.out]
        exact own_take (own_set (own_set HOW.out (p := ⟨w.heap.size, 0, none⟩) (show w.heap.size < w1.heap.size by omega) _) (p := ⟨w.heap.size, 1, none⟩) (show w.heap.size < w1.heap.size by omega) _)
      · rw [HDL.out, List.length_take, joinTo_len HSL.out, HMM.out]
        omega
end Go.Proofs.Ytoodeoglpdapiaa
