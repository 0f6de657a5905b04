/-
  Walk of the program's Decode.
-/
import Derived.Test.YtoodeoglpdapiaaUk
import Derived.Deep.RegionHeldLaw
namespace Go.Proofs.Ytoodeoglpdapiaa
open Go.RowKit Gf
set_option maxHeartbeats 400000

theorem fits_proper {n : Nat} {k : Int} : fitsB k n = properB n k := by
  cases h : properB n k
  · exact fitsB_no (fun h2 => by rw [properB_iff.2 (by omega)] at h; cases h)
  · have := properB_iff.1 h
    exact fitsB_iff.2 (by omega)
theorem ptsL_isK {ls : List (List UInt8)} {n : Nat} (hn : ls.length = n) (k L : Nat) (but : Int) : (isK (isT ls L but) k n).map UInt8.ofNat = ptsL ls k L but := by subst hn; rfl
theorem ptsL_isK_len {ls : List (List UInt8)} {n : Nat} (hn : ls.length = n) (k L : Nat) (but : Int) : (isK (isT ls L but) k n).length = (ptsL ls k L but).length := by rw [← ptsL_isK hn, List.length_map]

/-- The bytes after the first i shards have come, and zeros behind them. -/
def partD (ls : List (List UInt8)) (pts : List UInt8) (size L i : Nat) : List UInt8 := (joinTo ls pts i).take size ++ List.replicate (size - i * L) 0
theorem partD_len {ls : List (List UInt8)} {pts : List UInt8} {size L : Nat} (h : ∀ x, (shardL ls pts x).length = L) (i : Nat) : (partD ls pts size L i).length = size := by
  unfold partD
  rw [List.length_append, List.length_take, joinTo_len h, List.length_replicate]
  omega
theorem splice_bys (v c : List UInt8) (off : Nat) : splice (bys v) off (bys c) = bys (splice v off c) := by
  unfold splice bys
  simp [List.map_take, List.map_drop]
theorem partD_succ {ls : List (List UInt8)} {pts : List UInt8} {size L : Nat} (h : ∀ x, (shardL ls pts x).length = L) (i : Nat) : splice (partD ls pts size L i) (min (i * L) size) ((shardL ls pts (UInt8.ofNat i)).take (size - min (i * L) size)) = partD ls pts size L (i + 1) := by
  have hJ := joinTo_len h i
  have hS := h (UInt8.ofNat i)
  unfold partD splice
  rw [joinTo]
  generalize joinTo ls pts i = J at *
  generalize shardL ls pts (UInt8.ofNat i) = S at *
  have e : (i + 1) * L = i * L + L := Nat.succ_mul i L
  rw [e]
  generalize i * L = M at *
  rcases Nat.lt_or_ge M size with hM | hM
  · have h1 : min M size = M := by omega
    rw [h1]
    have h2 : J.take size = J := List.take_of_length_le (by omega)
    have h3 : (J ++ S).take size = J ++ S.take (size - M) := by rw [List.take_append, h2, hJ]
    rw [h2, h3, List.take_left' hJ, List.length_take, hS, List.append_assoc]
    congr 2
    rw [List.drop_append, List.drop_eq_nil_of_le (by omega), List.nil_append, List.drop_replicate]
    congr 1
    omega
  · have h1 : min M size = size := by omega
    rw [h1, Nat.sub_self, List.take_zero]
    have h3 : size - M = 0 := by omega
    have h4 : size - (M + L) = 0 := by omega
    rw [h3, h4, List.replicate_zero, List.append_nil, List.append_nil, List.nil_append, List.length_nil, Nat.add_zero, List.take_append_of_le_length (by omega)]
    rw [List.take_take, Nat.min_self, List.drop_eq_nil_of_le (by rw [List.length_take]; omega), List.append_nil]
theorem partD_zero (ls : List (List UInt8)) (pts : List UInt8) (size L : Nat) : partD ls pts size L 0 = List.replicate size 0 := by simp [partD, joinTo]
theorem partD_all {ls : List (List UInt8)} {pts : List UInt8} {size L k : Nat} (hk : size ≤ k * L) : partD ls pts size L k = (joinTo ls pts k).take size := by
  unfold partD
  rw [show size - k * L = 0 by omega, List.replicate_zero, List.append_nil]

theorem Decode_parg (A : Option Addr) (n c : Nat) (k size : Int) (h : properB n k = false ∨ size < 0) (w : World) :
    Calls Try.prog 30 #[.slice A n c, .int .i64 k, .int .i64 size] w fun e w' => e = .returned (.tuple #[.slice none 0 0, .int .i64 1]) ∧ Below w.heap.size w w' := by
  have hf := fun W => (fits_any k (n : Int) W).mono (fun _ _ (h : _ ∧ _) => And.intro h.1 h.2.symm)
  rw [fits_proper] at hf
  cases hp : properB n k
  · rw [hp] at hf
    have HF := Lib.hid hf
    clear h hp hf
    go_enter Try.func30, Try.ntmps30
    go_wp2_with (go_at_call 34; with_reducible refine (HF.out _).mono ?_; rintro e w1 ⟨rfl, rfl⟩)
    go_ret2
    exact ⟨rfl, by go_grown⟩
  · have h1 : size < 0 := by
      rcases h with h | h
      · rw [h] at hp; cases hp
      · exact h
    rw [hp] at hf
    have HF := Lib.hid hf
    clear h hp hf
    go_enter Try.func30, Try.ntmps30
    go_wp2_with (go_at_call 34; with_reducible refine (HF.out _).mono ?_; rintro e w1 ⟨rfl, rfl⟩)
    go_ret2
    exact ⟨rfl, by go_grown⟩

/-- What Decode gives where its numbers are in their ranges. -/
def DPost (okR : Nat → Prop) (w : World) (ls : List (List UInt8)) (k size : Nat) (e : Ending) (w' : World) : Prop :=
  (((ptsL ls k (longN size k) (-1)).length < k ∧ e = .returned (.tuple #[.slice none 0 0, .int .i64 70])) ∨
   ((ptsL ls k (longN size k) (-1)).length = k ∧ ∃ A' c', e = .returned (.tuple #[.slice A' size c', .int .i64 0]) ∧ Slb (Or' okR w) w' A' size c' (decL ls k size))) ∧ Below w.heap.size w w'

theorem DPost.few {okR : Nat → Prop} {w w' : World} {ls : List (List UInt8)} {k size : Nat} (h : (ptsL ls k (longN size k) (-1)).length < k) (hb : Below w.heap.size w w') : DPost okR w ls k size (.returned (.tuple #[.slice none 0 0, .int .i64 70])) w' := ⟨Or.inl ⟨h, rfl⟩, hb⟩
theorem DPost.yes {okR : Nat → Prop} {w w' : World} {ls : List (List UInt8)} {k size : Nat} {A' : Option Addr} {c' : Nat} (h : (ptsL ls k (longN size k) (-1)).length = k) (hs : Slb (Or' okR w) w' A' size c' (decL ls k size)) (hb : Below w.heap.size w w') : DPost okR w ls k size (.returned (.tuple #[.slice A' size c', .int .i64 0])) w' := ⟨Or.inr ⟨h, A', c', rfl, hs⟩, hb⟩

set_option maxHeartbeats 4000000 in
set_option maxRecDepth 20000 in
theorem Decode_p (okO okR : Nat → Prop) (A : Option Addr) (n c : Nat) (ls : List (List UInt8)) (hn : ls.length = n) (k size : Nat) (hp : properB n k = true) (hs : size ≤ 1000) (w : World) (hA : ListsO okO okR w A ls) :
    Calls Try.prog 30 #[.slice A n c, .int .i64 k, .int .i64 size] w (DPost okR w ls k size) := by
  obtain ⟨iu, hu, hu0, hu1, hu2⟩ := info_parts info_u8
  obtain ⟨p1, p2, p3⟩ := properB_iff.1 hp
  have hf := fun W => (fits_any k (n : Int) W).mono (fun _ _ (h : _ ∧ _) => And.intro h.1 h.2.symm)
  rw [fits_proper, hp] at hf
  have HFI := Lib.hid hf
  have HL := Lib.hid (fun W => (length_any size k (by omega) (by omega) (by omega) W).mono (fun _ _ (h : _ ∧ _) => And.intro h.1 h.2.symm))
  have hsz := longN_le size k (by omega)
  have HDL := Lib.hid (show decL ls k size = (joinTo ls (ptsL ls k (longN size k) (-1)) k).take size from rfl)
  obtain ⟨L, hL⟩ : ∃ L, longN size k = L := ⟨_, rfl⟩
  rw [hL] at HL HDL hsz
  have HLL := Lib.hid hL
  have HN := Lib.hid hn
  have SA := Lib.hid hA
  have s0 : ¬ (size : Int) < 0 := by omega
  clear hn hA hp hf hL
  go_enter Try.func30, Try.ntmps30
  go_upto_region 4 with (first | (go_at_call 34; with_reducible refine (HFI.out _).mono ?_; rintro e w1 ⟨rfl, rfl⟩) | (go_at_call 41; with_reducible refine (HL.out _).mono ?_; rintro e w1 ⟨rfl, rfl⟩))
  have gw0 : Below w.heap.size w ((w.alloc (.cells #[.slice A n c] 23)).alloc (.cells #[.int .i64 L] 3)) := ((Below.refl _ w).alloc (Nat.le_refl _) _).alloc (by simp) _
  have gw1 : ((w.alloc (.cells #[.slice A n c] 23)).alloc (.cells #[.int .i64 L] 3)).cell? ⟨w.heap.size, 0, none⟩ = some (.slice A n c) := by rw [cell_of_row _ _ _ _ _ _ (heap_alloc2_old w _ _)]; rfl
  have gw2 : ((w.alloc (.cells #[.slice A n c] 23)).alloc (.cells #[.int .i64 L] 3)).cell? ⟨w.heap.size + 1, 0, none⟩ = some (.int .i64 L) := by rw [cell_of_row _ _ _ _ _ _ (heap_alloc2_new w _ _)]; rfl
  have gw3 : ((w.alloc (.cells #[.slice A n c] 23)).alloc (.cells #[.int .i64 L] 3)).heap.size = w.heap.size + 2 := by simp
  generalize (w.alloc (.cells #[.slice A n c] 23)).alloc (.cells #[.int .i64 L] 3) = W at gw0 gw1 gw2 gw3 ⊢
  have hfd := firstD_any A n c ls HN.out (by omega) k w.heap.size (w.heap.size + 1) L okO (fun _ => True) W (fun _ _ => trivial) ((SA.out.below gw0).mono (fun _ _ h => h) (fun _ _ _ => trivial)) gw1 gw2
  rw [ptsL_isK HN.out, ptsL_isK_len HN.out] at hfd
  have hpn := ptsL_nodup (ls := ls) (k := k) (long := L) (but := -1) (by rw [HN.out]; omega)
  have hpm : ∀ q ∈ ptsL ls k L (-1), (rowOf ls q).length = L := fun q hq => (ptsL_mem (by rw [HN.out]; omega) hq).2.2
  have hpl := ptsL_le ls k L (-1)
  obtain ⟨pts, hpts⟩ : ∃ p, ptsL ls k L (-1) = p := ⟨_, rfl⟩
  have HPTS := Lib.hid (show ptsL ls k (longN size k) (-1) = pts by rw [HLL.out]; exact hpts)
  rw [hpts] at hfd hpn hpm hpl HDL
  have HFD := Lib.hid hfd
  have HPN := Lib.hid hpn
  have HPM := Lib.hid hpm
  have HW0 := Lib.hid gw0
  have HW2 := Lib.hid gw2
  have HW3 := Lib.hid gw3
  clear hfd hpn hpm gw0 gw2 gw3 hpts
  by_cases hfw : pts.length < k
  · obtain ⟨m, hm⟩ : ∃ m, pts.length = m := ⟨_, rfl⟩
    rw [hm] at hfw hpl HFD
    have hmk : (m : Int) < (k : Int) := by omega
    have HM := Lib.hid hm
    clear hm
    go_wp2_with (go_at_call 43; with_reducible refine HFD.out.mono ?_; rintro e w1 ⟨P, cP, rfl, hK1, hb1⟩)
    go_ret2
    exact DPost.few (by rw [HPTS.out, HM.out]; exact hfw) (HW0.out.trans (hb1.mono HW0.out.size))
  · have hm : pts.length = k := by omega
    rw [hm] at HFD
    have HM := Lib.hid hm
    clear hm hfw hpl
    have HTH := Lib.hid (fun (A' : Option Addr) (c' : Nat) (W : World) (hK : Kns (fun _ => True) W A' ls pts) => through_any (fun _ => True) A' k c' ls pts W (fun _ _ => trivial) hK)
    have HTR := Lib.hid (fun (bl p : Nat) (A' : Option Addr) (c' q : Nat) (hq : q ≤ 255) (W : World) (hT : Thru (fun _ => True) W bl p A' k c' ls pts) => thru_any (fun _ => True) bl p A' k c' ls pts HM.out (by omega) (by omega) HPN.out L (by omega) HPM.out q hq W hT)
    have HB2 := Lib.hid (show iu.bytes * size ≤ 281474976710656 by rw [hu2]; omega)
    have HB3 := Lib.hid (show size ≤ 9223372036854775807 by omega)
    have kk : ¬ (k : Int) < (k : Int) := by omega
    go_wp2_with (first | (go_at_call 43; with_reducible refine HFD.out.mono ?_; rintro e w1 ⟨P, cP, rfl, hK1, hb1⟩) | (go_at_call 42; with_reducible refine (HTH.out P cP w1 hK1).mono ?_; rintro e w2 ⟨bl, p, rfl, hT2, hb2⟩) | (with_reducible refine wpList_make_lc _ rfl _ _ 22 rfl 5 iu _ Try.underlying22 hu hu0 .i64 .i64 size size rfl rfl (Nat.le_refl _) HB2.out HB3.out ?_))
    have hb2' := hb1.trans (hb2.mono hb1.size)
    have HB12 := Lib.hid (HW0.out.trans (hb2'.mono HW0.out.size))
    have hsz2 : w.heap.size + 2 ≤ w2.heap.size := by have := hb2'.size; have := HW3.out; omega
    have hgB0 : (w2.alloc (.cells (madeCells #[.int .u8 0] size) 5)).heap[w2.heap.size]? = some (.cells (bys (partD ls pts size L 0)).toArray 5 (0, 0)) := by
      rw [heap_alloc_new, partD_zero, bys_zeros, Nat.mul_one]
      rfl
    have hbB0 : Below w2.heap.size w2 (w2.alloc (.cells (madeCells #[.int .u8 0] size) 5)) := (Below.refl _ w2).alloc (Nat.le_refl _) _
    have HLE := Lib.hid (show w2.cell? ⟨w.heap.size + 1, 0, none⟩ = some (.int .i64 L) from (hb2'.cell (p := ⟨w.heap.size + 1, 0, none⟩) (by have := HW3.out; show w.heap.size + 1 < W.heap.size; omega)).trans HW2.out)
    have HT2 := Lib.hid hT2
    have HGB := Lib.hid (And.intro hgB0 hbB0)
    have HJL := Lib.hid (fun x => shardL_len (ls := ls) (pts := pts) (L := L) (HPM.out _ (by rw [List.getElem?_eq_getElem (show 0 < pts.length by rw [HM.out]; omega)]; exact List.getElem_mem _)) x)
    clear hT2 hb1 hb2 hb2' hgB0 hbB0 hK1
    obtain ⟨gB, hgB⟩ : ∃ g, w2.heap.size = g := ⟨_, rfl⟩
    rw [hgB] at HGB hsz2
    rw [hgB]
    have HGBE := Lib.hid hgB
    clear hgB
    go_loopw [38] (fun i wr => ∃ q : Nat, q ≤ k ∧ i = .int .i64 q ∧ wr.heap[gB]? = some (.cells (bys (partD ls pts size L q)).toArray 5 (0, 0)) ∧ Below gB w2 wr) (fun i _ => k - (intOf i).toNat)
    case atStart => exact ⟨0, Nat.zero_le _, rfl, HGB.out.1, HGB.out.2⟩
    case round =>
      obtain ⟨q, hq, rfl, hg, hbr⟩ := hrel
      by_cases hlq : q < k
      · have qk : (q : Int) < (k : Int) := by omega
        have hgr : gB < wr.heap.size := (Array.getElem?_eq_some_iff.1 hg).1
        have hM0 : q * L ≤ 12 * 1000 := Nat.mul_le_mul (by omega) (by omega)
        have hps := partD_succ (ls := ls) (pts := pts) (size := size) HJL.out q
        have hmw : IntKind.i64.wrap ((q : Int) * (L : Int)) = ((q * L : Nat) : Int) := by rw [IntWalk.i64_in _ (by rw [← Int.natCast_mul]; omega), ← Int.natCast_mul]
        obtain ⟨M0, hM⟩ : ∃ M0, q * L = M0 := ⟨_, rfl⟩
        rw [hM] at hM0 hmw hps
        obtain ⟨M, hMM⟩ : ∃ M, min M0 size = M := ⟨_, rfl⟩
        have hmin : ∀ W, (Builtin.min_ #[3, 3] 3 #[.int .i64 M0, .int .i64 size]).run Try.prog W = .ok (.int .i64 M) W := fun W => by
          rw [run_min_int2]
          exact congrArg (fun z => Result.ok (Value.int .i64 z) W) (by split <;> omega)
        rw [hMM] at hps
        have hMn : M ≤ size := by omega
        obtain ⟨SA1, hsl, hSA1⟩ := slice_from (some ⟨gB, 0, none⟩) size size M hMn
        have hbd : Below gB w2 wr.drew := hbr.drew
        have HG := Lib.hid (show wr.drew.heap[gB]? = _ from hg)
        have HBR := Lib.hid hbr
        have KS := Lib.hid (fun W' (h : Below gB w2 W') => show W'.cell? ⟨w.heap.size + 1, 0, none⟩ = some (.int .i64 L) from (h.cell (p := ⟨w.heap.size + 1, 0, none⟩) (show w.heap.size + 1 < gB by omega)).trans HLE.out)
        have HCL := Lib.hid (HTR.out bl p P cP q (by omega) wr.drew (HT2.out.below (by rw [HGBE.out]; exact hbd)))
        obtain ⟨S, hS⟩ : ∃ S, shardL ls pts (UInt8.ofNat q) = S := ⟨_, rfl⟩
        have hSL : S.length = L := by rw [← hS]; exact HJL.out _
        obtain ⟨gY, hgY⟩ : ∃ g, wr.drew.heap.size = g := ⟨_, rfl⟩
        rw [hS, hgY] at HCL
        rw [hS] at hps
        have HK5 := Lib.hid (fun w5 (h : Below gY wr.drew w5) => show Below gB w2 w5 ∧ w5.heap[gB]? = some (.cells (bys (partD ls pts size L q)).toArray 5 (0, 0)) from
          ⟨hbd.trans (h.mono (by rw [← hgY]; exact Nat.le_of_lt hgr)), (h.block gB (by rw [← hgY]; exact hgr)).trans HG.out⟩)
        have HBYT := Lib.hid (fun (w5 : World) (h : w5.ownsRow gY 5 1 (.slice (some ⟨gY, 0, none⟩) L L) L (bys S)) => Byts.of_own h)
        clear hgY
        have HSL := Lib.hid hSL
        have HPS := Lib.hid hps
        have HLEN := Lib.hid (show (bys (S.take (size - M))).length = Nat.min L (size - M) by
          rw [bys_length, List.length_take, hSL]; exact Nat.min_comm _ _)
        have HFIT := Lib.hid (show M + (bys (S.take (size - M))).length ≤ (bys (partD ls pts size L q)).length by
          rw [bys_length, bys_length, partD_len HJL.out, List.length_take]; omega)
        have HPOS := Lib.hid (show 0 < (bys (S.take (size - M))).length → SA1 = some ⟨gB, M, none⟩ from fun h => by
          rw [bys_length, List.length_take] at h
          rw [hSA1 (by omega)]
          have hadd : (⟨gB, 0, none⟩ : Addr).add M = ⟨gB, M, none⟩ := by unfold Addr.add; split <;> simp_all
          simp [hadd])
        have HS1 := Lib.hid (show (Try.prog.info? 5).map (·.size) = some 1 by rw [hu, Option.map_some, hu1])
        clear hg hM hMM hSA1 hS hSL hps hbr
        have hbd0 := hbd
        go_upto_region 12 with fail
        go_region_held_law (fun W' => W'.cell? ⟨w.heap.size + 1, 0, none⟩ = some (.int .i64 L)) (first | with_reducible exact KS.out _ hb6 | with_reducible exact KS.out _ hb5' | with_reducible exact KS.out _ hbd0) (first | (go_at_call 49; with_reducible refine HCL.out.mono ?_; rintro e w5 ⟨rfl, hown5, hb5⟩; have hb5' := (HK5.out w5 hb5).1; have HG5 := Lib.hid (HK5.out w5 hb5).2; have HY := Lib.hid (HBYT.out w5 hown5)) | (refine step_copy_splice rfl (.tmp 47) (.tmp 50) 22 22 rfl 5 Try.underlying22 HS1.out SA1 (some ⟨gY, 0, none⟩) (size - M) (size - M) L L rfl rfl gB M (bys (partD ls pts size L q)) 5 HG5.out (bys (S.take (size - M))) HLEN.out (fun h => And.intro (HPOS.out h) (HY.out.src (size - M) h)) HFIT.out (bys_cells _) gB w2 hb5' (Nat.le_refl _) ?_; intro w6 HG6 hb6))
        all_goals
          rw [splice_bys, HPS.out] at HG6
          go_wp2
          go_roundw
          case rel => exact ⟨q + 1, by omega, by go_num, HG6.out, hb6⟩
          case measure => simp [intOf]; omega
      · obtain rfl : q = k := by omega
        rw [partD_all hsz.1] at hg
        have HG := Lib.hid hg
        have HBR := Lib.hid hbr
        clear hg hbr
        go_wp2
        go_ret2
        have hbf := HB12.out.trans (HBR.out.mono (by omega))
        refine DPost.yes (by rw [HPTS.out, HM.out]) ⟨?_, Nat.le_refl _, by omega, (fun h => nomatch h), fun _ => ⟨gB, 0, rfl, Or.inr (by omega), (Array.getElem?_eq_some_iff.1 HG.out).1, fun j x hx => ?_⟩⟩ hbf
        · rw [HDL.out, List.length_take, joinTo_len HJL.out]; omega
        · rw [cell_of_row _ _ _ _ _ _ HG.out, Nat.zero_add]
          rw [HDL.out] at hx
          rw [List.getElem?_toArray]
          unfold bys
          rw [List.getElem?_map, hx]
          rfl
end Go.Proofs.Ytoodeoglpdapiaa
