/-
  Walk of the program's Encode: the shards of bytes.
-/
import Derived.Test.YtoodeoglpdapiaaUj
namespace Go.Proofs.Ytoodeoglpdapiaa
open Go.RowKit Gf
set_option maxHeartbeats 400000

/-- A slice of bytes from some place on. -/
theorem slice_from (A : Option Addr) (nb cb M : Nat) (h : M ≤ nb) : ∃ SA, (∀ W, (Instr.slice 22 (.slice A nb cb) (some (.int .i64 (M : Int))) none none).run Try.prog W = .ok (.slice SA (nb - M) (cb - M)) W) ∧ (M < cb → SA = A.map (·.add M)) := by
  refine ⟨if cb = M then A else A.map (·.add M), fun W => ?_, fun h => by rw [if_neg (by omega)]⟩
  have h0 : (0 : Int) ≤ (M : Int) := by omega
  have h1 : (M : Int) ≤ (nb : Int) := by omega
  rw [run_slice_l _ _ _ _ _ Try.underlying22 _ _ h0 h1]
  simp [go_sem, sliced]
theorem Byts.drop {w : World} {A SA : Option Addr} {l : List UInt8} {M : Nat} (h : Byts w A l) (hs : M < l.length → SA = A.map (·.add M)) : Byts w SA (l.drop M) := fun hn => by
  have hM : M < l.length := by
    rcases Nat.lt_or_ge M l.length with h1 | h1
    · exact h1
    · exact absurd (List.drop_eq_nil_of_le h1) hn
  obtain ⟨g, o, rfl, hg, hc⟩ := h (List.ne_nil_of_length_pos (by omega))
  rw [hs hM]
  have hadd : (⟨g, o, none⟩ : Addr).add M = ⟨g, o + M, none⟩ := by unfold Addr.add; split <;> simp_all
  refine ⟨g, o + M, by simp [hadd], hg, fun j x hx => ?_⟩
  rw [List.getElem?_drop] at hx
  have := hc (M + j) x hx
  rwa [← Nat.add_assoc] at this
/-- The cells that a copy takes. -/
theorem Byts.src {w : World} {A : Option Addr} {l : List UInt8} (h : Byts w A l) (m : Nat) : 0 < (bys (l.take m)).length → ∃ ad, A = some ad ∧ ∀ (j : Nat) v, (bys (l.take m))[j]? = some v → w.cell? (ad.add j) = some v := fun hn => by
  rw [bys_length] at hn
  obtain ⟨g, o, rfl, hg, hc⟩ := h.take m (List.ne_nil_of_length_pos hn)
  refine ⟨_, rfl, fun j v hv => ?_⟩
  have hadd : (⟨g, o, none⟩ : Addr).add j = ⟨g, o + j, none⟩ := by unfold Addr.add; split <;> simp_all
  rw [hadd]
  unfold bys at hv
  rw [List.getElem?_map] at hv
  obtain ⟨x, hx, rfl⟩ := Option.map_eq_some_iff.1 hv
  exact hc j x hx

set_option maxHeartbeats 4000000 in
set_option maxRecDepth 20000 in
theorem Encode_pyes (A : Option Addr) (nb cb : Nat) (b : List UInt8) (hn : b.length = nb) (hl : nb ≤ 100000) (hcb : nb ≤ cb) (k n : Nat) (hk1 : 1 ≤ k) (hkn : k ≤ n) (hn12 : n ≤ 12) (w : World) (hA : Byts w A b) :
    Calls Try.prog 27 #[.slice A nb cb, .int .i64 k, .int .i64 n] w fun e w' => ∃ A' c', e = .returned (.tuple #[.slice A' n c', .int .i64 0]) ∧ OwnRows w.heap.size w.heap.size w' A' n c' (encL b k n) ∧ Below w.heap.size w w' := by
  obtain ⟨i0, hi, hz0, hz1, hz2⟩ := info_parts info_sl
  obtain ⟨iu, hu, hu0, hu1, hu2⟩ := info_parts info_u8
  have hf := fun W => (fits_any k n W).mono (fun _ _ (h : _ ∧ _) => And.intro h.1 h.2.symm)
  rw [fitsB_iff.2 (by omega)] at hf
  have HFI := Lib.hid hf
  have HN := Lib.hid hn
  have SA := Lib.hid hA
  have HL := Lib.hid (fun W => (length_any nb k (by omega) hk1 (by omega) W).mono (fun _ _ (h : _ ∧ _) => And.intro h.1 h.2.symm))
  obtain ⟨L, hL⟩ : ∃ L, longN nb k = L := ⟨_, rfl⟩
  have hLn : L ≤ nb := by rw [← hL]; exact (longN_le nb k hk1).2
  rw [hL] at HL
  have HLL := Lib.hid (show encL b k n = encTo b L k n by unfold encL; rw [hn, hL])
  have HB1 := Lib.hid (show i0.bytes * n ≤ 281474976710656 by rw [hz2]; omega)
  have HB2 := Lib.hid (show n ≤ 9223372036854775807 by omega)
  have HB3 := Lib.hid (show iu.bytes * L ≤ 281474976710656 by rw [hu2]; omega)
  have HB4 := Lib.hid (show L ≤ 9223372036854775807 by omega)
  clear hn hA hL hf
  go_enter Try.func27, Try.ntmps27
  go_wp2_with (first | (go_at_call 34; with_reducible refine (HFI.out _).mono ?_; rintro e w1 ⟨rfl, rfl⟩) | (go_at_call 41; with_reducible refine (HL.out _).mono ?_; rintro e w1 ⟨rfl, rfl⟩) | (with_reducible refine wpList_make_lc _ rfl _ _ 23 rfl 22 i0 _ Try.underlying23 hi hz0 .i64 .i64 k n rfl rfl hkn HB1.out HB2.out ?_))
  have h0 : OwnRows w.heap.size w.heap.size (w.alloc (.cells (madeCells (Value.slice none 0 0).cells (n * i0.size)) 22)) (some ⟨w.heap.size, 0, none⟩) 0 n (encTo b L k 0) :=
    ⟨[], ⟨rfl, .inr ⟨w.heap.size, n, _, rfl, Nat.le_refl _, heap_alloc_new w _, Nat.zero_le _, HB2.out, by rw [size_madeCells, hz1], rfl⟩⟩, Rws.nil _ _ _⟩
  have hb0 : Below w.heap.size w (w.alloc (.cells (madeCells (Value.slice none 0 0).cells (n * i0.size)) 22)) := (Below.refl _ w).alloc (Nat.le_refl _) _
  have H0 := Lib.hid (And.intro h0 hb0)
  clear h0 hb0
  go_loopw [26] (fun i wr => ∃ j : Nat, j ≤ k ∧ i = .int .i64 j ∧ OwnRows w.heap.size w.heap.size wr (some ⟨w.heap.size, 0, none⟩) j n (encTo b L k j) ∧ Below w.heap.size w wr) (fun i _ => k - (intOf i).toNat)
  case atStart => exact ⟨0, Nat.zero_le _, rfl, by have := H0.out.1; rw [hz1, Nat.mul_one] at this; exact this, by have := H0.out.2; rw [hz1, Nat.mul_one] at this; exact this⟩
  case round =>
    obtain ⟨j, hj, rfl, hown, hbw⟩ := hrel
    have hbs := hbw.size
    by_cases hlt : j < k
    · have jk : (j : Int) < (k : Int) := by omega
      have j0 : (0 : Int) ≤ (j : Int) := by omega
      obtain ⟨cs, hown1, hrws⟩ := hown
      obtain ⟨⟨v0, hc0⟩, hf0⟩ := own_cellAny hown1 (show j < n by omega)
      have HO := Lib.hid hown1
      have HRW := Lib.hid hrws
      have HBW := Lib.hid hbw
      have hgS := (hown1.lt w.heap.size rfl).2
      clear hown1 hrws hbw
      go_upto_region 9 with (with_reducible refine wpList_make_lc _ rfl _ _ 22 rfl 5 iu _ Try.underlying22 hu hu0 .i64 .i64 L L rfl rfl (Nat.le_refl _) HB3.out HB4.out ?_)
      obtain ⟨gR, hgR⟩ : ∃ g, wr.heap.size = g := ⟨_, rfl⟩
      rw [hgR]
      have hW0 : Below w.heap.size w ((wr.setCell ⟨w.heap.size, j, none⟩ (.slice (some ⟨gR, 0, none⟩) L L)).alloc (.cells (madeCells #[.int .u8 0] L) 5)) := (HBW.out.setCell (Nat.le_refl _) _).alloc (by simp [World.setCell]; exact hbs) _
      have hW1 : ((wr.setCell ⟨w.heap.size, j, none⟩ (.slice (some ⟨gR, 0, none⟩) L L)).alloc (.cells (madeCells #[.int .u8 0] L) 5)).ownsRow w.heap.size 22 1 (.slice (some ⟨w.heap.size, 0, none⟩) (j + 1) n) (j + 1) (cs ++ [.slice (some ⟨gR, 0, none⟩) L L]) := (own_next HO.out (by omega) _).alloc _
      have hW2 : ((wr.setCell ⟨w.heap.size, j, none⟩ (.slice (some ⟨gR, 0, none⟩) L L)).alloc (.cells (madeCells #[.int .u8 0] L) 5)).heap[gR]? = some (.cells (List.replicate L (.int .u8 0)).toArray 5 (0, 0)) := by
        have := heap_alloc_new (wr.setCell ⟨w.heap.size, j, none⟩ (.slice (some ⟨gR, 0, none⟩) L L)) (.cells (madeCells #[.int .u8 0] L) 5)
        rw [show (wr.setCell ⟨w.heap.size, j, none⟩ (.slice (some ⟨gR, 0, none⟩) L L)).heap.size = gR by simp [World.setCell]; exact hgR] at this
        rw [this, ← toList_madeCells_one]
      have hW3 : wr.grownBy ((wr.setCell ⟨w.heap.size, j, none⟩ (.slice (some ⟨gR, 0, none⟩) L L)).alloc (.cells (madeCells #[.int .u8 0] L) 5)) (some w.heap.size) :=
        (show wr.grownBy (wr.setCell ⟨w.heap.size, j, none⟩ (.slice (some ⟨gR, 0, none⟩) L L)) (some w.heap.size) from ⟨rfl, rfl, rfl, by simp [World.setCell], fun t _ hne => heap_setCell_other _ _ _ _ (fun e => hne (by rw [e]))⟩).trans (World.grownBy_alloc _ _ _)
      have hW4 : ((wr.setCell ⟨w.heap.size, j, none⟩ (.slice (some ⟨gR, 0, none⟩) L L)).alloc (.cells (madeCells #[.int .u8 0] L) 5)).heap.size = gR + 1 := by simp [World.setCell]; exact hgR
      generalize (wr.setCell ⟨w.heap.size, j, none⟩ (.slice (some ⟨gR, 0, none⟩) L L)).alloc (.cells (madeCells #[.int .u8 0] L) 5) = W at hW0 hW1 hW2 hW3 hW4 ⊢
      rw [hgR] at hgS hbs
      have hsc : W.drew.cell? ⟨w.heap.size, j, none⟩ = some (.slice (some ⟨gR, 0, none⟩) L L) := by
        have hl := own_len HO.out
        show W.cell? _ = _
        rw [hW1.cellAt j (by omega), List.getElem?_append_right (by omega), hl, Nat.sub_self]; rfl
      have hM0 : j * L ≤ 12 * 100000 := Nat.mul_le_mul (by omega) (by omega)
      have hsp := splice_row b L j
      rw [HN.out] at hsp
      have hmw : IntKind.i64.wrap ((j : Int) * (L : Int)) = ((j * L : Nat) : Int) := by rw [IntWalk.i64_in _ (by rw [← Int.natCast_mul]; omega), ← Int.natCast_mul]
      obtain ⟨M0, hM⟩ : ∃ M0, j * L = M0 := ⟨_, rfl⟩
      rw [hM] at hM0 hmw hsp
      obtain ⟨M, hMM⟩ : ∃ M, min M0 nb = M := ⟨_, rfl⟩
      have hmin : ∀ W, (Builtin.min_ #[3, 3] 3 #[.int .i64 M0, .int .i64 nb]).run Try.prog W = .ok (.int .i64 M) W := fun W => by
        rw [run_min_int2]
        exact congrArg (fun z => Result.ok (Value.int .i64 z) W) (by split <;> omega)
      rw [hMM] at hsp
      have hMn : M ≤ nb := by omega
      obtain ⟨SA1, hsl, hSA1⟩ := slice_from A nb cb M hMn
      have HSRC := Lib.hid (show Byts W.drew SA1 (b.drop M) from (SA.out.below hW0).drop (SA := SA1) (fun h => hSA1 (by rw [HN.out] at h; omega)))
      have HW0 := Lib.hid hW0
      have HW1 := Lib.hid hW1
      have HW2 := Lib.hid (show W.drew.heap[gR]? = _ from hW2)
      have HW3 := Lib.hid hW3
      have HW4 := Lib.hid hW4
      have HSP := Lib.hid hsp
      have HGR := Lib.hid hgR
      have HLEN := Lib.hid (show (bys ((b.drop M).take L)).length = Nat.min (nb - M) L by
        rw [bys_length, List.length_take, List.length_drop, HN.out]; exact Nat.min_comm _ _)
      have HFIT := Lib.hid (show 0 + (bys ((b.drop M).take L)).length ≤ (List.replicate L (Value.int .u8 0)).length by
        rw [bys_length, List.length_take, List.length_replicate]; omega)
      have HS1 := Lib.hid (show (Try.prog.info? 5).map (·.size) = some 1 by rw [hu, Option.map_some, hu1])
      clear hW0 hW1 hW2 hW3 hW4 hsp hgR hM hMM hSA1
      go_still_tail 12, (by kernel_rfl)
      change wpList _ _ _ _ _ W.drew
      have hB0 := Below.refl gR W.drew
      go_wp2_with (with_reducible refine wpList_copy_splice rfl (.tmp 37) (.tmp 45) 22 22 rfl 5 Try.underlying22 HS1.out (some ⟨gR, 0, none⟩) SA1 L L (nb - M) (cb - M) rfl rfl gR 0 (List.replicate L (.int .u8 0)) 5 HW2.out (bys ((b.drop M).take L)) HLEN.out (fun h => And.intro rfl (HSRC.out.src L h)) HFIT.out (bys_cells _) gR W.drew hB0 (Nat.le_refl _) ?_; intro w3 HG3 hB3)
      have hg3 : wr.grownBy w3 (some w.heap.size) := by
        refine ⟨hB3.os.trans HW3.out.os, hB3.tape.trans HW3.out.tape, hB3.output.trans HW3.out.output, Nat.le_trans HW3.out.size hB3.size, fun t ht hne => ?_⟩
        have h1 := HW3.out.block t ht hne
        have h2 := hB3.block t (by have := HGR.out; omega)
        exact h2.trans h1
      have hg4 : W.drew.grownBy w3 (some gR) := by
        refine ⟨hB3.os, hB3.tape, hB3.output, hB3.size, fun t ht hne => hB3.block t ?_⟩
        have h1 : t < gR + 1 := by have := HW4.out; exact this ▸ ht
        have h2 : t ≠ gR := fun e => hne (by rw [e])
        omega
      have ho3 := (own_drewN HW1.out 1).kept hg4 (Or.inr (fun e => absurd (Option.some.inj e) (Nat.ne_of_lt hgS)))
      have hr3 := HRW.out.grown hg3 (fun t ht => Or.inl ht)
      have hx3 : BytsX w.heap.size (Value.ownBlock (.slice (some ⟨w.heap.size, 0, none⟩) j n)) w3 (some ⟨gR, 0, none⟩) (encRow b L j) := fun _ => by
        refine ⟨gR, 0, rfl, hbs, fun e => absurd (Option.some.inj e) (Nat.ne_of_gt hgS), (Array.getElem?_eq_some_iff.1 HG3.out).1, fun t x hx => ?_⟩
        have hc3 := cell_of_row w3 gR (0 + t) _ _ _ HG3.out
        rw [hc3, HSP.out, Nat.zero_add]
        simp [bys, hx]
      have hs3 := hr3.snoc (r := encRow b L j) (c := L) (by rw [encRow_len]; exact Nat.le_refl _) HB4.out (fun h => by cases h) hx3
      rw [encRow_len] at hs3
      have HZ := Lib.hid (And.intro ho3 hs3)
      have hbz : Below w.heap.size w w3 := HW0.out.drew.trans (hB3.mono hbs)
      clear hg3 hg4 ho3 hr3 hx3 hs3 HG3 hB3
      go_roundw
      case rel =>
        refine ⟨j + 1, by omega, by go_num, ⟨_, HZ.out.1, ?_⟩, hbz⟩
        rw [encTo_succ, show encAt b L k j = encRow b L j from by unfold encAt; rw [if_pos hlt]]
        exact HZ.out.2
      case measure => simp [intOf]; omega
    · obtain rfl : j = k := by omega
      obtain ⟨wo, hwo⟩ : ∃ W, W = wr := ⟨_, rfl⟩
      subst hwo
      have hgS : w.heap.size < wo.heap.size := by
        obtain ⟨cs, hown1, _⟩ := hown
        exact (hown1.lt w.heap.size rfl).2
      have hlist := hown.listsO.mono (okO' := fun _ => True) (okR' := fun b => b ≠ w.heap.size) (fun _ _ _ => trivial) (fun b _ h e => h.2 (by rw [e]; rfl))
      have hfe := firstE_any (some ⟨w.heap.size, 0, none⟩) j n (encTo b L j j) (encTo_len _ _ _ _) (by omega) j (fun _ => True) (fun b => b ≠ w.heap.size) wo (fun b hb => Nat.ne_of_gt (Nat.lt_of_lt_of_le hgS hb)) hlist
      rw [isK_all, isK_all_len] at hfe
      have HFE := Lib.hid hfe
      have HTH := Lib.hid (fun (A' : Option Addr) (c' : Nat) (W : World) (hW : Below wo.heap.size wo W) (hK : Kns (fun b => b ≠ w.heap.size) W A' (encTo b L j j) (firstL j)) => through_any (fun b => b ≠ w.heap.size) A' j c' (encTo b L j j) (firstL j) W (fun b hb => Nat.ne_of_gt (Nat.lt_of_lt_of_le (Nat.lt_of_lt_of_le hgS hW.size) hb)) hK)
      have HTR := Lib.hid (fun (bl p : Nat) (A' : Option Addr) (c' q : Nat) (hq : q ≤ 255) (W : World) (hT : Thru (fun b => b ≠ w.heap.size) W bl p A' j c' (encTo b L j j) (firstL j)) => thru_any (fun b => b ≠ w.heap.size) bl p A' j c' (encTo b L j j) (firstL j) (firstL_len j) hk1 (by omega) (firstL_nodup (by omega)) L (by omega) (fun q hq => by rw [rowOf_enc (firstL_mem (by omega) hq) (Nat.le_refl _), encRow_len]) q hq W hT)
      have HO := Lib.hid hown
      have HBW := Lib.hid hbw
      clear hlist hfe hown hbw
      go_wp2_with (first | (go_at_call 43; with_reducible refine HFE.out.mono ?_; rintro e w1 ⟨P, cP, rfl, hK1, hb1⟩) | (go_at_call 42; with_reducible refine (HTH.out P cP w1 hb1 hK1).mono ?_; rintro e w2 ⟨bl, p, rfl, hT2, hb2⟩))
      have hB2 := Lib.hid (hb1.trans (hb2.mono hb1.size))
      have HT2 := Lib.hid hT2
      clear hK1 hT2 hb1 hb2
      have hO2 := Lib.hid (HO.out.keep hB2.out)
      have hBW2 := Lib.hid (HBW.out.trans (hB2.out.mono (Nat.le_of_lt hgS)))
      go_loopw [9, 12] (fun o i wz => ∃ q : Nat, j ≤ q ∧ q ≤ n ∧ i = .int .i64 q ∧ o = .slice (some ⟨w.heap.size, 0, none⟩) q n ∧ OwnRows w.heap.size w.heap.size wz (some ⟨w.heap.size, 0, none⟩) q n (encTo b L j q) ∧ Below w.heap.size w wz ∧ Thru (fun b => b ≠ w.heap.size) wz bl p P j cP (encTo b L j j) (firstL j)) (fun _ i _ => n - (intOf i).toNat)
      case atStart => exact ⟨j, Nat.le_refl _, hkn, rfl, rfl, hO2.out, hBW2.out, HT2.out⟩
      case round =>
        obtain ⟨q, hq1, hq2, rfl, rfl, hown, hbz, hT⟩ := hrel
        have hbzs := hbz.size
        by_cases hlq : q < n
        · have qn : (q : Int) < (n : Int) := by omega
          obtain ⟨cs, hown1, hrws⟩ := hown
          have hgz := (hown1.lt w.heap.size rfl).2
          have HCL := Lib.hid (HTR.out bl p P cP q (by omega) wr hT)
          have HSE := Lib.hid (show shardL (encTo b L j j) (firstL j) (UInt8.ofNat q) = encAt b L j q by
            rw [encTo_rows]; unfold encAt; rw [if_neg (by omega)])
          have HO1 := Lib.hid hown1
          have HRW := Lib.hid hrws
          have HBZ := Lib.hid hbz
          have HTZ := Lib.hid hT
          clear hown1 hrws hbz hT
          go_wp2_with (first | (go_at_call 49; with_reducible refine HCL.out.mono ?_; rintro e w5 ⟨rfl, hown5, hb5⟩; have hownr := own_keep HO1.out hb5) | (at_builtin; refine wpList_append_fits _ rfl _ _ 23 rfl w.heap.size 22 i0 1 Try.underlying23 hi hz1 w.heap.size q n cs rfl (hownr.alloc _) ⟨w5.heap.size, 0, none⟩ 1 1 [.slice (some ⟨wr.heap.size, 0, none⟩) L L] rfl rfl (cell_one_new _ _ _) (by simp [Value.oneCell']) (by omega) ?_; intro w6 hown6 hgrow6))
          rw [HSE.out] at hown5
          have h55 : (w5.alloc (.cells #[.slice (some ⟨wr.heap.size, 0, none⟩) L L] 22)).heap.size = w5.heap.size + 1 := by simp
          have hb6 : Below w.heap.size w w6 := ((HBZ.out.trans (hb5.mono hbzs)).alloc (Nat.le_trans hbzs hb5.size) _).grown hgrow6 (by rw [h55]; have := hb5.size; omega) (fun t ht => Nat.le_of_eq (Option.some.inj ht))
          have hk6 : Kept (fun b => b ≠ w.heap.size) wr w6 := by
            refine ⟨Nat.le_trans hb5.size (Nat.le_trans (by rw [h55]; omega) hgrow6.size), fun t ht hlt => ?_⟩
            rw [hgrow6.block t (by rw [h55]; have := hb5.size; omega) (fun e => ht (Option.some.inj e))]
            exact ((World.grownBy_alloc w5 _ none).block t (Nat.lt_of_lt_of_le hlt hb5.size) (fun e => by cases e)).trans (hb5.block t hlt)
          have hlS : (encAt b L j q).length = L := encAt_len q hk1 (by omega)
          have hcap := own_cap hown5
          have hbx : BytsX w.heap.size (Value.ownBlock (.slice (some ⟨w.heap.size, 0, none⟩) q n)) w5 (some ⟨wr.heap.size, 0, none⟩) (encAt b L j q) := (BytsX.of_own hown5 HO1.out (Nat.le_refl _)).mono hbzs
          go_roundw
          case rel =>
            refine ⟨q + 1, by omega, by omega, by go_num, rfl, ?_, hb6, HTZ.out.kept hk6⟩
            rw [encTo_succ]
            exact OwnRows.push ((HRW.out.below hb5).below ((Below.refl _ w5).alloc (Nat.le_refl _) _)) hlS hcap.1 hcap.2 (own_none hown5) (hbx.below ((Below.refl _ w5).alloc (Nat.le_refl _) _)) hown6 hgrow6 (Or.inl rfl)
          case measure => simp [intOf]; omega
        · obtain rfl : q = n := by omega
          have HO1 := Lib.hid hown
          have HBZ := Lib.hid hbz
          clear hown hbz hT
          go_wp2
          go_ret2
          rw [HLL.out]
          exact ⟨_, _, rfl, HO1.out, HBZ.out⟩
end Go.Proofs.Ytoodeoglpdapiaa
