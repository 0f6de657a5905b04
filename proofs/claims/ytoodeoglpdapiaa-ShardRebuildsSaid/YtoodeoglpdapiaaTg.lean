/-
  Walk of the law ShardRebuilds.
-/
import Derived.Test.YtoodeoglpdapiaaTf
import Derived.StillTailTactics
import Derived.Deep.CutRange
namespace Go.Proofs.Ytoodeoglpdapiaa
open Go.RowKit Gf
set_option maxHeartbeats 400000

set_option maxHeartbeats 8000000 in
set_option maxRecDepth 20000 in
theorem lawRebuilds_any {Env : World → Prop} (P : Prg Env) (S : SanOk Env) (A : Option Addr) (nb cb : Nat) (b : List UInt8) (w0 w1 v2 : UInt8) (gone : UInt16) (w : World) (hE : Env w) (hA : Slb (· < w.heap.size) w A nb cb b) :
    Calls Try.prog 6 #[.slice A nb cb, .agg #[.int .u8 w0.toNat, .int .u8 w1.toNat, .int .u8 v2.toNat], .int .u16 gone.toNat] w fun e w' => e = .returned (.bool true) ∧ Below w.heap.size w w' := by
  have HS := Lib.hid (show ∀ W, Env W → Calls Try.prog 10 #[] W fun e w' => e = .returned (.bool true) ∧ Below W.heap.size W w' from S)
  have HP := Lib.hid P
  have HA := Lib.hid hA
  have hB0 : Below w.heap.size w (w.alloc (.cells #[.int .u8 w0.toNat, .int .u8 w1.toNat, .int .u8 v2.toNat] 48)) := by go_grown
  have hE0 := P.env hE hB0
  have k0 : (w.alloc (.cells #[.int .u8 w0.toNat, .int .u8 w1.toNat, .int .u8 v2.toNat] 48)).cell? ⟨w.heap.size, 0, none⟩ = some (.int .u8 w0.toNat) := by simp [go_sem]
  have k1 : (w.alloc (.cells #[.int .u8 w0.toNat, .int .u8 w1.toNat, .int .u8 v2.toNat] 48)).cell? ⟨w.heap.size, 1, none⟩ = some (.int .u8 w1.toNat) := by simp [go_sem]
  have k2 : (w.alloc (.cells #[.int .u8 w0.toNat, .int .u8 w1.toNat, .int .u8 v2.toNat] 48)).cell? ⟨w.heap.size, 2, none⟩ = some (.int .u8 v2.toNat) := by simp [go_sem]
  have KB := Lib.hid (fun W (h : Below (w.alloc (.cells #[.int .u8 w0.toNat, .int .u8 w1.toNat, .int .u8 v2.toNat] 48)).heap.size (w.alloc (.cells #[.int .u8 w0.toNat, .int .u8 w1.toNat, .int .u8 v2.toNat] 48)) W) => show W.cell? ⟨w.heap.size, 0, none⟩ = some (.int .u8 w0.toNat) ∧ W.cell? ⟨w.heap.size, 1, none⟩ = some (.int .u8 w1.toNat) ∧ W.cell? ⟨w.heap.size, 2, none⟩ = some (.int .u8 v2.toNat) from ⟨(h.cell (block_lt_of_cell k0)).trans k0, (h.cell (block_lt_of_cell k1)).trans k1, (h.cell (block_lt_of_cell k2)).trans k2⟩)
  clear S P k0 k1 k2 hA
  by_cases h60 : 60 < nb ∨ (¬ 60 < nb ∧ nb = 0)
  · rcases h60 with h60 | ⟨h60, h0⟩
    · have h60' : (60 : Int) < (nb : Int) := by omega
      go_enter Try.func6, Try.ntmps6
      go_wp2_with (go_at_call 10; with_reducible refine (HS.out _ hE0).mono ?_; rintro e w2 ⟨rfl, hb2⟩)
      go_ret
      exact ⟨rfl, hB0.trans (hb2.mono hB0.size)⟩
    · have h60' : ¬ (60 : Int) < (nb : Int) := by omega
      have h0' : ((nb : Int) == 0) = true := by simp [h0]
      go_enter Try.func6, Try.ntmps6
      go_wp2_with (go_at_call 10; with_reducible refine (HS.out _ hE0).mono ?_; rintro e w2 ⟨rfl, hb2⟩)
      go_ret
      exact ⟨rfl, hB0.trans (hb2.mono hB0.size)⟩
  · have h60' : ¬ (60 : Int) < (nb : Int) := by omega
    have h0' : ((nb : Int) == 0) = false := by simp; omega
    obtain ⟨n1, n12⟩ := numN_r w1
    obtain ⟨kk1, kkn⟩ := numK_r w0 w1
    have HNum := Lib.hid (fun W => Numbers_any w0 w1 W)
    obtain ⟨n, hn⟩ : ∃ n, numN w1 = n := ⟨_, rfl⟩
    obtain ⟨k, hk⟩ : ∃ k, numK w0 w1 = k := ⟨_, rfl⟩
    rw [hn, hk] at HNum
    rw [hn] at n1 n12 kkn
    rw [hk] at kk1 kkn
    have HEN := Lib.hid (fun W hW hEW => enc_yes HP.out (· < w.heap.size) A nb cb b k n W hEW hW (by omega) kk1 kkn n12)
    clear hn hk
    go_enter Try.func6, Try.ntmps6
    go_wp2_with (first | (go_at_call 10; with_reducible refine (HS.out _ hE0).mono ?_; rintro e w2 ⟨rfl, hb2⟩; obtain ⟨y0, y1, _⟩ := KB.out _ hb2; have hE2 := HP.out.env hE0 hb2; have hB2 := hB0.trans (hb2.mono hB0.size)) | (go_at_call 24; with_reducible refine (HNum.out _).mono ?_; rintro e w3 ⟨rfl, hb3⟩; have hE3 := HP.out.env hE2 hb3; have hB3 := hB2.trans (hb3.mono hB2.size); obtain ⟨_, _, y2⟩ := KB.out _ (hb2.trans (hb3.mono hb2.size))))
    go_quiet (fail)
    have hb4 : Below w3.heap.size w3 ((w3.alloc (.cells #[.int .i64 k, .int .i64 n] 43)).drewN nq) := ((Below.refl _ w3).alloc (Nat.le_refl _) _).trans ((below_drewN _ nq).mono (by simp))
    have hE4 := HP.out.env hE3 hb4
    have hB4 := hB3.trans (hb4.mono hB3.size)
    obtain ⟨L, hL⟩ : ∃ L, longN nb k = L := ⟨_, rfl⟩
    have HLL := Lib.hid hL
    have HQ4 := Lib.hid (hb2.trans ((hb3.trans (hb4.mono hb3.size)).mono hb2.size))
    have hn0 : ¬ (n : Int) = 0 := by omega
    have hn0' : ((n : Int) == 0) = false := by simp; omega
    have hL1 : 1 ≤ L := by rw [← hL]; exact longN_pos kk1 (by omega)
    have hL60 : L ≤ 60 := by rw [← hL]; exact Nat.le_trans (longN_le nb k kk1).2 (by omega)
    obtain ⟨I, hIe⟩ : ∃ I, v2.toNat % n = I := ⟨_, rfl⟩
    have hIn : I < n := by rw [← hIe]; exact Nat.mod_lt _ (by omega)
    have hI : (wrap64 (v2.toNat : Int)).tmod (n : Int) = (I : Int) := by
      have hv := v2.toNat_lt
      rw [show wrap64 (v2.toNat : Int) = (v2.toNat : Int) from wrap64_small (by omega), Int.tmod_eq_emod_of_nonneg (by omega), ← hIe]
      simp
    have hI0 : (0 : Int) ≤ (I : Int) := Int.natCast_nonneg I
    have hI1 : (I : Int) < (n : Int) := Int.ofNat_lt.2 hIn
    clear hIe hL y0 y1 y2
    go_upto_region 10 with (go_at_call 11; with_reducible refine (HEN.out _ (HA.out.below hB4) hE4).mono ?_; rintro e w5 ⟨A1, c1, rfl, hX, hb5⟩; have hE5 := HP.out.env hE4 hb5; have hB5 := hB4.trans (hb5.mono hB4.size); have hbX : Below w5.heap.size w5 (w5.alloc (.cells #[.slice A1 n c1, .int .i64 0] 29)) := (Below.refl _ w5).alloc (Nat.le_refl _) _; obtain ⟨_, _, z2⟩ := KB.out _ (HQ4.out.trans ((hb5.trans (hbX.mono hb5.size)).mono HQ4.out.size)))
    have HEX := Lib.hid (HP.out.env hE5 hbX)
    have HBX := Lib.hid (hB5.trans (hbX.mono hB5.size))
    have HX0 := hX.below hbX
    have xa : (w5.alloc (.cells #[.slice A1 n c1, .int .i64 0] 29)).cell? ⟨w5.heap.size, 0, none⟩ = some (.slice A1 n c1) := by simp [go_sem]
    have KX := Lib.hid (fun W (h : Below (w5.alloc (.cells #[.slice A1 n c1, .int .i64 0] 29)).heap.size (w5.alloc (.cells #[.slice A1 n c1, .int .i64 0] 29)) W) => (h.cell (block_lt_of_cell xa)).trans xa)
    have hx0 : (encL b k n) ≠ [] := List.ne_nil_of_length_pos (by rw [encL_len]; omega)
    obtain ⟨gx, ox, rfl, _, hgx, hcx⟩ := HX0.lists hx0
    have HXX := Lib.hid HX0
    have hbl := HA.out.len
    have HRow := Lib.hid (fun j (hj : j < n) => show ∃ A' c', (w5.alloc (.cells #[.slice (some ⟨gx, ox, none⟩) n c1, .int .i64 0] 29)).cell? ⟨gx, ox + j, none⟩ = some (.slice A' L c') ∧ L ≤ c' ∧ (A' = none → c' = 0) ∧ Byts (w5.alloc (.cells #[.slice (some ⟨gx, ox, none⟩) n c1, .int .i64 0] 29)) A' (encX b L k (UInt8.ofNat j)) from by
      have e := encL_get (b := b) kk1 (by omega) hj
      rw [hbl, HLL.out] at e
      obtain ⟨A', c', q1, q2, _, q4, q5⟩ := hcx j _ e
      rw [encX_len] at q1 q2
      exact ⟨A', c', q1, q2, q4, q5.byts⟩)
    have HBL := Lib.hid hbl
    obtain ⟨wX, hwX⟩ : ∃ W, (w5.alloc (.cells #[.slice (some ⟨gx, ox, none⟩) n c1, .int .i64 0] 29)) = W := ⟨_, rfl⟩
    rw [hwX] at HEX HBX HXX KX HRow hgx xa z2
    have hwX' : w5.alloc (.cells #[.slice (some ⟨gx, ox, none⟩) n c1, .int .i64 0] 29) = wX := hwX
    rw [hwX']
    have HLE := Lib.hid (Left_any (some ⟨gx, ox, none⟩) n c1 (encL b k n) (encL_len _ _ _) (by omega) gone wX HXX.out.lists.lists)
    have HPart := Lib.hid (part_left (b := b) (k := k) (n := n) (gone := gone.toNat) kk1 (by omega))
    rw [hbl, HLL.out] at HPart
    have HSH : Hid (∀ ls S, Part b L k n S ls → Short ls) := Lib.hid (fun ls S hP => hP.short (by omega))
    have HPR := Lib.hid (show properB n k = true by rw [properB_iff]; omega)
    clear hX HX0 hx0 hcx hbl hwX hwX' hbX hE5 hb5 hB5 hB4 hE4 hb4 hI z2
    go_wp2_with (go_at_call 26; with_reducible refine HLE.out.mono ?_; rintro e w8 ⟨A8, c8, rfl, hL8, hb8⟩; obtain ⟨gL, rfl, hLf⟩ := lft_start hL8 (by omega) hb8)
    have HLf := Lib.hid hLf
    have HB8 := Lib.hid hb8
    clear hL8 hLf hb8 xa
    go_loopw [14, 15] (fun c i wz => ∃ q : Nat, q ≤ n ∧ i = .int .i64 q ∧ c = .int .i64 (cnt (fun t => !gone.toNat.testBit t && t != I) q : Nat) ∧ wz = w8) (fun _ i _ => n - (intOf i).toNat)
    case atStart => exact ⟨0, Nat.zero_le _, rfl, rfl, rfl⟩
    case round =>
      obtain ⟨q, hq, rfl, rfl, hw⟩ := hrel
      replace hw := hw.symm
      subst hw
      have hcq := cnt_succ (fun t => !gone.toNat.testBit t && t != I) q
      have hcl := cnt_le (fun t => !gone.toNat.testBit t && t != I) q
      have hg16 := gone.toNat_lt
      obtain ⟨C, hC⟩ : ∃ C, cnt (fun t => !gone.toNat.testBit t && t != I) q = C := ⟨_, rfl⟩
      rw [hC] at hcq hcl
      rw [hC]
      have HC := Lib.hid hC
      clear hC
      by_cases hlq : q < n
      · have qn : (q : Int) < (n : Int) := Int.ofNat_lt.2 hlq
        have q0 : (0 : Int) ≤ (q : Int) := Int.natCast_nonneg q
        have hbz := bit16y gone q
        cases hbt : gone.toNat.testBit q
        · rw [hbt] at hbz
          have hbz' : (bits BinOp.and IntKind.u16 ((gone.toNat : Int) / 2 ^ q) 1 == 0) = true := hbz
          by_cases hqI : q = I
          · obtain ⟨e1, e2⟩ := int_eq hqI
            have HC2 := Lib.hid (show cnt (fun t => !gone.toNat.testBit t && t != I) (q + 1) = C by rw [hcq, hqI]; simp)
            clear hcq hbz hbt hqI
            go_wp2
            go_roundw
            case rel => exact ⟨q + 1, by omega, by go_num, by rw [HC2.out], trivial⟩
            case measure => simp [intOf]; omega
          · obtain ⟨e1, e2⟩ := int_ne hqI
            have HC2 := Lib.hid (show cnt (fun t => !gone.toNat.testBit t && t != I) (q + 1) = C + 1 by rw [hcq, hbt]; simp [hqI])
            clear hcq hbz hbt hqI
            go_wp2
            go_roundw
            case rel => exact ⟨q + 1, by omega, by go_num, by rw [HC2.out]; go_num, trivial⟩
            case measure => simp [intOf]; omega
        · rw [hbt] at hbz
          have hbz' : (bits BinOp.and IntKind.u16 ((gone.toNat : Int) / 2 ^ q) 1 == 0) = false := hbz
          have HC2 := Lib.hid (show cnt (fun t => !gone.toNat.testBit t && t != I) (q + 1) = C by rw [hcq, hbt]; simp)
          clear hcq hbz hbt
          go_wp2
          go_roundw
          case rel => exact ⟨q + 1, by omega, by go_num, by rw [HC2.out], trivial⟩
          case measure => simp [intOf]; omega
      · obtain rfl : n = q := by omega
        have HE8 := Lib.hid (HP.out.env HEX.out HB8.out)
        have HB80 := Lib.hid (HBX.out.trans (HB8.out.mono HBX.out.size))
        clear hcq hg16
        by_cases hfew : C < k
        · have hfw : (C : Int) < (k : Int) := Int.ofNat_lt.2 hfew
          have HREB := Lib.hid (lft_any HP.out HLf.out HE8.out (HSH.out _ _ HPart.out) HPR.out hIn)
          have hR := HPart.out.reb hL1 kk1 kkn (by omega) (i := I)
          rw [← cnt_swap, HC.out] at hR
          have HR := Lib.hid hR
          clear hR
          go_upto_region 18 with (go_at_call 17; with_reducible refine HREB.out.mono ?_; rintro e w9 ⟨A9, m9, c9, er, rfl, hres, hb9⟩; have HRES := Lib.hid hres; clear hres)
          have hend : Below w.heap.size w (w9.alloc (.cells #[.slice A9 m9 c9, .int .i64 er] 34)) := by
            have h1 := HB80.out.trans (hb9.mono HB80.out.size)
            exact h1.alloc h1.size _
          rcases HRES.out with ⟨_, rfl, rfl⟩ | ⟨hf, rfl, hS⟩
          · go_wp2
            go_ret
            exact ⟨rfl, hend⟩
          · have hC0 : C = 0 := by
              by_cases h0 : C = 0
              · exact h0
              · exact absurd (HR.out.2.1 (Nat.pos_of_ne_zero h0) hfew) (by omega)
            have hm := hS.len
            rw [HR.out.2.2 hC0 hf] at hm
            obtain rfl : m9 = 0 := hm.symm
            subst hC0
            clear hS hm hf
            go_wp2
            go_ret
            exact ⟨rfl, hend⟩
        · have hfw : ¬ (C : Int) < (k : Int) := fun h => hfew (Int.ofNat_lt.1 h)
          have hPU := Lib.hid (part_zero HPart.out)
          go_wp2
          go_loopw [17] (fun i wz => ∃ (j : Nat) (ls : List (List UInt8)), j ≤ n ∧ i = .int .i64 j ∧ Lft wX gL n c8 ls wz ∧ Part b L k n (upS (fun t => !gone.toNat.testBit t) j) ls) (fun i _ => n - (intOf i).toNat)
          case atStart => exact ⟨0, _, Nat.zero_le _, rfl, HLf.out, hPU.out⟩
          case round =>
            obtain ⟨j, ls, hj, rfl, hLf, hPj⟩ := hrel
            obtain ⟨wo, hwo⟩ : ∃ W, W = wr := ⟨_, rfl⟩
            subst hwo
            by_cases hlt : j < n
            · have hjn : (j : Int) < (n : Int) := Int.ofNat_lt.2 hlt
              have hj0 : (0 : Int) ≤ (j : Int) := Int.natCast_nonneg j
              have HEo := Lib.hid (HP.out.env HEX.out hLf.bel)
              have HREB := Lib.hid (lft_any HP.out hLf HEo.out (HSH.out _ _ hPj) HPR.out hlt)
              have hR := hPj.reb hL1 kk1 kkn (by omega) (i := j)
              have HR := Lib.hid hR
              have HLo := Lib.hid hLf
              have HPj := Lib.hid hPj
              clear hR hLf hPj
              go_upto_region 23 with (go_at_call 17; with_reducible refine HREB.out.mono ?_; rintro e w9 ⟨A9, m9, c9, er, rfl, hres, hb9⟩; have HRES := Lib.hid hres; have HB9 := Lib.hid hb9; clear hres hb9)
              have hbA : Below w9.heap.size w9 (w9.alloc (.cells #[.slice A9 m9 c9, .int .i64 er] 34)) := (Below.refl _ w9).alloc (Nat.le_refl _) _
              have r0 : (w9.alloc (.cells #[.slice A9 m9 c9, .int .i64 er] 34)).cell? ⟨w9.heap.size, 0, none⟩ = some (.slice A9 m9 c9) := by simp [go_sem]
              have r1 : (w9.alloc (.cells #[.slice A9 m9 c9, .int .i64 er] 34)).cell? ⟨w9.heap.size, 1, none⟩ = some (.int .i64 er) := by simp [go_sem]
              have HL10 := Lib.hid (HLo.out.step (HB9.out.trans (hbA.mono HB9.out.size)))
              have HRES10 : Hid (((rebP ls k j).length < k ∧ m9 = 0 ∧ er = 70) ∨ ((rebP ls k j).length = k ∧ er = 0 ∧ Slb (· ≠ gL) (w9.alloc (.cells #[.slice A9 m9 c9, .int .i64 er] 34)) A9 m9 c9 (rebL ls k j))) := Lib.hid (by
                rcases HRES.out with h | ⟨h1, h2, h3⟩
                · exact .inl h
                · exact .inr ⟨h1, h2, h3.below hbA⟩)
              obtain ⟨w10, hw10⟩ : ∃ W, w9.alloc (.cells #[.slice A9 m9 c9, .int .i64 er] 34) = W := ⟨_, rfl⟩
              have hw10' : w9.alloc (.cells #[.slice A9 m9 c9, .int .i64 er] 34) = w10 := hw10
              rw [hw10'] at r0 r1 HL10 HRES10
              rw [hw10']
              clear hbA hw10 hw10' HRES HB9 HREB HEo
              go_wp2
              go_loopw [19, 20] (fun c i wz => ∃ t : Nat, t ≤ n ∧ i = .int .i64 t ∧ c = .int .i64 (cnt (fun t => t != j && upS (fun t => !gone.toNat.testBit t) j t) t : Nat) ∧ wz = w10) (fun _ i _ => n - (intOf i).toNat)
              case atStart => exact ⟨0, Nat.zero_le _, rfl, rfl, rfl⟩
              case round =>
                obtain ⟨t, ht, rfl, rfl, hw⟩ := hrel
                replace hw := hw.symm
                subst hw
                have hcq := cnt_succ (fun t => t != j && upS (fun t => !gone.toNat.testBit t) j t) t
                have hcl := cnt_le (fun t => t != j && upS (fun t => !gone.toNat.testBit t) j t) t
                obtain ⟨D, hD⟩ : ∃ D, cnt (fun t => t != j && upS (fun t => !gone.toNat.testBit t) j t) t = D := ⟨_, rfl⟩
                rw [hD] at hcq hcl
                rw [hD]
                have HD := Lib.hid hD
                clear hD
                by_cases htn : t < n
                · have tn : (t : Int) < (n : Int) := Int.ofNat_lt.2 htn
                  have t0 : (0 : Int) ≤ (t : Int) := Int.natCast_nonneg t
                  by_cases htj : t = j
                  · obtain ⟨e1, e2⟩ := int_eq htj
                    have HC2 := Lib.hid (show cnt (fun t => t != j && upS (fun t => !gone.toNat.testBit t) j t) (t + 1) = D by rw [hcq, htj]; simp)
                    clear hcq htj
                    go_wp2
                    go_roundw
                    case rel => exact ⟨t + 1, by omega, by go_num, by rw [HC2.out], trivial⟩
                    case measure => simp [intOf]; omega
                  · obtain ⟨e1, e2⟩ := int_ne htj
                    obtain ⟨A', c', q1, _⟩ := HL10.out.at_ htn
                    rw [HPj.out.lenD htn] at q1
                    cases hSt : upS (fun t => !gone.toNat.testBit t) j t
                    · have HC2 := Lib.hid (show cnt (fun t => t != j && upS (fun t => !gone.toNat.testBit t) j t) (t + 1) = D by rw [hcq, hSt]; simp)
                      rw [hSt, if_neg (by decide)] at q1
                      clear hcq htj hSt
                      go_wp2
                      go_roundw
                      case rel => exact ⟨t + 1, by omega, by go_num, by rw [HC2.out], trivial⟩
                      case measure => simp [intOf]; omega
                    · have HC2 := Lib.hid (show cnt (fun t => t != j && upS (fun t => !gone.toNat.testBit t) j t) (t + 1) = D + 1 by rw [hcq, hSt]; simp [htj])
                      rw [hSt, if_pos rfl] at q1
                      have hLp : (0 : Int) < (L : Int) := Int.ofNat_lt.2 hL1
                      clear hcq htj hSt
                      go_wp2
                      go_roundw
                      case rel => exact ⟨t + 1, by omega, by go_num, by rw [HC2.out]; go_num, trivial⟩
                      case measure => simp [intOf]; omega
                · obtain rfl : n = t := by omega
                  have hr := HR.out
                  rw [HD.out] at hr
                  have hend : Below w.heap.size w w10 := HBX.out.trans (HL10.out.bel.mono HBX.out.size)
                  clear hcq
                  by_cases hDk : D < k
                  · have hdk : (D : Int) < (k : Int) := Int.ofNat_lt.2 hDk
                    rcases HRES10.out with ⟨_, rfl, rfl⟩ | ⟨hf, rfl, hS⟩
                    · by_cases hD0 : D = 0
                      · subst hD0
                        clear hr
                        go_wp2
                        go_ret
                        exact ⟨rfl, hend⟩
                      · have hd0 : ((D : Int) == 0) = false := by simp; omega
                        clear hr hD0
                        go_wp2
                        go_ret
                        exact ⟨rfl, hend⟩
                    · have hD0 : D = 0 := by
                        by_cases h0 : D = 0
                        · exact h0
                        · exact absurd (hr.2.1 (Nat.pos_of_ne_zero h0) hDk) (by omega)
                      have hm := hS.len
                      rw [hr.2.2 hD0 hf] at hm
                      obtain rfl : m9 = 0 := hm.symm
                      subst hD0
                      clear hr hS hm hf
                      go_wp2
                      go_ret
                      exact ⟨rfl, hend⟩
                  · have hdk : ¬ (D : Int) < (k : Int) := fun h => hDk (Int.ofNat_lt.1 h)
                    obtain ⟨hf, hX⟩ := hr.1 (by omega)
                    obtain ⟨rfl, hS⟩ : er = 0 ∧ Slb (· ≠ gL) w10 A9 m9 c9 (encX b L k (UInt8.ofNat j)) := by
                      rcases HRES10.out with ⟨h1, _, _⟩ | ⟨_, h2, h3⟩
                      · omega
                      · rw [hX] at h3
                        exact ⟨h2, h3⟩
                    have HSl := Lib.hid hS
                    clear hr hf hX hS hend
                    obtain ⟨A', c', q1, _, _, q5⟩ := HRow.out j hlt
                    have hbl := HL10.out.bel
                    have q10 := (hbl.cell (p := ⟨gx, ox + j, none⟩) hgx).trans q1
                    have x10 := KX.out _ hbl
                    have HSA := Lib.hid (fun (W : World) (hW : Below w10.heap.size w10 W) => Same_any A9 A' m9 c9 L c' _ _ HSl.out.len (encX_len b L k (UInt8.ofNat j)) 0 0 W (HSl.out.byts.byts.below hW) ((q5.below hbl).below hW))
                    simp only [decide_true, Bool.true_and, BEq.rfl] at HSA
                    clear q1 q5
                    have hdr : Below w10.heap.size w10 w10.drew := below_drewN w10 1
                    have HS1 := Lib.hid (HSA.out _ hdr)
                    go_wp2
                    go_still_tail 7, (by kernel_rfl)
                    change wpList _ _ _ _ _ w10.drew
                    go_wp2_with (go_at_call 14; with_reducible refine HS1.out.mono ?_; rintro e w11 ⟨rfl, hb11⟩; have hb12 := hdr.trans (hb11.mono hdr.size); have HL12 := Lib.hid (HL10.out.step hb12); have HS12 := Lib.hid (HSl.out.below hb12); obtain ⟨_, _, q12, f12⟩ := HL12.out.at_ hlt; have r12 := (hb12.cell (block_lt_of_cell r0)).trans r0; clear hb12 hb11)
                    go_roundw
                    case rel => exact ⟨j + 1, _, by omega, by go_num, HL12.out.store hlt HS12.out, HPj.out.up⟩
                    case measure => simp [intOf]; omega
            · obtain rfl : n = j := by omega
              have hall := part_all hPj (by rw [HBL.out, HLL.out]) kk1 (by omega)
              have hbl := hLf.bel
              have x10 := KX.out _ hbl
              have HSS := Lib.hid (SameShards_any (some ⟨gL, 0, none⟩) (some ⟨gx, ox, none⟩) n c8 n c1 ls (encL b k n) hLf.sll.len (encL_len b k n) (by omega) wo hLf.sll.lists.lists (HXX.out.lists.lists.below hbl))
              rw [hall] at HSS
              simp only [decide_true] at HSS
              have hend : Below w.heap.size w wo := HBX.out.trans (hbl.mono HBX.out.size)
              clear hall hLf hPj hbl
              go_wp2_with (go_at_call 13; with_reducible refine HSS.out.mono ?_; rintro e w11 ⟨rfl, m, rfl⟩)
              go_ret
              exact ⟨rfl, hend.trans ((below_drewN wo m).mono hend.size)⟩
end Go.Proofs.Ytoodeoglpdapiaa
