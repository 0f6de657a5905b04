/-
  Walk of the law ShardDecodes.
-/
import Derived.Test.YtoodeoglpdapiaaSv
import Derived.Laws.AppendOwnNone
namespace Go.Proofs.Ytoodeoglpdapiaa
open Go.RowKit Gf
set_option maxHeartbeats 400000

theorem byts_news {w : World} {ad : Addr} {l : List UInt8} (h : Byts w (some ad) l) : ∀ (j : Nat) (u : Value), (bys l)[j]? = some u → w.cell? (ad.add j) = some u := fun j u hu => by
  have hne : l ≠ [] := fun e => by rw [e] at hu; simp [bys] at hu
  obtain ⟨b, o, hA, _, hc⟩ := h hne
  injection hA with hA
  subst hA
  unfold bys at hu
  rw [List.getElem?_map] at hu
  cases hx : l[j]? with
  | none => rw [hx] at hu; cases hu
  | some x =>
    rw [hx] at hu
    injection hu with hu
    subst hu
    have hadd : (⟨b, o, none⟩ : Addr).add j = ⟨b, o + j, none⟩ := by unfold Addr.add; split <;> simp_all
    rw [hadd]
    exact hc j x hx
theorem own_some {w : World} {base : Nat} {e : TypeId} {s : Nat} {A : Option Addr} {n m c : Nat} {xs : List Value} (h : w.ownsRow base e s (.slice A n c) m xs) (h0 : Value.slice A n c ≠ .slice none 0 0) : ∃ g, A = some ⟨g, 0, none⟩ := by
  rcases h.2 with ⟨hv, _⟩ | ⟨g, _, _, hv, _⟩
  · exact absurd hv h0
  · injection hv with h1; exact ⟨g, h1⟩

/-- The bytes, with zeros behind them. -/
def padL (b : List UInt8) (m : Nat) : List UInt8 := (List.range m).map fun t => b[t]?.getD 0
theorem padL_len (b : List UInt8) (m : Nat) : (padL b m).length = m := by simp [padL]
theorem padL_add (b : List UInt8) (L j : Nat) : padL b (j * L + L) = padL b (j * L) ++ encRow b L j := by
  unfold padL encRow
  rw [List.range_add, List.map_append]
  congr 1
  simp
theorem padL_get {b : List UInt8} {m i : Nat} (h : i < m) : (padL b m)[i]? = some (b[i]?.getD 0) := by simp [padL, h]
theorem bit16z (g : UInt16) (k : Nat) : (bits BinOp.and IntKind.u16 ((g.toNat : Int) / 2 ^ k) 1 == 0) = !g.toNat.testBit k := by
  have hb := g.toNat_lt
  have h1 : g.toNat / 2 ^ k < 65536 := Nat.lt_of_le_of_lt (Nat.div_le_self _ _) hb
  have e : ((g.toNat : Int) / 2 ^ k) = ((g.toNat / 2 ^ k : Nat) : Int) := by simp
  rw [e, show (1 : Int) = ((1 : Nat) : Int) from rfl, u16_and_nat _ _ h1 (by decide), Nat.and_one_is_mod, Nat.testBit_eq_decide_div_mod_eq, Bool.eq_iff_iff]
  simp only [beq_iff_eq, Bool.not_eq_true', decide_eq_false_iff_not]
  omega

set_option maxHeartbeats 8000000 in
set_option maxRecDepth 20000 in
theorem lawDecodes_any {Env : World → Prop} (P : Prg Env) (S : SanOk Env) (A : Option Addr) (nb cb : Nat) (b : List UInt8) (w0 w1 : UInt8) (gone : UInt16) (w : World) (hE : Env w) (hA : Slb (· < w.heap.size) w A nb cb b) :
    Calls Try.prog 5 #[.slice A nb cb, .agg #[.int .u8 w0.toNat, .int .u8 w1.toNat], .int .u16 gone.toNat] w fun e w' => e = .returned (.bool true) ∧ Below w.heap.size w w' := by
  have HS := Lib.hid (show ∀ W, Env W → Calls Try.prog 10 #[] W fun e w' => e = .returned (.bool true) ∧ Below W.heap.size W w' from S)
  have HP := Lib.hid P
  have HA := Lib.hid hA
  have hB0 : Below w.heap.size w (w.alloc (.cells #[.int .u8 w0.toNat, .int .u8 w1.toNat] 41)) := by go_grown
  have hE0 := P.env hE hB0
  have k0 : (w.alloc (.cells #[.int .u8 w0.toNat, .int .u8 w1.toNat] 41)).cell? ⟨w.heap.size, 0, none⟩ = some (.int .u8 w0.toNat) := by simp [go_sem]
  have k1 : (w.alloc (.cells #[.int .u8 w0.toNat, .int .u8 w1.toNat] 41)).cell? ⟨w.heap.size, 1, none⟩ = some (.int .u8 w1.toNat) := by simp [go_sem]
  have KB := Lib.hid (fun W (h : Below (w.alloc (.cells #[.int .u8 w0.toNat, .int .u8 w1.toNat] 41)).heap.size (w.alloc (.cells #[.int .u8 w0.toNat, .int .u8 w1.toNat] 41)) W) => show W.cell? ⟨w.heap.size, 0, none⟩ = some (.int .u8 w0.toNat) ∧ W.cell? ⟨w.heap.size, 1, none⟩ = some (.int .u8 w1.toNat) from ⟨(h.cell (block_lt_of_cell k0)).trans k0, (h.cell (block_lt_of_cell k1)).trans k1⟩)
  clear S P k0 k1 hA
  by_cases h60 : 60 < nb
  · have h60' : (60 : Int) < (nb : Int) := by omega
    go_enter Try.func5, Try.ntmps5
    go_wp2_with (go_at_call 10; with_reducible refine (HS.out _ hE0).mono ?_; rintro e w2 ⟨rfl, hb2⟩)
    go_ret
    exact ⟨rfl, hB0.trans (hb2.mono hB0.size)⟩
  · have h60' : ¬ (60 : Int) < (nb : Int) := by omega
    obtain ⟨n1, n12⟩ := numN_r w1
    obtain ⟨kk1, kkn⟩ := numK_r w0 w1
    have HNum := Lib.hid (fun W => Numbers_any w0 w1 W)
    obtain ⟨n, hn⟩ : ∃ n, numN w1 = n := ⟨_, rfl⟩
    obtain ⟨k, hk⟩ : ∃ k, numK w0 w1 = k := ⟨_, rfl⟩
    rw [hn, hk] at HNum
    rw [hn] at n1 n12 kkn
    rw [hk] at kk1 kkn
    have HEN := Lib.hid (fun W hW hEW => enc_yes HP.out (· < w.heap.size) A nb cb b k n W hEW hW (by omega) kk1 kkn n12)
    clear hn hk
    go_enter Try.func5, Try.ntmps5
    go_wp2_with (first | (go_at_call 10; with_reducible refine (HS.out _ hE0).mono ?_; rintro e w2 ⟨rfl, hb2⟩; obtain ⟨y0, y1⟩ := KB.out _ hb2; have hE2 := HP.out.env hE0 hb2; have hB2 := hB0.trans (hb2.mono hB0.size)) | (go_at_call 24; with_reducible refine (HNum.out _).mono ?_; rintro e w3 ⟨rfl, hb3⟩; have hE3 := HP.out.env hE2 hb3; have hB3 := hB2.trans (hb3.mono hB2.size)))
    go_quiet (fail)
    have hb4 : Below w3.heap.size w3 ((w3.alloc (.cells #[.int .i64 k, .int .i64 n] 43)).drewN nq) := ((Below.refl _ w3).alloc (Nat.le_refl _) _).trans ((below_drewN _ nq).mono (by simp))
    have hE4 := HP.out.env hE3 hb4
    have hB4 := hB3.trans (hb4.mono hB3.size)
    have y2 : ((w3.alloc (.cells #[.int .i64 k, .int .i64 n] 43)).drewN nq).cell? ⟨w3.heap.size, 0, none⟩ = some (.int .i64 k) := by simp [go_sem]
    have y3 : ((w3.alloc (.cells #[.int .i64 k, .int .i64 n] 43)).drewN nq).cell? ⟨w3.heap.size, 1, none⟩ = some (.int .i64 n) := by simp [go_sem]
    have HLo := Lib.hid (fun W => Long_any nb k (by omega) kk1 (by omega) W)
    obtain ⟨L, hL⟩ : ∃ L, longN nb k = L := ⟨_, rfl⟩
    rw [hL] at HLo
    have HLL := Lib.hid hL
    have H4 := Lib.hid (And.intro hB4 (And.intro y2 y3))
    clear y2 y3 hL hb2 hb3 y0 y1
    go_wp2_with (first | (go_at_call 11; with_reducible refine (HEN.out _ (HA.out.below hB4) hE4).mono ?_; rintro e w5 ⟨A1, c1, rfl, hX, hb5⟩; have hE5 := HP.out.env hE4 hb5; have hB5 := hB4.trans (hb5.mono hB4.size)) | (go_at_call 25; with_reducible refine (HLo.out _).mono ?_; rintro e w6 ⟨rfl, rfl⟩))
    have hbX : Below w5.heap.size w5 (w5.alloc (.cells #[.slice A1 n c1, .int .i64 0] 29)) := (Below.refl _ w5).alloc (Nat.le_refl _) _
    have HEX := Lib.hid (HP.out.env hE5 hbX)
    have HBX := Lib.hid (hB5.trans (hbX.mono hB5.size))
    have HXX := Lib.hid (hX.below hbX)
    have xa : (w5.alloc (.cells #[.slice A1 n c1, .int .i64 0] 29)).cell? ⟨w5.heap.size, 0, none⟩ = some (.slice A1 n c1) := by simp [go_sem]
    have KX := Lib.hid (fun W (h : Below (w5.alloc (.cells #[.slice A1 n c1, .int .i64 0] 29)).heap.size (w5.alloc (.cells #[.slice A1 n c1, .int .i64 0] 29)) W) => (h.cell (block_lt_of_cell xa)).trans xa)
    have hx0 : (encL b k n) ≠ [] := List.ne_nil_of_length_pos (by rw [encL_len]; omega)
    obtain ⟨gx, ox, rfl, _, hgx, hcx⟩ := HXX.out.lists hx0
    have hbl := HA.out.len
    have HRow := Lib.hid (fun j (hj : j < n) => show ∃ A' c', (w5.alloc (.cells #[.slice (some ⟨gx, ox, none⟩) n c1, .int .i64 0] 29)).cell? ⟨gx, ox + j, none⟩ = some (.slice A' L c') ∧ L ≤ c' ∧ (A' = none → c' = 0) ∧ Byts (w5.alloc (.cells #[.slice (some ⟨gx, ox, none⟩) n c1, .int .i64 0] 29)) A' (encX b L k (UInt8.ofNat j)) from by
      have e := encL_get (b := b) kk1 (by omega) hj
      rw [hbl, HLL.out] at e
      obtain ⟨A', c', q1, q2, _, q4, q5⟩ := hcx j _ e
      rw [encX_len] at q1 q2
      exact ⟨A', c', q1, q2, q4, q5.byts⟩)
    have HBL := Lib.hid hbl
    have hwx : w5.heap.size + 1 = (w5.alloc (.cells #[.slice (some ⟨gx, ox, none⟩) n c1, .int .i64 0] 29)).heap.size := by simp
    obtain ⟨wX, hwX⟩ : ∃ W, (w5.alloc (.cells #[.slice (some ⟨gx, ox, none⟩) n c1, .int .i64 0] 29)) = W := ⟨_, rfl⟩
    rw [hwX] at HEX HBX HXX KX HRow hwx hgx
    have hwX' : w5.alloc (.cells #[.slice (some ⟨gx, ox, none⟩) n c1, .int .i64 0] 29) = wX := hwX
    rw [hwX']
    obtain ⟨iu, hu, hu0, hu1, hu2⟩ := info_parts info_u8
    have HWX := Lib.hid hwx
    clear hX xa hx0 hcx hbl hwX hwX' hbX hwx
    go_loopw [6, 12, 14] (fun _ o i wr => ∃ (j gJ cJ : Nat), j ≤ n ∧ i = .int .i64 j ∧ o = .slice (some ⟨gJ, 0, none⟩) (min j k * L) cJ ∧ wr.ownsRow wX.heap.size 5 1 (.slice (some ⟨gJ, 0, none⟩) (min j k * L) cJ) (min j k * L) (bys (padL b (min j k * L))) ∧ Below wX.heap.size wX wr) (fun _ _ i _ => n - (intOf i).toNat)
    case atStart => exact ⟨0, wX.heap.size, 0, Nat.zero_le _, rfl, by rw [← HWX.out]; simp, by simpa [padL, bys] using own_empty wX 5, (Below.refl _ wX).alloc (Nat.le_refl _) _⟩
    case round =>
      obtain ⟨j, gJ, cJ, hj, rfl, rfl, hown, hbw⟩ := hrel
      have hbs := hbw.size
      have hLn : L ≤ 60 := by rw [← HLL.out]; exact Nat.le_trans (longN_le nb k kk1).2 (by omega)
      by_cases hlt : j < n
      · have jn : (j : Int) < (n : Int) := by omega
        have j0 : (0 : Int) ≤ (j : Int) := by omega
        obtain ⟨A', c', q1, q2, q4, q5⟩ := HRow.out j hlt
        have q1' := (hbw.cell (p := ⟨gx, ox + j, none⟩) hgx).trans q1
        have xx := KX.out _ hbw
        have hLL : ((L : Int) != (L : Int)) = false := by simp
        by_cases hjk : j < k
        · have jk : (j : Int) < (k : Int) := by omega
          have e1 : min j k = j := by omega
          have e2 : min (j + 1) k * L = j * L + L := by rw [show min (j + 1) k = j + 1 by omega, Nat.succ_mul]
          rw [e1] at hown ⊢
          have hjL : j * L ≤ 12 * 60 := Nat.mul_le_mul (by omega) (by omega)
          have HPA := Lib.hid (padL_add b L j)
          have HRX := Lib.hid (encRow_X (b := b) (L := L) kk1 (by omega) hjk)
          obtain ⟨M, hM⟩ : ∃ M, j * L = M := ⟨_, rfl⟩
          rw [hM] at hown hjL e2 HPA
          rw [hM]
          have HE2 := Lib.hid e2
          have HM0 := Lib.hid (show L = 0 → M = 0 from fun h => by rw [← hM, h]; rfl)
          clear hM e1 e2 q1
          cases A' with
          | none =>
            obtain rfl := q4 rfl
            obtain rfl : L = 0 := by omega
            go_wp2_with (at_builtin; refine wpList_append_own_none rfl _ _ 22 rfl wX.heap.size 5 iu 1 Try.underlying22 hu _ M _ rfl hown rfl ?_)
            go_roundw
            case rel =>
              obtain rfl : M = 0 := by simpa using HM0.out
              first
                | exact ⟨j + 1, gJ, cJ, by omega, by go_num, by rw [HE2.out], by rw [HE2.out]; exact hown, hbw⟩
                | (refine ⟨j + 1, by omega, by go_num, gJ, cJ, ?_⟩; first | exact ⟨rfl, hown, hbw⟩ | exact ⟨rfl, hown⟩)
                | (refine ⟨_, _, _, ⟨j + 1, by omega, by go_num, gJ, cJ, ?_⟩, rfl, rfl, rfl⟩; first | exact ⟨rfl, hown, hbw⟩ | exact ⟨rfl, hown⟩)
            case measure => simp [intOf]; omega
          | some ad =>
            have hnews := Lib.hid (byts_news (q5.below hbw))
            go_wp2_with (at_builtin; refine wpList_append_own _ rfl _ _ 22 rfl wX.heap.size 5 iu _ 1 1 Try.underlying22 hu hu0 hu1 hu2 rfl (by decide) _ _ _ rfl hown ad L c' (bys (encX b L k (UInt8.ofNat j))) rfl (by rw [bys_length, encX_len]; simp) hnews.out (bys_cells _) (by unfold maxLen; omega) (by omega) (by omega) ?_; intro v' w7 hown' hgrow hnil; obtain ⟨A3, c3, rfl⟩ := own_form hown'; obtain ⟨g3, rfl⟩ := own_some hown' (fun hv => by have := (hnil.1 hv).1; cases this))
            have hb7 : Below wX.heap.size wX w7 := hbw.grown hgrow (by omega) (fun j hj => (hown.lt j hj).1)
            rw [← bys_append, HRX.out, ← HPA.out] at hown'
            go_roundw
            case rel =>
              refine ⟨j + 1, g3, c3, by omega, by go_num, ?_⟩
              rw [HE2.out]
              exact ⟨rfl, hown', hb7⟩
            case measure => simp [intOf]; omega
        · have jk : ¬ (j : Int) < (k : Int) := by omega
          have e1 : min j k = k := by omega
          have e2 : min (j + 1) k = k := by omega
          rw [e1] at hown ⊢
          have HE2 := Lib.hid e2
          have HOW := Lib.hid hown
          clear e1 e2 q1 hown
          go_wp2
          go_roundw
          case rel => exact ⟨j + 1, gJ, cJ, by omega, by go_num, by rw [HE2.out], by rw [HE2.out]; exact HOW.out, hbw⟩
          case measure => simp [intOf]; omega
      · obtain rfl : j = n := by omega
        have e1 : min j k = k := by omega
        rw [e1] at hown ⊢
        have hkL : k * L ≤ 12 * 60 := Nat.mul_le_mul (by omega) (by omega)
        obtain ⟨M, hM⟩ : ∃ M, k * L = M := ⟨_, rfl⟩
        rw [hM] at hown hkL
        rw [hM]
        have HM := Lib.hid hM
        obtain ⟨wJ, hwJ⟩ : ∃ W, W = wr := ⟨_, rfl⟩
        subst hwJ
        have HJ := Lib.hid (Byts.of_own hown)
        clear e1 hM hown
        go_wp2
        go_loopw [6, 15] (fun _ i wz => ∃ t m : Nat, t ≤ M ∧ i = .int .i64 t ∧ wz = wJ.drewN m) (fun _ i _ => M - (intOf i).toNat)
        case atStart => exact ⟨0, 0, Nat.zero_le _, rfl, rfl⟩
        case round =>
          obtain ⟨t, m, ht, rfl, rfl⟩ := hrel
          by_cases htl : t < M
          · have tM : (t : Int) < (M : Int) := by omega
            have t0 : (0 : Int) ≤ (t : Int) := by omega
            obtain ⟨gq, oq, hAq, hgq, hcq⟩ := HJ.out (List.ne_nil_of_length_pos (by rw [padL_len]; omega))
            injection hAq with hAq
            injection hAq with h1 h2 _
            subst h1; subst h2
            have hcell := hcq t _ (padL_get htl)
            rw [Nat.zero_add] at hcell
            have hnn : gJ < wJ.heap.size := hgq
            by_cases htb : t < nb
            · have tb : (t : Int) < (nb : Int) := by omega
              have tb2 : ¬ (nb : Int) ≤ (t : Int) := by omega
              have tb6 : ¬ nb ≤ t := by omega
              have hbt : t < b.length := by rw [HBL.out]; exact htb
              obtain ⟨gb, ob, hAb, _, hgb, hcb⟩ := (HA.out.below HBX.out).byts (List.ne_nil_of_length_pos (by omega))
              obtain ⟨x, hx⟩ : ∃ x, b[t] = x := ⟨_, rfl⟩
              have hbc := (hbw.cell (p := ⟨gb, ob + t, none⟩) hgb).trans (hcb t x (by rw [List.getElem?_eq_getElem hbt, hx]))
              rw [List.getElem?_eq_getElem hbt, hx] at hcell
              have hcell' : wJ.cell? ⟨gJ, t, none⟩ = some (.int .u8 x.toNat) := hcell
              have hxx : ((x.toNat : Int) != (x.toNat : Int)) = false := by simp
              subst hAb
              clear hcell hcq hcb hx
              go_wp2
              go_quiet (fail)
              go_wp2
              go_roundw
              case rel =>
                exact ⟨t + 1, _, by omega, by go_num, rfl⟩
              case measure => simp [intOf]; omega
            · have tb : ¬ (t : Int) < (nb : Int) := by omega
              have tb2 : (nb : Int) ≤ (t : Int) := by omega
              have hbt : b.length ≤ t := by rw [HBL.out]; omega
              rw [List.getElem?_eq_none hbt] at hcell
              have hcell' : wJ.cell? ⟨gJ, t, none⟩ = some (.int .u8 0) := hcell
              have tb6 : nb ≤ t := by omega
              have tb7 : ¬ t < nb := by omega
              clear hcell hcq
              go_wp2
              go_quiet (fail)
              go_wp2
              go_roundw
              case rel =>
                exact ⟨t + 1, _, by omega, by go_num, rfl⟩
              case measure => simp [intOf]; omega
          · obtain rfl : t = M := by omega
            have hbJ : Below wX.heap.size wX (wJ.drewN m) := hbw.trans ((below_drewN wJ m).mono hbs)
            have HLE := Lib.hid (Left_any (some ⟨gx, ox, none⟩) j c1 (encL b k j) (encL_len _ _ _) (by omega) gone (wJ.drewN m) (HXX.out.lists.lists.below hbJ))
            have xx := KX.out _ hbJ
            have HBJ := Lib.hid hbJ
            clear hbJ HJ
            go_wp2_with (go_at_call 26; with_reducible refine HLE.out.mono ?_; rintro e w8 ⟨A8, c8, rfl, hL8, hb8⟩)
            have hb9 : Below wX.heap.size wX w8 := HBJ.out.trans (hb8.mono HBJ.out.size)
            have HB9 := Lib.hid hb9
            have HL8 := Lib.hid (Sll.own hL8)
            have HPart := Lib.hid (part_left (b := b) (k := k) (n := j) (gone := gone.toNat) kk1 (by omega))
            have HPD := HPart.out.dec kk1 kkn (by omega) rfl
            rw [HBL.out, HLL.out] at HPD
            have HD := Lib.hid HPD
            clear hb9 hL8 hb8 xx HPD
            go_loopw [17, 18] (fun c i wz => ∃ q : Nat, q ≤ j ∧ i = .int .i64 q ∧ c = .int .i64 (cnt (fun t => !gone.toNat.testBit t || L == 0) q : Nat) ∧ wz = w8) (fun _ i _ => j - (intOf i).toNat)
            case atStart => exact ⟨0, Nat.zero_le _, rfl, rfl, rfl⟩
            case round =>
              obtain ⟨q, hq, rfl, rfl, rfl⟩ := hrel
              have hcq := cnt_succ (fun t => !gone.toNat.testBit t || L == 0) q
              have hcl := cnt_le (fun t => !gone.toNat.testBit t || L == 0) q
              have hg16 := gone.toNat_lt
              obtain ⟨C, hC⟩ : ∃ C, cnt (fun t => !gone.toNat.testBit t || L == 0) q = C := ⟨_, rfl⟩
              rw [hC] at hcq hcl
              rw [hC]
              have HC := Lib.hid hC
              clear hC
              by_cases hlq : q < j
              · have qn : (q : Int) < (j : Int) := by omega
                have q0 : (0 : Int) ≤ (q : Int) := by omega
                have hbz := bit16z gone q
                cases hbt : gone.toNat.testBit q
                · rw [hbt] at hbz
                  have hcq2 : cnt (fun t => !gone.toNat.testBit t || L == 0) (q + 1) = C + 1 := by rw [hcq, hbt]; rfl
                  have HC2 := Lib.hid hcq2
                  have hbz' : (bits BinOp.and IntKind.u16 ((gone.toNat : Int) / 2 ^ q) 1 == 0) = true := hbz
                  clear hcq hcq2 hbz hbt
                  go_wp2
                  go_roundw
                  case rel => exact ⟨q + 1, by omega, by go_num, by rw [HC2.out]; go_num, trivial⟩
                  case measure => simp [intOf]; omega
                · rw [hbt] at hbz
                  have hbz' : (bits BinOp.and IntKind.u16 ((gone.toNat : Int) / 2 ^ q) 1 == 0) = false := hbz
                  by_cases hL0 : L = 0
                  · have l0 : ((L : Int) == 0) = true := by simp [hL0]
                    have hcq2 : cnt (fun t => !gone.toNat.testBit t || L == 0) (q + 1) = C + 1 := by rw [hcq, hbt, hL0]; rfl
                    have HC2 := Lib.hid hcq2
                    clear hcq hcq2 hbz hbt hL0
                    go_wp2
                    go_roundw
                    case rel => exact ⟨q + 1, by omega, by go_num, by rw [HC2.out]; go_num, trivial⟩
                    case measure => simp [intOf]; omega
                  · have l0 : ((L : Int) == 0) = false := by simp; omega
                    have hcq2 : cnt (fun t => !gone.toNat.testBit t || L == 0) (q + 1) = C := by
                      have : (L == 0) = false := by simp; omega
                      rw [hcq, hbt, this]; rfl
                    have HC2 := Lib.hid hcq2
                    clear hcq hcq2 hbz hbt hL0
                    go_wp2
                    go_roundw
                    case rel => exact ⟨q + 1, by omega, by go_num, by rw [HC2.out], trivial⟩
                    case measure => simp [intOf]; omega
              · obtain rfl : q = j := by omega
                have HE8 := Lib.hid (HP.out.env HEX.out HB9.out)
                have hAw := (HA.out.below (HBX.out.trans (HB9.out.mono HBX.out.size)))
                have HAW := Lib.hid hAw
                clear hAw hcq hcl hg16
                by_cases hfew : C < k
                · have hfw : (C : Int) < (k : Int) := by omega
                  have HDC := Lib.hid (dec_few HP.out _ _ A8 q c8 _ k nb wr HE8.out HL8.out (by rw [properB_iff]; omega) (by omega) (by
                    rw [HLL.out]; exact HD.out.2.2 (by rw [HC.out]; exact hfew)))
                  clear hfew
                  go_wp2_with (first | (go_at_call 15; with_reducible refine HDC.out.mono ?_; rintro e w9 ⟨A9, c9, rfl, hb9⟩; have HSA := Lib.hid (fun W => Same_any A9 none 0 c9 0 0 [] [] rfl rfl 70 70 W (Byts.nil _ _) (Byts.nil _ _))) | (go_at_call 14; with_reducible refine (HSA.out _).mono ?_; rintro e w10 ⟨rfl, hb10⟩))
                  go_ret
                  have hW := HBX.out.trans (HB9.out.mono HBX.out.size)
                  have hW9 := hW.trans (hb9.mono hW.size)
                  refine ⟨?_, (hW9.alloc hW9.size _).trans (hb10.mono (Nat.le_trans hW9.size (by simp)))⟩
                  first | rfl | simp
                · have hfw : ¬ (C : Int) < (k : Int) := by omega
                  have hpk : (ptsL (leftL (encL b k q) gone.toNat) k L (-1)).length = k := by
                    have h1 := ptsL_le (leftL (encL b k q) gone.toNat) k L (-1)
                    have h2 : ¬ (ptsL (leftL (encL b k q) gone.toNat) k L (-1)).length < k := fun h => by
                      have := HD.out.2.1 h
                      rw [HC.out] at this
                      exact hfew this
                    omega
                  have HDB := Lib.hid (HD.out.1 hpk)
                  have HDC := Lib.hid (dec_yes HP.out _ _ A8 q c8 _ k nb wr HE8.out HL8.out (by rw [properB_iff]; omega) (by omega) (by rw [HLL.out]; exact hpk))
                  rw [HDB.out] at HDC
                  clear hfew hpk
                  go_wp2_with (first | (go_at_call 15; with_reducible refine HDC.out.mono ?_; rintro e w9 ⟨A9, c9, rfl, hS9, hb9⟩; have hb9' := hb9.alloc hb9.size (.cells #[.slice A9 nb c9, .int .i64 0] 34); have HSA := Lib.hid (Same_any A9 A nb c9 nb cb b b HBL.out HBL.out 0 0 (w9.alloc (.cells #[.slice A9 nb c9, .int .i64 0] 34)) (hS9.byts.byts.below ((Below.refl _ w9).alloc (Nat.le_refl _) _)) (HAW.out.below hb9').byts.byts)) | (go_at_call 14; with_reducible refine HSA.out.mono ?_; rintro e w10 ⟨rfl, hb10⟩))
                  go_ret
                  have hW := HBX.out.trans (HB9.out.mono HBX.out.size)
                  have hW9 := hW.trans (hb9.mono hW.size)
                  refine ⟨?_, (hW9.alloc hW9.size _).trans (hb10.mono (Nat.le_trans hW9.size (by simp)))⟩
                  first | rfl | simp
end Go.Proofs.Ytoodeoglpdapiaa
