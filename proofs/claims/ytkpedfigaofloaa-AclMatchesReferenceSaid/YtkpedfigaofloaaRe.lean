/-
  Walk of the reference's Valid.
-/
import Derived.Test.YtkpedfigaofloaaAt
namespace Go.Proofs.Ytkpedfigaofloaa
open Go.RowKit Ap
set_option maxHeartbeats 400000

theorem badV_right (seen : List Ac) (g : Bool) (x : Ac) : badV seen g x = (!right x || decide (x.mk0 ∈ seen) || (g && !x.given)) := by
  have h0 : right x = (inR x && !(x.rights == 0)) := by
    rw [Bool.eq_iff_iff]
    simp only [inR, right, Bool.and_eq_true, decide_eq_true_eq, Bool.not_eq_true', beq_eq_false_iff_ne, ne_eq]
    omega
  have h : (!inR x || x.rights == 0) = !right x := by
    rw [h0]
    cases inR x <;> cases (x.rights == 0) <;> rfl
  unfold badV
  rw [h]
/-- Two entries of one list. -/
def InTwo (g o p : Nat) (x y : Ac) (W : World) : Prop := At W g o x ∧ At W g p y
theorem InTwo.step {g o p : Nat} {x y : Ac} {W W' : World} (h : InTwo g o p x y W) (hb : Below W.heap.size W W') : InTwo g o p x y W' := ⟨h.1.below hb, h.2.below hb⟩
theorem InTwo.flat {g o p : Nat} {x y : Ac} {W : World} (h : InTwo g o p x y W) : W.cell? ⟨g, o, none⟩ = some (.int .i64 x.who) ∧ W.cell? ⟨g, o + 1, none⟩ = some (.bool x.allow) ∧ W.cell? ⟨g, o + 2, none⟩ = some (.int .i64 x.rights) ∧ W.cell? ⟨g, o + 3, none⟩ = some (.int .i64 x.reach) ∧ W.cell? ⟨g, o + 4, none⟩ = some (.bool x.given) ∧
    W.cell? ⟨g, p, none⟩ = some (.int .i64 y.who) ∧ W.cell? ⟨g, p + 1, none⟩ = some (.bool y.allow) ∧ W.cell? ⟨g, p + 2, none⟩ = some (.int .i64 y.rights) ∧ W.cell? ⟨g, p + 3, none⟩ = some (.int .i64 y.reach) ∧ W.cell? ⟨g, p + 4, none⟩ = some (.bool y.given) := by
  obtain ⟨⟨c0, c1, c2, c3, c4⟩, m0, m1, m2, m3, m4⟩ := h
  exact ⟨c0, c1, c2, c3, c4, m0, m1, m2, m3, m4⟩

set_option maxRecDepth 20000 in
set_option maxHeartbeats 4000000 in
theorem rvalid_any (A : Option Addr) (n c : Nat) (l : List Ac) (hn : l.length = n) (hl : n ≤ 1000) (w : World) (hA : Aces w A l) :
    Calls Try.prog 14 #[.slice A n c] w fun e w' => e = .returned (.bool (validB l)) ∧ Below w.heap.size w w' := by
  have HN := Lib.hid hn
  have SA := Lib.hid hA
  have HV := Lib.hid (show validB l = (decide (n ≤ 16) && goV [] false l) by unfold validB; rw [hn])
  clear hn hA
  go_enter Try.func14, Try.ntmps14
  go_wp2
  go_loopw [3, 4] (fun i _ wr => ∃ (k : Nat) (seen : List Ac) (gg : Bool), k ≤ n ∧ i = .int .i64 k ∧ (∀ m, m ∈ seen ↔ m ∈ (l.take k).map Ac.mk0) ∧ (∀ j y, k = j + 1 → l[j]? = some y → y.given = gg) ∧ (k = 0 → gg = false) ∧ goV [] false l = goV seen gg (l.drop k) ∧ Below w.heap.size w wr) (fun i _ _ => n - (intOf i).toNat)
  case atStart => exact ⟨0, [], false, Nat.zero_le _, rfl, by simp, fun j _ h => by omega, fun _ => rfl, by simp, Below.refl _ _⟩
  case round =>
    obtain ⟨k, seen, gg, hk, rfl, hseen, hgiv, hg0, hgo, hbw⟩ := hrel
    have hbs := hbw.size
    by_cases hlt : k < n
    · have hkl : k < l.length := by rw [HN.out]; exact hlt
      obtain ⟨g, o, rfl, hg, hc⟩ := (SA.out.below hbw) (List.ne_nil_of_length_pos (by omega))
      have hat := hc k l[k] (List.getElem?_eq_getElem hkl)
      have hdr : l.drop k = l[k] :: l.drop (k + 1) := List.drop_eq_getElem_cons hkl
      have htk : l.take (k + 1) = l.take k ++ [l[k]] := List.take_succ_eq_append_getElem hkl
      obtain ⟨x, hx⟩ : ∃ a, l[k] = a := ⟨_, rfl⟩
      rw [hx] at hat hdr htk
      have hlk : l[k]? = some x := by rw [List.getElem?_eq_getElem hkl, hx]
      rw [hdr, goV, badV_right] at hgo
      have cR := fun W => right_any x W
      obtain ⟨r, hr⟩ : ∃ r, right x = r := ⟨_, rfl⟩
      rw [hr] at cR hgo
      cases r
      · have HF := Lib.hid (show validB l = false by rw [HV.out, hgo]; simp)
        obtain ⟨aw, al, ri, re, ag⟩ := x
        obtain ⟨c0, c1, c2, c3, c4⟩ := hat
        dsimp only at c0 c1 c2 c3 c4
        unfold av at cR
        dsimp only at cR
        have CR := Lib.hid cR
        have k0 : (0 : Int) ≤ (k : Int) := by omega
        have kn : (k : Int) < (n : Int) := by omega
        clear hc hx SA hgo hseen hgiv hg0 hdr htk hlk cR hr
        go_wp2_with (go_at_call 35; refine (CR.out _).mono ?_; rintro e w1 ⟨rfl, hb1⟩)
        go_ret
        exact ⟨ret_bool HF.out.symm, hbw.trans (hb1.mono hbs)⟩
      · obtain ⟨b, hb⟩ : ∃ b, (gg && !x.given) = b := ⟨_, rfl⟩
        rw [hb] at hgo
        have hb0 : ∀ y, (∃ j, k = j + 1 ∧ l[j]? = some y) → (y.given && !x.given) = b := fun y ⟨j, hj, hy⟩ => by rw [hgiv j y hj hy, hb]
        have hnext : ∀ j y, k + 1 = j + 1 → l[j]? = some y → y.given = x.given := fun j y hj hy => by
          obtain rfl : j = k := by omega
          rw [hlk] at hy; cases hy; rfl
        have hseen' : ∀ m, m ∈ x.mk0 :: seen ↔ m ∈ (l.take (k + 1)).map Ac.mk0 := fun m => by
          rw [htk, List.map_append, List.mem_cons, List.mem_append, hseen]
          simp [or_comm]
        have hy : ∃ (k' : Nat) (yg : Bool), ((k = 0 ∧ b = false) ∨ ((k : Int) - 1 = (k' : Int) ∧ k' < n ∧ wr.cell? ⟨g, o + k' * 5 + 4, none⟩ = some (.bool yg) ∧ (yg && !x.given) = b)) := by
          cases k with
          | zero => exact ⟨0, false, .inl ⟨rfl, by rw [← hb, hg0 rfl]; rfl⟩⟩
          | succ j =>
            have hj : l[j]? = some (l[j]'(by omega)) := List.getElem?_eq_getElem (by omega)
            exact ⟨j, (l[j]'(by omega)).given, .inr ⟨by omega, by omega, (hc j _ hj).2.2.2.2, hb0 _ ⟨j, rfl, hj⟩⟩⟩
        obtain ⟨k', yg, hy⟩ := hy
        have HAT := Lib.hid hat
        have HC := Lib.hid hc
        obtain ⟨ag, hag⟩ : ∃ q, x.given = q := ⟨_, rfl⟩
        have ways : ((k = 0 ∧ b = false) ∨ ((0 : Int) < k ∧ b = false ∧ yg = false) ∨ ((0 : Int) < k ∧ b = false ∧ yg = true ∧ ag = true) ∨ ((0 : Int) < k ∧ b = true ∧ yg = true ∧ ag = false)) := by
          rcases hy with ⟨h1, h2⟩ | ⟨h1, _, _, h4⟩
          · exact .inl ⟨h1, h2⟩
          · rw [hag] at h4
            have : (0 : Int) < k := by omega
            cases yg <;> cases ag <;> simp_all
        have HGO := Lib.hid hgo
        have HSE := Lib.hid hseen
        have HSX := Lib.hid hseen'
        have HNX := Lib.hid hnext
        have HLK := Lib.hid hlk
        obtain ⟨aw, al, ri, re, xg⟩ := x
        dsimp only at hag
        subst hag
        obtain ⟨c0, c1, c2, c3, c4⟩ := hat
        dsimp only at c0 c1 c2 c3 c4
        unfold av at cR
        dsimp only at cR
        have CR := Lib.hid cR
        have CM := Lib.hid (fun (y : Ac) W => marked_any y ⟨aw, al, ri, re, xg⟩ W)
        have k0 : (0 : Int) ≤ (k : Int) := by omega
        have kn : (k : Int) < (n : Int) := by omega
        clear hc hx SA hgo hseen hseen' hnext hgiv hg0 hdr htk hlk cR hr hb hb0
        rcases ways with ⟨w0, rfl⟩ | ⟨w0, rfl, rfl⟩ | ⟨w0, rfl, rfl, rfl⟩ | ⟨w0, rfl, rfl, rfl⟩
        · have hle : ¬ (0 : Int) < (k : Int) := by omega
          clear hy
          have W0 := Lib.hid w0
          clear w0
          go_wp2_with (go_at_call 35; refine (CR.out _).mono ?_; rintro e w1 ⟨rfl, hb1⟩)
          have hw1 := hbw.trans (hb1.mono hbs)
          have HW1 := Lib.hid hb1
          go_loopw [4] (fun i wz => ∃ j : Nat, j ≤ k ∧ i = .int .i64 j ∧ (⟨aw, al, ri, re, xg⟩ : Ac).mk0 ∉ (l.take j).map Ac.mk0 ∧ Below w1.heap.size w1 wz) (fun i _ => k - (intOf i).toNat)
          case atStart => exact ⟨0, Nat.zero_le _, rfl, by simp, Below.refl _ _⟩
          case round =>
            obtain ⟨j, hj, rfl, hno, hbz⟩ := hrel
            have hwz := HW1.out.trans (hbz.mono HW1.out.size)
            have hbo := hbw.trans (hwz.mono hbs)
            have hzs := hbo.size
            by_cases hjk : j < k
            · have hjl : j < l.length := by rw [HN.out]; omega
              have hyat := (HC.out j (l[j]'hjl) (List.getElem?_eq_getElem hjl)).below hwz
              have hxat := HAT.out.below hwz
              have htk : l.take (j + 1) = l.take j ++ [l[j]'hjl] := List.take_succ_eq_append_getElem hjl
              have hmem : (l[j]'hjl).mk0 ∈ (l.take k).map Ac.mk0 := by
                have : (l.take k)[j]? = some (l[j]'hjl) := by rw [List.getElem?_take, if_pos hjk, List.getElem?_eq_getElem hjl]
                exact List.mem_map_of_mem (List.mem_of_getElem? this)
              obtain ⟨y, hye⟩ : ∃ a, l[j]'hjl = a := ⟨_, rfl⟩
              rw [hye] at hyat htk hmem
              have cM := fun W => CM.out y W
              have hmi := marked_iff y (⟨aw, al, ri, re, xg⟩ : Ac)
              obtain ⟨mv, hmv⟩ : ∃ v, marked y (⟨aw, al, ri, re, xg⟩ : Ac) = v := ⟨_, rfl⟩
              rw [hmv] at cM hmi
              have HTK := Lib.hid htk
              have HMI := Lib.hid hmi
              have HMEM := Lib.hid hmem
              have HNO := Lib.hid hno
              obtain ⟨yw, yl, yr, ye, yz⟩ := y
              have F0 := Lib.hid (show InTwo g (o + j * 5) (o + k * 5) ⟨yw, yl, yr, ye, yz⟩ (⟨aw, al, ri, re, xg⟩ : Ac) wr.drew from ⟨hyat, hxat⟩)
              obtain ⟨a0, a1, a2, a3, a4⟩ := hyat
              obtain ⟨b0, b1, b2, b3, b4⟩ := hxat
              dsimp only at a0 a1 a2 a3 a4 b0 b1 b2 b3 b4
              unfold av at cM
              dsimp only at cM
              have CMV := Lib.hid cM
              have j0 : (0 : Int) ≤ (j : Int) := by omega
              have j1 : (j : Int) < (k : Int) := by omega
              have j2 : (j : Int) < (n : Int) := by omega
              clear htk hmi hmem hno hye hmv cM
              go_wp2
              first | (go_region_held (fun W' => W'.cell? ⟨g, o + j * 5, none⟩ = some (.int .i64 yw) ∧ W'.cell? ⟨g, o + j * 5 + 1, none⟩ = some (.bool yl) ∧ W'.cell? ⟨g, o + j * 5 + 2, none⟩ = some (.int .i64 yr) ∧ W'.cell? ⟨g, o + j * 5 + 3, none⟩ = some (.int .i64 ye) ∧ W'.cell? ⟨g, o + j * 5 + 4, none⟩ = some (.bool yz) ∧ W'.cell? ⟨g, o + k * 5, none⟩ = some (.int .i64 aw) ∧ W'.cell? ⟨g, o + k * 5 + 1, none⟩ = some (.bool al) ∧ W'.cell? ⟨g, o + k * 5 + 2, none⟩ = some (.int .i64 ri) ∧ W'.cell? ⟨g, o + k * 5 + 3, none⟩ = some (.int .i64 re) ∧ W'.cell? ⟨g, o + k * 5 + 4, none⟩ = some (.bool xg)) (first | exact F0.out.flat | exact F1.out.flat | fail) (first | (go_at_call 32; refine (CMV.out _).mono ?_; rintro x w2 ⟨rfl, hb2⟩; have F1 := Lib.hid (F0.out.step hb2); have HB2 := Lib.hid hb2; clear hb2))) | fail
              have HB := Lib.hid (hbz.trans (((Below.refl wr.heap.size wr).drew.trans (HB2.out.mono (Nat.le_refl _))).mono hbz.size))
              cases mv
              · go_wp2
                go_roundw
                case rel => exact ⟨j + 1, by omega, by go_num, by rw [HTK.out, List.map_append]; intro hm; rcases List.mem_append.1 hm with h1 | h1; exact HNO.out h1; simp at h1; exact absurd h1.symm (of_decide_eq_false HMI.out.symm), HB.out⟩
                case measure => simp [intOf]; omega
              · have HF := Lib.hid (show validB l = false by
                  have hs : (⟨aw, al, ri, re, xg⟩ : Ac).mk0 ∈ seen := (HSE.out _).2 (by rw [← of_decide_eq_true HMI.out.symm]; exact HMEM.out)
                  rw [HV.out, HGO.out, if_pos (by rw [decide_eq_true hs]; simp), Bool.and_false])
                go_wp2
                go_ret
                exact ⟨ret_bool HF.out.symm, hw1.trans (HB.out.mono hw1.size)⟩
            · obtain rfl : j = k := by omega
              have hs : (⟨aw, al, ri, re, xg⟩ : Ac).mk0 ∉ seen := fun h => hno ((HSE.out _).1 h)
              have HGX := Lib.hid (show goV [] false l = goV ((⟨aw, al, ri, re, xg⟩ : Ac).mk0 :: seen) (⟨aw, al, ri, re, xg⟩ : Ac).given (l.drop (j + 1)) by rw [HGO.out, if_neg (by rw [decide_eq_false hs]; simp)])
              clear hno hs
              go_wp2
              go_roundw
              case rel => exact ⟨j + 1, _, _, by omega, by go_num, HSX.out, HNX.out, fun h => by omega, HGX.out, hbo⟩
              case measure => simp [intOf]; omega
        · obtain ⟨hkm, hkn, hcy, _⟩ := hy.resolve_left (by omega)
          have HCY := Lib.hid hcy
          have k1 : (0 : Int) ≤ (k' : Int) := by omega
          have k2 : (k' : Int) < (n : Int) := by omega
          clear hy hcy
          go_wp2_with (go_at_call 35; refine (CR.out _).mono ?_; rintro e w1 ⟨rfl, hb1⟩; obtain ⟨d0, d1, d2, d3, d4⟩ := HAT.out.below hb1; have dy := (hb1.cell (block_lt_of_cell HCY.out)).trans HCY.out)
          clear dy d0 d1 d2 d3 d4
          have hw1 := hbw.trans (hb1.mono hbs)
          have HW1 := Lib.hid hb1
          go_loopw [4] (fun i wz => ∃ j : Nat, j ≤ k ∧ i = .int .i64 j ∧ (⟨aw, al, ri, re, xg⟩ : Ac).mk0 ∉ (l.take j).map Ac.mk0 ∧ Below w1.heap.size w1 wz) (fun i _ => k - (intOf i).toNat)
          case atStart => exact ⟨0, Nat.zero_le _, rfl, by simp, Below.refl _ _⟩
          case round =>
            obtain ⟨j, hj, rfl, hno, hbz⟩ := hrel
            have hwz := HW1.out.trans (hbz.mono HW1.out.size)
            have hbo := hbw.trans (hwz.mono hbs)
            have hzs := hbo.size
            by_cases hjk : j < k
            · have hjl : j < l.length := by rw [HN.out]; omega
              have hyat := (HC.out j (l[j]'hjl) (List.getElem?_eq_getElem hjl)).below hwz
              have hxat := HAT.out.below hwz
              have htk : l.take (j + 1) = l.take j ++ [l[j]'hjl] := List.take_succ_eq_append_getElem hjl
              have hmem : (l[j]'hjl).mk0 ∈ (l.take k).map Ac.mk0 := by
                have : (l.take k)[j]? = some (l[j]'hjl) := by rw [List.getElem?_take, if_pos hjk, List.getElem?_eq_getElem hjl]
                exact List.mem_map_of_mem (List.mem_of_getElem? this)
              obtain ⟨y, hye⟩ : ∃ a, l[j]'hjl = a := ⟨_, rfl⟩
              rw [hye] at hyat htk hmem
              have cM := fun W => CM.out y W
              have hmi := marked_iff y (⟨aw, al, ri, re, xg⟩ : Ac)
              obtain ⟨mv, hmv⟩ : ∃ v, marked y (⟨aw, al, ri, re, xg⟩ : Ac) = v := ⟨_, rfl⟩
              rw [hmv] at cM hmi
              have HTK := Lib.hid htk
              have HMI := Lib.hid hmi
              have HMEM := Lib.hid hmem
              have HNO := Lib.hid hno
              obtain ⟨yw, yl, yr, ye, yz⟩ := y
              have F0 := Lib.hid (show InTwo g (o + j * 5) (o + k * 5) ⟨yw, yl, yr, ye, yz⟩ (⟨aw, al, ri, re, xg⟩ : Ac) wr.drew from ⟨hyat, hxat⟩)
              obtain ⟨a0, a1, a2, a3, a4⟩ := hyat
              obtain ⟨b0, b1, b2, b3, b4⟩ := hxat
              dsimp only at a0 a1 a2 a3 a4 b0 b1 b2 b3 b4
              unfold av at cM
              dsimp only at cM
              have CMV := Lib.hid cM
              have j0 : (0 : Int) ≤ (j : Int) := by omega
              have j1 : (j : Int) < (k : Int) := by omega
              have j2 : (j : Int) < (n : Int) := by omega
              clear htk hmi hmem hno hye hmv cM
              go_wp2
              first | (go_region_held (fun W' => W'.cell? ⟨g, o + j * 5, none⟩ = some (.int .i64 yw) ∧ W'.cell? ⟨g, o + j * 5 + 1, none⟩ = some (.bool yl) ∧ W'.cell? ⟨g, o + j * 5 + 2, none⟩ = some (.int .i64 yr) ∧ W'.cell? ⟨g, o + j * 5 + 3, none⟩ = some (.int .i64 ye) ∧ W'.cell? ⟨g, o + j * 5 + 4, none⟩ = some (.bool yz) ∧ W'.cell? ⟨g, o + k * 5, none⟩ = some (.int .i64 aw) ∧ W'.cell? ⟨g, o + k * 5 + 1, none⟩ = some (.bool al) ∧ W'.cell? ⟨g, o + k * 5 + 2, none⟩ = some (.int .i64 ri) ∧ W'.cell? ⟨g, o + k * 5 + 3, none⟩ = some (.int .i64 re) ∧ W'.cell? ⟨g, o + k * 5 + 4, none⟩ = some (.bool xg)) (first | exact F0.out.flat | exact F1.out.flat | fail) (first | (go_at_call 32; refine (CMV.out _).mono ?_; rintro x w2 ⟨rfl, hb2⟩; have F1 := Lib.hid (F0.out.step hb2); have HB2 := Lib.hid hb2; clear hb2))) | fail
              have HB := Lib.hid (hbz.trans (((Below.refl wr.heap.size wr).drew.trans (HB2.out.mono (Nat.le_refl _))).mono hbz.size))
              cases mv
              · go_wp2
                go_roundw
                case rel => exact ⟨j + 1, by omega, by go_num, by rw [HTK.out, List.map_append]; intro hm; rcases List.mem_append.1 hm with h1 | h1; exact HNO.out h1; simp at h1; exact absurd h1.symm (of_decide_eq_false HMI.out.symm), HB.out⟩
                case measure => simp [intOf]; omega
              · have HF := Lib.hid (show validB l = false by
                  have hs : (⟨aw, al, ri, re, xg⟩ : Ac).mk0 ∈ seen := (HSE.out _).2 (by rw [← of_decide_eq_true HMI.out.symm]; exact HMEM.out)
                  rw [HV.out, HGO.out, if_pos (by rw [decide_eq_true hs]; simp), Bool.and_false])
                go_wp2
                go_ret
                exact ⟨ret_bool HF.out.symm, hw1.trans (HB.out.mono hw1.size)⟩
            · obtain rfl : j = k := by omega
              have hs : (⟨aw, al, ri, re, xg⟩ : Ac).mk0 ∉ seen := fun h => hno ((HSE.out _).1 h)
              have HGX := Lib.hid (show goV [] false l = goV ((⟨aw, al, ri, re, xg⟩ : Ac).mk0 :: seen) (⟨aw, al, ri, re, xg⟩ : Ac).given (l.drop (j + 1)) by rw [HGO.out, if_neg (by rw [decide_eq_false hs]; simp)])
              clear hno hs
              go_wp2
              go_roundw
              case rel => exact ⟨j + 1, _, _, by omega, by go_num, HSX.out, HNX.out, fun h => by omega, HGX.out, hbo⟩
              case measure => simp [intOf]; omega
        · obtain ⟨hkm, hkn, hcy, _⟩ := hy.resolve_left (by omega)
          have HCY := Lib.hid hcy
          have k1 : (0 : Int) ≤ (k' : Int) := by omega
          have k2 : (k' : Int) < (n : Int) := by omega
          clear hy hcy
          go_wp2_with (go_at_call 35; refine (CR.out _).mono ?_; rintro e w1 ⟨rfl, hb1⟩; obtain ⟨d0, d1, d2, d3, d4⟩ := HAT.out.below hb1; have dy := (hb1.cell (block_lt_of_cell HCY.out)).trans HCY.out)
          clear dy d0 d1 d2 d3 d4
          have hw1 := hbw.trans (hb1.mono hbs)
          have HW1 := Lib.hid hb1
          go_loopw [4] (fun i wz => ∃ j : Nat, j ≤ k ∧ i = .int .i64 j ∧ (⟨aw, al, ri, re, true⟩ : Ac).mk0 ∉ (l.take j).map Ac.mk0 ∧ Below w1.heap.size w1 wz) (fun i _ => k - (intOf i).toNat)
          case atStart => exact ⟨0, Nat.zero_le _, rfl, by simp, Below.refl _ _⟩
          case round =>
            obtain ⟨j, hj, rfl, hno, hbz⟩ := hrel
            have hwz := HW1.out.trans (hbz.mono HW1.out.size)
            have hbo := hbw.trans (hwz.mono hbs)
            have hzs := hbo.size
            by_cases hjk : j < k
            · have hjl : j < l.length := by rw [HN.out]; omega
              have hyat := (HC.out j (l[j]'hjl) (List.getElem?_eq_getElem hjl)).below hwz
              have hxat := HAT.out.below hwz
              have htk : l.take (j + 1) = l.take j ++ [l[j]'hjl] := List.take_succ_eq_append_getElem hjl
              have hmem : (l[j]'hjl).mk0 ∈ (l.take k).map Ac.mk0 := by
                have : (l.take k)[j]? = some (l[j]'hjl) := by rw [List.getElem?_take, if_pos hjk, List.getElem?_eq_getElem hjl]
                exact List.mem_map_of_mem (List.mem_of_getElem? this)
              obtain ⟨y, hye⟩ : ∃ a, l[j]'hjl = a := ⟨_, rfl⟩
              rw [hye] at hyat htk hmem
              have cM := fun W => CM.out y W
              have hmi := marked_iff y (⟨aw, al, ri, re, true⟩ : Ac)
              obtain ⟨mv, hmv⟩ : ∃ v, marked y (⟨aw, al, ri, re, true⟩ : Ac) = v := ⟨_, rfl⟩
              rw [hmv] at cM hmi
              have HTK := Lib.hid htk
              have HMI := Lib.hid hmi
              have HMEM := Lib.hid hmem
              have HNO := Lib.hid hno
              obtain ⟨yw, yl, yr, ye, yz⟩ := y
              have F0 := Lib.hid (show InTwo g (o + j * 5) (o + k * 5) ⟨yw, yl, yr, ye, yz⟩ (⟨aw, al, ri, re, true⟩ : Ac) wr.drew from ⟨hyat, hxat⟩)
              obtain ⟨a0, a1, a2, a3, a4⟩ := hyat
              obtain ⟨b0, b1, b2, b3, b4⟩ := hxat
              dsimp only at a0 a1 a2 a3 a4 b0 b1 b2 b3 b4
              unfold av at cM
              dsimp only at cM
              have CMV := Lib.hid cM
              have j0 : (0 : Int) ≤ (j : Int) := by omega
              have j1 : (j : Int) < (k : Int) := by omega
              have j2 : (j : Int) < (n : Int) := by omega
              clear htk hmi hmem hno hye hmv cM
              go_wp2
              first | (go_region_held (fun W' => W'.cell? ⟨g, o + j * 5, none⟩ = some (.int .i64 yw) ∧ W'.cell? ⟨g, o + j * 5 + 1, none⟩ = some (.bool yl) ∧ W'.cell? ⟨g, o + j * 5 + 2, none⟩ = some (.int .i64 yr) ∧ W'.cell? ⟨g, o + j * 5 + 3, none⟩ = some (.int .i64 ye) ∧ W'.cell? ⟨g, o + j * 5 + 4, none⟩ = some (.bool yz) ∧ W'.cell? ⟨g, o + k * 5, none⟩ = some (.int .i64 aw) ∧ W'.cell? ⟨g, o + k * 5 + 1, none⟩ = some (.bool al) ∧ W'.cell? ⟨g, o + k * 5 + 2, none⟩ = some (.int .i64 ri) ∧ W'.cell? ⟨g, o + k * 5 + 3, none⟩ = some (.int .i64 re) ∧ W'.cell? ⟨g, o + k * 5 + 4, none⟩ = some (.bool true)) (first | exact F0.out.flat | exact F1.out.flat | fail) (first | (go_at_call 32; refine (CMV.out _).mono ?_; rintro x w2 ⟨rfl, hb2⟩; have F1 := Lib.hid (F0.out.step hb2); have HB2 := Lib.hid hb2; clear hb2))) | fail
              have HB := Lib.hid (hbz.trans (((Below.refl wr.heap.size wr).drew.trans (HB2.out.mono (Nat.le_refl _))).mono hbz.size))
              cases mv
              · go_wp2
                go_roundw
                case rel => exact ⟨j + 1, by omega, by go_num, by rw [HTK.out, List.map_append]; intro hm; rcases List.mem_append.1 hm with h1 | h1; exact HNO.out h1; simp at h1; exact absurd h1.symm (of_decide_eq_false HMI.out.symm), HB.out⟩
                case measure => simp [intOf]; omega
              · have HF := Lib.hid (show validB l = false by
                  have hs : (⟨aw, al, ri, re, true⟩ : Ac).mk0 ∈ seen := (HSE.out _).2 (by rw [← of_decide_eq_true HMI.out.symm]; exact HMEM.out)
                  rw [HV.out, HGO.out, if_pos (by rw [decide_eq_true hs]; simp), Bool.and_false])
                go_wp2
                go_ret
                exact ⟨ret_bool HF.out.symm, hw1.trans (HB.out.mono hw1.size)⟩
            · obtain rfl : j = k := by omega
              have hs : (⟨aw, al, ri, re, true⟩ : Ac).mk0 ∉ seen := fun h => hno ((HSE.out _).1 h)
              have HGX := Lib.hid (show goV [] false l = goV ((⟨aw, al, ri, re, true⟩ : Ac).mk0 :: seen) (⟨aw, al, ri, re, true⟩ : Ac).given (l.drop (j + 1)) by rw [HGO.out, if_neg (by rw [decide_eq_false hs]; simp)])
              clear hno hs
              go_wp2
              go_roundw
              case rel => exact ⟨j + 1, _, _, by omega, by go_num, HSX.out, HNX.out, fun h => by omega, HGX.out, hbo⟩
              case measure => simp [intOf]; omega
        · obtain ⟨hkm, hkn, hcy, _⟩ := hy.resolve_left (by omega)
          have HCY := Lib.hid hcy
          have HF := Lib.hid (show validB l = false by rw [HV.out, HGO.out]; simp)
          have k1 : (0 : Int) ≤ (k' : Int) := by omega
          have k2 : (k' : Int) < (n : Int) := by omega
          clear hy hcy
          go_wp2_with (go_at_call 35; refine (CR.out _).mono ?_; rintro e w1 ⟨rfl, hb1⟩; obtain ⟨d0, d1, d2, d3, d4⟩ := HAT.out.below hb1; have dy := (hb1.cell (block_lt_of_cell HCY.out)).trans HCY.out)
          go_ret
          exact ⟨ret_bool HF.out.symm, hbw.trans (hb1.mono hbs)⟩
    · obtain rfl : k = n := by omega
      have hd : l.drop k = [] := List.drop_of_length_le (by rw [HN.out]; exact Nat.le_refl _)
      rw [hd, goV] at hgo
      have HF := Lib.hid (show validB l = decide (k ≤ 16) by rw [HV.out, hgo, Bool.and_true])
      clear hd hgo hseen hgiv hg0
      go_wp2
      go_ret
      exact ⟨ret_bool (by rw [HF.out, decide_eq_decide]; omega), hbw⟩
end Go.Proofs.Ytkpedfigaofloaa
