/-
  Walk of the law ShardSums.
-/
import Derived.Test.YtoodeoglpdapiaaTd
import Derived.Laws.Cover1
namespace Go.Proofs.Ytoodeoglpdapiaa
open Go.RowKit Gf
set_option maxHeartbeats 400000

def sumL (a b : List UInt8) (m : Nat) : List UInt8 := (List.range m).map fun i => a[i]?.getD 0 ^^^ b[i]?.getD 0
theorem sumL_len (a b : List UInt8) (m : Nat) : (sumL a b m).length = m := by simp [sumL]
theorem sumL_succ (a b : List UInt8) (m : Nat) : sumL a b (m + 1) = sumL a b m ++ [a[m]?.getD 0 ^^^ b[m]?.getD 0] := by simp [sumL, List.range_succ]
theorem sumL_get {a b : List UInt8} {m i : Nat} (h : i < m) : (sumL a b m)[i]?.getD 0 = a[i]?.getD 0 ^^^ b[i]?.getD 0 := by simp [sumL, h]
theorem Slb.take {ok : Nat → Prop} {W : World} {A : Option Addr} {n c : Nat} {b : List UInt8} (h : Slb ok W A n c b) {m : Nat} (hm : m ≤ n) : Slb ok W A m c (b.take m) :=
  ⟨by rw [List.length_take, h.len]; omega, Nat.le_trans hm h.cap, h.max, h.nil, fun hn => by
    have h0 : b ≠ [] := fun e => by rw [e] at hn; simp at hn
    obtain ⟨g, o, h1, h2, h3, h4⟩ := h.byts h0
    refine ⟨g, o, h1, h2, h3, fun j x hx => h4 j x ?_⟩
    rw [List.getElem?_take] at hx
    split at hx
    · exact hx
    · cases hx⟩
/-- The least of three numbers. -/
def min3 (x y : Nat) : Nat := min (min x y) 60
theorem row_of {W : World} {A : Option Addr} {n c k sz : Nat} {b : List UInt8} (h : Sll (fun _ => True) (fun _ => True) W A n c (encL b k n)) (hb : b.length = sz) (h1 : 1 ≤ k) (hk : k ≤ n) (hn : n ≤ 12) : ∃ g o, A = some ⟨g, o, none⟩ ∧ ∀ j, j < n → ∃ A' c', W.cell? ⟨g, o + j, none⟩ = some (.slice A' (longN sz k) c') ∧ Byts W A' (encX b (longN sz k) k (UInt8.ofNat j)) := by
  have h0 : encL b k n ≠ [] := List.ne_nil_of_length_pos (by rw [encL_len]; omega)
  obtain ⟨g, o, rfl, _, _, hc⟩ := h.lists h0
  refine ⟨g, o, rfl, fun j hj => ?_⟩
  have e := encL_get (b := b) h1 (by omega) hj
  rw [hb] at e
  obtain ⟨A', c', q1, _, _, _, q5⟩ := hc j _ e
  rw [encX_len] at q1
  exact ⟨A', c', q1, q5.byts⟩
theorem byts_at {W : World} {A : Option Addr} {b : List UInt8} {L k t : Nat} {x : UInt8} (h : Byts W A (encX b L k x)) (ht : t < L) : ∃ g o u, A = some ⟨g, o, none⟩ ∧ (encX b L k x)[t]?.getD 0 = u ∧ W.cell? ⟨g, o + t, none⟩ = some (.int .u8 u.toNat) := by
  have hl : t < (encX b L k x).length := by rw [encX_len]; exact ht
  obtain ⟨g, o, h1, _, h3⟩ := h (List.ne_nil_of_length_pos (by omega))
  exact ⟨g, o, (encX b L k x)[t], h1, by rw [List.getElem?_eq_getElem hl]; rfl, h3 t _ (List.getElem?_eq_getElem hl)⟩
theorem Slb.at_ {ok : Nat → Prop} {W : World} {A : Option Addr} {n c i : Nat} {b : List UInt8} (h : Slb ok W A n c b) (hi : i < n) : ∃ g o x, A = some ⟨g, o, none⟩ ∧ b[i]? = some x ∧ W.cell? ⟨g, o + i, none⟩ = some (.int .u8 x.toNat) := by
  have hl : i < b.length := by rw [h.len]; exact hi
  obtain ⟨g, o, h1, _, h3, h4⟩ := h.byts (List.ne_nil_of_length_pos (by omega))
  exact ⟨g, o, b[i], h1, List.getElem?_eq_getElem hl, h4 i _ (List.getElem?_eq_getElem hl)⟩

set_option maxHeartbeats 8000000 in
set_option maxRecDepth 20000 in
theorem lawSums_any {Env : World → Prop} (P : Prg Env) (S : SanOk Env) (A B : Option Addr) (na ca nb cb : Nat) (a b : List UInt8) (w0 w1 : UInt8) (w : World) (hE : Env w) (hA : Slb (· < w.heap.size) w A na ca a) (hB : Slb (· < w.heap.size) w B nb cb b) :
    Calls Try.prog 8 #[.slice A na ca, .slice B nb cb, .agg #[.int .u8 w0.toNat, .int .u8 w1.toNat]] w fun e w' => e = .returned (.bool true) ∧ Below w.heap.size w w' := by
  have HS := Lib.hid (show ∀ W, Env W → Calls Try.prog 10 #[] W fun e w' => e = .returned (.bool true) ∧ Below W.heap.size W w' from S)
  have HP := Lib.hid P
  have HA := Lib.hid hA
  have HB := Lib.hid hB
  have hB0 : Below w.heap.size w (w.alloc (.cells #[.int .u8 w0.toNat, .int .u8 w1.toNat] 41)) := by go_grown
  have hE0 := P.env hE hB0
  have k0 : (w.alloc (.cells #[.int .u8 w0.toNat, .int .u8 w1.toNat] 41)).cell? ⟨w.heap.size, 0, none⟩ = some (.int .u8 w0.toNat) := by simp [go_sem]
  have k1 : (w.alloc (.cells #[.int .u8 w0.toNat, .int .u8 w1.toNat] 41)).cell? ⟨w.heap.size, 1, none⟩ = some (.int .u8 w1.toNat) := by simp [go_sem]
  have KB := Lib.hid (fun W (h : Below (w.alloc (.cells #[.int .u8 w0.toNat, .int .u8 w1.toNat] 41)).heap.size (w.alloc (.cells #[.int .u8 w0.toNat, .int .u8 w1.toNat] 41)) W) => show W.cell? ⟨w.heap.size, 0, none⟩ = some (.int .u8 w0.toNat) ∧ W.cell? ⟨w.heap.size, 1, none⟩ = some (.int .u8 w1.toNat) from ⟨(h.cell (block_lt_of_cell k0)).trans k0, (h.cell (block_lt_of_cell k1)).trans k1⟩)
  clear S P k0 k1
  have hca := hA.cap
  have hcb := hB.cap
  have hcam := hA.max
  have hcbm := hB.max
  clear hA hB
  obtain ⟨n1, n12⟩ := numN_r w1
  obtain ⟨kk1, kkn⟩ := numK_r w0 w1
  have HNum := Lib.hid (fun W => Numbers_any w0 w1 W)
  obtain ⟨n, hn⟩ : ∃ n, numN w1 = n := ⟨_, rfl⟩
  obtain ⟨k, hk⟩ : ∃ k, numK w0 w1 = k := ⟨_, rfl⟩
  rw [hn, hk] at HNum
  rw [hn] at n1 n12 kkn
  rw [hk] at kk1 kkn
  obtain ⟨iu, hu, hu0, hu1, hu2⟩ := info_parts info_u8
  clear hn hk
  obtain ⟨sz, hsz⟩ : ∃ sz, min3 na nb = sz := ⟨_, rfl⟩
  have hs1 : sz ≤ na := by rw [← hsz]; unfold min3; omega
  have hs2 : sz ≤ nb := by rw [← hsz]; unfold min3; omega
  have hs3 : sz ≤ 60 := by rw [← hsz]; unfold min3; omega
  have HSZ := Lib.hid hsz
  clear hsz
  go_enter Try.func8, Try.ntmps8
  go_upto_region 2 with (go_at_call 10; with_reducible refine (HS.out _ hE0).mono ?_; rintro e w2 ⟨rfl, hb2⟩; obtain ⟨y0, y1⟩ := KB.out _ hb2; have hE2 := HP.out.env hE0 hb2; have hB2 := hB0.trans (hb2.mono hB0.size))
  have hmin : (if (60 : Int) < (if (nb : Int) < (na : Int) then (nb : Int) else (na : Int)) then (60 : Int) else (if (nb : Int) < (na : Int) then (nb : Int) else (na : Int))) = (sz : Int) := by
    have H1 := HSZ.out
    unfold min3 at H1
    split <;> split <;> (try split at *) <;> omega
  have hm3 : ∀ W, (Builtin.min_ #[3, 3, 3] 3 #[.int .i64 na, .int .i64 nb, .int .i64 60]).run Try.prog W = .ok (.int .i64 sz) W := fun W => by
    have h := run_min_int3 (P := Try.prog) (w := W) #[3, 3, 3] 3 .i64 .i64 .i64 (na : Int) (nb : Int) 60
    rw [h]
    exact congrArg (fun z => Result.ok (Value.int .i64 z) W) hmin
  clear hmin
  go_wp2_with (go_at_call 24; with_reducible refine (HNum.out _).mono ?_; rintro e w3 ⟨rfl, hb3⟩; have hE3 := HP.out.env hE2 hb3; have hB3 := hB2.trans (hb3.mono hB2.size))
  have hb4 : Below w3.heap.size w3 (w3.alloc (.cells #[.int .i64 k, .int .i64 n] 43)) := (Below.refl _ w3).alloc (Nat.le_refl _) _
  have hE4 := Lib.hid (HP.out.env hE3 hb4)
  have hB4 := Lib.hid (hB3.trans (hb4.mono hB3.size))
  have hlt3 : w3.heap.size < (w3.alloc (.cells #[.int .i64 k, .int .i64 n] 43)).heap.size := by simp
  have y2 : (w3.alloc (.cells #[.int .i64 k, .int .i64 n] 43)).cell? ⟨w3.heap.size, 0, none⟩ = some (.int .i64 k) := by simp [go_sem]
  have y3 : (w3.alloc (.cells #[.int .i64 k, .int .i64 n] 43)).cell? ⟨w3.heap.size, 1, none⟩ = some (.int .i64 n) := by simp [go_sem]
  have KM := Lib.hid (fun W (h : Below (w3.alloc (.cells #[.int .i64 k, .int .i64 n] 43)).heap.size (w3.alloc (.cells #[.int .i64 k, .int .i64 n] 43)) W) => show W.cell? ⟨w3.heap.size, 0, none⟩ = some (.int .i64 k) ∧ W.cell? ⟨w3.heap.size, 1, none⟩ = some (.int .i64 n) from ⟨(h.cell (block_lt_of_cell y2)).trans y2, (h.cell (block_lt_of_cell y3)).trans y3⟩)
  clear y2 y3 hb3 hb4 hB3 hE3 hB2 hE2 hb2 y0 y1 hm3
  obtain ⟨wM, hwM⟩ : ∃ W, (w3.alloc (.cells #[.int .i64 k, .int .i64 n] 43)) = W := ⟨_, rfl⟩
  rw [hwM] at hE4 hB4 KM hlt3
  have hwM' : w3.alloc (.cells #[.int .i64 k, .int .i64 n] 43) = wM := hwM
  have hwx : w3.heap.size + 1 = wM.heap.size := by rw [← hwM]; simp
  rw [hwM']
  have HWX := Lib.hid hwx
  clear hwM hwM' hwx
  go_loopw [10, 11] (fun o i wr => ∃ (j gJ cJ : Nat), j ≤ sz ∧ i = .int .i64 j ∧ o = .slice (some ⟨gJ, 0, none⟩) j cJ ∧ wr.ownsRow wM.heap.size 5 1 (.slice (some ⟨gJ, 0, none⟩) j cJ) j (bys (sumL a b j)) ∧ Below wM.heap.size wM wr) (fun _ i _ => sz - (intOf i).toNat)
  case atStart => exact ⟨0, wM.heap.size, 0, Nat.zero_le _, rfl, by rw [← HWX.out], own_empty wM 5, (Below.refl _ wM).alloc (Nat.le_refl _) _⟩
  case round =>
    obtain ⟨j, gJ, cJ, hj, rfl, rfl, hown, hbw⟩ := hrel
    have hbs := hbw.size
    by_cases hlt : j < sz
    · have hjs : (j : Int) < (sz : Int) := Int.ofNat_lt.2 hlt
      have hja : (j : Int) < (na : Int) := by omega
      have hjb : (j : Int) < (nb : Int) := by omega
      have hj0 : (0 : Int) ≤ (j : Int) := Int.natCast_nonneg j
      obtain ⟨ga, oa, x, rfl, hx, hcx⟩ := (HA.out.below hB4.out).at_ (show j < na by omega)
      obtain ⟨gb, ob, y, rfl, hy, hcy⟩ := (HB.out.below hB4.out).at_ (show j < nb by omega)
      have hga := block_lt_of_cell hcx
      have hgb := block_lt_of_cell hcy
      have hlo := hown.lt gJ rfl
      have hna : some ga ≠ Value.ownBlock (.slice (some ⟨gJ, 0, none⟩) j cJ) := fun e => absurd (Option.some.inj e) (Nat.ne_of_lt (Nat.lt_of_lt_of_le hga hlo.1))
      have hnb : some gb ≠ Value.ownBlock (.slice (some ⟨gJ, 0, none⟩) j cJ) := fun e => absurd (Option.some.inj e) (Nat.ne_of_lt (Nat.lt_of_lt_of_le hgb hlo.1))
      replace hcx := (hbw.cell hga).trans hcx
      replace hcy := (hbw.cell hgb).trans hcy
      have HC0 := Lib.hid (And.intro (show wr.drew.cell? ⟨ga, oa + j, none⟩ = some (.int .u8 x.toNat) from hcx) (show wr.drew.cell? ⟨gb, ob + j, none⟩ = some (.int .u8 y.toNat) from hcy))
      have HNX := Lib.hid (show sumL a b (j + 1) = sumL a b j ++ [x ^^^ y] by rw [sumL_succ, hx, hy]; rfl)
      have HO := Lib.hid (own_drew hown)
      have hxy := xor_byte x y
      have hbA : Below wr.drew.heap.size wr.drew (wr.drew.alloc (.cells #[.int .u8 (x ^^^ y).toNat] 5)) := (Below.refl _ wr.drew).alloc (Nat.le_refl _) _
      have HC1 := Lib.hid (And.intro ((hbA.cell (block_lt_of_cell HC0.out.1)).trans HC0.out.1) ((hbA.cell (block_lt_of_cell HC0.out.2)).trans HC0.out.2))
      have HBW := Lib.hid hbw
      clear hx hy hcx hcy hown hbw hga hgb
      go_upto_region 8 with (fail)
      go_region_held_law (fun W' => W'.cell? ⟨ga, oa + j, none⟩ = some (.int .u8 x.toNat) ∧ W'.cell? ⟨gb, ob + j, none⟩ = some (.int .u8 y.toNat)) (first | exact HC0.out | exact HC1.out | exact HC7.out) (first | (refine step_append_lies _ rfl _ _ 22 rfl wM.heap.size 5 iu _ 1 1 Try.underlying22 hu hu0 hu1 hu2 rfl (by decide) _ _ _ rfl (HO.out.alloc _) ⟨wr.heap.size, 0, none⟩ 1 1 [.int .u8 (x ^^^ y).toNat] rfl rfl (cell_one_new _ _ _) (by simp [Value.oneCell']) (by decide) (by unfold maxLen; omega) (by omega) (by simp; omega) (wr.heap.size + 1) (by simp) ?_; intro g1 cap1 w7 hown7 hgrow7 hat7 hlt7; have HC7 := Lib.hid (And.intro (hgrow7.cell HC1.out.1 hna) (hgrow7.cell HC1.out.2 hnb))))
      have hb7 : Below wM.heap.size wM w7 := ((HBW.out.trans ((below_drewN wr 1).mono hbs)).alloc hbs _).grown hgrow7 (by simp; omega) (fun t ht => by injection ht with ht; rw [← ht]; exact hlo.1)
      go_wp2
      go_roundw
      case rel =>
        refine ⟨j + 1, g1, cap1, by omega, by go_num, rfl, ?_, hb7⟩
        rw [HNX.out, bys_append, bys_one]
        exact hown7
      case measure => simp [intOf]; omega
    · obtain rfl : sz = j := by omega
      have hE9 := HP.out.env hE4.out hbw
      have hB9 := hB4.out.trans (hbw.mono hB4.out.size)
      have X1 := Lib.hid (enc9 HP.out hE9 (((HA.out.below hB9).take hs1).mono (fun b hb _ => hb)) (by omega) kk1 kkn n12)
      have X2 := Lib.hid (enc9 HP.out hE9 (((HB.out.below hB9).take hs2).mono (fun b hb _ => hb)) (by omega) kk1 kkn n12)
      have X3 := Lib.hid (enc9 HP.out hE9 ((Slb.own hown).mono (fun b hb _ => hb)) (by omega) kk1 kkn n12)
      have hsc1 : (sz : Int) ≤ (ca : Int) := by omega
      have hsc2 : (sz : Int) ≤ (cb : Int) := by omega
      have hsc0 : (0 : Int) ≤ (sz : Int) := Int.natCast_nonneg sz
      go_upto_region 9 with (fail)
      go_cut [12, 13, 14] from 43 to 64 (fun s12 s13 s14 wx => ∃ A1 c1 A2 c2 A3 c3 p q r, s12 = .pointer (some ⟨p, 0, none⟩) ∧ s13 = .pointer (some ⟨q, 0, none⟩) ∧ s14 = .pointer (some ⟨r, 0, none⟩) ∧ Post9 wr n (encL (a.take sz) k n) (encL (b.take sz) k n) (encL (sumL a b sz) k n) A1 A2 A3 c1 c2 c3 p q r wx)
      case first =>
        refine wp_region_held_drew (S := (fun W' => W'.cell? ⟨w3.heap.size, 0, none⟩ = some (.int .i64 k) ∧ W'.cell? ⟨w3.heap.size, 1, none⟩ = some (.int .i64 n))) (by kernel_rfl) (by exact KM.out _ (hbw.trans ((below_drewN wr 1).mono hbs))) (fun hHeld => ?_)
        refine wpAnyH_take (i := 0) (v := ?_) rfl (by kernel_rfl) (by kernel_rfl) (by kernel_rfl) (fun _ _ _ h => h) (Or.inl ⟨by rfl, ?_⟩) (by assumption) ?_
        rotate_left
        · ((intro w' hSw); (try dsimp only at hSw); go_simp; all_goals (with_reducible rfl))
        simp only [Act.put, List.getElem_toArray, List.getElem_cons_zero, List.setIfInBounds_toArray, List.set_cons_zero, List.set_cons_succ]
        refine wpAnyH_take (i := 1) (v := ?_) rfl (by kernel_rfl) (by kernel_rfl) (by kernel_rfl) (fun _ _ _ h => h) (Or.inl ⟨by rfl, ?_⟩) (by assumption) ?_
        rotate_left
        · ((intro w' hSw); (try dsimp only at hSw); go_simp; all_goals (with_reducible rfl))
        simp only [Act.put, List.getElem_toArray, List.getElem_cons_succ, List.getElem_cons_zero, List.setIfInBounds_toArray, List.set_cons_zero, List.set_cons_succ]
        refine wpAnyH_take (i := 2) (v := ?_) rfl (by kernel_rfl) (by kernel_rfl) (by kernel_rfl) (fun _ _ _ h => h) (Or.inl ⟨by rfl, ?_⟩) (by assumption) ?_
        rotate_left
        · ((intro w' hSw); (try dsimp only at hSw); go_simp; all_goals (with_reducible rfl))
        simp only [Act.put, List.getElem_toArray, List.getElem_cons_succ, List.getElem_cons_zero, List.setIfInBounds_toArray, List.set_cons_zero, List.set_cons_succ]
        refine wpAnyH_take (i := 3) (v := ?_) rfl (by kernel_rfl) (by kernel_rfl) (by kernel_rfl) (fun _ _ _ h => h) (Or.inl ⟨by rfl, ?_⟩) (by assumption) ?_
        rotate_left
        · ((intro w' hSw); (try dsimp only at hSw); go_simp; all_goals (with_reducible rfl))
        simp only [Act.put, List.getElem_toArray, List.getElem_cons_succ, List.getElem_cons_zero, List.setIfInBounds_toArray, List.set_cons_zero, List.set_cons_succ]
        refine wpAnyH_take (i := 4) (v := ?_) rfl (by kernel_rfl) (by kernel_rfl) (by kernel_rfl) (fun _ _ _ h => h) (Or.inl ⟨by rfl, ?_⟩) (by assumption) ?_
        rotate_left
        · ((intro w' hSw); (try dsimp only at hSw); go_simp; all_goals (with_reducible rfl))
        simp only [Act.put, List.getElem_toArray, List.getElem_cons_succ, List.getElem_cons_zero, List.setIfInBounds_toArray, List.set_cons_zero, List.set_cons_succ]
        refine wpAnyH_take (i := 5) (v := ?_) rfl (by kernel_rfl) (by kernel_rfl) (by kernel_rfl) (fun _ _ _ h => h) (Or.inl ⟨by rfl, ?_⟩) (by assumption) ?_
        rotate_left
        · ((intro w' hSw); (try dsimp only at hSw); go_simp; all_goals (with_reducible rfl))
        simp only [Act.put, List.getElem_toArray, List.getElem_cons_succ, List.getElem_cons_zero, List.setIfInBounds_toArray, List.set_cons_zero, List.set_cons_succ]
        refine wpAnyH_take (i := 6) (v := ?_) rfl (by kernel_rfl) (by kernel_rfl) (by kernel_rfl) (fun _ _ _ h => h) (Or.inl ⟨by rfl, ?_⟩) (by assumption) ?_
        rotate_left
        · ((intro w' hSw); (try dsimp only at hSw); go_simp; all_goals (with_reducible rfl))
        simp only [Act.put, List.getElem_toArray, List.getElem_cons_succ, List.getElem_cons_zero, List.setIfInBounds_toArray, List.set_cons_zero, List.set_cons_succ]
        refine wpAnyH_take (i := 8) (v := ?_) rfl (by kernel_rfl) (by kernel_rfl) (by kernel_rfl) (fun _ _ _ h => h) (Or.inl ⟨by rfl, ?_⟩) (by assumption) ?_
        rotate_left
        · ((intro w' hSw); (try dsimp only at hSw); go_simp; all_goals (with_reducible rfl))
        simp only [Act.put, List.getElem_toArray, List.getElem_cons_succ, List.getElem_cons_zero, List.setIfInBounds_toArray, List.set_cons_zero, List.set_cons_succ]
        refine wpAnyH_take (i := 9) (v := ?_) rfl (by kernel_rfl) (by kernel_rfl) (by kernel_rfl) (fun _ _ _ h => h) (Or.inl ⟨by rfl, ?_⟩) (by assumption) ?_
        rotate_left
        · ((intro w' hSw); (try dsimp only at hSw); go_simp; all_goals (with_reducible rfl))
        simp only [Act.put, List.getElem_toArray, List.getElem_cons_succ, List.getElem_cons_zero, List.setIfInBounds_toArray, List.set_cons_zero, List.set_cons_succ]
        refine wpAnyH_take (i := 10) (v := ?_) rfl (by kernel_rfl) (by kernel_rfl) (by kernel_rfl) (fun _ _ _ h => h) (Or.inl ⟨by rfl, ?_⟩) (by assumption) ?_
        rotate_left
        · ((intro w' hSw); (try dsimp only at hSw); go_simp; all_goals (with_reducible rfl))
        simp only [Act.put, List.getElem_toArray, List.getElem_cons_succ, List.getElem_cons_zero, List.setIfInBounds_toArray, List.set_cons_zero, List.set_cons_succ]
        refine wpAnyH_take (i := 11) (v := ?_) rfl (by kernel_rfl) (by kernel_rfl) (by kernel_rfl) (fun _ _ _ h => h) (Or.inl ⟨by rfl, ?_⟩) (by assumption) ?_
        rotate_left
        · ((intro w' hSw); (try dsimp only at hSw); go_simp; all_goals (with_reducible rfl))
        simp only [Act.put, List.getElem_toArray, List.getElem_cons_succ, List.getElem_cons_zero, List.setIfInBounds_toArray, List.set_cons_zero, List.set_cons_succ]
        refine wpAnyH_take (i := 12) (v := ?_) rfl (by kernel_rfl) (by kernel_rfl) (by kernel_rfl) (fun _ _ _ h => h) (Or.inl ⟨by rfl, ?_⟩) (by assumption) ?_
        rotate_left
        · ((intro w' hSw); (try dsimp only at hSw); go_simp; all_goals (with_reducible rfl))
        simp only [Act.put, List.getElem_toArray, List.getElem_cons_succ, List.getElem_cons_zero, List.setIfInBounds_toArray, List.set_cons_zero, List.set_cons_succ]
        refine wpAnyH_take (i := 13) (v := ?_) rfl (by kernel_rfl) (by kernel_rfl) (by kernel_rfl) (fun _ _ _ h => h) (Or.inl ⟨by rfl, ?_⟩) (by assumption) ?_
        rotate_left
        · ((intro w' hSw); (try dsimp only at hSw); go_simp; all_goals (with_reducible rfl))
        simp only [Act.put, List.getElem_toArray, List.getElem_cons_succ, List.getElem_cons_zero, List.setIfInBounds_toArray, List.set_cons_zero, List.set_cons_succ]
        refine wpAnyH_take (i := 14) (v := ?_) rfl (by kernel_rfl) (by kernel_rfl) (by kernel_rfl) (fun _ _ _ h => h) (Or.inl ⟨by rfl, ?_⟩) (by assumption) ?_
        rotate_left
        · ((intro w' hSw); (try dsimp only at hSw); go_simp; all_goals (with_reducible rfl))
        simp only [Act.put, List.getElem_toArray, List.getElem_cons_succ, List.getElem_cons_zero, List.setIfInBounds_toArray, List.set_cons_zero, List.set_cons_succ]
        refine wpAnyH_take (i := 16) (v := ?_) rfl (by kernel_rfl) (by kernel_rfl) (by kernel_rfl) (fun _ _ _ h => h) (Or.inl ⟨by rfl, ?_⟩) (by assumption) ?_
        rotate_left
        · ((intro w' hSw); (try dsimp only at hSw); go_simp; all_goals (with_reducible rfl))
        simp only [Act.put, List.getElem_toArray, List.getElem_cons_succ, List.getElem_cons_zero, List.setIfInBounds_toArray, List.set_cons_zero, List.set_cons_succ]
        refine wpAnyH_take (i := 17) (v := ?_) rfl (by kernel_rfl) (by kernel_rfl) (by kernel_rfl) (fun _ _ _ h => h) (Or.inl ⟨by rfl, ?_⟩) (by assumption) ?_
        rotate_left
        · ((intro w' hSw); (try dsimp only at hSw); go_simp; all_goals (with_reducible rfl))
        simp only [Act.put, List.getElem_toArray, List.getElem_cons_succ, List.getElem_cons_zero, List.setIfInBounds_toArray, List.set_cons_zero, List.set_cons_succ]
        refine wpAnyH_take (i := 18) (v := ?_) rfl (by kernel_rfl) (by kernel_rfl) (by kernel_rfl) (fun _ _ _ h => h) (Or.inl ⟨by rfl, ?_⟩) (by assumption) ?_
        rotate_left
        · ((intro w' hSw); (try dsimp only at hSw); go_simp; all_goals (with_reducible rfl))
        simp only [Act.put, List.getElem_toArray, List.getElem_cons_succ, List.getElem_cons_zero, List.setIfInBounds_toArray, List.set_cons_zero, List.set_cons_succ]
        refine wpAnyH_take (i := 19) (v := ?_) rfl (by kernel_rfl) (by kernel_rfl) (by kernel_rfl) (fun _ _ _ h => h) (Or.inl ⟨by rfl, ?_⟩) (by assumption) ?_
        rotate_left
        · ((intro w' hSw); (try dsimp only at hSw); go_simp; all_goals (with_reducible rfl))
        simp only [Act.put, List.getElem_toArray, List.getElem_cons_succ, List.getElem_cons_zero, List.setIfInBounds_toArray, List.set_cons_zero, List.set_cons_succ]
        refine wpAnyH_take (i := 20) (v := ?_) rfl (by kernel_rfl) (by kernel_rfl) (by kernel_rfl) (fun _ _ _ h => h) (Or.inl ⟨by rfl, ?_⟩) (by assumption) ?_
        rotate_left
        · ((intro w' hSw); (try dsimp only at hSw); go_simp; all_goals (with_reducible rfl))
        simp only [Act.put, List.getElem_toArray, List.getElem_cons_succ, List.getElem_cons_zero, List.setIfInBounds_toArray, List.set_cons_zero, List.set_cons_succ]
        refine region9 ?l1 (S := _) (w9 := wr) (k := k) (n := n) (E1 := encL (a.take sz) k n) (E2 := encL (b.take sz) k n) (E3 := encL (sumL a b sz) k n) (va := .slice A sz ca) (vb := .slice B sz cb) (vs := .slice (some ⟨gJ, 0, none⟩) sz cJ) (fun W hW => KM.out _ (hbw.trans (hW.mono hbs))) X1.out X2.out X3.out ?l2 ?l3 ?l4 ?l5 ?l6 ?l7 ?l8 ?l9 ?l10 ?l11 ?l12 ?l13 ?l14 ?l15 ?l16 ?l17 ?l18 ?l19 ?l20 ?m1 ?l21 ?l22 ?l23 ?l24 ?l25 (below_drewN wr 1) ?m2
        case m1 =>
          rintro ⟨c, x, y, z⟩ hc hm
          rcases (show c = 0 ∨ c = 1 ∨ c = 2 ∨ c = 3 from by have : c ≤ 3 := hc; omega) with e | e | e | e <;> subst e <;> cases x <;> cases y <;> cases z <;> first | (exfalso; exact hm rfl) | kernel_rfl
        case m2 =>
          intro A1 c1 A2 c2 A3 c3 p q r W hP
          show Exit.then _ _ _ _ _
          unfold Six
          simp only [List.setIfInBounds_toArray, List.set_cons_zero, List.set_cons_succ]
          go_wp2
          go_meet
          case rel => exact ⟨_, _, _, _, _, _, _, _, _, rfl, rfl, rfl, hP⟩
        all_goals first | kernel_rfl | (change Option.map _ _ = _; kernel_rfl)
      case rest =>
        obtain ⟨A1, c1, A2, c2, A3, c3, p, q, r, rfl, rfl, rfl, hp⟩ := hcut
        have l1 : (a.take sz).length = sz := by rw [List.length_take, HA.out.len]; omega
        have l2 : (b.take sz).length = sz := by rw [List.length_take, HB.out.len]; omega
        have l3 : (sumL a b sz).length = sz := sumL_len a b sz
        obtain ⟨g1, o1, rfl, R1⟩ := row_of hp.s1 l1 kk1 kkn n12
        obtain ⟨g2, o2, rfl, R2⟩ := row_of hp.s2 l2 kk1 kkn n12
        obtain ⟨g3, o3, rfl, R3⟩ := row_of hp.s3 l3 kk1 kkn n12
        have HX := Lib.hid (fun (j : Nat) (x : UInt8) (hj : j < longN sz k) => encX_sum (a := a.take sz) (b := b.take sz) (s := sumL a b sz) (k := k) (j := j) (x := x) (by omega) (l1.trans l3.symm) (l2.trans l3.symm) (fun i hi => by
          rw [l3] at hi
          rw [sumL_get hi, List.getElem?_take, if_pos hi, List.getElem?_take, if_pos hi]) (by rw [l3]; exact hj))
        rw [l3] at HX
        obtain ⟨L, hL⟩ : ∃ L, longN sz k = L := ⟨_, rfl⟩
        have hL60 : L ≤ 60 := by rw [← hL]; exact Nat.le_trans (longN_le sz k kk1).2 hs3
        rw [hL] at HX R1 R2 R3
        have H1 := Lib.hid R1
        have H2 := Lib.hid R2
        have H3 := Lib.hid R3
        obtain ⟨x0, x1⟩ := hp.f1.cells
        obtain ⟨z0, z1⟩ := hp.f2.cells
        obtain ⟨t0, t1⟩ := hp.f3.cells
        obtain ⟨m0, m1⟩ := KM.out _ (hbw.trans (hp.bel.mono hbs))
        have HBC := Lib.hid (hB9.trans (hp.bel.mono hB9.size))
        have hLL : ((L : Int) != (L : Int)) = false := by simp
        clear R1 R2 R3 l1 l2 l3 hL hp hown hbw X1 X2 X3 hE9 hB9
        go_wp2
        go_loopw [15] (fun i wz => ∃ j m : Nat, j ≤ n ∧ i = .int .i64 j ∧ wz = wc.drewN m) (fun i _ => n - (intOf i).toNat)
        case atStart => exact ⟨0, 0, Nat.zero_le _, rfl, rfl⟩
        case round =>
          obtain ⟨j, m, hj, rfl, rfl⟩ := hrel
          by_cases hlt : j < n
          · have hjn : (j : Int) < (n : Int) := Int.ofNat_lt.2 hlt
            have hj0 : (0 : Int) ≤ (j : Int) := Int.natCast_nonneg j
            obtain ⟨B1, d1, r1, q1⟩ := H1.out j hlt
            obtain ⟨B2, d2, r2, q2⟩ := H2.out j hlt
            obtain ⟨B3, d3, r3, q3⟩ := H3.out j hlt
            have Q1 := Lib.hid q1
            have Q2 := Lib.hid q2
            have Q3 := Lib.hid q3
            clear q1 q2 q3
            go_wp2
            go_quiet (fail)
            go_wp2
            go_loopw [16] (fun i wz => ∃ t m : Nat, t ≤ L ∧ i = .int .i64 t ∧ wz = wc.drewN m) (fun i _ => L - (intOf i).toNat)
            case atStart => exact ⟨0, _, Nat.zero_le _, rfl, World.drewN_drewN _ _ _⟩
            case round =>
              obtain ⟨t, m, ht, rfl, rfl⟩ := hrel
              by_cases htl : t < L
              · have htL : (t : Int) < (L : Int) := Int.ofNat_lt.2 htl
                have ht0 : (0 : Int) ≤ (t : Int) := Int.natCast_nonneg t
                obtain ⟨b1, p1, x, rfl, ex, cx⟩ := byts_at Q1.out htl
                obtain ⟨b2, p2, y, rfl, ey, cy⟩ := byts_at Q2.out htl
                obtain ⟨b3, p3, z, rfl, ez, cz⟩ := byts_at Q3.out htl
                have hx := HX.out t (UInt8.ofNat j) htl
                rw [ex, ey, ez] at hx
                have hxy : bits .xor .u8 (x.toNat : Int) (y.toNat : Int) = (z.toNat : Int) := by rw [xor_byte, hx]
                have hzz : ((z.toNat : Int) != (z.toNat : Int)) = false := by simp
                clear hx ex ey ez
                go_wp2
                go_quiet (fail)
                go_wp2
                go_roundw
                case rel => exact ⟨t + 1, _, by omega, by go_num, rfl⟩
                case measure => simp [intOf]; omega
              · obtain rfl : t = L := by omega
                go_wp2
                go_roundw
                case rel => exact ⟨j + 1, _, by omega, by go_num, rfl⟩
                case measure => simp [intOf]; omega
          · obtain rfl : j = n := by omega
            go_wp2
            go_ret
            exact ⟨rfl, HBC.out.trans ((below_drewN wc m).mono HBC.out.size)⟩
end Go.Proofs.Ytoodeoglpdapiaa
