/-
  Walk of the law ExtentErases.
-/
import Derived.Test.YtggnklcjhbahhaaEn
namespace Go.Proofs.Ytggnklcjhbahhaa
open Go.RowKit Ex
set_option maxHeartbeats 400000
set_option maxRecDepth 100000

def erase1 (ids : List Int) (x : Int × Int) : Int × Int := if 0 < x.1 ∧ x.1 ∈ ids then (-1, 0) else x
theorem eraseB_eq (bs : List (Int × Int)) (ids : List Int) : eraseB bs ids = bs.map (erase1 ids) := rfl
theorem eraseB_len (bs : List (Int × Int)) (ids : List Int) : (eraseB bs ids).length = bs.length := by simp [eraseB]
theorem eraseB_at {bs : List (Int × Int)} {ids : List Int} {t : Nat} {x : Int × Int} (h : bs[t]? = some x) : (eraseB bs ids)[t]? = some (erase1 ids x) := by rw [eraseB_eq, List.getElem?_map, h]; rfl
theorem erase1_twice (ids : List Int) (x : Int × Int) : erase1 ids (erase1 ids x) = erase1 ids x := by
  unfold erase1
  split
  · simp
  · rfl
theorem eraseB_twice (bs : List (Int × Int)) (ids : List Int) : eraseB (eraseB bs ids) ids = eraseB bs ids := by
  rw [eraseB_eq, eraseB_eq, List.map_map]
  exact List.map_congr_left fun x _ => erase1_twice ids x
theorem erase_mem {bs : List (Int × Int)} {ids : List Int} {x : Int} (hx : 0 < x) : (∃ y ∈ eraseB bs ids, y.1 = x) ↔ (∃ y ∈ bs, y.1 = x) ∧ x ∉ ids := by
  constructor
  · rintro ⟨y, hy, rfl⟩
    rw [eraseB_eq] at hy
    obtain ⟨z, hz, rfl⟩ := List.mem_map.1 hy
    unfold erase1 at hx ⊢
    split at hx
    · simp at hx
    · rename_i h
      rw [if_neg h]
      exact ⟨⟨z, hz, rfl⟩, fun hm => h ⟨hx, hm⟩⟩
  · rintro ⟨⟨z, hz, rfl⟩, hn⟩
    refine ⟨erase1 ids z, by rw [eraseB_eq]; exact List.mem_map.2 ⟨z, hz, rfl⟩, ?_⟩
    unfold erase1
    rw [if_neg fun h => hn h.2]
theorem piece_byte {l : List Pc} (h : validL l = true) (x : Int) : (∃ p ∈ l, p.id = x) ↔ ∃ y ∈ eachL l, y.1 = x := by
  constructor
  · rintro ⟨p, hp, rfl⟩
    have h1 := (valid_iff.1 h).1.pos p hp
    refine ⟨(p.id, if 0 < p.id then p.fr + ((0 : Nat) : Int) else 0), List.mem_flatMap.2 ⟨p, hp, ?_⟩, rfl⟩
    exact List.mem_of_getElem? (eachP_get (i := 0) (by omega))
  · rintro ⟨y, hy, rfl⟩
    obtain ⟨p, hp, hy⟩ := List.mem_flatMap.1 hy
    refine ⟨p, hp, ?_⟩
    unfold eachP at hy
    obtain ⟨i, _, rfl⟩ := List.mem_map.1 hy
    rfl
theorem made_ids (l : List T8) : ∀ y ∈ eachL (madeL l), y.1 ≤ 4 := fun y hy => by
  have h := norm_form (l := rawL l) (fun p hp => .inr (by
    unfold rawL at hp
    obtain ⟨t, _, rfl⟩ := List.mem_map.1 hp
    exact pcT_right t)) (Nat.le_trans (raw_each l) (by decide))
  unfold madeL at hy
  rw [h.2] at hy
  obtain ⟨p, hp, hy⟩ := List.mem_flatMap.1 hy
  unfold eachP at hy
  obtain ⟨i, _, rfl⟩ := List.mem_map.1 hy
  unfold rawL at hp
  obtain ⟨t, _, rfl⟩ := List.mem_map.1 hp
  exact (idT_r t.1).2
theorem has_c {A : Option Addr} {n c : Nat} {l : List Int} {W0 : World} (h : Si 0 W0 A n c 1 l) (hl : n ≤ 4294967296) {x : Int} {d : Bool} (hd : decide (x ∈ l) = d) (W : World) (hb : Below W0.heap.size W0 W) :
    Calls Try.prog 25 #[.slice A n c, .int .i64 x] W fun e w' => e = .returned (.bool d) ∧ w' = W := by
  have := Has_any A n c l (by have := h.len; omega) hl x W (h.cells.cells.below hb)
  rw [hd] at this
  exact this
theorem sorted_len {l : List Int} (h : l.Pairwise (· < ·)) (h1 : ∀ x ∈ l, 0 < x ∧ x ≤ 4) : l.length ≤ 4 := by
  have hs : ∀ (l : List Int) (a : Int), l.Pairwise (· < ·) → (∀ x ∈ l, a < x ∧ x ≤ 4) → (l.length : Int) ≤ 4 - a ∨ l = [] := by
    intro l
    induction l with
    | nil => intro a _ _; exact .inr rfl
    | cons x l ih =>
      intro a hp hx
      obtain ⟨h1, h2⟩ := List.pairwise_cons.1 hp
      have hxx := hx x (by simp)
      rcases ih x h2 (fun y hy => ⟨h1 y hy, (hx y (by simp [hy])).2⟩) with h | h
      · left; simp only [List.length_cons]; omega
      · left; subst h; simp; omega
  rcases hs l 0 h h1 with h | h
  · omega
  · subst h; simp
theorem same2_c {w : World} {n c n2 c2 : Nat} {A A2 : Option Addr} {b : List Pc} (h : Sp 0 w A n c b) (h2 : Sp 0 w A2 n2 c2 b) (hl : b.length ≤ 4294967296) :
    Calls Try.prog 17 #[.slice A n c, .slice A2 n2 c2] w fun e w' => e = .returned (.bool true) ∧ Below w.heap.size w w' := by
  have h1 := Same_any A A2 n n2 c c2 b b (Sp.plen h) (Sp.plen h2) (by rw [← Sp.plen h]; exact hl) (by rw [← Sp.plen h2]; exact hl) w (Sp.pcs h) (Sp.pcs h2)
  simpa using h1

set_option maxHeartbeats 8000000 in
set_option maxRecDepth 20000 in
theorem lawErases_any {Env : World → Prop} (P : Prg Env) (S : SanOk Env) (A A2 : Option Addr) (n c n2 c2 : Nat) (l : List T8) (ids : List Int) (hn : l.length = n) (hl : n ≤ 9223372036854775807) (w : World) (hE : Env w) (hA : Trs w A l) (hI : Si 0 w A2 n2 c2 1 ids) :
    Calls Try.prog 6 #[.slice A n c, .slice A2 n2 c2] w fun e w' => e = .returned (.bool true) ∧ Below w.heap.size w w' := by
  have HS := Lib.hid (show ∀ W, Env W → Calls Try.prog 10 #[] W fun e w' => e = .returned (.bool true) ∧ Below W.heap.size W w' from S)
  have HP := Lib.hid P
  have HM := Lib.hid (fun W (hb : Below w.heap.size w W) => Made_any A n c l hn hl W (hA.below hb))
  have HI := Lib.hid hI
  have hbv := made_valid l
  have h4 := made_ids l
  obtain ⟨b, hb⟩ : ∃ b, madeL l = b := ⟨_, rfl⟩
  have hb72 := (made_form l).2
  rw [hb] at HM hbv hb72 h4
  have HBV := Lib.hid hbv
  have HB4 := Lib.hid h4
  have hl0 := hI.max
  have hl1 := hI.cap
  clear S P hA hn hb hbv hI h4
  by_cases h6 : 6 < n2
  · have h6' : (6 : Int) < (n2 : Int) := by omega
    go_enter Try.func6, Try.ntmps6
    go_wp2_with (go_at_call 10; with_reducible refine (HS.out _ hE).mono ?_; rintro e w2 ⟨rfl, hb2⟩)
    go_ret
    exact ⟨rfl, hb2⟩
  have h6' : ¬ (6 : Int) < (n2 : Int) := by omega
  have hn6 : n2 ≤ 6 := by omega
  clear hl0 hl1
  go_enter Try.func6, Try.ntmps6
  go_upto_region 5 with (first | (go_at_call 10; with_reducible refine (HS.out _ hE).mono ?_; rintro e w2 ⟨rfl, hb2⟩) | (go_at_call 11; with_reducible refine (HM.out _ hb2).mono ?_; rintro e w3 ⟨A3, m3, c3, rfl, hown3, hb3⟩))
  have hB3 := hb2.trans (hb3.mono hb2.size)
  have hE3 := HP.out.env hE hB3
  have HS3 : Hid (Sp 0 w3 A3 m3 c3 b) := Lib.hid ((Si.own hown3).mono (Nat.zero_le _))
  have HI3 := Lib.hid (HI.out.below hB3)
  have HER := Lib.hid (HP.out.erase A3 A2 m3 c3 n2 c2 b ids w3 hE3 HS3.out HBV.out HI3.out (by omega))
  have HB3 := Lib.hid hB3
  clear hown3 hb2 hb3 hB3
  go_upto_region 6 with (go_at_call 24; with_reducible refine HER.out.mono ?_; rintro e w5 ⟨A5, m5, c5, r, rfl, hS5, hr, he, hb5⟩)
  have hS5' := hS5.mono (Nat.zero_le _)
  have hlr : (eachL r).length = (eachL b).length := by rw [he, eraseB_len]
  have hrl := valid_len hr
  obtain ⟨L, hL⟩ : ∃ L, (eachL b).length = L := ⟨_, rfl⟩
  have HL := Lib.hid hL
  rw [hL] at hb72 hlr
  have HLR := Lib.hid hlr
  have HV5 := Lib.hid (valid_c hS5' (by omega) hr)
  have HZ5 := Lib.hid (size_c hS5' hr)
  rw [hlr] at HZ5
  have hz : ¬ (72 : Int) < (L : Int) := by omega
  have HS5 := Lib.hid hS5'
  have HS35 := Lib.hid (HS3.out.below hb5)
  have HI5 := Lib.hid (HI3.out.below hb5)
  have hE5 := HP.out.env hE3 hb5
  have HEb := Lib.hid (each_c HS35.out HBV.out)
  have HEr := Lib.hid (each_c HS5.out hr)
  have HRE := Lib.hid he
  have HRV := Lib.hid hr
  have HB5 := Lib.hid (HB3.out.trans (hb5.mono HB3.out.size))
  clear HER hS5 hS5' hr he hb5 hrl hlr hL
  go_upto_region 11 with (first
    | (go_at_call 14; with_reducible refine (HV5.out _ (Below.refl _ _)).mono ?_; rintro e w6 ⟨rfl, hb6⟩; have H6 := Lib.hid hb6; clear hb6)
    | (go_at_call 15; with_reducible refine (HZ5.out _ H6.out).mono ?_; rintro e w7 ⟨rfl, hww⟩; subst hww)
    | (go_at_call 12; with_reducible refine (HEb.out _ H6.out).mono ?_; rintro e w8 ⟨A8, m8, c8, rfl, hown8, hb8⟩; have hl8 := own_blen hown8; rw [HL.out] at hl8; subst hl8; have HO8 := Lib.hid hown8; have H8 := Lib.hid (H6.out.trans (hb8.mono H6.out.size)); clear hown8 hb8)
    | (go_at_call 12; with_reducible refine (HEr.out _ H8.out).mono ?_; rintro e w9 ⟨A9, m9, c9, rfl, hown9, hb9⟩; have hl9 := own_blen hown9; rw [HLR.out] at hl9; subst hl9; have HO9 := Lib.hid hown9; have HO89 := Lib.hid (own_keep HO8.out hb9); have H9 := Lib.hid (H8.out.trans (hb9.mono H8.out.size)); clear hown9 hb9))
  have HT8 := Lib.hid (Bts.of_own HO89.out)
  have HT9 := Lib.hid (Bts.of_own HO9.out)
  have HI9 := Lib.hid (HI5.out.below H9.out)
  clear hz
  go_wp2
  go_loopw [10] (fun i wz => ∃ t : Nat, t ≤ L ∧ i = .int .i64 t ∧ Below w9.heap.size w9 wz) (fun i _ => L - (intOf i).toNat)
  case atStart => exact ⟨0, Nat.zero_le _, rfl, Below.refl _ _⟩
  case round =>
    obtain ⟨t, ht, rfl, hbw⟩ := hrel
    have hbs := hbw.size
    by_cases htn : t < L
    · have htn' : (t : Int) < (L : Int) := Int.ofNat_lt.2 htn
      have t0 : (0 : Int) ≤ (t : Int) := Int.natCast_nonneg t
      have gA := guardSameBytes
      have HBW := Lib.hid hbw
      obtain ⟨x, hx⟩ : ∃ x, (eachL b)[t]? = some x := ⟨_, List.getElem?_eq_getElem (by rw [HL.out]; exact htn)⟩
      have hy : (eachL r)[t]? = some (erase1 ids x) := by rw [HRE.out]; exact eraseB_at hx
      obtain ⟨g8, o8, rfl, _, a0, a1⟩ := (HT8.out.below hbw).at_ hx
      by_cases h0 : 0 < x.1
      · by_cases hm : x.1 ∈ ids
        · rw [show erase1 ids x = (-1, 0) from if_pos ⟨h0, hm⟩] at hy
          obtain ⟨g9, o9, rfl, _, d0, d1⟩ := (HT9.out.below hbw).at_ hy
          dsimp only at d0 d1
          have HH := Lib.hid (has_c (HI9.out.below ((HBW.out.alloc hbs (.cells #[.int .i64 x.1, .int .i64 x.2] 32)))) (by omega) (decide_eq_true hm))
          have hwB : Below wr.heap.size wr (wr.alloc (.cells #[.int .i64 (-1), .int .i64 0] 32)) := (Below.refl _ wr).alloc (Nat.le_refl _) _
          have hne := neqSameBytes (-1, 0) (-1, 0)
          rw [show decide (((-1, 0) : Int × Int) = (-1, 0)) = true from by simp] at hne
          clear hy
          have hwA : Below wr.heap.size wr (wr.alloc (.cells #[.int .i64 x.1, .int .i64 x.2] 32)) := (Below.refl _ wr).alloc (Nat.le_refl _) _
          have d0' := (hwB.cell (block_lt_of_cell d0)).trans d0
          have d1' := (hwB.cell (block_lt_of_cell d1)).trans d1
          unfold bv at hne
          clear hx d0 d1 hbw
          go_wp2_with (go_at_call 25; with_reducible refine (HH.out _ (Below.refl _ _)).mono ?_; rintro e w20 ⟨rfl, hww⟩; subst hww)
          go_quiet (fail)
          go_wp2
          go_roundw
          case rel => exact ⟨t + 1, by omega, by go_num, (HBW.out.alloc hbs _).trans ((below_drewN _ _).mono (by simp; omega))⟩
          case measure => simp [intOf]; omega
        · rw [show erase1 ids x = x from if_neg fun h => hm h.2] at hy
          obtain ⟨g9, o9, rfl, _, d0, d1⟩ := (HT9.out.below hbw).at_ hy
          have HH := Lib.hid (has_c (HI9.out.below ((HBW.out.alloc hbs (.cells #[.int .i64 x.1, .int .i64 x.2] 32)))) (by omega) (decide_eq_false hm))
          have hwB : Below wr.heap.size wr (wr.alloc (.cells #[.int .i64 x.1, .int .i64 x.2] 32)) := (Below.refl _ wr).alloc (Nat.le_refl _) _
          have hne := neqSameBytes x x
          rw [show decide (x = x) = true from by simp] at hne
          clear hy
          have hwA : Below wr.heap.size wr (wr.alloc (.cells #[.int .i64 x.1, .int .i64 x.2] 32)) := (Below.refl _ wr).alloc (Nat.le_refl _) _
          have d0' := (hwB.cell (block_lt_of_cell d0)).trans d0
          have d1' := (hwB.cell (block_lt_of_cell d1)).trans d1
          unfold bv at hne
          clear hx d0 d1 hbw
          go_wp2_with (go_at_call 25; with_reducible refine (HH.out _ (Below.refl _ _)).mono ?_; rintro e w20 ⟨rfl, hww⟩; subst hww)
          go_quiet (fail)
          go_wp2
          go_roundw
          case rel => exact ⟨t + 1, by omega, by go_num, (HBW.out.alloc hbs _).trans ((below_drewN _ _).mono (by simp; omega))⟩
          case measure => simp [intOf]; omega
      · rw [show erase1 ids x = x from if_neg fun h => h0 h.1] at hy
        obtain ⟨g9, o9, rfl, _, d0, d1⟩ := (HT9.out.below hbw).at_ hy
        have hwB : Below wr.heap.size wr (wr.alloc (.cells #[.int .i64 x.1, .int .i64 x.2] 32)) := (Below.refl _ wr).alloc (Nat.le_refl _) _
        have hne := neqSameBytes x x
        rw [show decide (x = x) = true from by simp] at hne
        clear hy
        have hwA : Below wr.heap.size wr (wr.alloc (.cells #[.int .i64 x.1, .int .i64 x.2] 32)) := (Below.refl _ wr).alloc (Nat.le_refl _) _
        have d0' := (hwB.cell (block_lt_of_cell d0)).trans d0
        have d1' := (hwB.cell (block_lt_of_cell d1)).trans d1
        unfold bv at hne
        clear hx d0 d1 hbw
        go_wp2
        go_quiet (fail)
        go_wp2
        go_roundw
        case rel => exact ⟨t + 1, by omega, by go_num, (HBW.out.alloc hbs _).trans ((below_drewN _ _).mono (by simp; omega))⟩
        case measure => simp [intOf]; omega
    · obtain rfl : t = L := by omega
      have h5W := H9.out.trans (hbw.mono H9.out.size)
      have H5W := Lib.hid h5W
      have hEW := HP.out.env hE5 h5W
      have HU1 := Lib.hid (HP.out.used A3 m3 c3 b wr hEW (HS35.out.below h5W) HBV.out)
      have HU2 := Lib.hid (fun W (hb : Below wr.heap.size wr W) => HP.out.used A5 m5 c5 r W (HP.out.env hEW hb) ((HS5.out.below h5W).below hb) HRV.out)
      clear h5W hbw hEW
      go_upto_region 20 with (first | (go_at_call 26; with_reducible refine HU1.out.mono ?_; rintro e w10 ⟨A10, m10, c10, us1, rfl, hI10, hp1, hu1, hb10⟩) | (go_at_call 26; with_reducible refine (HU2.out _ hb10).mono ?_; rintro e w11 ⟨A11, m11, c11, us2, rfl, hI11, hp2, hu2, hb11⟩))
      have hin1 : ∀ x ∈ us1, 0 < x ∧ x ≤ 4 := fun x hx => by
        obtain ⟨h0, h1⟩ := (hu1 x).1 hx
        obtain ⟨y, hy, hyx⟩ := (piece_byte HBV.out x).1 h1
        exact ⟨h0, by rw [← hyx]; exact HB4.out y hy⟩
      have hiff : ∀ x, 0 < x → (x ∈ us2 ↔ x ∈ us1 ∧ x ∉ ids) := fun x h0 => by
        rw [hu2, hu1, piece_byte HRV.out, piece_byte HBV.out, HRE.out, erase_mem h0]
        exact ⟨fun h => ⟨⟨h0, h.2.1⟩, h.2.2⟩, fun h => ⟨h0, h.1.2, h.2⟩⟩
      have hin2 : ∀ x ∈ us2, 0 < x ∧ x ≤ 4 := fun x hx => by
        have h0 := ((hu2 x).1 hx).1
        exact hin1 x ((hiff x h0).1 hx).1
      have l1 := sorted_len hp1 hin1
      have l2 := sorted_len hp2 hin2
      have l3 := hI10.len
      have l4 := hI11.len
      have H511 := Lib.hid (H5W.out.trans ((hb10.trans (hb11.mono hb10.size)).mono H5W.out.size))
      have HA1 := Lib.hid (fun (x : Int) (d : Bool) (hd : decide (x ∈ us1) = d) => has_c ((hI10.mono (Nat.zero_le _)).below hb11) (by omega) hd)
      have HA2 := Lib.hid (fun (x : Int) (d : Bool) (hd : decide (x ∈ us2) = d) => has_c (hI11.mono (Nat.zero_le _)) (by omega) hd)
      have HA3 := Lib.hid (fun (x : Int) (d : Bool) (hd : decide (x ∈ ids) = d) => has_c (HI5.out.below H511.out) (by omega) hd)
      have HIFF := Lib.hid hiff
      have HIN2 := Lib.hid hin2
      have HPW := Lib.hid hp2
      have HC11 := Lib.hid hI11.cells.cells
      have hm11 : m11 ≤ 4 := by omega
      have HL11 := Lib.hid (show us2.length = m11 by omega)
      clear hin1 hiff hin2 l1 l2 l3 l4 hp1 hp2 hu1 hu2 hI10 hI11 hb10 hb11 HU1 HU2
      go_wp2
      go_loopw [14] (fun i wz => ∃ k : Nat, 1 ≤ k ∧ k ≤ 6 ∧ i = .int .i64 k ∧ Below w11.heap.size w11 wz) (fun i _ => 6 - (intOf i).toNat)
      case atStart => exact ⟨1, by omega, by omega, rfl, Below.refl _ _⟩
      case round =>
        obtain ⟨k, hk1, hk2, rfl, hbw⟩ := hrel
        have hbs := hbw.size
        have HBW := Lib.hid hbw
        by_cases hk : k < 6
        · have hk' : (k : Int) < 6 := by omega
          have k0 : 0 < (k : Int) := by omega
          have hA := HIFF.out k k0
          clear hbw
          by_cases hB : (k : Int) ∈ us1
          · have HQ1 := Lib.hid (HA1.out k true (decide_eq_true hB))
            by_cases hD : (k : Int) ∈ ids
            · have HQ2 := Lib.hid (HA2.out k false (decide_eq_false fun h => (hA.1 h).2 hD))
              have HQ3 := Lib.hid (HA3.out k true (decide_eq_true hD))
              clear hA hB hD
              go_wp2_with (first | (go_at_call 25; with_reducible refine (HQ2.out _ HBW.out).mono ?_; rintro e w20 ⟨rfl, hww⟩; subst hww) | (go_at_call 25; with_reducible refine (HQ1.out _ HBW.out).mono ?_; rintro e w20 ⟨rfl, hww⟩; subst hww) | (go_at_call 25; with_reducible refine (HQ3.out _ HBW.out).mono ?_; rintro e w20 ⟨rfl, hww⟩; subst hww))
              go_roundw
              case rel => exact ⟨k + 1, by omega, by omega, by go_num, HBW.out⟩
              case measure => simp [intOf]; omega
            · have HQ2 := Lib.hid (HA2.out k true (decide_eq_true (hA.2 ⟨hB, hD⟩)))
              have HQ3 := Lib.hid (HA3.out k false (decide_eq_false hD))
              clear hA hB hD
              go_wp2_with (first | (go_at_call 25; with_reducible refine (HQ2.out _ HBW.out).mono ?_; rintro e w20 ⟨rfl, hww⟩; subst hww) | (go_at_call 25; with_reducible refine (HQ1.out _ HBW.out).mono ?_; rintro e w20 ⟨rfl, hww⟩; subst hww) | (go_at_call 25; with_reducible refine (HQ3.out _ HBW.out).mono ?_; rintro e w20 ⟨rfl, hww⟩; subst hww))
              go_roundw
              case rel => exact ⟨k + 1, by omega, by omega, by go_num, HBW.out⟩
              case measure => simp [intOf]; omega
          · have HQ1 := Lib.hid (HA1.out k false (decide_eq_false hB))
            have HQ2 := Lib.hid (HA2.out k false (decide_eq_false fun h => hB (hA.1 h).1))
            clear hA hB
            go_wp2_with (first | (go_at_call 25; with_reducible refine (HQ2.out _ HBW.out).mono ?_; rintro e w20 ⟨rfl, hww⟩; subst hww) | (go_at_call 25; with_reducible refine (HQ1.out _ HBW.out).mono ?_; rintro e w20 ⟨rfl, hww⟩; subst hww))
            go_roundw
            case rel => exact ⟨k + 1, by omega, by omega, by go_num, HBW.out⟩
            case measure => simp [intOf]; omega
        · obtain rfl : k = 6 := by omega
          clear hbw hk hk1 hk2
          have hk' : ¬ (6 : Int) < 6 := by omega
          obtain ⟨wo, hwo⟩ : ∃ W, W = wr := ⟨_, rfl⟩
          subst hwo
          go_wp2
          go_loopw [15] (fun i wz => ∃ s : Nat, s ≤ m11 ∧ i = .int .i64 s ∧ Below w11.heap.size w11 wz) (fun i _ => m11 - (intOf i).toNat)
          case atStart => exact ⟨0, Nat.zero_le _, rfl, HBW.out⟩
          case round =>
            clear HBW
            obtain ⟨s, hs, rfl, hbw⟩ := hrel
            have hbs := hbw.size
            have HBW := Lib.hid hbw
            by_cases hsm : s < m11
            · have hsm' : (s : Int) < (m11 : Int) := Int.ofNat_lt.2 hsm
              obtain ⟨a, hx⟩ : ∃ a, us2[s]? = some a := ⟨_, List.getElem?_eq_getElem (by rw [HL11.out]; exact hsm)⟩
              have hne0 : us2 ≠ [] := fun e => by rw [e] at hx; simp at hx
              obtain ⟨g, o, hA11, hg, hcc⟩ := HC11.out hne0
              subst hA11
              have ha := HIN2.out a (List.mem_of_getElem? hx)
              have ha1 : ¬ a < 1 := by omega
              have ha2 : ¬ 4 < a := by omega
              have q1 := (hbw.cell (p := ⟨g, o + s, none⟩) hg).trans (hcc s a hx)
              have s0 : (0 : Int) ≤ (s : Int) := Int.natCast_nonneg s
              by_cases hs0 : s = 0
              · subst hs0
                have q1' : wr.cell? ⟨g, o, none⟩ = some (.int .i64 a) := q1
                have hd1 : decide (a < 1) = false := decide_eq_false ha1
                have hd2 : decide (4 < a) = false := decide_eq_false ha2
                have q1d : wr.drew.cell? ⟨g, o, none⟩ = some (.int .i64 a) := ((below_drewN wr 1).cell (block_lt_of_cell q1')).trans q1'
                have HD1 := Lib.hid (HBW.out.trans ((below_drewN wr 1).mono HBW.out.size))
                clear hcc ha q1 s0 hs hsm hbw hne0 hx
                go_wp2
                refine wp_region_held_drew (S := (fun W' => W'.cell? ⟨g, o, none⟩ = some (.int .i64 a))) (by kernel_rfl) (by exact q1d) (fun hHeld => ?_)
                refine wpAnyH_take (i := 0) (v := ?_) rfl (by kernel_rfl) (by kernel_rfl) (by kernel_rfl) (fun _ _ _ h => h) (Or.inl ⟨by rfl, ?_⟩) (by assumption) ?_
                rotate_left
                · ((intro w' hSw); (try dsimp only at hSw); go_simp; (try simp only [hd1, hd2]); all_goals (with_reducible rfl))
                simp only [Act.put, List.getElem_toArray, List.getElem_cons_zero, List.setIfInBounds_toArray, List.set_cons_zero, List.set_cons_succ]
                refine wpAnyH_take (i := 1) (v := ?_) rfl (by kernel_rfl) (by kernel_rfl) (by kernel_rfl) (fun _ _ _ h => h) (Or.inl ⟨by rfl, ?_⟩) (by assumption) ?_
                rotate_left
                · ((intro w' hSw); (try dsimp only at hSw); go_simp; (try simp only [hd1, hd2]); all_goals (with_reducible rfl))
                simp only [Act.put, List.getElem_toArray, List.getElem_cons_succ, List.getElem_cons_zero, List.setIfInBounds_toArray, List.set_cons_zero, List.set_cons_succ]
                refine wpAnyH_take (i := 2) (v := ?_) rfl (by kernel_rfl) (by kernel_rfl) (by kernel_rfl) (fun _ _ _ h => h) (Or.inl ⟨by rfl, ?_⟩) (by assumption) ?_
                rotate_left
                · ((intro w' hSw); (try dsimp only at hSw); go_simp; (try simp only [hd1, hd2]); all_goals (with_reducible rfl))
                simp only [Act.put, List.getElem_toArray, List.getElem_cons_succ, List.getElem_cons_zero, List.setIfInBounds_toArray, List.set_cons_zero, List.set_cons_succ]
                refine wpAnyH_take (i := 3) (v := ?_) rfl (by kernel_rfl) (by kernel_rfl) (by kernel_rfl) (fun _ _ _ h => h) (Or.inl ⟨by rfl, ?_⟩) (by assumption) ?_
                rotate_left
                · ((intro w' hSw); (try dsimp only at hSw); go_simp; (try simp only [hd1, hd2]); all_goals (with_reducible rfl))
                simp only [Act.put, List.getElem_toArray, List.getElem_cons_succ, List.getElem_cons_zero, List.setIfInBounds_toArray, List.set_cons_zero, List.set_cons_succ]
                refine wpAnyH_take (i := 4) (v := ?_) rfl (by kernel_rfl) (by kernel_rfl) (by kernel_rfl) (fun _ _ _ h => h) (Or.inl ⟨by rfl, ?_⟩) (by assumption) ?_
                rotate_left
                · ((intro w' hSw); (try dsimp only at hSw); go_simp; (try simp only [hd1, hd2]); all_goals (with_reducible rfl))
                simp only [Act.put, List.getElem_toArray, List.getElem_cons_succ, List.getElem_cons_zero, List.setIfInBounds_toArray, List.set_cons_zero, List.set_cons_succ]
                refine wpAnyH_take (i := 5) (v := ?_) rfl (by kernel_rfl) (by kernel_rfl) (by kernel_rfl) (fun _ _ _ h => h) (Or.inl ⟨by rfl, ?_⟩) (by assumption) ?_
                rotate_left
                · ((intro w' hSw); (try dsimp only at hSw); go_simp; (try simp only [hd1, hd2]); all_goals (with_reducible rfl))
                simp only [Act.put, List.getElem_toArray, List.getElem_cons_succ, List.getElem_cons_zero, List.setIfInBounds_toArray, List.set_cons_zero, List.set_cons_succ]
                refine wpAnyH_take (i := 6) (v := ?_) rfl (by kernel_rfl) (by kernel_rfl) (by kernel_rfl) (fun _ _ _ h => h) (Or.inl ⟨by rfl, ?_⟩) (by assumption) ?_
                rotate_left
                · ((intro w' hSw); (try dsimp only at hSw); go_simp; (try simp only [hd1, hd2]); all_goals (with_reducible rfl))
                simp only [Act.put, List.getElem_toArray, List.getElem_cons_succ, List.getElem_cons_zero, List.setIfInBounds_toArray, List.set_cons_zero, List.set_cons_succ]
                refine wpAnyH_take (i := 7) (v := ?_) rfl (by kernel_rfl) (by kernel_rfl) (by kernel_rfl) (fun _ _ _ h => h) (Or.inl ⟨by rfl, ?_⟩) (by assumption) ?_
                rotate_left
                · ((intro w' hSw); (try dsimp only at hSw); go_simp; (try simp only [hd1, hd2]); all_goals (with_reducible rfl))
                simp only [Act.put, List.getElem_toArray, List.getElem_cons_succ, List.getElem_cons_zero, List.setIfInBounds_toArray, List.set_cons_zero, List.set_cons_succ]
                refine wpAnyH_take (i := 8) (v := ?_) rfl (by kernel_rfl) (by kernel_rfl) (by kernel_rfl) (fun _ _ _ h => h) (Or.inl ⟨by rfl, ?_⟩) (by assumption) ?_
                rotate_left
                · ((intro w' hSw); (try dsimp only at hSw); go_simp; (try simp only [hd1, hd2]); all_goals (with_reducible rfl))
                simp only [Act.put, List.getElem_toArray, List.getElem_cons_succ, List.getElem_cons_zero, List.setIfInBounds_toArray, List.set_cons_zero, List.set_cons_succ]
                refine wpAnyH_take (i := 9) (v := ?_) rfl (by kernel_rfl) (by kernel_rfl) (by kernel_rfl) (fun _ _ _ h => h) (Or.inl ⟨by rfl, ?_⟩) (by assumption) ?_
                rotate_left
                · ((intro w' hSw); (try dsimp only at hSw); go_simp; (try simp only [hd1, hd2]); all_goals (with_reducible rfl))
                simp only [Act.put, List.getElem_toArray, List.getElem_cons_succ, List.getElem_cons_zero, List.setIfInBounds_toArray, List.set_cons_zero, List.set_cons_succ]
                refine wpAnyH_take (i := 10) (v := ?_) rfl (by kernel_rfl) (by kernel_rfl) (by kernel_rfl) (fun _ _ _ h => h) (Or.inl ⟨by rfl, ?_⟩) (by assumption) ?_
                rotate_left
                · ((intro w' hSw); (try dsimp only at hSw); go_simp; (try simp only [hd1, hd2]); all_goals (with_reducible rfl))
                simp only [Act.put, List.getElem_toArray, List.getElem_cons_succ, List.getElem_cons_zero, List.setIfInBounds_toArray, List.set_cons_zero, List.set_cons_succ]
                refine wpAnyH_take (i := 11) (v := ?_) rfl (by kernel_rfl) (by kernel_rfl) (by kernel_rfl) (fun _ _ _ h => h) (Or.inl ⟨by rfl, ?_⟩) (by assumption) ?_
                rotate_left
                · ((intro w' hSw); (try dsimp only at hSw); go_simp; (try simp only [hd1, hd2]); all_goals (with_reducible rfl))
                simp only [Act.put, List.getElem_toArray, List.getElem_cons_succ, List.getElem_cons_zero, List.setIfInBounds_toArray, List.set_cons_zero, List.set_cons_succ]
                refine wpAnyH_take (i := 12) (v := ?_) rfl (by kernel_rfl) (by kernel_rfl) (by kernel_rfl) (fun _ _ _ h => h) (Or.inl ⟨by rfl, ?_⟩) (by assumption) ?_
                rotate_left
                · ((intro w' hSw); (try dsimp only at hSw); go_simp; (try simp only [hd1, hd2]); all_goals (with_reducible rfl))
                simp only [Act.put, List.getElem_toArray, List.getElem_cons_succ, List.getElem_cons_zero, List.setIfInBounds_toArray, List.set_cons_zero, List.set_cons_succ]
                refine wpAnyH_take (i := 13) (v := ?_) rfl (by kernel_rfl) (by kernel_rfl) (by kernel_rfl) (fun _ _ _ h => h) (Or.inl ⟨by rfl, ?_⟩) (by assumption) ?_
                rotate_left
                · ((intro w' hSw); (try dsimp only at hSw); go_simp; (try simp only [hd1, hd2]); all_goals (with_reducible rfl))
                simp only [Act.put, List.getElem_toArray, List.getElem_cons_succ, List.getElem_cons_zero, List.setIfInBounds_toArray, List.set_cons_zero, List.set_cons_succ]
                refine wpAnyH_take (i := 14) (v := ?_) rfl (by kernel_rfl) (by kernel_rfl) (by kernel_rfl) (fun _ _ _ h => h) (Or.inl ⟨by rfl, ?_⟩) (by assumption) ?_
                rotate_left
                · ((intro w' hSw); (try dsimp only at hSw); go_simp; (try simp only [hd1, hd2]); all_goals (with_reducible rfl))
                simp only [Act.put, List.getElem_toArray, List.getElem_cons_succ, List.getElem_cons_zero, List.setIfInBounds_toArray, List.set_cons_zero, List.set_cons_succ]
                refine wpAnyH_take (i := 15) (v := ?_) rfl (by kernel_rfl) (by kernel_rfl) (by kernel_rfl) (fun _ _ _ h => h) (Or.inl ⟨by rfl, ?_⟩) (by assumption) ?_
                rotate_left
                · ((intro w' hSw); (try dsimp only at hSw); go_simp; (try simp only [hd1, hd2]); all_goals (with_reducible rfl))
                simp only [Act.put, List.getElem_toArray, List.getElem_cons_succ, List.getElem_cons_zero, List.setIfInBounds_toArray, List.set_cons_zero, List.set_cons_succ]
                refine wpAnyH_take (i := 16) (v := ?_) rfl (by kernel_rfl) (by kernel_rfl) (by kernel_rfl) (fun _ _ _ h => h) (Or.inr ⟨by rfl, by rfl⟩) (by assumption) ?_
                simp only [Act.put, List.getElem_toArray, List.getElem_cons_succ, List.getElem_cons_zero, List.setIfInBounds_toArray, List.set_cons_zero, List.set_cons_succ]
                refine wpAnyH_take (i := 17) (v := ?_) rfl (by kernel_rfl) (by kernel_rfl) (by kernel_rfl) (fun _ _ _ h => h) (Or.inr ⟨by rfl, by rfl⟩) (by assumption) ?_
                simp only [Act.put, List.getElem_toArray, List.getElem_cons_succ, List.getElem_cons_zero, List.setIfInBounds_toArray, List.set_cons_zero, List.set_cons_succ]
                refine wpAnyH_take (i := 18) (v := ?_) rfl (by kernel_rfl) (by kernel_rfl) (by kernel_rfl) (fun _ _ _ h => h) (Or.inr ⟨by rfl, by rfl⟩) (by assumption) ?_
                simp only [Act.put, List.getElem_toArray, List.getElem_cons_succ, List.getElem_cons_zero, List.setIfInBounds_toArray, List.set_cons_zero, List.set_cons_succ]
                refine wpAnyH_take (i := 19) (v := ?_) rfl (by kernel_rfl) (by kernel_rfl) (by kernel_rfl) (fun _ _ _ h => h) (Or.inr ⟨by rfl, by rfl⟩) (by assumption) ?_
                simp only [Act.put, List.getElem_toArray, List.getElem_cons_succ, List.getElem_cons_zero, List.setIfInBounds_toArray, List.set_cons_zero, List.set_cons_succ]
                refine wpAnyH_take (i := 20) (v := ?_) rfl (by kernel_rfl) (by kernel_rfl) (by kernel_rfl) (fun _ _ _ h => h) (Or.inr ⟨by rfl, by rfl⟩) (by assumption) ?_
                simp only [Act.put, List.getElem_toArray, List.getElem_cons_succ, List.getElem_cons_zero, List.setIfInBounds_toArray, List.set_cons_zero, List.set_cons_succ]
                refine wpAnyH_take (i := 21) (v := ?_) rfl (by kernel_rfl) (by kernel_rfl) (by kernel_rfl) (fun _ _ _ h => h) (Or.inr ⟨by rfl, by rfl⟩) (by assumption) ?_
                simp only [Act.put, List.getElem_toArray, List.getElem_cons_succ, List.getElem_cons_zero, List.setIfInBounds_toArray, List.set_cons_zero, List.set_cons_succ]
                refine wpAnyH_take (i := 22) (v := ?_) rfl (by kernel_rfl) (by kernel_rfl) (by kernel_rfl) (fun _ _ _ h => h) (Or.inr ⟨by rfl, by rfl⟩) (by assumption) ?_
                simp only [Act.put, List.getElem_toArray, List.getElem_cons_succ, List.getElem_cons_zero, List.setIfInBounds_toArray, List.set_cons_zero, List.set_cons_succ]
                refine wpAnyH_take (i := 23) (v := ?_) rfl (by kernel_rfl) (by kernel_rfl) (by kernel_rfl) (fun _ _ _ h => h) (Or.inr ⟨by rfl, by rfl⟩) (by assumption) ?_
                simp only [Act.put, List.getElem_toArray, List.getElem_cons_succ, List.getElem_cons_zero, List.setIfInBounds_toArray, List.set_cons_zero, List.set_cons_succ]
                refine wpAnyH_take (i := 24) (v := ?_) rfl (by kernel_rfl) (by kernel_rfl) (by kernel_rfl) (fun _ _ _ h => h) (Or.inr ⟨by rfl, by rfl⟩) (by assumption) ?_
                simp only [Act.put, List.getElem_toArray, List.getElem_cons_succ, List.getElem_cons_zero, List.setIfInBounds_toArray, List.set_cons_zero, List.set_cons_succ]
                refine wpAnyH_take (i := 25) (v := ?_) rfl (by kernel_rfl) (by kernel_rfl) (by kernel_rfl) (fun _ _ _ h => h) (Or.inr ⟨by rfl, by rfl⟩) (by assumption) ?_
                simp only [Act.put, List.getElem_toArray, List.getElem_cons_succ, List.getElem_cons_zero, List.setIfInBounds_toArray, List.set_cons_zero, List.set_cons_succ]
                refine wpAnyH_take (i := 26) (v := ?_) rfl (by kernel_rfl) (by kernel_rfl) (by kernel_rfl) (fun _ _ _ h => h) (Or.inl ⟨by rfl, ?_⟩) (by assumption) ?_
                rotate_left
                · ((intro w' hSw); (try dsimp only at hSw); go_simp; (try simp only [hd1, hd2]); all_goals (with_reducible rfl))
                simp only [Act.put, List.getElem_toArray, List.getElem_cons_succ, List.getElem_cons_zero, List.setIfInBounds_toArray, List.set_cons_zero, List.set_cons_succ]
                refine wpAnyH_take (i := 27) (v := ?_) rfl (by kernel_rfl) (by kernel_rfl) (by kernel_rfl) (fun _ _ _ h => h) (Or.inl ⟨by rfl, ?_⟩) (by assumption) ?_
                rotate_left
                · ((intro w' hSw); (try dsimp only at hSw); go_simp; (try simp only [hd1, hd2]); all_goals (with_reducible rfl))
                simp only [Act.put, List.getElem_toArray, List.getElem_cons_succ, List.getElem_cons_zero, List.setIfInBounds_toArray, List.set_cons_zero, List.set_cons_succ]
                refine wpAnyH_done (by kernel_rfl) ?_ _
                go_wp2
                go_roundw
                case rel => exact ⟨1, by omega, by go_num, HD1.out⟩
                case measure => simp [intOf]; omega
              · obtain ⟨m, hm⟩ : ∃ m, m + 1 = s := ⟨s - 1, by omega⟩
                have hkm : (s : Int) - 1 = (m : Int) := by omega
                have hs1 : (0 : Int) < (s : Int) := by omega
                have k00 : decide ((0 : Int) < (s : Int)) = true := decide_eq_true (by omega)
                have k01 : decide (0 < s) = true := decide_eq_true (by omega)
                have hmw : IntKind.i64.wrap (m : Int) = (m : Int) := IntWalk.i64_in _ (by omega)
                have m0 : (0 : Int) ≤ (m : Int) := Int.natCast_nonneg m
                have mm : (m : Int) < (m11 : Int) := by omega
                obtain ⟨a', hx'⟩ : ∃ a, us2[m]? = some a := ⟨_, List.getElem?_eq_getElem (by rw [HL11.out]; omega)⟩
                have q2 := (hbw.cell (p := ⟨g, o + m, none⟩) hg).trans (hcc m a' hx')
                have hlt : a' < a := by
                  obtain ⟨i1, e1⟩ := List.getElem?_eq_some_iff.1 hx'
                  obtain ⟨i2, e2⟩ := List.getElem?_eq_some_iff.1 hx
                  have := List.pairwise_iff_getElem.1 HPW.out m s i1 i2 (by omega)
                  rw [e1, e2] at this
                  exact this
                have hlt' : ¬ a ≤ a' := by omega
                clear hcc hx' ha hs0 hm
                clear hbw hne0 hx
                go_wp2
                go_quiet (fail)
                go_wp2
                go_roundw
                case rel => exact ⟨s + 1, by omega, by go_num, HBW.out.trans ((below_drewN _ _).mono HBW.out.size)⟩
                case measure => simp [intOf]; omega
            · obtain rfl : s = m11 := by omega
              have h5X := H511.out.trans (hbw.mono H511.out.size)
              have hEX := HP.out.env hE5 h5X
              have HSX := Lib.hid (HS5.out.below h5X)
              have HER := Lib.hid (HP.out.erase A5 A2 m5 c5 n2 c2 r ids wr hEX HSX.out HRV.out (HI5.out.below h5X) (by omega))
              have H0X := Lib.hid (HB5.out.trans (h5X.mono HB5.out.size))
              have HRL := Lib.hid (show r.length ≤ 4294967296 from by have := valid_len HRV.out; omega)
              clear h5X hEX hbw
              go_wp2_with (first | (go_at_call 24; with_reducible refine HER.out.mono ?_; rintro e w22 ⟨A22, m22, c22, r3, rfl, hS22, hr3, he3, hb22⟩; have hq := valid_eq hr3 HRV.out (by rw [he3, HRE.out, eraseB_twice]); subst hq; have HSM := Lib.hid (same2_c (Si.mono hS22 (Nat.zero_le _)) (HSX.out.below hb22) HRL.out); have H022 := Lib.hid (H0X.out.trans (hb22.mono H0X.out.size)); clear hS22 hr3 he3 hb22) | (go_at_call 17; with_reducible refine HSM.out.mono ?_; rintro e w23 ⟨rfl, hb23⟩))
              go_ret
              exact ⟨rfl, H022.out.trans (hb23.mono H022.out.size)⟩
end Go.Proofs.Ytggnklcjhbahhaa
