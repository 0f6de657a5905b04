/-
  Walk of the law NameLimits: it returns true for every three bytes. The world must hold the program's table of kinds.
-/
import Derived.Test.YtdjiiemimbdklaaDoorQ
import Derived.Test.YtdjiiemimbdklaaDoorM
import Derived.Test.YtdjiiemimbdklaaDoorPr
import Derived.RegionTactic
import Derived.BigRegion
namespace Go.Proofs.YtdjiiemimbdklaaDoor
open Go.RowKit Pl
set_option maxHeartbeats 400000

theorem field_err (A : Option Addr) (n c : Nat) (e : Int) (W : World) : (Instr.field 32 (.agg #[.slice A n c, .int .i64 e]) 1).run Tryd.prog W = .ok (.int .i64 e) W := by kernel_rfl
theorem conv1d (b : UInt8) (W : World) :
    (convert 23 9 (.slice (some ⟨W.heap.size, 0, none⟩) 1 1)).run Tryd.prog (W.alloc (.cells #[.int .u8 b.toNat] 5)).drew = .ok (.string (mk [b])) (W.alloc (.cells #[.int .u8 b.toNat] 5)).drew := by
  refine run_convert_bytes_back _ 23 9 5 ⟨W.heap.size, 0, none⟩ 1 [b] Tryd.underlying23 Tryd.underlying5 Tryd.underlying9 (fun j hj => ?_)
  have : j = 0 := by simpa using hj
  subst this
  have h0 := cell_of_row (W.alloc (.cells #[.int .u8 (b.toNat : Int)] 5)) W.heap.size 0 #[.int .u8 (b.toNat : Int)] 5 (0, 0) (heap_alloc_new W _)
  have ha : (⟨W.heap.size, 0, none⟩ : Addr).add 0 = ⟨W.heap.size, 0, none⟩ := rfl
  rw [ha]
  exact h0
set_option maxRecDepth 100000 in
set_option maxHeartbeats 2000000 in
theorem limits_any (n c a : UInt8) (w : World) (hE : Env w) :
    Calls Tryd.prog 10 #[.int .u8 n.toNat, .int .u8 c.toNat, .int .u8 a.toNat] w fun e w' => e = .returned (.bool true) ∧ Below w.heap.size w w' := by
  have hn := n.toNat_lt
  have hc := c.toNat_lt
  have ha := a.toNat_lt
  have kf := field_err
  go_enter Tryd.func10, Tryd.ntmps10
  go_wp2_with (go_at_call 11; refine (sanity_any _ hE).mono ?_; rintro e w1 ⟨rfl, hb1⟩)
  have hE1 := hE.below hb1
  go_loop [8, 9, 10] (fun s p i => ∃ (k : Nat) (x y : ByteArray), k ≤ n.toNat % 20 ∧ i = .int .i64 k ∧ s = .string x ∧ p = .string y ∧ x = mk (xs k) ∧ y = mk (ys k)) (fun _ _ i => 20 - (intOf i).toNat)
  case atStart => exact ⟨0, ⟨#[]⟩, ⟨#[]⟩, Nat.zero_le _, rfl, rfl, rfl, rfl, rfl⟩
  case round =>
    obtain ⟨k, x, y, hk, rfl, rfl, rfl, hx, hy⟩ := hrel
    have hm20 : n.toNat % 20 < 20 := Nat.mod_lt _ (by decide)
    have hk20 : k < 20 := by omega
    have hxs : x.size = k := by rw [hx, mk_size, xs_len]
    have hys : y.size ≤ 400 := by rw [hy, mk_size]; have := ys_len k; omega
    have hx20 : x.size ≤ 20 := by omega
    have HXS := Lib.hid hxs
    clear hxs
    by_cases hlt : k < n.toNat % 20
    · have hlb : (k : Int) < (n.toNat : Int) % 20 := by omega
      have HX := Lib.hid hx
      have HY := Lib.hid hy
      clear hx hy
      by_cases hk0 : k = 0
      · subst hk0
        go_wp2
        go_round
        case rel =>
          refine ⟨1, x ++ ⟨#[120]⟩, y ++ ⟨#[121]⟩, by omega, by go_num, rfl, rfl, ?_, ?_⟩
          · rw [HX.out]; rfl
          · rw [HY.out]; rfl
        case measure => simp [intOf]
      · have hk1 : (0 : Int) < (k : Int) := by omega
        have HK0 := Lib.hid hk0
        clear hk0
        go_wp2
        go_round
        case rel =>
          refine ⟨k + 1, x ++ ⟨#[120]⟩, y ++ ⟨#[47]⟩ ++ ⟨#[121]⟩, by omega, by go_num, rfl, rfl, ?_, ?_⟩
          · rw [HX.out, ← xs_succ, ← mk_append]; rfl
          · rw [HY.out, ← ys_succ, if_neg HK0.out, ← mk_append, ← mk_append]; rfl
        case measure => simp [intOf]; omega
    · obtain ⟨m, hm⟩ : ∃ m, n.toNat % 20 = m := ⟨_, rfl⟩
      obtain rfl : k = m := by omega
      have hlb : ¬ (k : Int) < (n.toNat : Int) % 20 := by omega
      have cV := Valid_any x (by unfold maxLen; omega) w1 hE1
      have hvx : vld x.data.toList = (decide (1 ≤ k) && decide (k ≤ 16)) := by rw [hx, mk_data, vld_xs]
      rw [hvx] at cV
      have cP := fun W hb => lparts_any y (by omega) W (hE1.below hb)
      have hpy : partsS y.data.toList = if k ≤ 8 then (List.replicate k [121], 0) else ([], 10) := by
        unfold partsS; rw [hy, mk_data, isPath_ys, cut_ys]; simp
      rw [hpy] at cP
      have HX := Lib.hid hx
      clear hpy hvx hy hx
      by_cases k0 : k = 0
      · subst k0
        have e8 : (n.toNat : Int) % 20 ≤ 8 := by omega
        have hxe : x.size < 1 := by have := HXS.out; omega
        rw [if_pos (by omega)] at cP
        rw [show (decide (1 ≤ 0) && decide (0 ≤ 16)) = false from rfl] at cV
        have CP := Lib.hid cP
        clear cP hm
        go_wp2_with (first | (go_at_call 13; refine cV.mono ?_; rintro e w2 ⟨rfl, hb2⟩) | (go_at_call 16; refine (CP.out _ hb2).mono ?_; rintro e w3 ⟨A, cc, rfl, _, hb3⟩))
        go_ret
        exact ⟨rfl, hb1.trans ((hb2.mono hb1.size).trans (hb3.mono (Nat.le_trans hb1.size hb2.size)))⟩
      · by_cases k16 : k ≤ 16
        · have hx1 : 1 ≤ x.size := by have := HXS.out; omega
          have hx16 : x.size ≤ 16 := by have := HXS.out; omega
          rw [show (decide (1 ≤ k) && decide (k ≤ 16)) = true by simp; omega] at cV
          have hq := Nat.mod_lt a.toNat (y := x.size) (by omega)
          have hq0 : (0 : Int) ≤ (a.toNat : Int) % (x.size : Int) := by omega
          have hq1 : (a.toNat : Int) % (x.size : Int) ≤ x.size := by omega
          have hq2 : (a.toNat : Int) % (x.size : Int) + 1 ≤ x.size := by omega
          have kc := fun W => conv1d c W
          have hodd : (x.extract 0 (a.toNat % x.size) ++ mk [c] ++ x.extract (a.toNat % x.size + 1) x.size).data.toList = oddS k (a.toNat % x.size) c := by
            rw [append_data, append_data, mk_data, Lib.extract_data, Lib.extract_data, List.drop_zero, Nat.sub_zero, List.take_of_length_le (l := List.drop _ _) (by rw [List.length_drop, ← Lib.size_eq]; exact Nat.le_refl _), HX.out, mk_data]
            rfl
          have hr := right_iff (n := k) (k := a.toNat % x.size) c (by omega) k16 (by have := HXS.out; omega)
          rw [← hodd] at hr
          have hos : (x.extract 0 (a.toNat % x.size) ++ mk [c] ++ x.extract (a.toNat % x.size + 1) x.size).size ≤ maxLen := by
            rw [ByteArray.size_append, ByteArray.size_append, ByteArray.size_extract, ByteArray.size_extract, mk_size]; unfold maxLen; simp; omega
          have cO := fun W hEW => Valid_any (x.extract 0 (a.toNat % x.size) ++ mk [c] ++ x.extract (a.toNat % x.size + 1) x.size) hos W hEW
          obtain ⟨r, hrr⟩ : ∃ r, vld (x.extract 0 (a.toNat % x.size) ++ mk [c] ++ x.extract (a.toNat % x.size + 1) x.size).data.toList = r := ⟨_, rfl⟩
          rw [hrr] at hr cO
          have hkx : (k : Int) = x.size := by have := HXS.out; omega
          rw [hkx] at hr
          have HR := Lib.hid hr
          have CO := Lib.hid cO
          obtain ⟨b8, hb8⟩ : ∃ b8, decide (k ≤ 8) = b8 := ⟨_, rfl⟩
          have e8 : decide ((n.toNat : Int) % 20 ≤ 8) = b8 := by rw [← hb8, decide_eq_decide]; omega
          obtain ⟨q, hq⟩ : ∃ q : List Bs × Int, (if k ≤ 8 then (List.replicate k [121], 0) else ([], 10)) = q := ⟨_, rfl⟩
          have e9 : (q.2 == 0) = b8 := by
            rw [← hb8, ← hq]
            by_cases h8 : k ≤ 8
            · rw [if_pos h8]; simp [h8]
            · rw [if_neg h8]; simp [h8]
          rw [hq] at cP
          obtain ⟨ql, qe⟩ := q
          obtain ⟨nl, hnl⟩ : ∃ nl, ql.length = nl := ⟨_, rfl⟩
          rw [hnl] at cP
          have CP := Lib.hid cP
          clear cP hm hq hnl hb8 hodd hr hos hrr hkx cO
          dsimp only at e9
          go_wp2_with (first | (go_at_call 13; refine cV.mono ?_; rintro e w2 ⟨rfl, hb2⟩) | (go_at_call 16; refine (CP.out _ hb2).mono ?_; rintro e w3 ⟨A, cc, rfl, _, hb3⟩))
          have hb3' : Below w.heap.size w w3 := hb1.trans ((hb2.mono hb1.size).trans (hb3.mono (Nat.le_trans hb1.size hb2.size)))
          have hs3 := hb3'.size
          go_region
          go_wp2_with (go_at_call 13; refine (CO.out _ (hE.below ((hb3'.alloc hs3 _).drew))).mono ?_; rintro e w4 ⟨rfl, hb4⟩)
          all_goals
            go_ret
            refine ⟨ret_bool (?_ : _ = true), ((hb3'.alloc hs3 _).drew).trans (hb4.mono (by have := hs3; simp; omega))⟩
          all_goals first
            | rfl
            | (rename_i hlast
               exfalso
               refine hlast ?_
               rw [Bool.eq_iff_iff, HR.out]
               simp only [Bool.or_eq_true, decide_eq_true_eq, beq_iff_eq, iff_true]
               omega)
        · have hx17 : 16 < x.size := by have := HXS.out; omega
          have e8 : ¬ (n.toNat : Int) % 20 ≤ 8 := by omega
          rw [if_neg (by omega)] at cP
          rw [show (decide (1 ≤ k) && decide (k ≤ 16)) = false by simp; omega] at cV
          have CP := Lib.hid cP
          clear cP hm
          go_wp2_with (first | (go_at_call 13; refine cV.mono ?_; rintro e w2 ⟨rfl, hb2⟩) | (go_at_call 16; refine (CP.out _ hb2).mono ?_; rintro e w3 ⟨A, cc, rfl, _, hb3⟩))
          go_ret
          exact ⟨rfl, hb1.trans ((hb2.mono hb1.size).trans (hb3.mono (Nat.le_trans hb1.size hb2.size)))⟩
end Go.Proofs.YtdjiiemimbdklaaDoor
