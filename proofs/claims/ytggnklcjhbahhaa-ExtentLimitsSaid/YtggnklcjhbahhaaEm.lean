/-
  Walk of the law ExtentParts.
-/
import Derived.Test.YtggnklcjhbahhaaEl
import Derived.Laws.AppendOwnNone
namespace Go.Proofs.Ytggnklcjhbahhaa
open Go.RowKit Ex
set_option maxHeartbeats 400000
set_option maxRecDepth 100000

theorem i64_of_wf {n : Int} (h : (Lit.int .i64 n).wf = true) : -9223372036854775808 ≤ n ∧ n ≤ 9223372036854775807 := by
  have h' : IntKind.i64.min ≤ n ∧ n ≤ IntKind.i64.max := by simpa [Lit.wf] using h
  exact h'
theorem wf_of_i64 {n : Int} (h : -9223372036854775808 ≤ n ∧ n ≤ 9223372036854775807) : (Lit.int .i64 n).wf = true := WalkArith.wf_i64 h
theorem partB_in {bs : List (Int × Int)} {off k : Int} {t : Nat} {x : Int × Int} (hx : bs[t]? = some x) (hk : 0 < k) (h1 : off ≤ t) (h2 : (t : Int) < off + k) : partB (bs.take (t + 1)) off k = partB (bs.take t) off k ++ [x] := by
  obtain ⟨hl, hx⟩ := List.getElem?_eq_some_iff.1 hx
  simp only [partB, if_pos hk]
  rw [List.take_of_length_le (by rw [List.length_take]; omega), List.take_of_length_le (l := bs.take t) (by rw [List.length_take]; omega), List.take_succ_eq_append_getElem hl, List.drop_append_of_le_length (by rw [List.length_take]; omega), hx]
theorem partB_out {bs : List (Int × Int)} {off k : Int} {t : Nat} (h : ¬ (0 < k ∧ off ≤ t ∧ (t : Int) < off + k)) : partB (bs.take (t + 1)) off k = partB (bs.take t) off k := by
  by_cases hk : 0 < k
  · simp only [partB, if_pos hk]
    by_cases h1 : off ≤ t
    · have h2 : off + k ≤ t := by
        by_cases h3 : (t : Int) < off + k
        · exact absurd ⟨hk, h1, h3⟩ h
        · omega
      rw [List.take_take, List.take_take, show min (off + k).toNat (t + 1) = min (off + k).toNat t by omega]
    · rw [List.drop_eq_nil_of_le (by rw [List.length_take, List.length_take]; omega), List.drop_eq_nil_of_le (by rw [List.length_take, List.length_take]; omega)]
  · simp only [partB, if_neg hk]
theorem partB_len (bs : List (Int × Int)) (off k : Int) : (partB bs off k).length ≤ bs.length := by
  unfold partB
  split
  · rw [List.length_drop, List.length_take]; omega
  · simp
theorem partB_first (bs : List (Int × Int)) (K : Nat) : partB bs 0 (K : Int) = bs.take K := by
  unfold partB
  split
  · simp
  · rw [show K = 0 by omega]; simp
theorem partB_last (bs : List (Int × Int)) (K : Nat) : partB bs (K : Int) (bs.length : Nat) = bs.drop K := by
  unfold partB
  split
  · rw [List.take_of_length_le (by omega)]; simp
  · rw [List.eq_nil_of_length_eq_zero (l := bs) (by omega)]; simp
theorem part_c {Env : World → Prop} (P : Prg Env) {W0 : World} (hE : Env W0) {A : Option Addr} {n c : Nat} {b : List Pc} (hS : Sp 0 W0 A n c b) (hv : validL b = true) (W : World) (hb : Below W0.heap.size W0 W) (off k : Int) (h1 : (Lit.int .i64 off).wf = true) (h2 : (Lit.int .i64 k).wf = true) :
    Calls Try.prog 13 #[.slice A n c, .int .i64 off, .int .i64 k] W fun e w' => ∃ A' m c' r, e = .returned (.slice A' m c') ∧ Sp W.heap.size w' A' m c' r ∧ validL r = true ∧ eachL r = partB (eachL b) off k ∧ Below W.heap.size W w' :=
  P.part A n c b off k W (P.env hE hb) (hS.below hb) hv h1 h2
theorem valid_c {A : Option Addr} {n c : Nat} {l : List Pc} {W0 : World} (hA : Sp 0 W0 A n c l) (hl : l.length ≤ 4294967296) {r : Bool} (hv : validL l = r) (W : World) (hb : Below W0.heap.size W0 W) :
    Calls Try.prog 14 #[.slice A n c] W fun e w' => e = .returned (.bool r) ∧ Below W.heap.size W w' := by
  have h := Valid_any A n c l hA.plen (by rw [← hA.plen]; exact hl) W (hA.pcs.below hb)
  rw [hv] at h
  exact h
theorem size_c {A : Option Addr} {n c : Nat} {l : List Pc} {W0 : World} (hA : Sp 0 W0 A n c l) (hv : validL l = true) (W : World) (hb : Below W0.heap.size W0 W) :
    Calls Try.prog 15 #[.slice A n c] W fun e w' => e = .returned (.int .i64 ((eachL l).length : Nat)) ∧ w' = W := by
  have hl := valid_len hv
  have h := Size_any A n c l hA.plen (by rw [← hA.plen]; omega) (fun p hp => by have := (valid_iff.1 hv).1.pos p hp; omega) (by omega) W (hA.pcs.below hb)
  rw [hl.2.2] at h
  exact h
theorem samebytes_c {w13 : World} {base n c n2 c2 : Nat} {e : TypeId} {A A2 : Option Addr} {l l2 : List (Int × Int)} (h : w13.ownsRow base e 2 (.slice A n c) n (ints (flat2 l))) (h2 : Bts w13 A2 l2) (hn2 : l2.length = n2) (hll : l = l2) (hb : n2 ≤ 72) :
    Calls Try.prog 16 #[.slice A n c, .slice A2 n2 c2] w13 fun e w' => e = .returned (.bool true) ∧ Below w13.heap.size w13 w' := by
  have hn := own_blen h
  have h3 := SameBytes_any A A2 n n2 c c2 l l2 hn hn2 (by rw [← hn, hll, hn2]; omega) (by omega) w13 (Bts.of_own h) h2
  rw [hll] at h3
  simpa using h3
theorem norm_c {w : World} {base n c : Nat} {e : TypeId} {A : Option Addr} {l b : List Pc} (h : w.ownsRow base e 3 (.slice A n c) n (ints (flat3 l))) (hp : ∀ p ∈ l, p.n ≤ 0 ∨ rightB p = true) (hs : (eachL l).length ≤ 1048576) (hl : n ≤ 1048600) (hb : normL l = b) :
    Calls Try.prog 18 #[.slice A n c] w fun e w' => ∃ A' m c', e = .returned (.slice A' m c') ∧ w'.ownsRow w.heap.size 66 3 (.slice A' m c') m (ints (flat3 b)) ∧ Below w.heap.size w w' := by
  have h1 := Norm_any A n c l (own_plen h) hl hp hs w (Pcs.of_own h)
  rw [hb] at h1
  exact h1
theorem samelist_c {w : World} {base n c n2 c2 : Nat} {e : TypeId} {A A2 : Option Addr} {b : List Pc} (h : w.ownsRow base e 3 (.slice A n c) n (ints (flat3 b))) (h2 : Sp 0 w A2 n2 c2 b) (hl : b.length ≤ 4294967296) :
    Calls Try.prog 17 #[.slice A n c, .slice A2 n2 c2] w fun e w' => e = .returned (.bool true) ∧ Below w.heap.size w w' := by
  have h1 := Same_any A A2 n n2 c c2 b b (own_plen h) h2.plen (by rw [← own_plen h]; exact hl) (by rw [← h2.plen]; exact hl) w (Pcs.of_own h) h2.pcs
  simpa using h1
theorem psize_c {Env : World → Prop} (P : Prg Env) {W0 : World} (hE : Env W0) {A : Option Addr} {n c : Nat} {b : List Pc} (hS : Sp 0 W0 A n c b) (hv : validL b = true) {K : Nat} (hK : (eachL b).length = K) (W : World) (hb : Below W0.heap.size W0 W) :
    Calls Try.prog 19 #[.slice A n c] W fun e w' => e = .returned (.int .i64 (K : Int)) ∧ Below W.heap.size W w' := by
  have h := P.size A n c b W (P.env hE hb) (hS.below hb) hv
  rw [(valid_len hv).2.2, hK] at h
  exact h
theorem wpList_unguard {P : Program} {w : World} {ops : Array Oper} {rest : List Oper} {o : Oper} {a : Act} {Q : Exit → Act → World → Prop} (hw : Region.wanted o (yielded ops a.tmps) = true) (h : wpList P ops Q ({ o with guard := none } :: rest) a w) : wpList P ops Q (o :: rest) a w := by
  unfold wpList at h ⊢
  rw [if_pos hw]
  rw [if_pos (show Region.wanted { o with guard := none } (yielded ops a.tmps) = true from by simp [Region.wanted])] at h
  exact h
theorem wpList_append_si {P : Program} {w : World} {ops : Array Oper} {rest : List Oper} {o : Oper} {a : Act} {Q : Exit → Act → World → Prop} (hgd : o.guard = none) (s x : Operand) (t : TypeId)
    (ho : o.op = .call { callee := .builtin .append, args := #[s, x], argTypes := #[t, t] })
    (base : Nat) (e : TypeId) (i : TypeInfo) (z : Value) (size bytes : Nat) (ht : P.underlying t = some (.slice e)) (hi : P.info? e = some i) (hz : i.zero = some z)
    (hsize : i.size = size) (hby : i.bytes = bytes) (hzs : z.cells.size = size) (hsz : 0 < size)
    (v : Value) (n : Nat) (xs : List Value) (hs : a.eval s = v) (hown : w.ownsRow base e size v n xs)
    (X : Option Addr) (m c : Nat) (ys : List Int) (hx : a.eval x = .slice X m c) (hS : Si 0 w X m c size ys)
    (h63 : n + m ≤ maxLen) (hbytes : (n + m) * bytes ≤ 140737488355328) (hbase : base ≤ w.heap.size)
    (h : ∀ v' w', w'.ownsRow base e size v' (n + m) (xs ++ ints ys) → (∀ w0 : World, w0.heap.size ≤ base → Below w0.heap.size w0 w → Below w0.heap.size w0 w') → wpList P ops Q rest (a.put o.dst v') w') : wpList P ops Q (o :: rest) a w := by
  cases X with
  | none =>
    have hc : c = 0 := hS.nil rfl
    have hm : m = 0 := by have := hS.cap; omega
    subst hc hm
    have hys : ys = [] := List.eq_nil_of_length_eq_zero (by have := hS.len; omega)
    subst hys
    refine wpList_append_own_none hgd s x t ho base e i size ht hi v n xs hs hown hx (h v w (by simpa [ints] using hown) fun w0 _ hb => hb)
  | some ad =>
    refine wpList_append_own w hgd s x t ho base e i z size bytes ht hi hz hsize hby hzs hsz v n xs hs hown ad m c (ints ys) hx (by rw [ints_length]; exact hS.len) ?_ (ints_cells _) h63 hbytes hbase fun v' w' h1 h2 _ => h v' w' h1 fun w0 hw0 hb => hb.grown h2 hb.size fun g hg => Nat.le_trans hw0 (hown.lt g hg).1
    intro j u hu
    have hne : ys ≠ [] := fun e => by rw [e] at hu; simp [ints] at hu
    obtain ⟨g, o', hA, _, hg, hc⟩ := hS.cells hne
    injection hA with hA
    subst hA
    rw [Addr.add_lit]
    unfold ints at hu
    rw [List.getElem?_map, Option.map_eq_some_iff] at hu
    obtain ⟨y, hy, rfl⟩ := hu
    exact hc j y hy

set_option maxHeartbeats 8000000 in
set_option maxRecDepth 20000 in
theorem lawParts_any {Env : World → Prop} (P : Prg Env) (S : SanOk Env) (A : Option Addr) (n c : Nat) (l : List T8) (hn : l.length = n) (hl : n ≤ 9223372036854775807) (off k : Int) (hoff : (Lit.int .i64 off).wf = true) (hk : (Lit.int .i64 k).wf = true) (w : World) (hE : Env w) (hA : Trs w A l) :
    Calls Try.prog 3 #[.slice A n c, .int .i64 off, .int .i64 k] w fun e w' => e = .returned (.bool true) ∧ Below w.heap.size w w' := by
  obtain ⟨i0, hi, hz0, hz1, hz2⟩ := info_parts info_byte
  obtain ⟨i3, hj, hj0, hj1, hj2⟩ := info_parts info_piece
  obtain ⟨o1, o2⟩ := i64_of_wf hoff
  obtain ⟨k1, k2⟩ := i64_of_wf hk
  have HS := Lib.hid (show ∀ W, Env W → Calls Try.prog 10 #[] W fun e w' => e = .returned (.bool true) ∧ Below W.heap.size W w' from S)
  have HP := Lib.hid P
  have HM := Lib.hid (fun W (hb : Below w.heap.size w W) => Made_any A n c l hn hl W (hA.below hb))
  have hbv := made_valid l
  obtain ⟨b, hb⟩ : ∃ b, madeL l = b := ⟨_, rfl⟩
  have hb72 := (made_form l).2
  rw [hb] at HM hbv hb72
  have HBV := Lib.hid hbv
  clear S P hA hn hb hbv
  go_enter Try.func3, Try.ntmps3
  go_upto_region 3 with (first | (go_at_call 10; with_reducible refine (HS.out _ hE).mono ?_; rintro e w2 ⟨rfl, hb2⟩) | (go_at_call 11; with_reducible refine (HM.out _ hb2).mono ?_; rintro e w3 ⟨A3, m3, c3, rfl, hown3, hb3⟩))
  have hB3 := hb2.trans (hb3.mono hb2.size)
  have hE3 := HP.out.env hE hB3
  have HS3 : Hid (Sp 0 w3 A3 m3 c3 b) := Lib.hid ((Si.own hown3).mono (Nat.zero_le _))
  have HEA := Lib.hid (each_c HS3.out HBV.out w3 (Below.refl _ _))
  have HPA := Lib.hid (part_c HP.out hE3 HS3.out HBV.out)
  have HB3 := Lib.hid hB3
  clear hown3 hb2 hb3 hB3
  go_upto_region 4 with (first | (go_at_call 12; with_reducible refine HEA.out.mono ?_; rintro e w4 ⟨A4, m4, c4, rfl, hown4, hb4⟩) | (go_at_call 13; with_reducible refine (HPA.out _ hb4 _ _ hoff hk).mono ?_; rintro e w5 ⟨A5, m5, c5, r, rfl, hS5, hr, he, hb5⟩))
  have HL4 := Lib.hid (own_blen hown4)
  have hm4 : m4 ≤ 72 := by rw [← HL4.out]; exact hb72
  have HT4 := Lib.hid (Bts.of_own (own_keep hown4 hb5))
  have hrn : (eachL r).length ≤ m4 := by rw [he, ← HL4.out]; exact partB_len _ _ _
  have hrl := valid_len hr
  have HV5 := Lib.hid (valid_c (hS5.mono (Nat.zero_le _)) (by omega) hr w5 (Below.refl _ _))
  have HZ5 := Lib.hid (size_c (hS5.mono (Nat.zero_le _)) hr)
  have HEA5 := Lib.hid (each_c (hS5.mono (Nat.zero_le _)) hr)
  have HRE := Lib.hid he
  have HB5 := Lib.hid (hb4.trans (hb5.mono hb4.size))
  have hz : ¬ (m4 : Int) < ((eachL r).length : Nat) := by omega
  have HRN := Lib.hid hrn
  clear hown4 hb4 hb5 hS5 hr he hrl hrn hb72
  go_upto_region 6 with (first | (go_at_call 14; with_reducible refine HV5.out.mono ?_; rintro e w6 ⟨rfl, hb6⟩) | (go_at_call 15; with_reducible refine (HZ5.out _ hb6).mono ?_; rintro e w6 ⟨rfl, rfl⟩))
  have HB6 := Lib.hid hb6
  have HT6 := Lib.hid (HT4.out.below hb6)
  clear hz hb6
  go_wp2
  go_loopw [11, 12] (fun s i wr => ∃ (t m : Nat) (A' : Option Addr) (c' : Nat), t ≤ m4 ∧ i = .int .i64 t ∧ s = .slice A' m c' ∧ wr.ownsRow w6.heap.size 32 2 (.slice A' m c') m (ints (flat2 (partB ((eachL b).take t) off k))) ∧ Below w6.heap.size w6 wr) (fun _ i _ => m4 - (intOf i).toNat)
  case atStart => exact ⟨0, 0, some ⟨w6.heap.size, 0, none⟩, 0, Nat.zero_le _, rfl, rfl, by rw [show partB ((eachL b).take 0) off k = [] from by simp [partB]]; exact own_empty _ _ _, by go_grown⟩
  case round =>
    obtain ⟨t, m2, A2, c2, ht, rfl, rfl, hown2, hbw⟩ := hrel
    have hbs := hbw.size
    by_cases htn : t < m4
    · have htn' : (t : Int) < (m4 : Int) := Int.ofNat_lt.2 htn
      have t0 : (0 : Int) ≤ (t : Int) := Int.natCast_nonneg t
      have HBW := Lib.hid hbw
      have HO2 := Lib.hid hown2
      have hm2 : m2 ≤ 72 := by
        have h1 := own_blen hown2
        have h2 := partB_len ((eachL b).take t) off k
        rw [h1, List.length_take] at h2
        omega
      obtain ⟨x, hx⟩ : ∃ x, (eachL b)[t]? = some x := ⟨_, List.getElem?_eq_getElem (by rw [HL4.out]; exact htn)⟩
      have HX := Lib.hid hx
      clear hown2 hx
      obtain ⟨g4, o4, rfl, _, a0, a1⟩ := (HT6.out.below hbw).at_ HX.out
      by_cases hk0 : 0 < k
      · by_cases hge : off ≤ (t : Int)
        · by_cases hneg : off < 0
          · have hneg' : ¬ 0 ≤ off := by omega
            by_cases hlt : (t : Int) < off + k
            · have hin := hlt
              have HST := Lib.hid (partB_in (bs := eachL b) HX.out hk0 hge hin)
              clear hbw
              go_wp2_with (at_builtin; refine wpList_append_own _ rfl _ _ 26 rfl w6.heap.size 32 i0 _ 2 16 Try.underlying26 hi hz0 hz1 hz2 rfl (by decide) _ _ _ rfl (HO2.out.alloc _) ⟨wr.heap.size, 0, none⟩ 1 1 (ints (flat2 [x])) rfl rfl (cells_new _ _ _) (ints_cells _) (by unfold maxLen; omega) (by omega) (by simp; omega) ?_; intro v' w7 hown7 hgrow7 _; obtain ⟨g7, c7, rfl⟩ := ownsRow_succ hown7)
              have hb7 : Below w6.heap.size w6 w7 := (HBW.out.alloc hbs _).grown hgrow7 (by simp; omega) (fun t ht => (HO2.out.lt t ht).1)
              go_roundw
              case rel => exact ⟨t + 1, by omega, by go_num, m2 + 1, some ⟨g7, 0, none⟩, c7, ⟨rfl, rfl, rfl⟩, by rw [HST.out, flat2_append, ints_append]; exact hown7, hb7⟩
              case measure => simp [intOf]; omega
            · have hin : ¬ (0 < k ∧ off ≤ (t : Int) ∧ (t : Int) < off + k) := fun h => hlt h.2.2
              have HST := Lib.hid (partB_out (bs := eachL b) hin)
              clear hbw
              go_wp2
              go_roundw
              case rel => exact ⟨t + 1, m2, A2, c2, by omega, by go_num, rfl, by rw [HST.out]; exact HO2.out, HBW.out⟩
              case measure => simp [intOf]; omega
          · have hneg' : 0 ≤ off := by omega
            by_cases hlt : (t : Int) - off < k
            · have hin : (t : Int) < off + k := by omega
              have HST := Lib.hid (partB_in (bs := eachL b) HX.out hk0 hge hin)
              clear hbw
              go_wp2_with (at_builtin; refine wpList_append_own _ rfl _ _ 26 rfl w6.heap.size 32 i0 _ 2 16 Try.underlying26 hi hz0 hz1 hz2 rfl (by decide) _ _ _ rfl (HO2.out.alloc _) ⟨wr.heap.size, 0, none⟩ 1 1 (ints (flat2 [x])) rfl rfl (cells_new _ _ _) (ints_cells _) (by unfold maxLen; omega) (by omega) (by simp; omega) ?_; intro v' w7 hown7 hgrow7 _; obtain ⟨g7, c7, rfl⟩ := ownsRow_succ hown7)
              have hb7 : Below w6.heap.size w6 w7 := (HBW.out.alloc hbs _).grown hgrow7 (by simp; omega) (fun t ht => (HO2.out.lt t ht).1)
              go_roundw
              case rel => exact ⟨t + 1, by omega, by go_num, m2 + 1, some ⟨g7, 0, none⟩, c7, ⟨rfl, rfl, rfl⟩, by rw [HST.out, flat2_append, ints_append]; exact hown7, hb7⟩
              case measure => simp [intOf]; omega
            · have hin : ¬ (0 < k ∧ off ≤ (t : Int) ∧ (t : Int) < off + k) := fun h => by omega
              have HST := Lib.hid (partB_out (bs := eachL b) hin)
              clear hbw
              go_wp2
              go_roundw
              case rel => exact ⟨t + 1, m2, A2, c2, by omega, by go_num, rfl, by rw [HST.out]; exact HO2.out, HBW.out⟩
              case measure => simp [intOf]; omega
        · have hin : ¬ (0 < k ∧ off ≤ (t : Int) ∧ (t : Int) < off + k) := fun h => hge h.2.1
          have HST := Lib.hid (partB_out (bs := eachL b) hin)
          clear hbw
          go_wp2
          go_roundw
          case rel => exact ⟨t + 1, m2, A2, c2, by omega, by go_num, rfl, by rw [HST.out]; exact HO2.out, HBW.out⟩
          case measure => simp [intOf]; omega
      · have hin : ¬ (0 < k ∧ off ≤ (t : Int) ∧ (t : Int) < off + k) := fun h => hk0 h.1
        have HST := Lib.hid (partB_out (bs := eachL b) hin)
        clear hbw
        go_wp2
        go_roundw
        case rel => exact ⟨t + 1, m2, A2, c2, by omega, by go_num, rfl, by rw [HST.out]; exact HO2.out, HBW.out⟩
        case measure => simp [intOf]; omega
    · obtain rfl : t = m4 := by omega
      have hfull : (eachL b).take t = eachL b := List.take_of_length_le (by rw [HL4.out]; exact Nat.le_refl _)
      rw [hfull] at hown2
      have hm2 := own_blen hown2
      have hm2' : m2 ≤ 72 := by
        have h2 := partB_len (eachL b) off k
        rw [hm2, HL4.out] at h2
        omega
      have HTW := Lib.hid (Bts.of_own hown2)
      have HM2 := Lib.hid hm2
      obtain ⟨K, hK⟩ : ∃ K, min off.toNat t = K := ⟨_, rfl⟩
      have hKt : K ≤ t := by omega
      have hK72 : K ≤ 72 := by omega
      have HKE := Lib.hid (show (if (t : Int) < (if off < 0 then (0 : Int) else off) then (t : Int) else (if off < 0 then (0 : Int) else off)) = (K : Int) by omega)
      have h5W : Below w5.heap.size w5 wr := HB6.out.trans (hbw.mono HB6.out.size)
      have h3W : Below w3.heap.size w3 wr := HB5.out.trans (h5W.mono HB5.out.size)
      have H5W := Lib.hid h5W
      have H3W := Lib.hid h3W
      have HS3w := Lib.hid (HS3.out.below h3W)
      have z0 : (Lit.int .i64 (0 : Int)).wf = true := by decide
      have zK : (Lit.int .i64 (K : Int)).wf = true := wf_of_i64 (by omega)
      have zt : (Lit.int .i64 (t : Int)).wf = true := wf_of_i64 (by omega)
      clear hown2 hfull hm2 h5W h3W hbw
      go_upto_region 13 with (fail)
      rw [HKE.out]
      clear HKE hK
      go_upto_region 14 with (first | (go_at_call 13; with_reducible refine (HPA.out _ H3W.out _ _ z0 zK).mono ?_; rintro e w8 ⟨A8, m8, c8, r1, rfl, hS8, hr1, he1, hb8⟩; have H3X := Lib.hid (H3W.out.trans (hb8.mono H3W.out.size))) | (go_at_call 13; with_reducible refine (HPA.out _ H3X.out _ _ zK zt).mono ?_; rintro e w9 ⟨A9, m9, c9, r2, rfl, hS9, hr2, he2, hb9⟩))
      have e1 : eachL r1 = (eachL b).take K := by rw [he1, partB_first]
      have e2 : eachL r2 = (eachL b).drop K := by rw [he2, ← HL4.out, partB_last]
      have l1 : (eachL r1).length = K := by rw [e1, List.length_take, HL4.out]; omega
      have l2 : (eachL r2).length ≤ t := by rw [e2, List.length_drop, HL4.out]; omega
      have v1 := valid_len hr1
      have v2 := valid_len hr2
      have hS8' := (hS8.mono (Nat.zero_le _)).below hb9
      have hS9' := hS9.mono (Nat.zero_le _)
      have HVA := Lib.hid (valid_c hS8' (by omega) hr1)
      have HVB := Lib.hid (valid_c hS9' (by omega) hr2)
      have HZA := Lib.hid (size_c hS8' hr1)
      have HZB := Lib.hid (size_c hS9' hr2)
      rw [l1] at HZA
      obtain ⟨L2, hL2⟩ : ∃ L, (eachL r2).length = L := ⟨_, rfl⟩
      rw [hL2] at HZB l2
      have g1 : ¬ (72 : Int) < (K : Int) := by omega
      have g2 : ¬ (72 : Int) < (L2 : Int) := by omega
      have H89 := Lib.hid (hb8.trans (hb9.mono hb8.size))
      have HS8 := Lib.hid hS8'
      have HS9 := Lib.hid hS9'
      have HE1 := Lib.hid e1
      have HE2 := Lib.hid e2
      have HR1 := Lib.hid hr1
      have HR2 := Lib.hid hr2
      have hn1 : r1.length ≤ 72 := by omega
      have hn2 : r2.length ≤ 72 := by omega
      clear hS8 hS8' hS9 hS9' hr1 hr2 he1 he2 e1 e2 l1 v1 v2 hL2 hb8 hb9
      go_upto_region 16 with (first | (go_at_call 14; with_reducible refine (HVA.out _ (Below.refl _ _)).mono ?_; rintro e w10 ⟨rfl, hb10⟩) | (go_at_call 14; with_reducible refine (HVB.out _ hb10).mono ?_; rintro e w11 ⟨rfl, hb11⟩; have hb12 := hb10.trans (hb11.mono hb10.size)) | (go_at_call 15; with_reducible refine (HZA.out _ hb12).mono ?_; rintro e w12 ⟨rfl, hww⟩; subst hww) | (go_at_call 15; with_reducible refine (HZB.out _ hb12).mono ?_; rintro e w12 ⟨rfl, hww⟩; subst hww))
      have H59 := Lib.hid (H5W.out.trans (H89.out.mono H5W.out.size))
      have H5Y := Lib.hid (H59.out.trans (hb12.mono H59.out.size))
      have HWY := Lib.hid (H89.out.trans (hb12.mono H89.out.size))
      have H3Y := Lib.hid (H3W.out.trans (HWY.out.mono H3W.out.size))
      have HP12 := Lib.hid hb12
      have HNV := Lib.hid (show normL (r1 ++ r2) = b from by
        have h1 := valid_iff.1 HR1.out
        have h2 := valid_iff.1 HR2.out
        have hlen : (eachL (r1 ++ r2)).length ≤ 1048576 := by rw [eachL_append, HE1.out, HE2.out, List.take_append_drop, HL4.out]; omega
        have h3 := norm_form (l := r1 ++ r2) (fun p hp => Or.inr (by rcases List.mem_append.1 hp with h | h; exact h1.1.right p h; exact h2.1.right p h)) hlen
        have h4 : eachL (normL (r1 ++ r2)) = eachL b := by rw [h3.2, eachL_append, HE1.out, HE2.out, List.take_append_drop]
        exact form_eq h3.1 (valid_iff.1 HBV.out).1 h4)
      have hHPQ : (∀ p ∈ r1 ++ r2, p.n ≤ 0 ∨ rightB p = true) ∧ (eachL (r1 ++ r2)).length ≤ 1048576 := by
        have h1 := valid_iff.1 HR1.out
        have h2 := valid_iff.1 HR2.out
        exact ⟨fun p hp => Or.inr (by rcases List.mem_append.1 hp with h | h; exact h1.1.right p h; exact h2.1.right p h), by rw [eachL_append, HE1.out, HE2.out, List.take_append_drop, HL4.out]; omega⟩
      have HPQ := Lib.hid hHPQ
      have HB3L := Lib.hid (show b.length ≤ 4294967296 from by have := valid_len HBV.out; omega)
      have hm8 : m8 ≤ 72 := by rw [← Sp.plen HS8.out]; exact hn1
      have hm9 : m9 ≤ 72 := by rw [← Sp.plen HS9.out]; exact hn2
      have h39 := H3W.out.trans (H89.out.mono H3W.out.size)
      have HPS := Lib.hid (psize_c HP.out (HP.out.env hE3 h39) HS8.out HR1.out (show (eachL r1).length = K from by rw [HE1.out, List.length_take, HL4.out]; omega))
      have H39 := Lib.hid h39
      clear hb12 hHPQ h39
      go_wp2_with (first
        | (go_at_call 12; with_reducible refine (HEA5.out _ H5Y.out).mono ?_; rintro e w13 ⟨A13, m13, c13, rfl, hown13, hb13⟩; have HO13 := Lib.hid hown13; have HB13 := Lib.hid hb13; clear hown13 hb13)
        | (go_at_call 16; with_reducible refine (samebytes_c HO13.out (HTW.out.below (HWY.out.trans (HB13.out.mono HWY.out.size))) HM2.out HRE.out hm2').mono ?_; rintro e w14 ⟨rfl, hb14⟩; have H14 := Lib.hid (HP12.out.trans ((HB13.out.trans (hb14.mono HB13.out.size)).mono HP12.out.size)); clear hb14)
        | (at_builtin; refine wpList_unguard (by rfl) ?_; refine wpList_append_si rfl _ _ 24 rfl w14.heap.size 66 i3 _ 3 24 Try.underlying24 hj hj0 hj1 hj2 rfl (by decide) _ _ _ rfl (own_empty w14 _ 3) A8 m8 c8 (flat3 r1) rfl (HS8.out.below (H14.out.alloc H14.out.size _)) (by unfold maxLen; omega) (by omega) (by simp) ?_; intro v' w15 hown15 hB15; rw [Nat.zero_add, List.nil_append] at hown15; obtain ⟨A15, c15, rfl⟩ := own_form hown15; have HO15 := Lib.hid hown15; have H15 := Lib.hid (hB15 w9 H14.out.size (H14.out.alloc H14.out.size _)); have hs15 := (hB15 w14 (Nat.le_refl _) ((Below.refl _ w14).alloc (Nat.le_refl _) _)).size; clear hown15 hB15)
        | (at_builtin; refine wpList_unguard (by rfl) ?_; refine wpList_append_si rfl _ _ 24 rfl w14.heap.size 66 i3 _ 3 24 Try.underlying24 hj hj0 hj1 hj2 rfl (by decide) _ _ _ rfl HO15.out A9 m9 c9 (flat3 r2) rfl (HS9.out.below H15.out) (by unfold maxLen; omega) (by omega) hs15 ?_; intro v' w16 hown16 hB16; rw [← ints_append, ← flat3_append] at hown16; obtain ⟨A16, c16, rfl⟩ := own_form hown16; have HO16 := Lib.hid hown16; have H16 := Lib.hid (hB16 w9 H14.out.size H15.out); clear hown16 hB16)
        | (go_at_call 18; with_reducible refine (norm_c HO16.out HPQ.out.1 HPQ.out.2 (by omega) HNV.out).mono ?_; rintro e w17 ⟨A17, m17, c17, rfl, hown17, hb17⟩; have HO17 := Lib.hid hown17; have H17 := Lib.hid (H16.out.trans (hb17.mono H16.out.size)); clear hown17 hb17)
        | (go_at_call 17; with_reducible refine (samelist_c HO17.out (HS3.out.below (H39.out.trans (H17.out.mono H39.out.size))) HB3L.out).mono ?_; rintro e w18 ⟨rfl, hb18⟩; have H18 := Lib.hid (H17.out.trans (hb18.mono H17.out.size)); clear hb18)
        | (go_at_call 19; with_reducible refine (HPS.out _ H18.out).mono ?_; rintro e w19 ⟨rfl, hb19⟩; have H19 := Lib.hid (H18.out.trans (hb19.mono H18.out.size)); clear hb19))
      all_goals
        go_ret
        refine ⟨rfl, ?_⟩
        have h1 := H39.out.trans (H19.out.mono H39.out.size)
        exact HB3.out.trans (h1.mono HB3.out.size)
end Go.Proofs.Ytggnklcjhbahhaa
