/-
  Walk of the law ExtentBytes.
-/
import Derived.Test.YtggnklcjhbahhaaEw
import Derived.Laws.BytesArg
import Derived.Laws.IdiomStrings
import Derived.Lib.Strings
namespace Go.Proofs.Ytggnklcjhbahhaa
open Go.RowKit Ex
set_option maxHeartbeats 400000
set_option maxRecDepth 100000

def tx (l : List UInt8) : ByteArray := ⟨l.toArray⟩
theorem tx_inj {a b : List UInt8} : tx a = tx b ↔ a = b := by
  constructor
  · intro h
    have := congrArg (fun s : ByteArray => s.data.toList) h
    simpa [tx] using this
  · intro h; rw [h]
theorem str_any {w : World} {A : Option Addr} {l : List UInt8} (h : Byt w A l) (n c : Nat) (hn : l.length = n) : (convert 55 9 (.slice A n c)).run Try.prog w = .ok (.string (tx l)) w := by
  subst hn
  by_cases h0 : l = []
  · subst h0
    cases A with
    | none => exact run_convert_bytes_nil w 55 5 Try.underlying55 Try.underlying5 0 c 9 Try.underlying9
    | some a => exact run_convert_bytes_back w 55 9 5 a c [] Try.underlying55 Try.underlying5 Try.underlying9 (fun j hj => by simp at hj)
  · obtain ⟨b, o, rfl, _, hc⟩ := h h0
    refine run_convert_bytes_back w 55 9 5 ⟨b, o, none⟩ c l Try.underlying55 Try.underlying5 Try.underlying9 (fun j hj => ?_)
    have hadd : (⟨b, o, none⟩ : Addr).add j = ⟨b, o + j, none⟩ := by unfold Addr.add; split <;> simp_all
    rw [hadd]
    exact hc j l[j] (List.getElem?_eq_getElem hj)

theorem tx_list (l : List UInt8) : (tx l).toList = l := by rw [Lib.toList_data]; simp [tx]
theorem tx_beq (a b : List UInt8) : ((tx a).toList == (tx b).toList) = decide (a = b) := by
  rw [tx_list, tx_list, Bool.eq_iff_iff]; simp

theorem blobs_size (V : List UInt8) : (blobsL V 4).length ≤ 4 ∧ ∀ x ∈ blobsL V 4, Fits x := by
  constructor
  · unfold blobsL
    exact Nat.le_trans (List.length_filterMap_le _ _) (by simp)
  · intro x hx
    unfold blobsL at hx
    obtain ⟨i, hi4, hi⟩ := List.mem_filterMap.1 hx
    rw [List.mem_range] at hi4
    split at hi
    · injection hi with hi
      rw [← hi]
      simp only [Fits, dataL_len]
      omega
    · cases hi
theorem findL_mem : ∀ {l : List Blb} {id : Int} {d : List UInt8}, findL l id = some d → ∃ x ∈ l, x.2 = d
  | [], _, _, h => by simp [findL] at h
  | y :: l, id, d, h => by
    simp only [findL] at h
    split at h
    · injection h with h
      exact ⟨y, by simp, h⟩
    · obtain ⟨x, hx, e⟩ := findL_mem h
      exact ⟨x, by simp [hx], e⟩
theorem byte_right {l : List Pc} (h : validL l = true) : ∀ x ∈ eachL l, -1 ≤ x.1 ∧ 0 ≤ x.2 ∧ x.2 ≤ 2097152 := fun x hx => by
  obtain ⟨p, hp, hx⟩ := List.mem_flatMap.1 hx
  have hr := right_iff.1 ((valid_iff.1 h).1.right p hp)
  unfold eachP at hx
  obtain ⟨i, hi, rfl⟩ := List.mem_map.1 hx
  have hi' := List.mem_range.1 hi
  have h1 : -1 ≤ p.id := by rcases hr.2.2.2 with ⟨e | e, _⟩ | e <;> omega
  have h2 : p.fr ≤ 1048576 := by rcases hr.2.2.2 with ⟨_, e⟩ | e <;> omega
  refine ⟨h1, ?_⟩
  simp only
  split <;> omega
theorem blob_some {A : Option Addr} {n c : Nat} {l : List Blb} {W : World} (h : Bl W A n c l) (hn : n ≤ 4) {id : Int} {d : List UInt8} (hf : findL l id = some d) :
    Calls Try.prog 29 #[.slice A n c, .int .i64 id] W fun e w' => w' = W ∧ ∃ B c', e = .returned (.tuple #[.slice B d.length c', .bool true]) ∧ Byt W B d := by
  refine (Blob_any A n c l h.len (by omega) id W h.cells).mono ?_
  rintro e w' ⟨h1, ⟨d', B, c', h2, h3, h4⟩ | ⟨h2, _⟩⟩
  · rw [hf] at h2
    injection h2 with h2
    subst h2
    exact ⟨h1, B, c', h3, h4⟩
  · rw [hf] at h2; cases h2
theorem blob_none {A : Option Addr} {n c : Nat} {l : List Blb} {W : World} (h : Bl W A n c l) (hn : n ≤ 4) {id : Int} (hf : findL l id = none) :
    Calls Try.prog 29 #[.slice A n c, .int .i64 id] W fun e w' => w' = W ∧ e = .returned (.tuple #[.slice none 0 0, .bool false]) := by
  refine (Blob_any A n c l h.len (by omega) id W h.cells).mono ?_
  rintro e w' ⟨h1, ⟨d', B, c', h2, _⟩ | ⟨_, h3⟩⟩
  · rw [hf] at h2; cases h2
  · exact ⟨h1, h3⟩

set_option maxHeartbeats 8000000 in
set_option maxRecDepth 20000 in
theorem lawBytes_any {Env : World → Prop} (P : Prg Env) (PB : PrgB Env) (S : SanOk Env) (A : Option Addr) (n c : Nat) (l : List T8) (hn : l.length = n) (hl : n ≤ 9223372036854775807) (v0 v1 v2 v3 : UInt8) (w : World) (hE : Env w) (hA : Trs w A l) :
    Calls Try.prog 7 #[.slice A n c, .agg #[.int .u8 v0.toNat, .int .u8 v1.toNat, .int .u8 v2.toNat, .int .u8 v3.toNat]] w fun e w' => e = .returned (.bool true) ∧ Below w.heap.size w w' := by
  obtain ⟨iu, hu, hu0, hu1, hu2⟩ := info_parts info_u8
  have hW1 : Below w.heap.size w (w.alloc (.cells #[.int .u8 v0.toNat, .int .u8 v1.toNat, .int .u8 v2.toNat, .int .u8 v3.toNat] 52)) := (Below.refl _ w).alloc (Nat.le_refl _) _
  have hE1 := P.env hE hW1
  have hA1 := hA.below hW1
  obtain ⟨w1, hw1⟩ : ∃ W, w.alloc (.cells #[.int .u8 v0.toNat, .int .u8 v1.toNat, .int .u8 v2.toNat, .int .u8 v3.toNat] 52) = W := ⟨_, rfl⟩
  have c0 : w1.cell? ⟨w.heap.size, 0, none⟩ = some (.int .u8 v0.toNat) := by rw [← hw1]; exact cell_of_row _ _ 0 _ _ _ (heap_alloc_new w _)
  have c1 : w1.cell? ⟨w.heap.size, 1, none⟩ = some (.int .u8 v1.toNat) := by rw [← hw1]; exact cell_of_row _ _ 1 _ _ _ (heap_alloc_new w _)
  have c2 : w1.cell? ⟨w.heap.size, 2, none⟩ = some (.int .u8 v2.toNat) := by rw [← hw1]; exact cell_of_row _ _ 2 _ _ _ (heap_alloc_new w _)
  have c3 : w1.cell? ⟨w.heap.size, 3, none⟩ = some (.int .u8 v3.toNat) := by rw [← hw1]; exact cell_of_row _ _ 3 _ _ _ (heap_alloc_new w _)
  have HC := Lib.hid (fun W (hb : Below w1.heap.size w1 W) => show W.cell? ⟨w.heap.size, 0, none⟩ = some (.int .u8 v0.toNat) ∧ W.cell? ⟨w.heap.size, 1, none⟩ = some (.int .u8 v1.toNat) ∧ W.cell? ⟨w.heap.size, 2, none⟩ = some (.int .u8 v2.toNat) ∧ W.cell? ⟨w.heap.size, 3, none⟩ = some (.int .u8 v3.toNat) from ⟨(hb.cell (block_lt_of_cell c0)).trans c0, (hb.cell (block_lt_of_cell c1)).trans c1, (hb.cell (block_lt_of_cell c2)).trans c2, (hb.cell (block_lt_of_cell c3)).trans c3⟩)
  have HW1 := Lib.hid hw1
  rw [hw1] at hW1 hE1 hA1
  have HS := Lib.hid (show ∀ W, Env W → Calls Try.prog 10 #[] W fun e w' => e = .returned (.bool true) ∧ Below W.heap.size W w' from S)
  have HP := Lib.hid P
  have HPB := Lib.hid PB
  have HM := Lib.hid (fun W (hb : Below w1.heap.size w1 W) => Made_any A n c l hn hl W (hA1.below hb))
  have hbv := made_valid l
  obtain ⟨b, hb⟩ : ∃ b, madeL l = b := ⟨_, rfl⟩
  have hb72 := (made_form l).2
  rw [hb] at HM hbv hb72
  have HBV := Lib.hid hbv
  have HBW1 := Lib.hid hW1
  clear S P PB hA hn hb hbv hA1 c0 c1 c2 c3 hw1 hW1
  go_enter Try.func7, Try.ntmps7
  go_upto_region 2 with (go_at_call 10; rw [HW1.out]; with_reducible refine (HS.out _ hE1).mono ?_; rintro e w2 ⟨rfl, hb2⟩)
  have HB2 : Hid (Below w1.heap.size w1 w2.drew) := Lib.hid (hb2.trans ((below_drewN w2 1).mono hb2.size))
  clear hb2
  refine wp_region_held_drew (S := (fun W' => W'.cell? ⟨w.heap.size, 0, none⟩ = some (.int .u8 v0.toNat) ∧ W'.cell? ⟨w.heap.size, 1, none⟩ = some (.int .u8 v1.toNat) ∧ W'.cell? ⟨w.heap.size, 2, none⟩ = some (.int .u8 v2.toNat) ∧ W'.cell? ⟨w.heap.size, 3, none⟩ = some (.int .u8 v3.toNat))) (by kernel_rfl) (by exact HC.out _ HB2.out) (fun hHeld => ?_)
  refine wpAnyH_take (i := 0) (v := ?_) rfl (by kernel_rfl) (by kernel_rfl) (by kernel_rfl) (fun _ _ _ h => h) (Or.inl ⟨by rfl, ?_⟩) (by assumption) ?_
  rotate_left
  · ((intro w' hSw); (try dsimp only at hSw); go_simp; all_goals (with_reducible rfl))
  simp only [Act.put, List.getElem_toArray, List.getElem_cons_zero, List.setIfInBounds_toArray, List.set_cons_zero, List.set_cons_succ]
  refine wpAnyH_take (i := 2) (v := ?_) rfl (by kernel_rfl) (by kernel_rfl) (by kernel_rfl) (fun _ _ _ h => h) (Or.inl ⟨by rfl, ?_⟩) (by assumption) ?_
  rotate_left
  · ((intro w' hSw); (try dsimp only at hSw); go_simp; all_goals (with_reducible rfl))
  simp only [Act.put, List.getElem_toArray, List.getElem_cons_succ, List.getElem_cons_zero, List.setIfInBounds_toArray, List.set_cons_zero, List.set_cons_succ]
  refine wpAnyH_ready (rs := [1]) (by kernel_rfl) (by simp) ?_
  refine AllReadyH.cons rfl (fun K hK => ?_) AllReadyH.nil
  go_simp
  go_wp2_with (go_at_call 11; (with_reducible refine (HM.out _ HB2.out).mono ?_); rintro e w3 ⟨A3, m3, c3, rfl, hown3, hb3⟩; have HS3 := Lib.hid (Sp.ofown hown3); have HB3 := Lib.hid (HB2.out.trans (hb3.mono HB2.out.size)); have hC3 := HC.out _ HB3.out; clear hown3 hb3)
  refine hK.out _ _ ?_ (fun hHeld => ?_)
  · exact hC3
  clear hK K
  refine wpAnyH_ready (rs := [3]) (by kernel_rfl) (by simp) ?_
  refine AllReadyH.cons rfl (fun K hK => ?_) AllReadyH.nil
  go_simp
  go_wp2_with (go_at_call 27; (with_reducible refine (blobs_any v0 v1 v2 v3 _).mono ?_); rintro e w4 ⟨A4, m4, c4, rfl, hL4, hb4⟩; have HL4 := Lib.hid hL4; have HB4 := Lib.hid (HB3.out.trans (hb4.mono HB3.out.size)); have HS34 := Lib.hid (HS3.out.below hb4); have hC4 := HC.out _ HB4.out; clear hL4 hb4)
  refine hK.out _ _ ?_ (fun hHeld => ?_)
  · exact hC4
  clear hK K
  refine wpAnyH_take (i := 4) (v := ?_) rfl (by kernel_rfl) (by kernel_rfl) (by kernel_rfl) (fun _ _ _ h => h) (Or.inl ⟨by rfl, ?_⟩) (by assumption) ?_
  rotate_left
  · ((intro w' hSw); (try dsimp only at hSw); go_simp; all_goals (with_reducible rfl))
  simp only [Act.put, List.getElem_toArray, List.getElem_cons_succ, List.getElem_cons_zero, List.setIfInBounds_toArray, List.set_cons_zero, List.set_cons_succ]
  refine wpAnyH_take (i := 5) (v := ?_) rfl (by kernel_rfl) (by kernel_rfl) (by kernel_rfl) (fun _ _ _ h => h) (Or.inl ⟨by rfl, ?_⟩) (by assumption) ?_
  rotate_left
  · ((intro w' hSw); (try dsimp only at hSw); go_simp; all_goals (with_reducible rfl))
  simp only [Act.put, List.getElem_toArray, List.getElem_cons_succ, List.getElem_cons_zero, List.setIfInBounds_toArray, List.set_cons_zero, List.set_cons_succ]
  refine wpAnyH_done (by kernel_rfl) ?_ _
  have hE4 := HP.out.env hE1 HB4.out
  have hbz := blobs_size [v0, v1, v2, v3]
  obtain ⟨L, hLL⟩ : ∃ L, blobsL [v0, v1, v2, v3] 4 = L := ⟨_, rfl⟩
  rw [hLL] at HL4 hbz
  have hm4 : m4 ≤ 4 := by rw [← HL4.out.len]; exact hbz.1
  have HBZ := Lib.hid hbz.2
  have HEb := Lib.hid (each_c HS34.out HBV.out w4 (Below.refl _ _))
  have HRY := Lib.hid (fun W (hb : Below w4.heap.size w4 W) => read_yes HP.out HPB.out (HP.out.env hE4 hb) (HS34.out.below hb) HBV.out (HL4.out.below hb) (by omega) HBZ.out)
  have HRN := Lib.hid (fun W (hb : Below w4.heap.size w4 W) => read_no HP.out HPB.out (HP.out.env hE4 hb) (HS34.out.below hb) HBV.out (HL4.out.below hb) (by omega) HBZ.out)
  obtain ⟨E, hEE⟩ : ∃ E, bytesErr (eachL b) L = E := ⟨_, rfl⟩
  have HEE := Lib.hid hEE
  clear hLL hbz hEE hE4
  have HBR := Lib.hid (byte_right HBV.out)
  obtain ⟨bs, hbs0⟩ : ∃ bs, eachL b = bs := ⟨_, rfl⟩
  rw [hbs0] at HEb HRY HRN HEE HBR hb72
  clear hbs0
  -- what read answers, in one form
  have HRD := Lib.hid (show ∀ W, Below w4.heap.size w4 W → Calls Try.prog 28 #[.slice A3 m3 c3, .slice A4 m4 c4] W fun e w' => ∃ B mB c', e = .returned (.agg #[.slice B mB c', .int .i64 E]) ∧ ((E = 0 ∧ mB = (bytesOut bs L).length ∧ Byt w' B (bytesOut bs L)) ∨ (E ≠ 0 ∧ mB = 0)) ∧ Below W.heap.size W w' from fun W hb => by
    by_cases h0 : E = 0
    · refine (HRY.out W hb (by rw [HEE.out]; exact h0)).mono ?_
      rintro e w' ⟨B, c', rfl, h1, h2⟩
      exact ⟨B, _, c', by rw [h0], .inl ⟨h0, rfl, h1⟩, h2⟩
    · refine (HRN.out W hb (by rw [HEE.out]; exact h0)).mono ?_
      rintro e w' ⟨B, c', rfl, h2⟩
      exact ⟨B, 0, c', by rw [HEE.out], .inr ⟨h0, rfl⟩, h2⟩)
  clear HRY HRN
  go_upto_region 4 with (first
    | (go_at_call 12; with_reducible refine HEb.out.mono ?_; rintro e w5 ⟨A5, m5, c5, rfl, hown5, hb5⟩; have HO5 := Lib.hid hown5; have H5 := Lib.hid hb5; clear hown5 hb5)
    | (go_at_call 28; with_reducible refine (HRD.out _ H5.out).mono ?_; rintro e w6 ⟨B6, m6, c6, rfl, hcase, hb6⟩))
  have hbX : Below w6.heap.size w6 (w6.alloc (.cells #[.slice B6 m6 c6, .int .i64 E] 57)) := (Below.refl _ w6).alloc (Nat.le_refl _) _
  have x0 : (w6.alloc (.cells #[.slice B6 m6 c6, .int .i64 E] 57)).cell? ⟨w6.heap.size, 0, none⟩ = some (.slice B6 m6 c6) := cell_of_row _ _ 0 _ _ _ (heap_alloc_new w6 _)
  have x1 : (w6.alloc (.cells #[.slice B6 m6 c6, .int .i64 E] 57)).cell? ⟨w6.heap.size, 1, none⟩ = some (.int .i64 E) := cell_of_row _ _ 1 _ _ _ (heap_alloc_new w6 _)
  have H4X := H5.out.trans ((hb6.trans (hbX.mono hb6.size)).mono H5.out.size)
  have HT5 := Lib.hid ((Bts.of_own HO5.out).below (hb6.trans (hbX.mono hb6.size)))
  have HCS := Lib.hid (show (E = 0 ∧ m6 = (bytesOut bs L).length ∧ Byt (w6.alloc (.cells #[.slice B6 m6 c6, .int .i64 E] 57)) B6 (bytesOut bs L)) ∨ (E ≠ 0 ∧ m6 = 0) from by
    rcases hcase with ⟨a, b, d⟩ | h
    · exact .inl ⟨a, b, d.below hbX⟩
    · exact .inr h)
  obtain ⟨wX, hwX⟩ : ∃ W, w6.alloc (.cells #[.slice B6 m6 c6, .int .i64 E] 57) = W := ⟨_, rfl⟩
  rw [hwX] at x0 x1 H4X HT5 HCS
  rw [hwX]
  have HX := Lib.hid (fun W (hb : Below wX.heap.size wX W) => show W.cell? ⟨w6.heap.size, 0, none⟩ = some (.slice B6 m6 c6) ∧ W.cell? ⟨w6.heap.size, 1, none⟩ = some (.int .i64 E) from ⟨(hb.cell (block_lt_of_cell x0)).trans x0, (hb.cell (block_lt_of_cell x1)).trans x1⟩)
  have H4X' := Lib.hid H4X
  have HL5 := Lib.hid (own_blen HO5.out)
  have hm5 : m5 ≤ 72 := by rw [← HL5.out]; exact hb72
  have HLX := Lib.hid (HL4.out.below H4X)
  clear hbX x0 x1 H4X hcase hwX hb6 hb72
  go_wp2
  go_loopw [10, 11, 12] (fun s e i wz => ∃ (t m : Nat) (A' : Option Addr) (c' : Nat), t ≤ m5 ∧ i = .int .i64 t ∧ e = .int .i64 (errL L (bs.take t)) ∧ s = .slice A' m c' ∧ wz.ownsRow wX.heap.size 5 1 (.slice A' m c') m (by8 (bytesOut (bs.take t) L)) ∧ Below wX.heap.size wX wz) (fun _ _ i _ => m5 - (intOf i).toNat)
  case atStart => exact ⟨0, 0, some ⟨wX.heap.size, 0, none⟩, 0, Nat.zero_le _, rfl, rfl, rfl, own_empty _ _ _, by go_grown⟩
  case round =>
    obtain ⟨t, m, A', c', ht, rfl, rfl, rfl, hown, hbw⟩ := hrel
    have hbs := hbw.size
    have HO := Lib.hid hown
    have HBW := Lib.hid hbw
    have hm72 : m ≤ 72 := by
      have h1 := own_slen hown
      rw [by8_len] at h1
      have h2 : (bytesOut (bs.take t) L).length ≤ (bs.take t).length := List.length_filterMap_le _ _
      rw [List.length_take] at h2
      omega
    obtain ⟨E1, hEQ⟩ : ∃ E1, errL L (bs.take t) = E1 := ⟨_, rfl⟩
    have HEQ := Lib.hid hEQ
    rw [hEQ]
    clear hown hEQ
    by_cases htn : t < m5
    · have htn' : (t : Int) < (m5 : Int) := Int.ofNat_lt.2 htn
      have t0 : (0 : Int) ≤ (t : Int) := Int.natCast_nonneg t
      obtain ⟨x, hx⟩ : ∃ x, bs[t]? = some x := ⟨_, List.getElem?_eq_getElem (by rw [HL5.out]; exact htn)⟩
      have hxr := HBR.out x (List.mem_of_getElem? hx)
      obtain ⟨xi, xa⟩ := x
      dsimp only at hxr
      obtain ⟨u, hu'⟩ : ∃ u : Nat, xa = (u : Int) := ⟨xa.toNat, by omega⟩
      subst hu'
      have HX := Lib.hid hx
      obtain ⟨g5, o5, rfl, _, a0, a1⟩ := (HT5.out.below hbw).at_ hx
      dsimp only at a0 a1
      clear hx hbw
      by_cases hle : xi ≤ 0
      · have HNS := Lib.hid (show by8 (bytesOut (bs.take (t + 1)) L) = by8 (bytesOut (bs.take t) L) ++ [.int .u8 0] from by rw [out_next HX.out, show byteOf L (xi, (u : Int)) = some 0 from if_pos hle]; simp [by8])
        by_cases hm1 : xi = -1
        · have HES := Lib.hid (show errL L (bs.take (t + 1)) = 60 from by rw [errL_next HX.out]; unfold errStep; rw [if_pos hm1])
          have hb1 : (xi == -1) = true := by simpa using hm1
          clear hm1
          go_wp2_with (at_builtin; refine wpList_append_own _ rfl _ _ 55 rfl wX.heap.size 5 iu _ 1 1 Try.underlying55 hu hu0 hu1 hu2 rfl (by decide) _ _ _ rfl (HO.out.alloc _) ⟨_, 0, none⟩ 1 1 [.int .u8 0] rfl rfl (cells_new _ _ _) (by simp [Value.oneCell']) (by unfold maxLen; omega) (by omega) (by simp; omega) ?_; intro v' w7 hown7 hgrow7 _; obtain ⟨g7, c7, rfl⟩ := ownsRow_succ hown7)
          have hb7 : Below wX.heap.size wX w7 := (HBW.out.alloc hbs _).grown hgrow7 (by simp; omega) (fun t ht => (HO.out.lt t ht).1)
          go_roundw
          case rel => exact ⟨t + 1, m + 1, some ⟨g7, 0, none⟩, c7, by omega, by go_num, by rw [HES.out], rfl, by rw [HNS.out]; exact hown7, hb7⟩
          case measure => simp [intOf]; omega
        · have HES := Lib.hid (show errL L (bs.take (t + 1)) = E1 from by rw [errL_next HX.out, HEQ.out]; unfold errStep; rw [if_neg hm1, show byteOf L (xi, (u : Int)) = some 0 from if_pos hle]; rfl)
          have hb1 : (xi == -1) = false := by simpa using hm1
          clear hm1
          go_wp2_with (at_builtin; refine wpList_append_own _ rfl _ _ 55 rfl wX.heap.size 5 iu _ 1 1 Try.underlying55 hu hu0 hu1 hu2 rfl (by decide) _ _ _ rfl (HO.out.alloc _) ⟨_, 0, none⟩ 1 1 [.int .u8 0] rfl rfl (cells_new _ _ _) (by simp [Value.oneCell']) (by unfold maxLen; omega) (by omega) (by simp; omega) ?_; intro v' w7 hown7 hgrow7 _; obtain ⟨g7, c7, rfl⟩ := ownsRow_succ hown7)
          have hb7 : Below wX.heap.size wX w7 := (HBW.out.alloc hbs _).grown hgrow7 (by simp; omega) (fun t ht => (HO.out.lt t ht).1)
          go_roundw
          case rel => exact ⟨t + 1, m + 1, some ⟨g7, 0, none⟩, c7, by omega, by go_num, by rw [HES.out], rfl, by rw [HNS.out]; exact hown7, hb7⟩
          case measure => simp [intOf]; omega
      · have hb1 : (xi == -1) = false := by simp; omega
        have hBO : byteOf L (xi, (u : Int)) = (findL L xi).bind fun d => d[u]? := if_neg hle
        have HLW := Lib.hid (HLX.out.below HBW.out)
        cases hf : findL L xi with
        | none =>
          have HBO := Lib.hid (show byteOf L (xi, (u : Int)) = none from by rw [hBO, hf]; rfl)
          have HBL := Lib.hid (blob_none HLW.out hm4 hf)
          clear hBO hf
          have HNS := Lib.hid (show by8 (bytesOut (bs.take (t + 1)) L) = by8 (bytesOut (bs.take t) L) from by rw [out_next HX.out, HBO.out]; simp)
          by_cases he0 : E1 = 0
          · have HES := Lib.hid (show errL L (bs.take (t + 1)) = 90 from by rw [errL_next HX.out, HEQ.out]; unfold errStep; rw [if_neg (show ¬ (xi, (u : Int)).1 = -1 from by simp only; omega), HBO.out, he0]; rfl)
            have heb : (E1 == 0) = true := by simpa using he0
            clear he0
            go_wp2_with (go_at_call 29; with_reducible refine HBL.out.mono ?_; rintro e w8 ⟨hww, rfl⟩; subst hww)
            go_roundw
            case rel => exact ⟨t + 1, m, A', c', by omega, by go_num, by rw [HES.out], rfl, by rw [HNS.out]; exact HO.out, HBW.out⟩
            case measure => simp [intOf]; omega
          · have HES := Lib.hid (show errL L (bs.take (t + 1)) = E1 from by rw [errL_next HX.out, HEQ.out]; unfold errStep; rw [if_neg (show ¬ (xi, (u : Int)).1 = -1 from by simp only; omega), HBO.out]; simp [he0])
            have heb : (E1 == 0) = false := by simpa using he0
            clear he0
            go_wp2_with (go_at_call 29; with_reducible refine HBL.out.mono ?_; rintro e w8 ⟨hww, rfl⟩; subst hww)
            go_roundw
            case rel => exact ⟨t + 1, m, A', c', by omega, by go_num, by rw [HES.out], rfl, by rw [HNS.out]; exact HO.out, HBW.out⟩
            case measure => simp [intOf]; omega
        | some d =>
          have HBL := Lib.hid (blob_some HLW.out hm4 hf)
          have u0 : (0 : Int) ≤ (u : Int) := Int.natCast_nonneg u
          by_cases hud : u < d.length
          · have hud' : ¬ (d.length : Int) ≤ (u : Int) := by omega
            have hud2 : (u : Int) < (d.length : Int) := by omega
            obtain ⟨y, hy⟩ : ∃ y, d[u]? = some y := ⟨_, List.getElem?_eq_getElem hud⟩
            have HBO := Lib.hid (show byteOf L (xi, (u : Int)) = some y from by rw [hBO, hf]; exact hy)
            have HNS := Lib.hid (show by8 (bytesOut (bs.take (t + 1)) L) = by8 (bytesOut (bs.take t) L) ++ [.int .u8 y.toNat] from by rw [out_next HX.out, HBO.out]; simp [by8])
            have HES := Lib.hid (show errL L (bs.take (t + 1)) = E1 from by rw [errL_next HX.out, HEQ.out]; unfold errStep; rw [if_neg (show ¬ (xi, (u : Int)).1 = -1 from by simp only; omega), HBO.out]; rfl)
            have HY := Lib.hid hy
            clear hBO hf hy
            go_upto_region 13 with (go_at_call 29; with_reducible refine HBL.out.mono ?_; rintro e w8 ⟨hww, B8, c8, rfl, hB8⟩; subst hww)
            obtain ⟨gB, oB, rfl, _, hcB⟩ := hB8 (fun e => by rw [e] at hud; simp at hud)
            have qB := hcB u y HY.out
            clear hcB
            go_wp2_with (at_builtin; refine wpList_append_own _ rfl _ _ 55 rfl wX.heap.size 5 iu _ 1 1 Try.underlying55 hu hu0 hu1 hu2 rfl (by decide) _ _ _ rfl (HO.out.alloc _) ⟨_, 0, none⟩ 1 1 [.int .u8 y.toNat] rfl rfl (cells_new _ _ _) (by simp [Value.oneCell']) (by unfold maxLen; omega) (by omega) (by simp; omega) ?_; intro v' w7 hown7 hgrow7 _; obtain ⟨g7, c7, rfl⟩ := ownsRow_succ hown7)
            have hb7 : Below wX.heap.size wX w7 := (HBW.out.alloc hbs _).grown hgrow7 (by simp; omega) (fun t ht => (HO.out.lt t ht).1)
            go_roundw
            case rel => exact ⟨t + 1, m + 1, some ⟨g7, 0, none⟩, c7, by omega, by go_num, by rw [HES.out], rfl, by rw [HNS.out]; exact hown7, hb7⟩
            case measure => simp [intOf]; omega
          · have hud' : (d.length : Int) ≤ (u : Int) := by omega
            have HBO := Lib.hid (show byteOf L (xi, (u : Int)) = none from by rw [hBO, hf]; exact List.getElem?_eq_none (by omega))
            clear hBO hf
            have HNS := Lib.hid (show by8 (bytesOut (bs.take (t + 1)) L) = by8 (bytesOut (bs.take t) L) from by rw [out_next HX.out, HBO.out]; simp)
            by_cases he0 : E1 = 0
            · have HES := Lib.hid (show errL L (bs.take (t + 1)) = 90 from by rw [errL_next HX.out, HEQ.out]; unfold errStep; rw [if_neg (show ¬ (xi, (u : Int)).1 = -1 from by simp only; omega), HBO.out, he0]; rfl)
              have heb : (E1 == 0) = true := by simpa using he0
              clear he0
              go_wp2_with (go_at_call 29; with_reducible refine HBL.out.mono ?_; rintro e w8 ⟨hww, B8, c8, rfl, hB8⟩; subst hww)
              go_roundw
              case rel => exact ⟨t + 1, m, A', c', by omega, by go_num, by rw [HES.out], rfl, by rw [HNS.out]; exact HO.out, HBW.out⟩
              case measure => simp [intOf]; omega
            · have HES := Lib.hid (show errL L (bs.take (t + 1)) = E1 from by rw [errL_next HX.out, HEQ.out]; unfold errStep; rw [if_neg (show ¬ (xi, (u : Int)).1 = -1 from by simp only; omega), HBO.out]; simp [he0])
              have heb : (E1 == 0) = false := by simpa using he0
              clear he0
              go_wp2_with (go_at_call 29; with_reducible refine HBL.out.mono ?_; rintro e w8 ⟨hww, B8, c8, rfl, hB8⟩; subst hww)
              go_roundw
              case rel => exact ⟨t + 1, m, A', c', by omega, by go_num, by rw [HES.out], rfl, by rw [HNS.out]; exact HO.out, HBW.out⟩
              case measure => simp [intOf]; omega
    · obtain rfl : t = m5 := by omega
      have hfull : bs.take t = bs := List.take_of_length_le (by rw [HL5.out]; exact Nat.le_refl _)
      have HEF := Lib.hid (show errL2 E1 bs = E from by rw [← HEE.out, ← err_all, ← HEQ.out, hfull])
      have HOF := Lib.hid (show wr.ownsRow wX.heap.size 5 1 (.slice A' m c') m (by8 (bytesOut bs L)) from by have h := HO.out; rw [hfull] at h; exact h)
      clear hfull hbw
      obtain ⟨wy, hwy⟩ : ∃ W, W = wr := ⟨_, rfl⟩
      subst hwy
      go_wp2
      go_loopw [11, 15] (fun e i wz => ∃ t2 : Nat, t2 ≤ t ∧ i = .int .i64 t2 ∧ e = .int .i64 (errL2 E1 (bs.take t2)) ∧ Below wy.heap.size wy wz) (fun _ i _ => t - (intOf i).toNat)
      case atStart => exact ⟨0, Nat.zero_le _, rfl, rfl, Below.refl _ _⟩
      case round =>
        obtain ⟨t2, ht2, rfl, rfl, hby⟩ := hrel
        have HBY := Lib.hid hby
        obtain ⟨E2, hEQ2⟩ : ∃ E2, errL2 E1 (bs.take t2) = E2 := ⟨_, rfl⟩
        have HEQ2 := Lib.hid hEQ2
        rw [hEQ2]
        clear hEQ2
        by_cases htn2 : t2 < t
        · have htn' : (t2 : Int) < (t : Int) := Int.ofNat_lt.2 htn2
          have t0 : (0 : Int) ≤ (t2 : Int) := Int.natCast_nonneg t2
          obtain ⟨x, hx⟩ : ∃ x, bs[t2]? = some x := ⟨_, List.getElem?_eq_getElem (by rw [HL5.out]; exact htn2)⟩
          obtain ⟨xi, xa⟩ := x
          have HX := Lib.hid hx
          obtain ⟨g5, o5, rfl, _, a0, a1⟩ := (HT5.out.below (HBW.out.trans (hby.mono HBW.out.size))).at_ hx
          dsimp only at a0 a1
          clear hx hby
          by_cases hm1 : xi = -1
          · have HES := Lib.hid (show errL2 E1 (bs.take (t2 + 1)) = 60 from by rw [errL2_next HX.out]; exact if_pos hm1)
            have hb1 : (xi == -1) = true := by simpa using hm1
            clear hm1
            go_wp2
            go_roundw
            case rel => exact ⟨t2 + 1, by omega, by go_num, by rw [HES.out], HBY.out⟩
            case measure => simp [intOf]; omega
          · have HES := Lib.hid (show errL2 E1 (bs.take (t2 + 1)) = E2 from by rw [errL2_next HX.out, HEQ2.out]; exact if_neg hm1)
            have hb1 : (xi == -1) = false := by simpa using hm1
            clear hm1
            go_wp2
            go_roundw
            case rel => exact ⟨t2 + 1, by omega, by go_num, by rw [HES.out], HBY.out⟩
            case measure => simp [intOf]; omega
        · obtain rfl : t2 = t := by omega
          have hfull : bs.take t2 = bs := List.take_of_length_le (by rw [HL5.out]; exact Nat.le_refl _)
          have hE2 : E2 = E := by rw [← HEQ2.out, hfull, HEF.out]
          subst hE2
          have hXY := HBW.out.trans (hby.mono HBW.out.size)
          obtain ⟨y0, y1⟩ := HX.out _ hXY
          have HFIN := Lib.hid (HBW1.out.trans ((H4X'.out.trans (hXY.mono H4X'.out.size) |> fun h => HB4.out.trans (h.mono HB4.out.size)).mono HBW1.out.size))
          clear hfull
          rcases HCS.out with ⟨he0, rfl, hBy⟩ | ⟨he0, hm6⟩
          · have s1 := str_any (hBy.below hXY) _ c6 rfl
            have s2 := str_any (Byt.of_own (own_keep HOF.out hby)) m c' (by have := own_slen HOF.out; rw [by8_len] at this; omega)
            have htt : ((tx (bytesOut bs L)).toList == (tx (bytesOut bs L)).toList) = true := by rw [tx_beq]; simp
            subst he0
            clear hby hXY hBy
            go_wp2
            go_ret
            exact ⟨ret_bool (by simp), HFIN.out⟩
          · have hee : (E2 == E2) = true := by simp
            have hne : (E2 == 0) = false := by simpa using he0
            have hne2 : (E2 != 0) = true := by simpa using he0
            subst hm6
            clear hby hXY he0
            go_wp2
            go_ret
            exact ⟨rfl, HFIN.out⟩
end Go.Proofs.Ytggnklcjhbahhaa
