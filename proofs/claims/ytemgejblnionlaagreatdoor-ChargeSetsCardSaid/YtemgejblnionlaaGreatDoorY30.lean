/-
  Texts Ef, put together by program.
-/
import Derived.Test.YtemgejblnionlaaGreatDoorY28
import Derived.Test.YtemgejblnionlaaGreatDoorY29
namespace Go.Proofs.YtemgejblnionlaaGreatDoor
open Go.RowKit Go.Maps
set_option maxHeartbeats 16000000
set_option maxRecDepth 100000
theorem srt_lt {U : List (Int × Us)} (h : SrtU U) {i j : Nat} {a b : Int × Us} (ha : U[i]? = some a) (hb : U[j]? = some b) (hij : i < j) : a.1 < b.1 := by
 obtain ⟨h1, h2⟩ := List.getElem?_eq_some_iff.1 ha
 obtain ⟨h3, h4⟩ := List.getElem?_eq_some_iff.1 hb
 have := List.pairwise_iff_getElem.1 h i j h1 h3 hij
 rwa [h2, h4] at this
theorem rng_at {w : World} {g ad m c j : Nat} {U : List (Int × Us)} {a : Int × Us} (h : Sv w (some ⟨g, ad, none⟩) m c 3 (encs encU U)) (ha : U[j]? = some a) : w.cell? ⟨g, ad + j * 3, none⟩ = some (.int .i64 a.1) := by
 obtain ⟨g', o, h1, _, h3⟩ := Sv.range encU_len (by decide) h ha
 injection h1 with h1
 injection h1 with h1 h2
 subst h1
 subst h2
 exact h3 0 _ rfl
theorem has_some {L : List (Int × Us)} {o v : Int} (h : HasR L o v) (hu : hasU L o = true) : ∃ (k : Nat) (a : Int × Us), v = (k : Int) ∧ L[k]? = some a ∧ a.1 = o := by
 rcases h with ⟨_, h⟩ | ⟨k, a, h1, h2, h3, _⟩
 · obtain ⟨a, ha, hx⟩ := hasU_iff.1 hu
   exact absurd hx (h a ha)
 · exact ⟨k, a, h1, h2, h3⟩
theorem lawSets_any (A : Option Addr) (n c : Nat) (l : List B3) (x : Int × Us) (v : Int) (w : World) (hE : Nam.Env w) (hA : Sv w A n c 3 (encs encB l)) (hv : 0 ≤ v ∧ v < 256) :
 Calls Tryz.prog 9 #[.slice A n c, .agg (encU x).toArray, .int .u8 v] w fun e w' => e = .returned (.bool true) ∧ Below w.heap.size w w' := by
 obtain ⟨i2, hj, hj0, hj1, hj2⟩ := info_parts info_li
 have SA := Lib.hid hA
 have HE := Lib.hid hE
 have kk0 := Bxs.nil w
 obtain ⟨x1, hwx1, hzx1, kx1⟩ := kk0.new rfl (encU x).toArray (encU x).toArray 44
 have HW1 := Lib.hid (show w.alloc (.cells #[.int .i64 x.1, .int .i64 x.2.1, .int .i64 x.2.2] 44) = x1 from hwx1)
 have K1 := Lib.hid kx1
 clear hA hE kk0 hwx1 kx1 hzx1
 have CS := Lib.hid (lawSanity_any x1 (HE.out.below K1.out.low.out))
 show Calls Tryz.prog 9 #[.slice A n c, .agg #[.int .i64 x.1, .int .i64 x.2.1, .int .i64 x.2.2], .int .u8 v] w _
 go_enter Tryz.func9, Tryz.ntmps9
 go_upto_region 1 with fail
 rw [HW1.out]
 clear HW1
 go_upto_region 2 with (go_at_call 10; (with_reducible refine CS.out.mono ?_); rintro e w2 ⟨rfl, hb⟩; have HB2 := Lib.hid hb; clear hb)
 have K2 := Lib.hid (K1.out.step HB2.out)
 clear CS HB2 K1
 by_cases hn : (n : Int) > 40
 · go_wp2
   go_ret
   exact ⟨rfl, K2.out.low.out⟩
 have CL := Lib.hid (Limits_any A n c l w2 (SA.out.below K2.out.low.out) (by omega))
 go_upto_region 5 with (go_at_call 12; (with_reducible refine CL.out.mono ?_); rintro e w3 ⟨B, m, d, L, rfl, hS, hL, hP, hb⟩; have HP3 := Lib.hid hP; clear hP; have SL := Lib.hid hS; have OK := Lib.hid hL; have HB3 := Lib.hid hb; clear hS hL hb)
 have K3 := Lib.hid (K2.out.step HB3.out)
 have HLT2 := Lib.hid (K2.out.lt 0 rfl)
 have HM := Lib.hid (show L.length = m from SL.out.plen encU_len (by decide))
 have hm16 : m ≤ 16 := by have := HM.out; have := OK.out.len; omega
 clear CL HB3 K2 hn SA
 have v1 : v.tdiv 2 = v / 2 := Int.tdiv_eq_ediv_of_nonneg hv.1
 obtain ⟨J, J1, J2, J3, J4, J5⟩ := remB v 2 (by decide) hv
 have J3 : v.tmod 2 = (J : Int) := J3
 rename_i K hK K0 hK0 J3x
 have key : ∀ (u17 u18 u19 u20 u21 u22 u23 u24 u25 u26 u27 u28 u29 u30 u31 u32 u33 u34 u35 u36 u37 u38 u39 u40 u41 u42 : Value) (w4 : World) (y : Int × Us), Bxs w [(w.heap.size, (encU y).toArray, 44)] w4 → Sv w4 B m d 3 (encs encU L) → K { tmps := #[.slice A n c, .agg #[.int .i64 x.1, .int .i64 x.2.1, .int .i64 x.2.2], .int .u8 v, undef, .pointer (some ⟨w.heap.size, 0, none⟩), undef, .bool false, .bool true, .slice B m d, undef, undef, undef, undef, undef, undef, undef, undef, u17, u18, u19, u20, u21, u22, u23, u24, u25, u26, u27, u28, u29, u30, u31, u32, u33, u34, u35, u36, u37, u38, u39, u40, u41, u42, undef, undef, undef, undef, undef, undef, undef, undef, undef, undef, undef, undef, undef, undef, undef, undef, undef, undef, undef, undef, undef, undef, undef, undef, undef, undef, undef, undef, undef, undef, undef, undef, undef, undef, undef, undef, undef, undef, undef, undef, undef, undef, undef, undef, undef, undef, undef, undef, undef, undef, undef, undef, undef, undef, undef, undef, undef, undef, undef, undef, undef, undef, undef, undef, undef, undef, undef, undef, undef, undef, undef, undef, undef, undef, undef, undef, undef, undef, undef, undef, undef, undef, undef, undef, undef, undef, undef, undef, undef, undef, undef, undef, undef, undef, undef, undef, undef, undef, undef, undef, undef, undef, undef, undef, undef, undef, undef, undef, undef, undef, undef, undef, undef, undef, undef, undef, undef, undef, undef, undef, undef, undef, undef, undef, undef, undef, undef, undef, undef, undef, undef, undef, undef, undef, undef, undef, undef, undef, undef, undef, undef, undef, undef, undef, undef], defers := [] } w4 := by
  intro u17 u18 u19 u20 u21 u22 u23 u24 u25 u26 u27 u28 u29 u30 u31 u32 u33 u34 u35 u36 u37 u38 u39 u40 u41 u42 w4 y k4 sl4
  refine hK _ _ ?_
  have K4 := Lib.hid k4
  have SL4 := Lib.hid sl4
  clear k4 sl4 hK hK0 K3 SL
  clear K0 K
  have CT := Lib.hid (lawSet_any B m d L y w4 SL4.out OK.out.srt (by omega))
  go_upto_region 8 with (first | (with_reducible refine load_li rfl _ rfl w.heap.size 0 rfl y (box_range (K4.out.at 0 rfl).out) ?_) | (go_at_call 15; (with_reducible refine CT.out.mono ?_); rintro e w5 ⟨A5, m5, c5, rfl, hO, hb⟩; have HO5 := Lib.hid hO; have HB5 := Lib.hid hb; clear hO hb) | (with_reducible refine store_s1 rfl _ _ rfl w5.heap.size rfl A5 m5 c5 _ rfl _ (heap_alloc_new w5 _) rfl ?_))
  have K6 := Lib.hid ((((K4.out.step HB5.out).alloc #[.slice none 0 0, .int .i64 0] 47)).row 0 rfl #[.slice A5 m5 c5, .int .i64 (doSet L y).2])
  have HB6 := Lib.hid (show Below w5.heap.size w5 ((w5.alloc (.cells #[.slice none 0 0, .int .i64 0] 47)).setRow w5.heap.size #[.slice A5 m5 c5, .int .i64 (doSet L y).2]) from (((Bxs.nil w5).alloc #[.slice none 0 0, .int .i64 0] 47).row 0 rfl _).low.out)
  have S5 := Lib.hid ((Sv.own HO5.out (encs_cells encU_one _)).below HB6.out)
  have SL6 := Lib.hid ((SL4.out.below HB5.out).below HB6.out)
  generalize hw6 : (w5.alloc (.cells #[.slice none 0 0, .int .i64 0] 47)).setRow w5.heap.size #[.slice A5 m5 c5, .int .i64 (doSet L y).2] = w6 at *
  clear hw6 CT HO5 HB6 HB5 K4 SL4
  have y0 : w6.cell? ⟨w.heap.size, 0, none⟩ = some (.int .i64 y.1) := K6.out.cell 1 0 _ rfl
  have y1 : w6.cell? ⟨w.heap.size, 1, none⟩ = some (.int .i64 y.2.1) := K6.out.cell 1 1 _ rfl
  have y2 : w6.cell? ⟨w.heap.size, 2, none⟩ = some (.int .i64 y.2.2) := K6.out.cell 1 2 _ rfl
  have CH := Lib.hid (Has_any B m d L y.1 w6 SL6.out (by omega))
  have hbl : badL y = (decide (y.1 < -1) || decide (y.1 > 999) || decide (y.2.1 < 0) || decide (y.2.2 < 0)) := by
   unfold badL personB
   by_cases k1 : y.1 = -1 <;> by_cases k2 : y.1 < -1 <;> by_cases k3 : y.1 > 999 <;> by_cases k4 : 0 ≤ y.1 <;> by_cases k5 : y.1 ≤ 999 <;> simp [k1, k2, k3, k4, k5] <;> omega
  by_cases h1 : y.1 < -1
  · have HRES := Lib.hid (setU_bad (l := L) (x := y) (by rw [hbl]; simp [h1]))
    clear hbl
    have hD : doSet L y = (L, 1) := HRES.out
    rw [hD] at S5 K6
    have s0 : w6.cell? ⟨w5.heap.size, 0, none⟩ = some (.slice A5 m5 c5) := K6.out.cell 0 0 _ rfl
    have s1 : w6.cell? ⟨w5.heap.size, 1, none⟩ = some (.int .i64 1) := K6.out.cell 0 1 _ rfl
    have SM := Lib.hid (sLims A5 B m5 c5 m d L w6 S5.out SL6.out (by have := (show L.length = m5 from S5.out.plen encU_len (by decide)); have := HM.out; omega))
    clear hD
    go_wp2_with (first | (go_at_call 44; (with_reducible refine CH.out.mono ?_); rintro e w7 ⟨⟨v9, rfl, hv9⟩, hw7⟩; rw [hw7]; clear hw7 hv9) | (go_at_call 26; (with_reducible refine SM.out.mono ?_); rintro e w8 ⟨rfl, hb⟩; have HB8 := Lib.hid hb; clear hb))
    all_goals (go_ret; exact ⟨rfl, K6.out.low.out.trans (HB8.out.mono K6.out.low.out.size)⟩)
  by_cases h2 : y.1 > 999
  · have HRES := Lib.hid (setU_bad (l := L) (x := y) (by rw [hbl]; simp [h2]))
    clear hbl
    have hD : doSet L y = (L, 1) := HRES.out
    rw [hD] at S5 K6
    have s0 : w6.cell? ⟨w5.heap.size, 0, none⟩ = some (.slice A5 m5 c5) := K6.out.cell 0 0 _ rfl
    have s1 : w6.cell? ⟨w5.heap.size, 1, none⟩ = some (.int .i64 1) := K6.out.cell 0 1 _ rfl
    have SM := Lib.hid (sLims A5 B m5 c5 m d L w6 S5.out SL6.out (by have := (show L.length = m5 from S5.out.plen encU_len (by decide)); have := HM.out; omega))
    clear hD
    go_wp2_with (first | (go_at_call 44; (with_reducible refine CH.out.mono ?_); rintro e w7 ⟨⟨v9, rfl, hv9⟩, hw7⟩; rw [hw7]; clear hw7 hv9) | (go_at_call 26; (with_reducible refine SM.out.mono ?_); rintro e w8 ⟨rfl, hb⟩; have HB8 := Lib.hid hb; clear hb))
    all_goals (go_ret; exact ⟨rfl, K6.out.low.out.trans (HB8.out.mono K6.out.low.out.size)⟩)
  by_cases h3 : y.2.1 < 0
  · have HRES := Lib.hid (setU_bad (l := L) (x := y) (by rw [hbl]; simp [h3]))
    clear hbl
    have hD : doSet L y = (L, 1) := HRES.out
    rw [hD] at S5 K6
    have s0 : w6.cell? ⟨w5.heap.size, 0, none⟩ = some (.slice A5 m5 c5) := K6.out.cell 0 0 _ rfl
    have s1 : w6.cell? ⟨w5.heap.size, 1, none⟩ = some (.int .i64 1) := K6.out.cell 0 1 _ rfl
    have SM := Lib.hid (sLims A5 B m5 c5 m d L w6 S5.out SL6.out (by have := (show L.length = m5 from S5.out.plen encU_len (by decide)); have := HM.out; omega))
    clear hD
    go_wp2_with (first | (go_at_call 44; (with_reducible refine CH.out.mono ?_); rintro e w7 ⟨⟨v9, rfl, hv9⟩, hw7⟩; rw [hw7]; clear hw7 hv9) | (go_at_call 26; (with_reducible refine SM.out.mono ?_); rintro e w8 ⟨rfl, hb⟩; have HB8 := Lib.hid hb; clear hb))
    all_goals (go_ret; exact ⟨rfl, K6.out.low.out.trans (HB8.out.mono K6.out.low.out.size)⟩)
  by_cases h4 : y.2.2 < 0
  · have HRES := Lib.hid (setU_bad (l := L) (x := y) (by rw [hbl]; simp [h4]))
    clear hbl
    have hD : doSet L y = (L, 1) := HRES.out
    rw [hD] at S5 K6
    have s0 : w6.cell? ⟨w5.heap.size, 0, none⟩ = some (.slice A5 m5 c5) := K6.out.cell 0 0 _ rfl
    have s1 : w6.cell? ⟨w5.heap.size, 1, none⟩ = some (.int .i64 1) := K6.out.cell 0 1 _ rfl
    have SM := Lib.hid (sLims A5 B m5 c5 m d L w6 S5.out SL6.out (by have := (show L.length = m5 from S5.out.plen encU_len (by decide)); have := HM.out; omega))
    clear hD
    go_wp2_with (first | (go_at_call 44; (with_reducible refine CH.out.mono ?_); rintro e w7 ⟨⟨v9, rfl, hv9⟩, hw7⟩; rw [hw7]; clear hw7 hv9) | (go_at_call 26; (with_reducible refine SM.out.mono ?_); rintro e w8 ⟨rfl, hb⟩; have HB8 := Lib.hid hb; clear hb))
    all_goals (go_ret; exact ⟨rfl, K6.out.low.out.trans (HB8.out.mono K6.out.low.out.size)⟩)
  have HGOOD := Lib.hid (show badL y = false by rw [hbl]; simp [h3, h4]; omega)
  clear hbl
  by_cases hu : hasU L y.1 = true
  · have HRES := Lib.hid (setU_ok (l := L) HGOOD.out (.inl hu))
    have CU := Lib.hid (show Calls Tryz.prog 44 #[.slice B m d, .int .i64 y.1] w6 fun e w' => (∃ (k : Nat) (a : Int × Us), e = .returned (.int .i64 (k : Int)) ∧ L[k]? = some a ∧ a.1 = y.1) ∧ w' = w6 from CH.out.mono fun e w' ⟨⟨v, he, hv⟩, hw⟩ => ⟨by
     obtain ⟨k, a, h1, h2, h3⟩ := has_some hv hu
     exact ⟨k, a, by rw [he, h1], h2, h3⟩, hw⟩)
    clear hu
    have hD : doSet L y = (setU L y, 0) := HRES.out
    rw [hD] at S5 K6
    have HSR := Lib.hid (setU_srt y OK.out.srt)
    obtain ⟨hat, hget⟩ := setU_at (l := L) y
    have hrest := setU_rest y OK.out.srt
    have hlen := setU_length (l := L) (x := y)
    obtain ⟨T, hT⟩ : ∃ T, (L.filter (fun a => a.1 < y.1)).length = T := ⟨_, rfl⟩
    rw [hT] at hat hget hrest
    clear hD hT
    dsimp only at S5 K6
    obtain ⟨U, hU⟩ : ∃ U, setU L y = U := ⟨_, rfl⟩
    rw [hU] at S5 HSR hat hget hrest hlen
    clear hU
    have hUm : U.length = m5 := S5.out.plen encU_len (by decide)
    have hTm : T < m5 := by have := (List.getElem?_eq_some_iff.1 hget).1; omega
    have hm5 : m5 ≤ 17 := by have := HM.out; omega
    obtain ⟨Q, hQ⟩ : ∃ Q, T + 1 = Q := ⟨_, rfl⟩
    have hs2 : (T : Int) + 1 = (Q : Int) := by omega
    have s1 : w6.cell? ⟨w5.heap.size, 1, none⟩ = some (.int .i64 0) := K6.out.cell 0 1 _ rfl
    have CK := Lib.hid (show Calls Tryz.prog 44 #[.slice A5 m5 c5, .int .i64 y.1] w6 fun e w' => e = .returned (.int .i64 (T : Int)) ∧ w' = w6 from (Has_any A5 m5 c5 U y.1 w6 S5.out (by omega)).mono fun e w' ⟨⟨v, he, hv⟩, hw⟩ => ⟨by rw [he, hv.one hat], hw⟩)
    obtain ⟨g, ad, hA5, hg, hc⟩ := Sv.range encU_len (by decide) S5.out hget
    have HU := Lib.hid (show ∀ W, Below w6.heap.size w6 W → W.rangeAt g (ad + T * 3) (encU y) from fun W hb => range_below hc hg hb)
    subst hA5
    have s0 : w6.cell? ⟨w5.heap.size, 0, none⟩ = some (.slice (some ⟨g, ad, none⟩) m5 c5) := K6.out.cell 0 0 _ rfl
    clear hc hat
    have HG := Lib.hid hget
    have HR := Lib.hid hrest
    clear hget hrest
    go_upto_region 16 with (first | (go_at_call 44; (with_reducible refine CU.out.mono ?_); rintro e w7 ⟨⟨ka, a, rfl, ha, hax⟩, hw7⟩; rw [hw7]; clear hw7; have HKA := Lib.hid (And.intro ha hax); have hka : ka < m := (by have := (List.getElem?_eq_some_iff.1 ha).1; have := HM.out; omega); have hka0 : (0 : Int) ≤ (ka : Int) := (by omega); have hka1 : ¬ (ka : Int) < 0 := (by omega); clear ha hax) | (go_at_call 44; (with_reducible refine CK.out.mono ?_); rintro e w7 ⟨rfl, hw7⟩; rw [hw7]; clear hw7))
    have hdr : Below w6.heap.size w6 w6.drew := below_drewN w6 1
    have HB9 := Lib.hid hdr
    clear hdr
    have hne : ∀ W, (binOp .neq 44 (.agg (encU y).toArray) (.agg (encU y).toArray)).run Tryz.prog W = .ok (.bool false) W := fun W => by rw [neqLi]; simp
    refine wp_region_ord (fun w' => w'.cell? ⟨w5.heap.size, 0, none⟩ = some (.slice (some ⟨g, ad, none⟩) m5 c5) ∧ w'.cell? ⟨w5.heap.size, 1, none⟩ = some (.int .i64 0) ∧ w'.heap[w.heap.size]? = some (.cells (encU y).toArray 44 (0, 0)) ∧ w'.rangeAt g (ad + T * 3) (encU y)) [(0, true), (1, true), (2, true), (3, true), (4, true), (5, true), (6, true), (7, true), (8, true), (9, true), (10, true), (11, true), (12, true), (13, true), (14, true), (15, true)] (by kernel_rfl) (by kernel_rfl) (by kernel_rfl) ⟨(K6.out.step HB9.out).cell 0 0 _ rfl, (K6.out.step HB9.out).cell 0 1 _ rfl, ((K6.out.step HB9.out).at 1 rfl).out, HU.out _ HB9.out⟩ (fun d _ _ _ _ h => by cases d <;> exact h) ?_
    iterate 12 refine ord_pure ?_
    refine ord_pure (v := .agg (encU y).toArray) (hy := yieldsIf_load_mid (by rfl) 44 _ rfl g (ad + T * 3) rfl (encU y) _ (fun w h => h.2.2.2) Tryz.underlying44 rfl (by kernel_rfl)) ?_
    refine ord_pure (v := .agg (encU y).toArray) (hy := yieldsIf_load_mid (by rfl) 44 _ rfl w.heap.size 0 rfl (encU y) _ (fun w h => box_range h.2.2.1) Tryz.underlying44 rfl (by kernel_rfl)) ?_
    iterate 2 refine ord_pure ?_
    refine ord_nil ?_
    obtain ⟨w9, hw9⟩ : ∃ q, q = w6.drew := ⟨_, rfl⟩
    rw [← hw9] at HB9 ⊢
    clear hw9 y0 y1 y2 s0 s1 hne
    have K9 := Lib.hid (K6.out.step HB9.out)
    have S9 := Lib.hid (S5.out.below HB9.out)
    have SL9 := Lib.hid (SL6.out.below HB9.out)
    have HU9 := Lib.hid (HU.out _ HB9.out)
    clear HU S5 SL6 K6 HB9 CK
    obtain ⟨SA1, sl1, SK⟩ := toL S9.out (j := T) (by omega)
    obtain ⟨SA2, sl2, SF⟩ := fromL S9.out (j := Q) (by omega)
    have HSK := Lib.hid SK
    have HSF := Lib.hid SF
    clear SK SF
    have HE1 := Lib.hid (own_empty w9 44 3)
    have HD1 := Lib.hid ((Below.refl w9.heap.size w9).alloc (Nat.le_refl _) (.cells #[] 44))
    have s0 : (w9.alloc (.cells #[] 44)).cell? ⟨w5.heap.size, 0, none⟩ = some (.slice (some ⟨g, ad, none⟩) m5 c5) := (K9.out.step HD1.out).cell 0 0 _ rfl
    go_upto_region 19 with (first | (at_builtin; refine wpList_append_sg rfl _ _ 33 rfl w11.heap.size 44 i2 _ 3 24 Tryz.underlying33 hj hj0 hj1 hj2 rfl (by decide) _ _ _ rfl HE2.out B m d (encs encU L) rfl (SL9.out.below HD3.out) (by unfold maxLen; omega) (by omega) (by first | exact Nat.le_refl _ | exact HD4.out.size | exact HD7.out.size | simp | (simp; omega) | omega) ?_; intro v' w12 hown hg; (try rw [Nat.zero_add, List.nil_append] at hown); obtain ⟨R2, d2, rfl⟩ := own_form hown; have HO2 := Lib.hid hown; have HG2 := Lib.hid hg; have HD4 := Lib.hid (HD3.out.grown HG2.out HD3.out.size (fun k e => Nat.le_trans HD2.out.size (HE2.out.lt k e).1)); have HO1c := Lib.hid (own_apart HO1b.out HG2.out (fun k e1 e2 => by have h1 := (HO1.out.lt k e1).2; have h2 := (HE2.out.lt k e2).1; omega)); clear s0; have s12 : w12.cell? ⟨w5.heap.size, 0, none⟩ = some (.slice (some ⟨g, ad, none⟩) m5 c5) := (K9.out.step HD4.out).cell 0 0 _ rfl; clear hown hg) | (at_builtin; refine wpList_append_sg rfl _ _ 33 rfl w9.heap.size 44 i2 _ 3 24 Tryz.underlying33 hj hj0 hj1 hj2 rfl (by decide) _ _ _ rfl HE1.out SA1 T c5 (encs encU (U.take T)) rfl (HSK.out.below HD1.out) (by unfold maxLen; omega) (by omega) (by first | exact Nat.le_refl _ | exact HD4.out.size | exact HD7.out.size | simp | (simp; omega) | omega) ?_; intro v' w11 hown hg; (try rw [Nat.zero_add, List.nil_append] at hown); obtain ⟨R1, d1, rfl⟩ := own_form hown; have HO1 := Lib.hid hown; have HG1 := Lib.hid hg; have HD2 := Lib.hid (HD1.out.grown HG1.out HD1.out.size (fun k e => (HE1.out.lt k e).1)); have HE2 := Lib.hid (own_empty w11 44 3); have HD3 := Lib.hid (HD2.out.alloc HD2.out.size (.cells #[] 44)); have HO1b := Lib.hid (own_keep HO1.out ((Below.refl w11.heap.size w11).alloc (Nat.le_refl _) (.cells #[] 44))); clear hown hg))
    have HSF12 := Lib.hid (HSF.out.below HD4.out)
    go_upto_region 20 with (at_builtin; refine wpList_append_sg rfl _ _ 33 rfl w9.heap.size 44 i2 _ 3 24 Tryz.underlying33 hj hj0 hj1 hj2 rfl (by decide) _ _ _ rfl HO1c.out SA2 (m5 - Q) (c5 - Q) (encs encU (U.drop Q)) rfl HSF12.out (by unfold maxLen; omega) (by omega) (by first | exact Nat.le_refl _ | exact HD4.out.size | exact HD7.out.size | simp | (simp; omega) | omega) ?_; intro v' w13 hown hg; (try rw [Nat.zero_add, List.nil_append] at hown); obtain ⟨R3, d3, rfl⟩ := own_form hown; have HO3 := Lib.hid hown; have HG3 := Lib.hid hg; have HD5 := Lib.hid (HD4.out.grown HG3.out HD4.out.size (fun k e => (HO1c.out.lt k e).1)); clear s12; clear hown hg)
    have HO2b := Lib.hid (own_apart HO2.out HG3.out (fun k e1 e2 => by have h1 := (HO2.out.lt k e1).1; have h2 := (HO1.out.lt k e2).2; omega))
    have SL13 := Lib.hid (SL9.out.below HD5.out)
    obtain ⟨KQ, hKQ⟩ : ∃ q, ka + 1 = q := ⟨_, rfl⟩
    have hs3 : (ka : Int) + 1 = (KQ : Int) := by omega
    obtain ⟨SB1, sl3, SKb⟩ := toL SL13.out (j := ka) (by omega)
    obtain ⟨SB2, sl4, SFb⟩ := fromL SL13.out (j := KQ) (by omega)
    have HSB1 := Lib.hid SKb
    have HSB2 := Lib.hid SFb
    clear SKb SFb
    have HE3 := Lib.hid (own_empty w13 44 3)
    have HD6 := Lib.hid ((Below.refl w13.heap.size w13).alloc (Nat.le_refl _) (.cells #[] 44))
    go_upto_region 23 with (first | (at_builtin; refine wpList_append_sg rfl _ _ 33 rfl w13.heap.size 44 i2 _ 3 24 Tryz.underlying33 hj hj0 hj1 hj2 rfl (by decide) _ _ _ rfl HO4.out SB2 (m - KQ) (d - KQ) (encs encU (L.drop KQ)) rfl HSB14.out (by unfold maxLen; omega) (by omega) (by first | exact Nat.le_refl _ | exact HD4.out.size | exact HD7.out.size | simp | (simp; omega) | omega) ?_; intro v' w15 hown hg; (try rw [Nat.zero_add, List.nil_append] at hown); obtain ⟨R5, d5, rfl⟩ := own_form hown; have HO5x := Lib.hid hown; have HG5 := Lib.hid hg; have HD8 := Lib.hid (HD7.out.grown HG5.out HD7.out.size (fun k e => (HO4.out.lt k e).1)); clear hown hg) | (at_builtin; refine wpList_append_sg rfl _ _ 33 rfl w13.heap.size 44 i2 _ 3 24 Tryz.underlying33 hj hj0 hj1 hj2 rfl (by decide) _ _ _ rfl HE3.out SB1 ka d (encs encU (L.take ka)) rfl (HSB1.out.below HD6.out) (by unfold maxLen; omega) (by omega) (by first | exact Nat.le_refl _ | exact HD4.out.size | exact HD7.out.size | simp | (simp; omega) | omega) ?_; intro v' w14 hown hg; (try rw [Nat.zero_add, List.nil_append] at hown); obtain ⟨R4, d4, rfl⟩ := own_form hown; have HO4 := Lib.hid hown; have HG4 := Lib.hid hg; have HD7 := Lib.hid (HD6.out.grown HG4.out HD6.out.size (fun k e => (HE3.out.lt k e).1)); have HSB14 := Lib.hid (HSB2.out.below HD7.out); clear hown hg))
    have HO3z := Lib.hid (own_keep HO3.out HD8.out)
    have HDz := Lib.hid (HD5.out.trans (HD8.out.mono HD5.out.size))
    obtain ⟨F, hF⟩ : ∃ F, L.filter (fun a => a.1 != y.1) = F := ⟨_, rfl⟩
    have RS := Lib.hid (show Sv w15 R3 (T + (m5 - Q)) d3 3 (encs encU F) by
     rw [← hF, ← HR.out, hQ, Li.encs_append]
     exact Sv.own HO3z.out (fun u hu => (List.mem_append.1 hu).elim (encs_cells encU_one _ u) (encs_cells encU_one _ u)))
    have OS := Lib.hid (show Sv w15 R5 (ka + (m - KQ)) d5 3 (encs encU F) by
     rw [← hF]
     exact by rw [← rest_old OK.out.srt HKA.out.1 HKA.out.2, hKQ, Li.encs_append]; exact Sv.own HO5x.out (fun u hu => (List.mem_append.1 hu).elim (encs_cells encU_one _ u) (encs_cells encU_one _ u)))
    have S13 := Lib.hid (S9.out.below HDz.out)
    have HBW := Lib.hid (K9.out.low.out.trans (HDz.out.mono K9.out.low.out.size))
    have x0 := Lib.hid ((K9.out.step HDz.out).cell 0 0 (.slice (some ⟨g, ad, none⟩) m5 c5) rfl)
    have x1 := Lib.hid ((K9.out.step HDz.out).cell 1 0 (.int .i64 y.1) rfl)
    obtain ⟨M, hM⟩ : ∃ M, m5 = M + 1 := ⟨m5 - 1, by omega⟩
    have hM1 : (m5 : Int) - 1 = (M : Int) := by omega
    clear hF
    by_cases h0 : T = 0 ∧ T = M
    · have hwM : IntKind.i64.wrap (M : Int) = (M : Int) := IntWalk.i64_in _ (by omega)
      have hd0 : ((T : Int) == 0) = true := by simp; omega
      have hdM : ((T : Int) == (M : Int)) = true := by simp; omega
      clear h0 hM
      go_upto_region 23 with fail
      refine wp_region_ord (fun w' => w'.cell? ⟨w5.heap.size, 0, none⟩ = some (.slice (some ⟨g, ad, none⟩) m5 c5) ∧ w'.cell? ⟨w.heap.size, 0, none⟩ = some (.int .i64 y.1)) [(0, true), (1, true), (2, true), (3, true), (4, true), (5, true), (6, true), (7, true), (8, true), (9, true), (10, true), (11, true), (12, true), (13, true), (14, true), (15, true), (16, true), (17, true), (18, true), (19, true), (20, true), (21, true), (22, true), (23, true), (24, true), (25, true), (26, true), (27, true), (28, true), (29, true), (30, true), (31, true), (32, true), (33, true), (34, true)] (by kernel_rfl) (by kernel_rfl) (by kernel_rfl) ⟨(below_drewN w15 1).cell (p := _) (block_lt_of_cell x0.out) |>.trans x0.out, (below_drewN w15 1).cell (p := _) (block_lt_of_cell x1.out) |>.trans x1.out⟩ (fun d _ _ _ _ h => by cases d <;> exact h) ?_
      refine ord_pure ?_
      refine ord_pure (v := .bool true) (hy := by refine .inl ⟨by rfl, ?_⟩; intro w' hSw; (try dsimp only at hSw); go_simp <;> (first | rfl | (rw [hd0]) | (simp [hd0]) | (simp; omega) | omega)) ?_
      iterate 10 refine ord_pure ?_
      refine ord_pure ?_
      iterate 7 refine ord_pure ?_
      refine ord_pure (v := .bool true) (hy := by refine .inl ⟨by rfl, ?_⟩; intro w' hSw; (try dsimp only at hSw); go_simp <;> (first | rfl | (rw [hdM]) | (simp [hdM]) | (simp; omega) | omega)) ?_
      iterate 10 refine ord_pure ?_
      refine ord_pure ?_
      iterate 3 refine ord_pure ?_
      refine ord_nil ?_
      have hdr : Below w15.heap.size w15 w15.drew := below_drewN w15 1
      have SM := Lib.hid (sLims R3 R5 (T + (m5 - Q)) d3 (ka + (m - KQ)) d5 F w15.drew (RS.out.below hdr) (OS.out.below hdr) (by omega))
      have HBZ := Lib.hid ((HBW.out).trans (hdr.mono HBW.out.size))
      clear hdr
      go_wp2_with (go_at_call 26; (with_reducible refine SM.out.mono ?_); rintro e wz ⟨rfl, hb⟩; have HBY := Lib.hid hb; clear hb)
      go_ret
      exact ⟨rfl, HBZ.out.trans (HBY.out.mono HBZ.out.size)⟩
    by_cases h0 : T = 0 ∧ T ≠ M
    · obtain ⟨q, hq⟩ : ∃ q, U[Q]? = some q := ⟨_, List.getElem?_eq_getElem (by omega)⟩
      have hqy : q.1 > y.1 := srt_lt HSR.out HG.out hq (by omega)
      have x3 := Lib.hid (rng_at S13.out hq)
      have hQm : Q < m5 := by omega
      have hwM : IntKind.i64.wrap (M : Int) = (M : Int) := IntWalk.i64_in _ (by omega)
      have hwQ : IntKind.i64.wrap (Q : Int) = (Q : Int) := IntWalk.i64_in _ (by omega)
      have hd0 : ((T : Int) == 0) = true := by simp; omega
      have hdM : ((T : Int) == (M : Int)) = false := by simp; omega
      clear h0 hM
      go_upto_region 23 with fail
      refine wp_region_ord (fun w' => w'.cell? ⟨w5.heap.size, 0, none⟩ = some (.slice (some ⟨g, ad, none⟩) m5 c5) ∧ w'.cell? ⟨w.heap.size, 0, none⟩ = some (.int .i64 y.1) ∧ w'.cell? ⟨g, ad + Q * 3, none⟩ = some (.int .i64 q.1)) [(0, true), (1, true), (2, true), (3, true), (4, true), (5, true), (6, true), (7, true), (8, true), (9, true), (10, true), (11, true), (12, true), (13, true), (14, true), (15, true), (16, true), (17, true), (18, true), (19, true), (20, true), (21, true), (22, true), (23, true), (24, true), (25, true), (26, true), (27, true), (28, true), (29, true), (30, true), (31, true), (32, true), (33, true), (34, true)] (by kernel_rfl) (by kernel_rfl) (by kernel_rfl) ⟨(below_drewN w15 1).cell (p := _) (block_lt_of_cell x0.out) |>.trans x0.out, (below_drewN w15 1).cell (p := _) (block_lt_of_cell x1.out) |>.trans x1.out, (below_drewN w15 1).cell (p := _) (block_lt_of_cell x3.out) |>.trans x3.out⟩ (fun d _ _ _ _ h => by cases d <;> exact h) ?_
      refine ord_pure ?_
      refine ord_pure (v := .bool true) (hy := by refine .inl ⟨by rfl, ?_⟩; intro w' hSw; (try dsimp only at hSw); go_simp <;> (first | rfl | (rw [hd0]) | (simp [hd0]) | (simp; omega) | omega)) ?_
      iterate 10 refine ord_pure ?_
      refine ord_pure ?_
      iterate 7 refine ord_pure ?_
      refine ord_pure (v := .bool false) (hy := by refine .inl ⟨by rfl, ?_⟩; intro w' hSw; (try dsimp only at hSw); go_simp <;> (first | rfl | (rw [hdM]) | (simp [hdM]) | (simp; omega) | omega)) ?_
      iterate 10 refine ord_pure ?_
      refine ord_pure (v := .bool true) (hy := by refine .inl ⟨by rfl, ?_⟩; intro w' hSw; (try dsimp only at hSw); go_simp <;> (first | rfl | (rw [hqy]) | (simp [hqy]) | (simp; omega) | omega)) ?_
      iterate 3 refine ord_pure ?_
      refine ord_nil ?_
      have hdr : Below w15.heap.size w15 w15.drew := below_drewN w15 1
      have SM := Lib.hid (sLims R3 R5 (T + (m5 - Q)) d3 (ka + (m - KQ)) d5 F w15.drew (RS.out.below hdr) (OS.out.below hdr) (by omega))
      have HBZ := Lib.hid ((HBW.out).trans (hdr.mono HBW.out.size))
      clear hdr
      go_wp2_with (go_at_call 26; (with_reducible refine SM.out.mono ?_); rintro e wz ⟨rfl, hb⟩; have HBY := Lib.hid hb; clear hb)
      go_ret
      exact ⟨rfl, HBZ.out.trans (HBY.out.mono HBZ.out.size)⟩
    by_cases h0 : T ≠ 0 ∧ T = M
    · obtain ⟨P, hP⟩ : ∃ P, T = P + 1 := ⟨T - 1, by omega⟩
      have hs1 : (T : Int) - 1 = (P : Int) := by omega
      obtain ⟨p, hp⟩ : ∃ p, U[P]? = some p := ⟨_, List.getElem?_eq_getElem (by omega)⟩
      have hpy : p.1 < y.1 := srt_lt HSR.out hp HG.out (by omega)
      have x2 := Lib.hid (rng_at S13.out hp)
      have hPm : P < m5 := by omega
      have hwM : IntKind.i64.wrap (M : Int) = (M : Int) := IntWalk.i64_in _ (by omega)
      have hwP : IntKind.i64.wrap (P : Int) = (P : Int) := IntWalk.i64_in _ (by omega)
      have hd0 : ((T : Int) == 0) = false := by simp; omega
      have hdM : ((T : Int) == (M : Int)) = true := by simp; omega
      clear hP
      clear h0 hM
      go_upto_region 23 with fail
      refine wp_region_ord (fun w' => w'.cell? ⟨w5.heap.size, 0, none⟩ = some (.slice (some ⟨g, ad, none⟩) m5 c5) ∧ w'.cell? ⟨w.heap.size, 0, none⟩ = some (.int .i64 y.1) ∧ w'.cell? ⟨g, ad + P * 3, none⟩ = some (.int .i64 p.1)) [(0, true), (1, true), (2, true), (3, true), (4, true), (5, true), (6, true), (7, true), (8, true), (9, true), (10, true), (11, true), (12, true), (13, true), (14, true), (15, true), (16, true), (17, true), (18, true), (19, true), (20, true), (21, true), (22, true), (23, true), (24, true), (25, true), (26, true), (27, true), (28, true), (29, true), (30, true), (31, true), (32, true), (33, true), (34, true)] (by kernel_rfl) (by kernel_rfl) (by kernel_rfl) ⟨(below_drewN w15 1).cell (p := _) (block_lt_of_cell x0.out) |>.trans x0.out, (below_drewN w15 1).cell (p := _) (block_lt_of_cell x1.out) |>.trans x1.out, (below_drewN w15 1).cell (p := _) (block_lt_of_cell x2.out) |>.trans x2.out⟩ (fun d _ _ _ _ h => by cases d <;> exact h) ?_
      refine ord_pure ?_
      refine ord_pure (v := .bool false) (hy := by refine .inl ⟨by rfl, ?_⟩; intro w' hSw; (try dsimp only at hSw); go_simp <;> (first | rfl | (rw [hd0]) | (simp [hd0]) | (simp; omega) | omega)) ?_
      iterate 10 refine ord_pure ?_
      refine ord_pure (v := .bool true) (hy := by refine .inl ⟨by rfl, ?_⟩; intro w' hSw; (try dsimp only at hSw); go_simp <;> (first | rfl | (rw [hpy]) | (simp [hpy]) | (simp; omega) | omega)) ?_
      iterate 7 refine ord_pure ?_
      refine ord_pure (v := .bool true) (hy := by refine .inl ⟨by rfl, ?_⟩; intro w' hSw; (try dsimp only at hSw); go_simp <;> (first | rfl | (rw [hdM]) | (simp [hdM]) | (simp; omega) | omega)) ?_
      iterate 10 refine ord_pure ?_
      refine ord_pure ?_
      iterate 3 refine ord_pure ?_
      refine ord_nil ?_
      have hdr : Below w15.heap.size w15 w15.drew := below_drewN w15 1
      have SM := Lib.hid (sLims R3 R5 (T + (m5 - Q)) d3 (ka + (m - KQ)) d5 F w15.drew (RS.out.below hdr) (OS.out.below hdr) (by omega))
      have HBZ := Lib.hid ((HBW.out).trans (hdr.mono HBW.out.size))
      clear hdr
      go_wp2_with (go_at_call 26; (with_reducible refine SM.out.mono ?_); rintro e wz ⟨rfl, hb⟩; have HBY := Lib.hid hb; clear hb)
      go_ret
      exact ⟨rfl, HBZ.out.trans (HBY.out.mono HBZ.out.size)⟩
    have h0 : T ≠ 0 ∧ T ≠ M := by omega
    obtain ⟨P, hP⟩ : ∃ P, T = P + 1 := ⟨T - 1, by omega⟩
    have hs1 : (T : Int) - 1 = (P : Int) := by omega
    obtain ⟨p, hp⟩ : ∃ p, U[P]? = some p := ⟨_, List.getElem?_eq_getElem (by omega)⟩
    have hpy : p.1 < y.1 := srt_lt HSR.out hp HG.out (by omega)
    have x2 := Lib.hid (rng_at S13.out hp)
    have hPm : P < m5 := by omega
    obtain ⟨q, hq⟩ : ∃ q, U[Q]? = some q := ⟨_, List.getElem?_eq_getElem (by omega)⟩
    have hqy : q.1 > y.1 := srt_lt HSR.out HG.out hq (by omega)
    have x3 := Lib.hid (rng_at S13.out hq)
    have hQm : Q < m5 := by omega
    have hwM : IntKind.i64.wrap (M : Int) = (M : Int) := IntWalk.i64_in _ (by omega)
    have hwP : IntKind.i64.wrap (P : Int) = (P : Int) := IntWalk.i64_in _ (by omega)
    have hwQ : IntKind.i64.wrap (Q : Int) = (Q : Int) := IntWalk.i64_in _ (by omega)
    have hd0 : ((T : Int) == 0) = false := by simp; omega
    have hdM : ((T : Int) == (M : Int)) = false := by simp; omega
    clear hP
    clear h0 hM
    go_upto_region 23 with fail
    refine wp_region_ord (fun w' => w'.cell? ⟨w5.heap.size, 0, none⟩ = some (.slice (some ⟨g, ad, none⟩) m5 c5) ∧ w'.cell? ⟨w.heap.size, 0, none⟩ = some (.int .i64 y.1) ∧ w'.cell? ⟨g, ad + P * 3, none⟩ = some (.int .i64 p.1) ∧ w'.cell? ⟨g, ad + Q * 3, none⟩ = some (.int .i64 q.1)) [(0, true), (1, true), (2, true), (3, true), (4, true), (5, true), (6, true), (7, true), (8, true), (9, true), (10, true), (11, true), (12, true), (13, true), (14, true), (15, true), (16, true), (17, true), (18, true), (19, true), (20, true), (21, true), (22, true), (23, true), (24, true), (25, true), (26, true), (27, true), (28, true), (29, true), (30, true), (31, true), (32, true), (33, true), (34, true)] (by kernel_rfl) (by kernel_rfl) (by kernel_rfl) ⟨(below_drewN w15 1).cell (p := _) (block_lt_of_cell x0.out) |>.trans x0.out, (below_drewN w15 1).cell (p := _) (block_lt_of_cell x1.out) |>.trans x1.out, (below_drewN w15 1).cell (p := _) (block_lt_of_cell x2.out) |>.trans x2.out, (below_drewN w15 1).cell (p := _) (block_lt_of_cell x3.out) |>.trans x3.out⟩ (fun d _ _ _ _ h => by cases d <;> exact h) ?_
    refine ord_pure ?_
    refine ord_pure (v := .bool false) (hy := by refine .inl ⟨by rfl, ?_⟩; intro w' hSw; (try dsimp only at hSw); go_simp <;> (first | rfl | (rw [hd0]) | (simp [hd0]) | (simp; omega) | omega)) ?_
    iterate 10 refine ord_pure ?_
    refine ord_pure (v := .bool true) (hy := by refine .inl ⟨by rfl, ?_⟩; intro w' hSw; (try dsimp only at hSw); go_simp <;> (first | rfl | (rw [hpy]) | (simp [hpy]) | (simp; omega) | omega)) ?_
    iterate 7 refine ord_pure ?_
    refine ord_pure (v := .bool false) (hy := by refine .inl ⟨by rfl, ?_⟩; intro w' hSw; (try dsimp only at hSw); go_simp <;> (first | rfl | (rw [hdM]) | (simp [hdM]) | (simp; omega) | omega)) ?_
    iterate 10 refine ord_pure ?_
    refine ord_pure (v := .bool true) (hy := by refine .inl ⟨by rfl, ?_⟩; intro w' hSw; (try dsimp only at hSw); go_simp <;> (first | rfl | (rw [hqy]) | (simp [hqy]) | (simp; omega) | omega)) ?_
    iterate 3 refine ord_pure ?_
    refine ord_nil ?_
    have hdr : Below w15.heap.size w15 w15.drew := below_drewN w15 1
    have SM := Lib.hid (sLims R3 R5 (T + (m5 - Q)) d3 (ka + (m - KQ)) d5 F w15.drew (RS.out.below hdr) (OS.out.below hdr) (by omega))
    have HBZ := Lib.hid ((HBW.out).trans (hdr.mono HBW.out.size))
    clear hdr
    go_wp2_with (go_at_call 26; (with_reducible refine SM.out.mono ?_); rintro e wz ⟨rfl, hb⟩; have HBY := Lib.hid hb; clear hb)
    go_ret
    exact ⟨rfl, HBZ.out.trans (HBY.out.mono HBZ.out.size)⟩
  · have CU := Lib.hid (show Calls Tryz.prog 44 #[.slice B m d, .int .i64 y.1] w6 fun e w' => e = .returned (.int .i64 (-1)) ∧ w' = w6 from CH.out.mono fun e w' ⟨⟨v, he, hv⟩, hw⟩ => ⟨by
     rcases hv with ⟨h1, _⟩ | ⟨k, hv⟩
     · rw [he, h1]
     · obtain ⟨a, _, ha, hx, _⟩ := hv
       exact absurd (hasU_iff.2 ⟨a, List.mem_of_getElem? ha, hx⟩) hu, hw⟩)
    have hu' : hasU L y.1 = false := by simpa using hu
    by_cases hm : m = 16
    · have HRES := Lib.hid (setU_big (l := L) HGOOD.out hu' (by rw [HM.out]; omega))
      have k16 : (m : Int) = 16 := by omega
      clear hm
      clear hu hu'
      have hD : doSet L y = (L, 2) := HRES.out
      rw [hD] at S5 K6
      have s0 : w6.cell? ⟨w5.heap.size, 0, none⟩ = some (.slice A5 m5 c5) := K6.out.cell 0 0 _ rfl
      have s1 : w6.cell? ⟨w5.heap.size, 1, none⟩ = some (.int .i64 2) := K6.out.cell 0 1 _ rfl
      have SM := Lib.hid (sLims A5 B m5 c5 m d L w6 S5.out SL6.out (by have := (show L.length = m5 from S5.out.plen encU_len (by decide)); have := HM.out; omega))
      clear hD
      go_wp2_with (first | (go_at_call 44; (with_reducible refine CU.out.mono ?_); rintro e w7 ⟨rfl, hw7⟩; rw [hw7]; clear hw7) | (go_at_call 26; (with_reducible refine SM.out.mono ?_); rintro e w8 ⟨rfl, hb⟩; have HB8 := Lib.hid hb; clear hb))
      all_goals (go_ret; exact ⟨rfl, K6.out.low.out.trans (HB8.out.mono K6.out.low.out.size)⟩)
    · have HFL := Lib.hid (show L.filter (fun a => a.1 != y.1) = L from List.filter_eq_self.2 fun a ha => by
       have h1 : a.1 ≠ y.1 := fun e => hu (hasU_iff.2 ⟨a, ha, e⟩)
       simpa using h1)
      have HRES := Lib.hid (setU_ok (l := L) HGOOD.out (.inr (by have := HM.out; have := OK.out.len; omega)))
      have k16 : ¬ (m : Int) = 16 := by omega
      clear hu hu'
      have hD : doSet L y = (setU L y, 0) := HRES.out
      rw [hD] at S5 K6
      have HSR := Lib.hid (setU_srt y OK.out.srt)
      obtain ⟨hat, hget⟩ := setU_at (l := L) y
      have hrest := setU_rest y OK.out.srt
      have hlen := setU_length (l := L) (x := y)
      obtain ⟨T, hT⟩ : ∃ T, (L.filter (fun a => a.1 < y.1)).length = T := ⟨_, rfl⟩
      rw [hT] at hat hget hrest
      clear hD hT
      dsimp only at S5 K6
      obtain ⟨U, hU⟩ : ∃ U, setU L y = U := ⟨_, rfl⟩
      rw [hU] at S5 HSR hat hget hrest hlen
      clear hU
      have hUm : U.length = m5 := S5.out.plen encU_len (by decide)
      have hTm : T < m5 := by have := (List.getElem?_eq_some_iff.1 hget).1; omega
      have hm5 : m5 ≤ 17 := by have := HM.out; omega
      obtain ⟨Q, hQ⟩ : ∃ Q, T + 1 = Q := ⟨_, rfl⟩
      have hs2 : (T : Int) + 1 = (Q : Int) := by omega
      have s1 : w6.cell? ⟨w5.heap.size, 1, none⟩ = some (.int .i64 0) := K6.out.cell 0 1 _ rfl
      have CK := Lib.hid (show Calls Tryz.prog 44 #[.slice A5 m5 c5, .int .i64 y.1] w6 fun e w' => e = .returned (.int .i64 (T : Int)) ∧ w' = w6 from (Has_any A5 m5 c5 U y.1 w6 S5.out (by omega)).mono fun e w' ⟨⟨v, he, hv⟩, hw⟩ => ⟨by rw [he, hv.one hat], hw⟩)
      obtain ⟨g, ad, hA5, hg, hc⟩ := Sv.range encU_len (by decide) S5.out hget
      have HU := Lib.hid (show ∀ W, Below w6.heap.size w6 W → W.rangeAt g (ad + T * 3) (encU y) from fun W hb => range_below hc hg hb)
      subst hA5
      have s0 : w6.cell? ⟨w5.heap.size, 0, none⟩ = some (.slice (some ⟨g, ad, none⟩) m5 c5) := K6.out.cell 0 0 _ rfl
      clear hc hat
      have HG := Lib.hid hget
      have HR := Lib.hid hrest
      clear hget hrest
      go_upto_region 16 with (first | (go_at_call 44; (with_reducible refine CU.out.mono ?_); rintro e w7 ⟨rfl, hw7⟩; rw [hw7]; clear hw7) | (go_at_call 44; (with_reducible refine CK.out.mono ?_); rintro e w7 ⟨rfl, hw7⟩; rw [hw7]; clear hw7))
      have hdr : Below w6.heap.size w6 w6.drew := below_drewN w6 1
      have HB9 := Lib.hid hdr
      clear hdr
      have hne : ∀ W, (binOp .neq 44 (.agg (encU y).toArray) (.agg (encU y).toArray)).run Tryz.prog W = .ok (.bool false) W := fun W => by rw [neqLi]; simp
      refine wp_region_ord (fun w' => w'.cell? ⟨w5.heap.size, 0, none⟩ = some (.slice (some ⟨g, ad, none⟩) m5 c5) ∧ w'.cell? ⟨w5.heap.size, 1, none⟩ = some (.int .i64 0) ∧ w'.heap[w.heap.size]? = some (.cells (encU y).toArray 44 (0, 0)) ∧ w'.rangeAt g (ad + T * 3) (encU y)) [(0, true), (1, true), (2, true), (3, true), (4, true), (5, true), (6, true), (7, true), (8, true), (9, true), (10, true), (11, true), (12, true), (13, true), (14, true), (15, true)] (by kernel_rfl) (by kernel_rfl) (by kernel_rfl) ⟨(K6.out.step HB9.out).cell 0 0 _ rfl, (K6.out.step HB9.out).cell 0 1 _ rfl, ((K6.out.step HB9.out).at 1 rfl).out, HU.out _ HB9.out⟩ (fun d _ _ _ _ h => by cases d <;> exact h) ?_
      iterate 12 refine ord_pure ?_
      refine ord_pure (v := .agg (encU y).toArray) (hy := yieldsIf_load_mid (by rfl) 44 _ rfl g (ad + T * 3) rfl (encU y) _ (fun w h => h.2.2.2) Tryz.underlying44 rfl (by kernel_rfl)) ?_
      refine ord_pure (v := .agg (encU y).toArray) (hy := yieldsIf_load_mid (by rfl) 44 _ rfl w.heap.size 0 rfl (encU y) _ (fun w h => box_range h.2.2.1) Tryz.underlying44 rfl (by kernel_rfl)) ?_
      iterate 2 refine ord_pure ?_
      refine ord_nil ?_
      obtain ⟨w9, hw9⟩ : ∃ q, q = w6.drew := ⟨_, rfl⟩
      rw [← hw9] at HB9 ⊢
      clear hw9 y0 y1 y2 s0 s1 hne
      have K9 := Lib.hid (K6.out.step HB9.out)
      have S9 := Lib.hid (S5.out.below HB9.out)
      have SL9 := Lib.hid (SL6.out.below HB9.out)
      have HU9 := Lib.hid (HU.out _ HB9.out)
      clear HU S5 SL6 K6 HB9 CK
      obtain ⟨SA1, sl1, SK⟩ := toL S9.out (j := T) (by omega)
      obtain ⟨SA2, sl2, SF⟩ := fromL S9.out (j := Q) (by omega)
      have HSK := Lib.hid SK
      have HSF := Lib.hid SF
      clear SK SF
      have HE1 := Lib.hid (own_empty w9 44 3)
      have HD1 := Lib.hid ((Below.refl w9.heap.size w9).alloc (Nat.le_refl _) (.cells #[] 44))
      have s0 : (w9.alloc (.cells #[] 44)).cell? ⟨w5.heap.size, 0, none⟩ = some (.slice (some ⟨g, ad, none⟩) m5 c5) := (K9.out.step HD1.out).cell 0 0 _ rfl
      go_upto_region 19 with (first | (at_builtin; refine wpList_append_sg rfl _ _ 33 rfl w11.heap.size 44 i2 _ 3 24 Tryz.underlying33 hj hj0 hj1 hj2 rfl (by decide) _ _ _ rfl HE2.out B m d (encs encU L) rfl (SL9.out.below HD3.out) (by unfold maxLen; omega) (by omega) (by first | exact Nat.le_refl _ | exact HD4.out.size | exact HD7.out.size | simp | (simp; omega) | omega) ?_; intro v' w12 hown hg; (try rw [Nat.zero_add, List.nil_append] at hown); obtain ⟨R2, d2, rfl⟩ := own_form hown; have HO2 := Lib.hid hown; have HG2 := Lib.hid hg; have HD4 := Lib.hid (HD3.out.grown HG2.out HD3.out.size (fun k e => Nat.le_trans HD2.out.size (HE2.out.lt k e).1)); have HO1c := Lib.hid (own_apart HO1b.out HG2.out (fun k e1 e2 => by have h1 := (HO1.out.lt k e1).2; have h2 := (HE2.out.lt k e2).1; omega)); clear s0; have s12 : w12.cell? ⟨w5.heap.size, 0, none⟩ = some (.slice (some ⟨g, ad, none⟩) m5 c5) := (K9.out.step HD4.out).cell 0 0 _ rfl; clear hown hg) | (at_builtin; refine wpList_append_sg rfl _ _ 33 rfl w9.heap.size 44 i2 _ 3 24 Tryz.underlying33 hj hj0 hj1 hj2 rfl (by decide) _ _ _ rfl HE1.out SA1 T c5 (encs encU (U.take T)) rfl (HSK.out.below HD1.out) (by unfold maxLen; omega) (by omega) (by first | exact Nat.le_refl _ | exact HD4.out.size | exact HD7.out.size | simp | (simp; omega) | omega) ?_; intro v' w11 hown hg; (try rw [Nat.zero_add, List.nil_append] at hown); obtain ⟨R1, d1, rfl⟩ := own_form hown; have HO1 := Lib.hid hown; have HG1 := Lib.hid hg; have HD2 := Lib.hid (HD1.out.grown HG1.out HD1.out.size (fun k e => (HE1.out.lt k e).1)); have HE2 := Lib.hid (own_empty w11 44 3); have HD3 := Lib.hid (HD2.out.alloc HD2.out.size (.cells #[] 44)); have HO1b := Lib.hid (own_keep HO1.out ((Below.refl w11.heap.size w11).alloc (Nat.le_refl _) (.cells #[] 44))); clear hown hg))
      have HSF12 := Lib.hid (HSF.out.below HD4.out)
      go_upto_region 20 with (at_builtin; refine wpList_append_sg rfl _ _ 33 rfl w9.heap.size 44 i2 _ 3 24 Tryz.underlying33 hj hj0 hj1 hj2 rfl (by decide) _ _ _ rfl HO1c.out SA2 (m5 - Q) (c5 - Q) (encs encU (U.drop Q)) rfl HSF12.out (by unfold maxLen; omega) (by omega) (by first | exact Nat.le_refl _ | exact HD4.out.size | exact HD7.out.size | simp | (simp; omega) | omega) ?_; intro v' w13 hown hg; (try rw [Nat.zero_add, List.nil_append] at hown); obtain ⟨R3, d3, rfl⟩ := own_form hown; have HO3 := Lib.hid hown; have HG3 := Lib.hid hg; have HD5 := Lib.hid (HD4.out.grown HG3.out HD4.out.size (fun k e => (HO1c.out.lt k e).1)); clear s12; clear hown hg)
      have HO2b := Lib.hid (own_apart HO2.out HG3.out (fun k e1 e2 => by have h1 := (HO2.out.lt k e1).1; have h2 := (HO1.out.lt k e2).2; omega))
      obtain ⟨F, hF⟩ : ∃ F, L.filter (fun a => a.1 != y.1) = F := ⟨_, rfl⟩
      have RS := Lib.hid (show Sv w13 R3 (T + (m5 - Q)) d3 3 (encs encU F) by
       rw [← hF, ← HR.out, hQ, Li.encs_append]
       exact Sv.own HO3.out (fun u hu => (List.mem_append.1 hu).elim (encs_cells encU_one _ u) (encs_cells encU_one _ u)))
      have OS := Lib.hid (show Sv w13 R2 (m) d2 3 (encs encU F) by
       rw [← hF]
       exact by rw [HFL.out]; exact Sv.own HO2b.out (encs_cells encU_one _))
      have S13 := Lib.hid (S9.out.below HD5.out)
      have HBW := Lib.hid (K9.out.low.out.trans (HD5.out.mono K9.out.low.out.size))
      have x0 := Lib.hid ((K9.out.step HD5.out).cell 0 0 (.slice (some ⟨g, ad, none⟩) m5 c5) rfl)
      have x1 := Lib.hid ((K9.out.step HD5.out).cell 1 0 (.int .i64 y.1) rfl)
      obtain ⟨M, hM⟩ : ∃ M, m5 = M + 1 := ⟨m5 - 1, by omega⟩
      have hM1 : (m5 : Int) - 1 = (M : Int) := by omega
      clear hF
      by_cases h0 : T = 0 ∧ T = M
      · have hwM : IntKind.i64.wrap (M : Int) = (M : Int) := IntWalk.i64_in _ (by omega)
        have hd0 : ((T : Int) == 0) = true := by simp; omega
        have hdM : ((T : Int) == (M : Int)) = true := by simp; omega
        clear h0 hM
        go_upto_region 23 with fail
        refine wp_region_ord (fun w' => w'.cell? ⟨w5.heap.size, 0, none⟩ = some (.slice (some ⟨g, ad, none⟩) m5 c5) ∧ w'.cell? ⟨w.heap.size, 0, none⟩ = some (.int .i64 y.1)) [(0, true), (1, true), (2, true), (3, true), (4, true), (5, true), (6, true), (7, true), (8, true), (9, true), (10, true), (11, true), (12, true), (13, true), (14, true), (15, true), (16, true), (17, true), (18, true), (19, true), (20, true), (21, true), (22, true), (23, true), (24, true), (25, true), (26, true), (27, true), (28, true), (29, true), (30, true), (31, true), (32, true), (33, true), (34, true)] (by kernel_rfl) (by kernel_rfl) (by kernel_rfl) ⟨(below_drewN w13 1).cell (p := _) (block_lt_of_cell x0.out) |>.trans x0.out, (below_drewN w13 1).cell (p := _) (block_lt_of_cell x1.out) |>.trans x1.out⟩ (fun d _ _ _ _ h => by cases d <;> exact h) ?_
        refine ord_pure ?_
        refine ord_pure (v := .bool true) (hy := by refine .inl ⟨by rfl, ?_⟩; intro w' hSw; (try dsimp only at hSw); go_simp <;> (first | rfl | (rw [hd0]) | (simp [hd0]) | (simp; omega) | omega)) ?_
        iterate 10 refine ord_pure ?_
        refine ord_pure ?_
        iterate 7 refine ord_pure ?_
        refine ord_pure (v := .bool true) (hy := by refine .inl ⟨by rfl, ?_⟩; intro w' hSw; (try dsimp only at hSw); go_simp <;> (first | rfl | (rw [hdM]) | (simp [hdM]) | (simp; omega) | omega)) ?_
        iterate 10 refine ord_pure ?_
        refine ord_pure ?_
        iterate 3 refine ord_pure ?_
        refine ord_nil ?_
        have hdr : Below w13.heap.size w13 w13.drew := below_drewN w13 1
        have SM := Lib.hid (sLims R3 R2 (T + (m5 - Q)) d3 (m) d2 F w13.drew (RS.out.below hdr) (OS.out.below hdr) (by omega))
        have HBZ := Lib.hid ((HBW.out).trans (hdr.mono HBW.out.size))
        clear hdr
        go_wp2_with (go_at_call 26; (with_reducible refine SM.out.mono ?_); rintro e wz ⟨rfl, hb⟩; have HBY := Lib.hid hb; clear hb)
        go_ret
        exact ⟨rfl, HBZ.out.trans (HBY.out.mono HBZ.out.size)⟩
      by_cases h0 : T = 0 ∧ T ≠ M
      · obtain ⟨q, hq⟩ : ∃ q, U[Q]? = some q := ⟨_, List.getElem?_eq_getElem (by omega)⟩
        have hqy : q.1 > y.1 := srt_lt HSR.out HG.out hq (by omega)
        have x3 := Lib.hid (rng_at S13.out hq)
        have hQm : Q < m5 := by omega
        have hwM : IntKind.i64.wrap (M : Int) = (M : Int) := IntWalk.i64_in _ (by omega)
        have hwQ : IntKind.i64.wrap (Q : Int) = (Q : Int) := IntWalk.i64_in _ (by omega)
        have hd0 : ((T : Int) == 0) = true := by simp; omega
        have hdM : ((T : Int) == (M : Int)) = false := by simp; omega
        clear h0 hM
        go_upto_region 23 with fail
        refine wp_region_ord (fun w' => w'.cell? ⟨w5.heap.size, 0, none⟩ = some (.slice (some ⟨g, ad, none⟩) m5 c5) ∧ w'.cell? ⟨w.heap.size, 0, none⟩ = some (.int .i64 y.1) ∧ w'.cell? ⟨g, ad + Q * 3, none⟩ = some (.int .i64 q.1)) [(0, true), (1, true), (2, true), (3, true), (4, true), (5, true), (6, true), (7, true), (8, true), (9, true), (10, true), (11, true), (12, true), (13, true), (14, true), (15, true), (16, true), (17, true), (18, true), (19, true), (20, true), (21, true), (22, true), (23, true), (24, true), (25, true), (26, true), (27, true), (28, true), (29, true), (30, true), (31, true), (32, true), (33, true), (34, true)] (by kernel_rfl) (by kernel_rfl) (by kernel_rfl) ⟨(below_drewN w13 1).cell (p := _) (block_lt_of_cell x0.out) |>.trans x0.out, (below_drewN w13 1).cell (p := _) (block_lt_of_cell x1.out) |>.trans x1.out, (below_drewN w13 1).cell (p := _) (block_lt_of_cell x3.out) |>.trans x3.out⟩ (fun d _ _ _ _ h => by cases d <;> exact h) ?_
        refine ord_pure ?_
        refine ord_pure (v := .bool true) (hy := by refine .inl ⟨by rfl, ?_⟩; intro w' hSw; (try dsimp only at hSw); go_simp <;> (first | rfl | (rw [hd0]) | (simp [hd0]) | (simp; omega) | omega)) ?_
        iterate 10 refine ord_pure ?_
        refine ord_pure ?_
        iterate 7 refine ord_pure ?_
        refine ord_pure (v := .bool false) (hy := by refine .inl ⟨by rfl, ?_⟩; intro w' hSw; (try dsimp only at hSw); go_simp <;> (first | rfl | (rw [hdM]) | (simp [hdM]) | (simp; omega) | omega)) ?_
        iterate 10 refine ord_pure ?_
        refine ord_pure (v := .bool true) (hy := by refine .inl ⟨by rfl, ?_⟩; intro w' hSw; (try dsimp only at hSw); go_simp <;> (first | rfl | (rw [hqy]) | (simp [hqy]) | (simp; omega) | omega)) ?_
        iterate 3 refine ord_pure ?_
        refine ord_nil ?_
        have hdr : Below w13.heap.size w13 w13.drew := below_drewN w13 1
        have SM := Lib.hid (sLims R3 R2 (T + (m5 - Q)) d3 (m) d2 F w13.drew (RS.out.below hdr) (OS.out.below hdr) (by omega))
        have HBZ := Lib.hid ((HBW.out).trans (hdr.mono HBW.out.size))
        clear hdr
        go_wp2_with (go_at_call 26; (with_reducible refine SM.out.mono ?_); rintro e wz ⟨rfl, hb⟩; have HBY := Lib.hid hb; clear hb)
        go_ret
        exact ⟨rfl, HBZ.out.trans (HBY.out.mono HBZ.out.size)⟩
      by_cases h0 : T ≠ 0 ∧ T = M
      · obtain ⟨P, hP⟩ : ∃ P, T = P + 1 := ⟨T - 1, by omega⟩
        have hs1 : (T : Int) - 1 = (P : Int) := by omega
        obtain ⟨p, hp⟩ : ∃ p, U[P]? = some p := ⟨_, List.getElem?_eq_getElem (by omega)⟩
        have hpy : p.1 < y.1 := srt_lt HSR.out hp HG.out (by omega)
        have x2 := Lib.hid (rng_at S13.out hp)
        have hPm : P < m5 := by omega
        have hwM : IntKind.i64.wrap (M : Int) = (M : Int) := IntWalk.i64_in _ (by omega)
        have hwP : IntKind.i64.wrap (P : Int) = (P : Int) := IntWalk.i64_in _ (by omega)
        have hd0 : ((T : Int) == 0) = false := by simp; omega
        have hdM : ((T : Int) == (M : Int)) = true := by simp; omega
        clear hP
        clear h0 hM
        go_upto_region 23 with fail
        refine wp_region_ord (fun w' => w'.cell? ⟨w5.heap.size, 0, none⟩ = some (.slice (some ⟨g, ad, none⟩) m5 c5) ∧ w'.cell? ⟨w.heap.size, 0, none⟩ = some (.int .i64 y.1) ∧ w'.cell? ⟨g, ad + P * 3, none⟩ = some (.int .i64 p.1)) [(0, true), (1, true), (2, true), (3, true), (4, true), (5, true), (6, true), (7, true), (8, true), (9, true), (10, true), (11, true), (12, true), (13, true), (14, true), (15, true), (16, true), (17, true), (18, true), (19, true), (20, true), (21, true), (22, true), (23, true), (24, true), (25, true), (26, true), (27, true), (28, true), (29, true), (30, true), (31, true), (32, true), (33, true), (34, true)] (by kernel_rfl) (by kernel_rfl) (by kernel_rfl) ⟨(below_drewN w13 1).cell (p := _) (block_lt_of_cell x0.out) |>.trans x0.out, (below_drewN w13 1).cell (p := _) (block_lt_of_cell x1.out) |>.trans x1.out, (below_drewN w13 1).cell (p := _) (block_lt_of_cell x2.out) |>.trans x2.out⟩ (fun d _ _ _ _ h => by cases d <;> exact h) ?_
        refine ord_pure ?_
        refine ord_pure (v := .bool false) (hy := by refine .inl ⟨by rfl, ?_⟩; intro w' hSw; (try dsimp only at hSw); go_simp <;> (first | rfl | (rw [hd0]) | (simp [hd0]) | (simp; omega) | omega)) ?_
        iterate 10 refine ord_pure ?_
        refine ord_pure (v := .bool true) (hy := by refine .inl ⟨by rfl, ?_⟩; intro w' hSw; (try dsimp only at hSw); go_simp <;> (first | rfl | (rw [hpy]) | (simp [hpy]) | (simp; omega) | omega)) ?_
        iterate 7 refine ord_pure ?_
        refine ord_pure (v := .bool true) (hy := by refine .inl ⟨by rfl, ?_⟩; intro w' hSw; (try dsimp only at hSw); go_simp <;> (first | rfl | (rw [hdM]) | (simp [hdM]) | (simp; omega) | omega)) ?_
        iterate 10 refine ord_pure ?_
        refine ord_pure ?_
        iterate 3 refine ord_pure ?_
        refine ord_nil ?_
        have hdr : Below w13.heap.size w13 w13.drew := below_drewN w13 1
        have SM := Lib.hid (sLims R3 R2 (T + (m5 - Q)) d3 (m) d2 F w13.drew (RS.out.below hdr) (OS.out.below hdr) (by omega))
        have HBZ := Lib.hid ((HBW.out).trans (hdr.mono HBW.out.size))
        clear hdr
        go_wp2_with (go_at_call 26; (with_reducible refine SM.out.mono ?_); rintro e wz ⟨rfl, hb⟩; have HBY := Lib.hid hb; clear hb)
        go_ret
        exact ⟨rfl, HBZ.out.trans (HBY.out.mono HBZ.out.size)⟩
      have h0 : T ≠ 0 ∧ T ≠ M := by omega
      obtain ⟨P, hP⟩ : ∃ P, T = P + 1 := ⟨T - 1, by omega⟩
      have hs1 : (T : Int) - 1 = (P : Int) := by omega
      obtain ⟨p, hp⟩ : ∃ p, U[P]? = some p := ⟨_, List.getElem?_eq_getElem (by omega)⟩
      have hpy : p.1 < y.1 := srt_lt HSR.out hp HG.out (by omega)
      have x2 := Lib.hid (rng_at S13.out hp)
      have hPm : P < m5 := by omega
      obtain ⟨q, hq⟩ : ∃ q, U[Q]? = some q := ⟨_, List.getElem?_eq_getElem (by omega)⟩
      have hqy : q.1 > y.1 := srt_lt HSR.out HG.out hq (by omega)
      have x3 := Lib.hid (rng_at S13.out hq)
      have hQm : Q < m5 := by omega
      have hwM : IntKind.i64.wrap (M : Int) = (M : Int) := IntWalk.i64_in _ (by omega)
      have hwP : IntKind.i64.wrap (P : Int) = (P : Int) := IntWalk.i64_in _ (by omega)
      have hwQ : IntKind.i64.wrap (Q : Int) = (Q : Int) := IntWalk.i64_in _ (by omega)
      have hd0 : ((T : Int) == 0) = false := by simp; omega
      have hdM : ((T : Int) == (M : Int)) = false := by simp; omega
      clear hP
      clear h0 hM
      go_upto_region 23 with fail
      refine wp_region_ord (fun w' => w'.cell? ⟨w5.heap.size, 0, none⟩ = some (.slice (some ⟨g, ad, none⟩) m5 c5) ∧ w'.cell? ⟨w.heap.size, 0, none⟩ = some (.int .i64 y.1) ∧ w'.cell? ⟨g, ad + P * 3, none⟩ = some (.int .i64 p.1) ∧ w'.cell? ⟨g, ad + Q * 3, none⟩ = some (.int .i64 q.1)) [(0, true), (1, true), (2, true), (3, true), (4, true), (5, true), (6, true), (7, true), (8, true), (9, true), (10, true), (11, true), (12, true), (13, true), (14, true), (15, true), (16, true), (17, true), (18, true), (19, true), (20, true), (21, true), (22, true), (23, true), (24, true), (25, true), (26, true), (27, true), (28, true), (29, true), (30, true), (31, true), (32, true), (33, true), (34, true)] (by kernel_rfl) (by kernel_rfl) (by kernel_rfl) ⟨(below_drewN w13 1).cell (p := _) (block_lt_of_cell x0.out) |>.trans x0.out, (below_drewN w13 1).cell (p := _) (block_lt_of_cell x1.out) |>.trans x1.out, (below_drewN w13 1).cell (p := _) (block_lt_of_cell x2.out) |>.trans x2.out, (below_drewN w13 1).cell (p := _) (block_lt_of_cell x3.out) |>.trans x3.out⟩ (fun d _ _ _ _ h => by cases d <;> exact h) ?_
      refine ord_pure ?_
      refine ord_pure (v := .bool false) (hy := by refine .inl ⟨by rfl, ?_⟩; intro w' hSw; (try dsimp only at hSw); go_simp <;> (first | rfl | (rw [hd0]) | (simp [hd0]) | (simp; omega) | omega)) ?_
      iterate 10 refine ord_pure ?_
      refine ord_pure (v := .bool true) (hy := by refine .inl ⟨by rfl, ?_⟩; intro w' hSw; (try dsimp only at hSw); go_simp <;> (first | rfl | (rw [hpy]) | (simp [hpy]) | (simp; omega) | omega)) ?_
      iterate 7 refine ord_pure ?_
      refine ord_pure (v := .bool false) (hy := by refine .inl ⟨by rfl, ?_⟩; intro w' hSw; (try dsimp only at hSw); go_simp <;> (first | rfl | (rw [hdM]) | (simp [hdM]) | (simp; omega) | omega)) ?_
      iterate 10 refine ord_pure ?_
      refine ord_pure (v := .bool true) (hy := by refine .inl ⟨by rfl, ?_⟩; intro w' hSw; (try dsimp only at hSw); go_simp <;> (first | rfl | (rw [hqy]) | (simp [hqy]) | (simp; omega) | omega)) ?_
      iterate 3 refine ord_pure ?_
      refine ord_nil ?_
      have hdr : Below w13.heap.size w13 w13.drew := below_drewN w13 1
      have SM := Lib.hid (sLims R3 R2 (T + (m5 - Q)) d3 (m) d2 F w13.drew (RS.out.below hdr) (OS.out.below hdr) (by omega))
      have HBZ := Lib.hid ((HBW.out).trans (hdr.mono HBW.out.size))
      clear hdr
      go_wp2_with (go_at_call 26; (with_reducible refine SM.out.mono ?_); rintro e wz ⟨rfl, hb⟩; have HBY := Lib.hid hb; clear hb)
      go_ret
      exact ⟨rfl, HBZ.out.trans (HBY.out.mono HBZ.out.size)⟩
 have KEY := Lib.hid key
 clear key hK
 by_cases hJ : (J : Int) = 0
 · by_cases hm0 : (m : Int) > 0
   · obtain ⟨Z, hZ⟩ : ∃ Z : Nat, v / 2 = (Z : Int) := ⟨(v / 2).toNat, by omega⟩
     have hZ0 : Z < 128 := by omega
     have v2 : v.tdiv 2 = (Z : Int) := v1.trans hZ
     have v3 : IntKind.u8.wrap (Z : Int) = (Z : Int) := IntWalk.u8_in _ (by omega)
     have v4 : IntKind.i64.wrap (Z : Int) = (Z : Int) := IntWalk.i64_in _ (by omega)
     have v5 : (Z : Int).tmod (m : Int) = ((Z % m : Nat) : Int) := by rw [Int.tmod_eq_emod_of_nonneg (by omega)]; omega
     have hIm : Z % m < m := Nat.mod_lt _ (by omega)
     obtain ⟨I, hI⟩ : ∃ I, Z % m = I := ⟨_, rfl⟩
     rw [hI] at v5 hIm
     have v6 : IntKind.i64.wrap (I : Int) = (I : Int) := IntWalk.i64_in _ (by omega)
     obtain ⟨a, ha⟩ : ∃ a, L[I]? = some a := ⟨_, List.getElem?_eq_getElem (by rw [HM.out]; exact hIm)⟩
     obtain ⟨g, ad, hB, hg, hc⟩ := Sv.range encU_len (by decide) SL.out ha
     subst hB
     have c0 : w3.cell? ⟨g, ad + I * 3, none⟩ = some (.int .i64 a.1) := hc 0 _ rfl
     have z0 := K3.out.cell 0 0 (.int .i64 x.1) rfl
     have z1 := K3.out.thaw 0 0 rfl
     have K4 := Lib.hid (K3.out.cel 0 rfl 0 (.int .i64 a.1) #[.int .i64 a.1, .int .i64 x.2.1, .int .i64 x.2.2])
     have SL4 := Lib.hid (SL.out.agree HP3.out (fun g hg => heap_setCell_other w3 ⟨w.heap.size, 0, none⟩ g (.int .i64 a.1) (by have := HLT2.out; show g ≠ w.heap.size; omega)) (by simp [World.setCell]))
     go_wp2
     exact KEY.out _ _ _ _ _ _ _ _ _ _ _ _ _ _ _ _ _ _ _ _ _ _ _ _ _ _ _ (a.1, x.2) K4.out SL4.out
   · go_wp2
     exact KEY.out _ _ _ _ _ _ _ _ _ _ _ _ _ _ _ _ _ _ _ _ _ _ _ _ _ _ _ x K3.out SL.out
 · go_wp2
   exact KEY.out _ _ _ _ _ _ _ _ _ _ _ _ _ _ _ _ _ _ _ _ _ _ _ _ _ _ _ x K3.out SL.out
end Go.Proofs.YtemgejblnionlaaGreatDoor
