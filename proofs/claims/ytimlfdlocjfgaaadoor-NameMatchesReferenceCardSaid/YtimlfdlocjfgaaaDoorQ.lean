/-
  Walk of the law's fixed examples: each holds. The world must hold the program's table of kinds.
-/
import Derived.Test.YtimlfdlocjfgaaaDoorP
namespace Go.Proofs.YtimlfdlocjfgaaaDoor
open Go.RowKit Pl
set_option maxHeartbeats 400000

set_option maxRecDepth 100000 in
set_option maxHeartbeats 2000000 in
theorem sanity_any (w : World) (hE : Env w) :
    Calls Tryd.prog 11 #[] w fun e w' => e = .returned (.bool true) ∧ Below w.heap.size w w' := by
  go_enter Tryd.func11, Tryd.ntmps11
  -- the lists
  go_wp2_with fail
  go_at_call 16
  refine (sp1 _ hE).mono ?_
  rintro e w1 ⟨A1, c1, rfl, hS1, hb1⟩
  go_wp2_with fail
  go_at_call 15
  have hx1 : Below w1.heap.size w1 (w1.alloc (.cells #[.string ⟨#[97]⟩, .string ⟨#[98]⟩] 9)) := (Below.refl _ _).alloc (Nat.le_refl _) _
  refine (same_true _ _ 2 _ _ 0 [[97], [98]] rfl (by decide) _ (hS1.below hx1) (strs_ab w1)).mono ?_
  rintro e w2 ⟨rfl, hb2'⟩
  have hb2 : Below w.heap.size w w2 := (hb1.trans (hx1.mono hb1.size)).trans (hb2'.mono (by have := hb1.size; simp; omega))
  have hE2 := hE.below hb2
  clear hx1 hb2' hS1 hb1
  go_wp2_with fail
  go_at_call 16
  refine (sp2 _ hE2).mono ?_
  rintro e w3 ⟨A3, c3, rfl, hS3, hb3'⟩
  have hb3 := hb2.trans (hb3'.mono hb2.size)
  have hE3 := hE.below hb3
  clear hb3' hE2
  go_wp2_with fail
  go_at_call 15
  refine (same_true _ _ 0 _ _ 0 [] rfl (by decide) _ hS3 (Strs.nil 0 _ _)).mono ?_
  rintro e w4 ⟨rfl, hb4'⟩
  have hb4 := hb3.trans (hb4'.mono hb3.size)
  have hE4 := hE.below hb4
  clear hb4' hE3 hS3
  go_wp2_with fail
  go_at_call 16
  refine (sp3 _ hE4).mono ?_
  rintro e w5 ⟨A5, c5, rfl, hS5, hb5'⟩
  have hb5 := hb4.trans (hb5'.mono hb4.size)
  clear hb5' hE4
  go_wp2_with fail
  go_at_call 15
  refine (same_true _ _ 0 _ _ 10 [] rfl (by decide) _ hS5 (Strs.nil 0 _ _)).mono ?_
  rintro e w6 ⟨rfl, hb6'⟩
  have hb6 := hb5.trans (hb6'.mono hb5.size)
  have hE6 := hE.below hb6
  clear hb6' hS5 hb2 hb3 hb4 hb5
  -- joining and splitting
  go_wp2_with fail
  go_at_call 18
  refine (sj1 _ hE6).mono ?_
  rintro e w7 ⟨rfl, hb7'⟩
  have hb7 := hb6.trans (hb7'.mono hb6.size)
  have hE7 := hE.below hb7
  clear hb7' hE6 hb6
  go_wp2_with fail
  go_at_call 18
  refine (sj2 _ hE7).mono ?_
  rintro e w8 ⟨rfl, hb8'⟩
  have hb8 := hb7.trans (hb8'.mono hb7.size)
  have hE8 := hE.below hb8
  clear hb8' hE7 hb7
  go_wp2_with fail
  go_at_call 20
  refine (sh1 _ hE8).mono ?_
  rintro e w9 ⟨rfl, hb9'⟩
  have hb9 := hb8.trans (hb9'.mono hb8.size)
  have hE9 := hE.below hb9
  clear hb9' hE8 hb8
  go_wp2_with fail
  go_at_call 20
  refine (sh2 _ hE9).mono ?_
  rintro e w10 ⟨rfl, hb10'⟩
  have hb10 := hb9.trans (hb10'.mono hb9.size)
  have hE10 := hE.below hb10
  clear hb10' hE9 hb9
  go_wp2_with fail
  go_at_call 24
  refine (sb1 _).mono ?_
  rintro e w' ⟨rfl, rfl⟩
  go_wp2_with fail
  go_at_call 24
  refine (sb2 _).mono ?_
  rintro e w' ⟨rfl, rfl⟩
  go_wp2_with fail
  go_at_call 26
  refine (sw1 _).mono ?_
  rintro e w11 ⟨rfl, hb11'⟩
  have hb11 := hb10.trans (hb11'.mono hb10.size)
  have hE11 := hE.below hb11
  clear hb11' hE10 hb10
  go_wp2_with fail
  go_at_call 28
  refine (sc1 _ hE11).mono ?_
  rintro e w12 ⟨rfl, hb12'⟩
  have hb12 := hb11.trans (hb12'.mono hb11.size)
  have hE12 := hE.below hb12
  clear hb12' hE11 hb11
  go_wp2_with fail
  go_at_call 28
  refine (sc2 _ hE12).mono ?_
  rintro e w13 ⟨rfl, hb13'⟩
  have hb13 := hb12.trans (hb13'.mono hb12.size)
  have hE13 := hE.below hb13
  clear hb13' hE12 hb12
  go_wp2_with fail
  go_at_call 28
  refine (sc3 _ hE13).mono ?_
  rintro e w14 ⟨rfl, hb14'⟩
  have hb14 := hb13.trans (hb14'.mono hb13.size)
  have hE14 := hE.below hb14
  clear hb14' hE13 hb13
  go_wp2_with fail
  go_at_call 22
  refine (sq1 _ hE14).mono ?_
  rintro e w15 ⟨rfl, hb15'⟩
  have hb15 := hb14.trans (hb15'.mono hb14.size)
  have hE15 := hE.below hb15
  clear hb15' hE14 hb14
  go_wp2_with fail
  go_at_call 22
  refine (sq2 _ hE15).mono ?_
  rintro e w16 ⟨rfl, hb16'⟩
  have hb16 := hb15.trans (hb16'.mono hb15.size)
  have hE16 := hE.below hb16
  clear hb16' hE15 hb15
  go_wp2_with fail
  go_at_call 30
  refine (st1 _).mono ?_
  rintro e w' ⟨rfl, rfl⟩
  go_wp2_with fail
  go_at_call 13
  refine (sv1 _ hE16).mono ?_
  rintro e w17 ⟨rfl, hb17'⟩
  have hb17 := hb16.trans (hb17'.mono hb16.size)
  have hE17 := hE.below hb17
  clear hb17' hE16 hb16
  go_wp2_with fail
  go_at_call 13
  refine (sv2 _ hE17).mono ?_
  rintro e w18 ⟨rfl, hb18'⟩
  have hb18 := hb17.trans (hb18'.mono hb17.size)
  have hE18 := hE.below hb18
  clear hb18' hE17 hb17
  go_wp2_with fail
  go_ret
  exact ⟨rfl, hb18⟩
end Go.Proofs.YtimlfdlocjfgaaaDoor
