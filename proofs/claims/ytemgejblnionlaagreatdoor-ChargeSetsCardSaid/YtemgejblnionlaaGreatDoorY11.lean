/-
  Texts Gna Gp Gyb Tw, put together by program.
-/
import Derived.Test.YtemgejblnionlaaGreatDoorY0
import Derived.Test.YtemgejblnionlaaGreatDoorY5
import Derived.Test.YtemgejblnionlaaGreatDoorY6
import Derived.Test.YtemgejblnionlaaGreatDoorY9
import Derived.Test.YtemgejblnionlaaGreatDoorY10
import Derived.Laws.StructEq
namespace Go.Proofs.YtemgejblnionlaaGreatDoor
open Go.RowKit
set_option maxHeartbeats 8000000
set_option maxRecDepth 100000
def madeD (L : Low) (t : Tr) (kind who : Int) (path : ByteArray) (ver : Int) : Tr × Rp :=
 let s := placeP L t.nodes who path
 if s.e = 0 then
  if 0 < s.id then (t, .num 91 0)
  else if L.allows (nodeD t.nodes s.dir).acl who (nodeD t.nodes s.dir).owner 2 = true then
   if 256 ≤ t.nodes.length then (t, .num 2 0)
   else ({ ((t.enter s.dir ⟨s.name, t.next⟩ ver).withN ⟨t.next, if kind = 2 then 2 else 1, who, L.child (nodeD t.nodes s.dir).acl (kind == 1), [], [], 1, ver⟩) with next := wrap64 (t.next + 1) }, .num 0 t.next)
  else (t, .num 95 0)
 else (t, .num s.e 0)
theorem made2_c {L : Low} (LR : LowR0 L) (T : Th) (x : Xh) (ver : Int) (w : World) (hT : T.ok w) (hs' : T.t.small) (hx : x.ok w) (hk0 : x.kind = 2) :
 Calls Tryz.prog 80 #[T.val, x.val, .int .i64 ver] w fun e w' => DoneRes w T (madeD L T.t x.kind x.who x.path ver) e w' := by
 have CN := Lib.hid (fun id W (h : Below w.heap.size w W) => (show Calls Tryz.prog 41 #[T.val, .int .i64 id] W fun e w' => ∃ N : Nh, e = .returned N.val ∧ N.ok w ∧ N.d = nodeD T.t.nodes id ∧ (∀ P, T.In P → N.In P) ∧ Below W.heap.size W w' from
  (node_any T id W (hT.below h) (by have := hs'.1; rw [Th.t_len hT] at this; omega)).mono fun e w' ⟨he, hb⟩ => ⟨_, he, nodeH_ok hT id, nodeH_d _ _, fun P h => nodeH_in h id, hb⟩))
 have HTT := Lib.hid hT
 have HSM := Lib.hid hs'
 have HX := Lib.hid hx
 have HK2 := Lib.hid hk0
 clear hk0
 have hz8 : zN.size = 8 := rfl
 have hz4 : zS.size = 4 := rfl
 have hz15 : zD.size = 15 := rfl
 clear hT hs' hx
 show Calls Tryz.prog 80 #[T.val, x.val, .int .i64 ver] w _
 have kk0 := Bxs.nil w
 obtain ⟨x1, hwx1, hzx1, kx1⟩ := kk0.new rfl T.cs (Th.enc T).toArray 31
 have HWx1 := Lib.hid hwx1
 obtain ⟨x2, hwx2, hzx2, kx2⟩ := kx1.new hzx1 x.cs x.cs 25
 have HWx2 := Lib.hid hwx2
 obtain ⟨x3, hwx3, hzx3, kx3⟩ := kx2.new hzx2 zD zD 98
 have HWx3 := Lib.hid hwx3
 have kk1 := Lib.hid kx3
 clear kk0 hwx1 hzx1 kx1 hwx2 hzx2 kx2 hwx3 hzx3 kx3
 go_enter Tryz.func80, Tryz.ntmps80
 go_upto_region 1 with fail
 rw [HWx1.out, HWx2.out, HWx3.out]
 have x1c : x3.cell? ⟨w.heap.size + 1, 1, none⟩ = some (.int .i64 x.who) := kk1.out.cell 1 1 _ rfl
 have x2c : x3.cell? ⟨w.heap.size + 1, 2, none⟩ = some (.string x.path) := kk1.out.cell 1 2 _ rfl
 have hcp := place_any LR T x.who x.path x3 (HTT.out.below kk1.out.low.out) HSM.out HX.out.path
 obtain ⟨s, hs0⟩ : ∃ s, (placeP L T.t.nodes x.who x.path) = s := ⟨_, rfl⟩
 rw [hs0] at hcp
 have CP := Lib.hid hcp
 have HS := Lib.hid hs0
 clear hcp hs0
 go_upto_region 2 with (first | (with_reducible refine load_tr rfl _ rfl (w.heap.size) rfl T (box_range (kk1.out.at 2 rfl).out) ?_) | (go_at_call 121; (with_reducible refine CP.out.mono ?_); rintro e w2 ⟨rfl, hb⟩; have HB2 := Lib.hid hb; clear hb) | (with_reducible refine store_spot rfl _ _ rfl w2.heap.size rfl s.dir s.name s.id s.e rfl zS (heap_alloc_new w2 _) hz4 ?_))
 clear x1c x2c
 have kk2 := Lib.hid (kk1.out.step (W' := w2) HB2.out)
 have kk3 := Lib.hid (kk2.out.alloc (c := zS) zS 184)
 have kk4 := Lib.hid (kk3.out.row 0 rfl #[.int .i64 s.dir, .string s.name, .int .i64 s.id, .int .i64 s.e])
 generalize (w2.alloc (.cells zS 184)).setRow w2.heap.size #[.int .i64 s.dir, .string s.name, .int .i64 s.id, .int .i64 s.e] = y5 at *
 have s0 : y5.cell? ⟨w2.heap.size, 0, none⟩ = some (.int .i64 s.dir) := kk4.out.cell 0 0 _ rfl
 have C1 := Lib.hid (CN.out s.dir y5 kk4.out.low.out)
 go_upto_region 3 with (first | (with_reducible refine load_tr rfl _ rfl (w.heap.size) rfl T (box_range (kk4.out.at 3 rfl).out) ?_) | (go_at_call 41; (with_reducible refine C1.out.mono ?_); rintro e w3 ⟨N, rfl, hok, hd, hi, hb⟩; have HB3 := Lib.hid hb; have H1 := Lib.hid (And.intro hok (And.intro hd hi)); clear hok hd hi hb) | (with_reducible refine store_nd rfl _ _ rfl w3.heap.size rfl N rfl zN (heap_alloc_new w3 _) hz8 ?_))
 clear s0
 have kk6 := Lib.hid (kk4.out.step (W' := w3) HB3.out)
 have kk7 := Lib.hid (kk6.out.alloc (c := zN) zN 65)
 have kk8 := Lib.hid (kk7.out.row 0 rfl N.enc.toArray)
 generalize (w3.alloc (.cells zN 65)).setRow w3.heap.size N.enc.toArray = y9 at *
 have s3 : y9.cell? ⟨w2.heap.size, 3, none⟩ = some (.int .i64 s.e) := kk8.out.cell 1 3 _ rfl
 by_cases he : s.e = 0
 · have b3 : (s.e != 0) = false := by simp [he]
   have HE := Lib.hid he
   clear he
   go_upto_region 5 with fail
   clear s3
   have s2 : y9.cell? ⟨w2.heap.size, 2, none⟩ = some (.int .i64 s.id) := kk8.out.cell 1 2 _ rfl
   by_cases hid : 0 < s.id
   · have HI := Lib.hid hid
     have FA := Lib.hid (failed_any T 91 y9)
     repeat (first | (go_big_may; (first | (with_reducible refine load_tr rfl _ rfl (w.heap.size) rfl T (box_range (kk8.out.at 4 rfl).out) ?_) | (go_at_call 79; (with_reducible refine FA.out.mono ?_); rintro e wf ⟨rfl, hb⟩; have HBf := Lib.hid hb; clear hb) | (with_reducible refine store_dn rfl _ _ rfl (w.heap.size + 1 + 1) rfl T (Rh.num 91 0) rfl zD (keep_block (kk8.out.at 2 rfl).out HBf.out) hz15 ?_))) | go_values | go_skip | go_guarded | go_step | go_upon | dsimp only)
     refine bodyPost_ret (v := dval T (Rh.num 91 0)) (ret_dn rfl _ _ (w.heap.size + 1 + 1) T (Rh.num 91 0) zD rfl (keep_block (kk8.out.at 2 rfl).out HBf.out)) rfl ?_
     rw [show madeD L T.t x.kind x.who x.path ver = (Th.t T, Rp.num 91 0) by unfold madeD; rw [HS.out]; simp only []; rw [if_pos HE.out, if_pos HI.out]]
     exact kk8.out.failed 2 rfl HTT.out HBf.out 91
   · have HI := Lib.hid hid
     go_upto_region 7 with fail
     clear s2 hid
     have x1c : y9.cell? ⟨w.heap.size + 1, 1, none⟩ = some (.int .i64 x.who) := kk8.out.cell 3 1 _ rfl
     have C2 := Lib.hid (may_any LR N x.who 2 y9 (H1.out.1.below kk8.out.low.out) (by rw [← H1.out.1.alen, H1.out.2.1]; exact (nodeD_small HSM.out s.dir).1))
     obtain ⟨al, hal⟩ : ∃ b, L.allows N.d.acl x.who N.d.owner 2 = b := ⟨_, rfl⟩
     rw [hal] at C2
     rw [H1.out.2.1] at hal
     have HAL := Lib.hid hal
     clear hal
     cases al
     · go_upto_region 8 with (first | (with_reducible refine load_nd rfl _ rfl (w3.heap.size) 0 rfl N (box_range (kk8.out.at 0 rfl).out) ?_) | (go_at_call 122; (with_reducible refine C2.out.mono ?_); rintro e w4 ⟨rfl, hb⟩; have HB4 := Lib.hid hb; clear hb))
       clear x1c
       have kk10 := Lib.hid (kk8.out.step (W' := w4) HB4.out)
       have FA := Lib.hid (failed_any T 95 w4)
       repeat (first | (go_big_may; (first | (with_reducible refine load_tr rfl _ rfl (w.heap.size) rfl T (box_range (kk10.out.at 4 rfl).out) ?_) | (go_at_call 79; (with_reducible refine FA.out.mono ?_); rintro e wf ⟨rfl, hb⟩; have HBf := Lib.hid hb; clear hb) | (with_reducible refine store_dn rfl _ _ rfl (w.heap.size + 1 + 1) rfl T (Rh.num 95 0) rfl zD (keep_block (kk10.out.at 2 rfl).out HBf.out) hz15 ?_))) | go_values | go_skip | go_guarded | go_step | go_upon | dsimp only)
       refine bodyPost_ret (v := dval T (Rh.num 95 0)) (ret_dn rfl _ _ (w.heap.size + 1 + 1) T (Rh.num 95 0) zD rfl (keep_block (kk10.out.at 2 rfl).out HBf.out)) rfl ?_
       rw [show madeD L T.t x.kind x.who x.path ver = (Th.t T, Rp.num 95 0) by unfold madeD; rw [HS.out]; simp only []; rw [if_pos HE.out, if_neg (Int.not_lt.2 HI.out), if_neg (by rw [HAL.out]; decide)]]
       exact kk10.out.failed 2 rfl HTT.out HBf.out 95
     · go_upto_region 9 with (first | (with_reducible refine load_nd rfl _ rfl (w3.heap.size) 0 rfl N (box_range (kk8.out.at 0 rfl).out) ?_) | (go_at_call 122; (with_reducible refine C2.out.mono ?_); rintro e w4 ⟨rfl, hb⟩; have HB4 := Lib.hid hb; clear hb))
       clear x1c
       have kk10 := Lib.hid (kk8.out.step (W' := w4) HB4.out)
       have t0 : w4.cell? ⟨w.heap.size, 0, none⟩ = some (.slice T.A T.n T.c) := kk10.out.cell 4 0 _ rfl
       by_cases hbig : 256 ≤ T.n
       · have b9 : (256 : Int) ≤ (T.n : Int) := by omega
         have HBG := Lib.hid (show 256 ≤ T.t.nodes.length by rw [Th.t_len HTT.out]; exact hbig)
         clear hbig
         go_upto_region 10 with fail
         clear t0 b9
         have FA := Lib.hid (failed_any T 2 w4)
         repeat (first | (go_big_may; (first | (with_reducible refine load_tr rfl _ rfl (w.heap.size) rfl T (box_range (kk10.out.at 4 rfl).out) ?_) | (go_at_call 79; (with_reducible refine FA.out.mono ?_); rintro e wf ⟨rfl, hb⟩; have HBf := Lib.hid hb; clear hb) | (with_reducible refine store_dn rfl _ _ rfl (w.heap.size + 1 + 1) rfl T (Rh.num 2 0) rfl zD (keep_block (kk10.out.at 2 rfl).out HBf.out) hz15 ?_))) | go_values | go_skip | go_guarded | go_step | go_upon | dsimp only)
         refine bodyPost_ret (v := dval T (Rh.num 2 0)) (ret_dn rfl _ _ (w.heap.size + 1 + 1) T (Rh.num 2 0) zD rfl (keep_block (kk10.out.at 2 rfl).out HBf.out)) rfl ?_
         rw [show madeD L T.t x.kind x.who x.path ver = (Th.t T, Rp.num 2 0) by unfold madeD; rw [HS.out]; simp only []; rw [if_pos HE.out, if_neg (Int.not_lt.2 HI.out), if_pos HAL.out, if_pos HBG.out]]
         exact kk10.out.failed 2 rfl HTT.out HBf.out 2
       · have b9 : ¬ (256 : Int) ≤ (T.n : Int) := by omega
         have HBG := Lib.hid (show ¬ 256 ≤ T.t.nodes.length by rw [Th.t_len HTT.out]; exact hbig)
         clear hbig
         go_upto_region 11 with fail
         clear t0 b9
         have HRBz := Lib.hid (show w.heap.size + 1 + 1 < w4.heap.size from block_lt (kk10.out.at 2 rfl).out)
         have CC := Lib.hid (fun W (h : Below w.heap.size w W) => LR.child N.aA N.an N.ac N.d.acl (x.kind == 1) W (H1.out.1.acl.below h) (by rw [← H1.out.1.alen, H1.out.2.1]; exact (nodeD_small HSM.out s.dir).1))
         rw [H1.out.2.1] at CC
         have HB0s := Lib.hid (show w.heap.size ≤ w4.heap.size from kk10.out.low.out.size)
         have NPL := Lib.hid (show plc (fun g => g < w.heap.size) N.aA N.an from ((H1.out.1.inside N.true_in).acl).mono fun g h => h.2)
         go_cut [9] from 46 to 57 (fun s9 wx => ∃ b CA cm cc, s9 = .pointer (some ⟨b, 0, none⟩) ∧ w4.heap.size ≤ b ∧ wx.heap[b]? = some (.cells (Nh.enc ⟨⟨T.next, 1, x.who, (L.child (nodeD T.t.nodes s.dir).acl (x.kind == 1)), [], [], 1, ver⟩, CA, cm, cc, none, 0, 0, none, 0, 0⟩).toArray 65 (0, 0)) ∧ Sv wx CA cm cc 5 (encs encA (L.child (nodeD T.t.nodes s.dir).acl (x.kind == 1))) ∧ cm ≤ N.an ∧ (∀ P, plc P N.aA N.an → plc (Fresh P w4) CA cm) ∧ plc (fun g => g ≠ b) CA cm ∧ Below w4.heap.size w4 wx)
         case first =>
          have HBQ0 := Lib.hid (Below.refl w4.heap.size w4)
          have kk11 := Lib.hid (kk10.out.step (W' := w4.drew) (show Below w4.heap.size w4 w4.drew from below_drewN w4 1))
          have HBQ12 := Lib.hid (HBQ0.out.trans ((show Below w4.heap.size w4 w4.drew from below_drewN w4 1).mono HBQ0.out.size))
          refine wp_region_held_drew (S := (fun W' => W'.cell? ⟨w.heap.size, 1, none⟩ = some (.int .i64 T.next) ∧ W'.cell? ⟨w.heap.size + 1, 1, none⟩ = some (.int .i64 x.who) ∧ W'.cell? ⟨w3.heap.size, 3, none⟩ = some (.slice N.aA N.an N.ac) ∧ W'.cell? ⟨w.heap.size + 1, 0, none⟩ = some (.int .i64 x.kind))) (by kernel_rfl) (by exact ⟨cell_of_row _ _ 1 _ _ _ (kk11.out.at 4 rfl).out, cell_of_row _ _ 1 _ _ _ (kk11.out.at 3 rfl).out, cell_of_row _ _ 3 _ _ _ (kk11.out.at 0 rfl).out, cell_of_row _ _ 0 _ _ _ (kk11.out.at 3 rfl).out⟩) (fun hHeld => ?_)
          generalize w4.drew = y13 at *
          refine any_pure (i := 0) ?_
          refine any_pure (i := 1) ?_
          refine any_pure (i := 2) ?_
          refine any_pure (i := 3) ?_
          refine any_pure (i := 4) ?_
          refine any_pure (i := 5) ?_
          refine any_pure (i := 6) ?_
          refine any_pure (i := 7) ?_
          refine any_pure (i := 8) ?_
          refine any_pure (i := 10) ?_
          refine wpAnyH_ready (rs := [9, 12]) (by kernel_rfl) (by simp) ?_
          refine AllReadyH.cons rfl (fun K hK => ?_) (AllReadyH.cons rfl (fun K hK => ?_) AllReadyH.nil)
          · go_simp
            go_wp2_with (go_at_call 123; (with_reducible refine (CC.out _ kk11.out.low.out).mono ?_); rintro e w5 ⟨CA, cm, cc, rfl, hsv, hcm, hpl, hb⟩; have HB5 := Lib.hid hb; have HCH := Lib.hid hsv; have HCM := Lib.hid hcm; have HPL := Lib.hid hpl; clear hb hsv hcm hpl)
            have HPM := Lib.hid (fun P (h : plc P N.aA N.an) => (show plc (Fresh P w4) CA cm from (HPL.out P h).mono fun g hg => by have h3 := HBQ12.out.size; rcases hg with hg | hg; exact .inl hg; exact .inr (by omega)))
            have HWC := Lib.hid (show y13.heap.size ≤ y13.heap.size from Nat.le_refl _)
            have kk14 := Lib.hid (kk11.out.step (W' := w5) HB5.out)
            have HBQ15 := Lib.hid (HBQ12.out.trans (HB5.out.mono HBQ12.out.size))
            refine hK.out _ _ ?_ (fun hHeld => ?_)
            · exact ⟨cell_of_row _ _ 1 _ _ _ (kk14.out.at 4 rfl).out, cell_of_row _ _ 1 _ _ _ (kk14.out.at 3 rfl).out, cell_of_row _ _ 3 _ _ _ (kk14.out.at 0 rfl).out, cell_of_row _ _ 0 _ _ _ (kk14.out.at 3 rfl).out⟩
            clear hK K
            try simp only [Act.put, puts]
            refine any_pure (i := 11) ?_
            refine wpAnyH_ready (rs := [12]) (by kernel_rfl) (by simp) ?_
            refine AllReadyH.cons rfl (fun K hK => ?_) AllReadyH.nil
            have HMB := Lib.hid (show w4.heap.size ≤ w5.heap.size from HBQ15.out.size)
            go_simp
            have kk16 := Lib.hid (kk14.out.alloc (c := zN) zN 65)
            have HBQ17 := Lib.hid (HBQ15.out.trans (((Below.refl w5.heap.size w5).alloc (Nat.le_refl _) (.cells zN 65)).mono HBQ15.out.size))
            have HCI := Lib.hid (HCH.out.below ((Below.refl w5.heap.size w5).alloc (Nat.le_refl _) (.cells zN 65)))
            have HPB := Lib.hid (show plc (fun g => g ≠ w5.heap.size) CA cm from ((HCH.out.inside (by decide) (fun _ _ _ _ _ => trivial : plc (fun _ => True) CA cm))).mono fun g h => by omega)
            refine hK.out _ _ ?_ (fun hHeld => ?_)
            · exact ⟨cell_of_row _ _ 1 _ _ _ (kk16.out.at 5 rfl).out, cell_of_row _ _ 1 _ _ _ (kk16.out.at 4 rfl).out, cell_of_row _ _ 3 _ _ _ (kk16.out.at 1 rfl).out, cell_of_row _ _ 0 _ _ _ (kk16.out.at 4 rfl).out⟩
            clear hK K
            try simp only [Act.put, puts]
            generalize w5.alloc (.cells zN 65) = y18 at *
            refine wpAnyH_ready (rs := [13]) (by kernel_rfl) (by simp) ?_
            refine AllReadyH.cons rfl (fun K hK => ?_) AllReadyH.nil
            refine step_store_row rfl 65 _ _ rfl (w5.heap.size) (Nh.enc ⟨⟨T.next, 1, x.who, (L.child (nodeD T.t.nodes s.dir).acl (x.kind == 1)), [], [], 1, ver⟩, CA, cm, cc, none, 0, 0, none, 0, 0⟩).toArray rfl rfl zN (kk16.out.at 0 rfl).out (by kernel_rfl) rfl (by simp [Nh.enc, Value.oneCell']) ?_
            have kk19 := Lib.hid (kk16.out.row 0 rfl (Nh.enc ⟨⟨T.next, 1, x.who, (L.child (nodeD T.t.nodes s.dir).acl (x.kind == 1)), [], [], 1, ver⟩, CA, cm, cc, none, 0, 0, none, 0, 0⟩).toArray)
            have HCJ := Lib.hid (HCI.out.agree HPB.out (fun g hg => setRow_other y18 (w5.heap.size) g (Nh.enc ⟨⟨T.next, 1, x.who, (L.child (nodeD T.t.nodes s.dir).acl (x.kind == 1)), [], [], 1, ver⟩, CA, cm, cc, none, 0, 0, none, 0, 0⟩).toArray hg) (by simp))
            have HBQz := Lib.hid (below_setRow HBQ17.out (g := w5.heap.size) (by have hc := kk19.out.chn; dsimp [chn] at hc; have h6 := HMB.out; omega) (Nh.enc ⟨⟨T.next, 1, x.who, (L.child (nodeD T.t.nodes s.dir).acl (x.kind == 1)), [], [], 1, ver⟩, CA, cm, cc, none, 0, 0, none, 0, 0⟩).toArray)
            refine hK.out _ _ ?_ (fun hHeld => ?_)
            · exact ⟨cell_of_row _ _ 1 _ _ _ (kk19.out.at 5 rfl).out, cell_of_row _ _ 1 _ _ _ (kk19.out.at 4 rfl).out, cell_of_row _ _ 3 _ _ _ (kk19.out.at 1 rfl).out, cell_of_row _ _ 0 _ _ _ (kk19.out.at 4 rfl).out⟩
            clear hK K
            try simp only [Act.put, puts]
            generalize y18.setRow (w5.heap.size) (Nh.enc ⟨⟨T.next, 1, x.who, (L.child (nodeD T.t.nodes s.dir).acl (x.kind == 1)), [], [], 1, ver⟩, CA, cm, cc, none, 0, 0, none, 0, 0⟩).toArray = y20 at *
            refine wpAnyH_done (by kernel_rfl) ?_ _
            go_wp2
            go_meet
            case rel => exact ⟨w5.heap.size, CA, cm, cc, rfl, HMB.out, (kk19.out.at 0 rfl).out, HCJ.out, HCM.out, HPM.out, HPB.out, HBQz.out⟩
          · have HMB := Lib.hid (show w4.heap.size ≤ y13.heap.size from HBQ12.out.size)
            go_simp
            have kk14 := Lib.hid (kk11.out.alloc (c := zN) zN 65)
            have HBQ15 := Lib.hid (HBQ12.out.trans (((Below.refl y13.heap.size y13).alloc (Nat.le_refl _) (.cells zN 65)).mono HBQ12.out.size))
            refine hK.out _ _ ?_ (fun hHeld => ?_)
            · exact ⟨cell_of_row _ _ 1 _ _ _ (kk14.out.at 5 rfl).out, cell_of_row _ _ 1 _ _ _ (kk14.out.at 4 rfl).out, cell_of_row _ _ 3 _ _ _ (kk14.out.at 1 rfl).out, cell_of_row _ _ 0 _ _ _ (kk14.out.at 4 rfl).out⟩
            clear hK K
            try simp only [Act.put, puts]
            generalize y13.alloc (.cells zN 65) = y16 at *
            refine wpAnyH_ready (rs := [9]) (by kernel_rfl) (by simp) ?_
            refine AllReadyH.cons rfl (fun K hK => ?_) AllReadyH.nil
            go_simp
            go_wp2_with (go_at_call 123; (with_reducible refine (CC.out _ kk14.out.low.out).mono ?_); rintro e w5 ⟨CA, cm, cc, rfl, hsv, hcm, hpl, hb⟩; have HB5 := Lib.hid hb; have HCH := Lib.hid hsv; have HCM := Lib.hid hcm; have HPL := Lib.hid hpl; clear hb hsv hcm hpl)
            have HPM := Lib.hid (fun P (h : plc P N.aA N.an) => (show plc (Fresh P w4) CA cm from (HPL.out P h).mono fun g hg => by have h3 := HBQ15.out.size; rcases hg with hg | hg; exact .inl hg; exact .inr (by omega)))
            have HWC := Lib.hid (show y16.heap.size ≤ y16.heap.size from Nat.le_refl _)
            have kk17 := Lib.hid (kk14.out.step (W' := w5) HB5.out)
            have HBQ18 := Lib.hid (HBQ15.out.trans (HB5.out.mono HBQ15.out.size))
            refine hK.out _ _ ?_ (fun hHeld => ?_)
            · exact ⟨cell_of_row _ _ 1 _ _ _ (kk17.out.at 5 rfl).out, cell_of_row _ _ 1 _ _ _ (kk17.out.at 4 rfl).out, cell_of_row _ _ 3 _ _ _ (kk17.out.at 1 rfl).out, cell_of_row _ _ 0 _ _ _ (kk17.out.at 4 rfl).out⟩
            clear hK K
            try simp only [Act.put, puts]
            refine any_pure (i := 11) ?_
            refine wpAnyH_ready (rs := [13]) (by kernel_rfl) (by simp) ?_
            refine AllReadyH.cons rfl (fun K hK => ?_) AllReadyH.nil
            have HPB := Lib.hid (show plc (fun g => g ≠ y13.heap.size) CA cm from (HPL.out (fun g => g < w.heap.size) NPL.out).mono fun g hg => by have hc := kk17.out.chn; dsimp [chn] at hc; have h5 := block_lt (kk14.out.at 0 rfl).out; rcases hg with hg | hg <;> omega)
            refine step_store_row rfl 65 _ _ rfl (y13.heap.size) (Nh.enc ⟨⟨T.next, 1, x.who, (L.child (nodeD T.t.nodes s.dir).acl (x.kind == 1)), [], [], 1, ver⟩, CA, cm, cc, none, 0, 0, none, 0, 0⟩).toArray rfl rfl zN (kk17.out.at 0 rfl).out (by kernel_rfl) rfl (by simp [Nh.enc, Value.oneCell']) ?_
            have kk19 := Lib.hid (kk17.out.row 0 rfl (Nh.enc ⟨⟨T.next, 1, x.who, (L.child (nodeD T.t.nodes s.dir).acl (x.kind == 1)), [], [], 1, ver⟩, CA, cm, cc, none, 0, 0, none, 0, 0⟩).toArray)
            have HCJ := Lib.hid (HCH.out.agree HPB.out (fun g hg => setRow_other w5 (y13.heap.size) g (Nh.enc ⟨⟨T.next, 1, x.who, (L.child (nodeD T.t.nodes s.dir).acl (x.kind == 1)), [], [], 1, ver⟩, CA, cm, cc, none, 0, 0, none, 0, 0⟩).toArray hg) (by simp))
            have HBQz := Lib.hid (below_setRow HBQ18.out (g := y13.heap.size) (by have hc := kk19.out.chn; dsimp [chn] at hc; have h6 := HMB.out; omega) (Nh.enc ⟨⟨T.next, 1, x.who, (L.child (nodeD T.t.nodes s.dir).acl (x.kind == 1)), [], [], 1, ver⟩, CA, cm, cc, none, 0, 0, none, 0, 0⟩).toArray)
            refine hK.out _ _ ?_ (fun hHeld => ?_)
            · exact ⟨cell_of_row _ _ 1 _ _ _ (kk19.out.at 5 rfl).out, cell_of_row _ _ 1 _ _ _ (kk19.out.at 4 rfl).out, cell_of_row _ _ 3 _ _ _ (kk19.out.at 1 rfl).out, cell_of_row _ _ 0 _ _ _ (kk19.out.at 4 rfl).out⟩
            clear hK K
            try simp only [Act.put, puts]
            generalize w5.setRow (y13.heap.size) (Nh.enc ⟨⟨T.next, 1, x.who, (L.child (nodeD T.t.nodes s.dir).acl (x.kind == 1)), [], [], 1, ver⟩, CA, cm, cc, none, 0, 0, none, 0, 0⟩).toArray = y20 at *
            refine wpAnyH_done (by kernel_rfl) ?_ _
            go_wp2
            go_meet
            case rel => exact ⟨y13.heap.size, CA, cm, cc, rfl, HMB.out, (kk19.out.at 0 rfl).out, HCJ.out, HCM.out, HPM.out, HPB.out, HBQz.out⟩
         case rest =>
          obtain ⟨b, CA, cm, cc, rfl, hbge, hbm, hsv, hcm, hpm, hpb, hbc⟩ := hcut
          have HMB := Lib.hid hbge
          have BM0 := Lib.hid hbm
          have HSV := Lib.hid hsv
          have HPM := Lib.hid hpm
          have HPB := Lib.hid hpb
          have HBC := Lib.hid hbc
          clear hbge hbm hsv hcm hpm hpb hbc
          have kk11 := Lib.hid (kk10.out.add HBC.out BM0.out HMB.out)
          have HMIN := Lib.hid (fun P (hP : Th.In P T) => HPM.out P (H1.out.2.2 P hP).acl)
          have x0c : wc.cell? ⟨w.heap.size + 1, 0, none⟩ = some (.int .i64 x.kind) := kk11.out.cell 4 0 _ rfl
          have m1 : wc.cell? ⟨b, 1, none⟩ = some (.int .i64 1) := kk11.out.cell 0 1 _ rfl
          have f1 : wc.frozen? ⟨b, 1, none⟩ = false := kk11.out.thaw 0 1 rfl
          have hk2 := HK2.out
          · have bk2 : (x.kind == 2) = true := by simp [hk2]
            have HK2 := Lib.hid hk2
            clear hk2
            go_upto_region 14 with fail
            clear x0c m1 f1
            have kk12 := Lib.hid (kk11.out.cel 0 rfl 1 (.int .i64 2) (Nh.enc ⟨⟨T.next, 2, x.who, (L.child (nodeD T.t.nodes s.dir).acl (x.kind == 1)), [], [], 1, ver⟩, CA, cm, cc, none, 0, 0, none, 0, 0⟩).toArray)
            have HSV2 := Lib.hid (HSV.out.agree HPB.out (fun g hg => heap_setCell_other wc ⟨b, 1, none⟩ g (.int .i64 2) hg) (by simp [World.setCell]))
            generalize wc.setCell ⟨b, 1, none⟩ (.int .i64 2) = y13 at *
            have HRB := Lib.hid (show w.heap.size + 1 + 1 < w4.heap.size from HRBz.out)
            have HMO := Lib.hid (show Nh.ok y13 ⟨⟨T.next, 2, x.who, (L.child (nodeD T.t.nodes s.dir).acl (x.kind == 1)), [], [], 1, ver⟩, CA, cm, cc, none, 0, 0, none, 0, 0⟩ from ⟨HSV2.out, Sv.none_ _ _, Sv.none_ _ _⟩)
            have HMI := Lib.hid (fun P (hP : Th.In P T) => (show Nh.In (Fresh P w) ⟨⟨T.next, 2, x.who, (L.child (nodeD T.t.nodes s.dir).acl (x.kind == 1)), [], [], 1, ver⟩, CA, cm, cc, none, 0, 0, none, 0, 0⟩ from ⟨(HMIN.out P hP).mono fun g hg => by have h1 := HB0s.out; rcases hg with hg | hg; exact .inl hg; exact .inr (by omega), plc_none _, plc_none _⟩))
            have HMR := Lib.hid (show Nh.In (fun g => g ≠ w.heap.size + 1 + 1) ⟨⟨T.next, 2, x.who, (L.child (nodeD T.t.nodes s.dir).acl (x.kind == 1)), [], [], 1, ver⟩, CA, cm, cc, none, 0, 0, none, 0, 0⟩ from ⟨(HMIN.out (fun g => g < w.heap.size) ((HTT.out.inside (Th.true_in _)).mono fun g h => h.2)).mono fun g hg => by have h3 := HRB.out; rcases hg with hg | hg <;> omega, plc_none _, plc_none _⟩)
            have CE := Lib.hid (fun W (h : Below w.heap.size w W) => enter_c T s.dir ⟨s.name, T.next⟩ ver W (HTT.out.below h) HSM.out)
            have HRB1 := Lib.hid (show w.heap.size + 1 + 1 < y13.heap.size from block_lt (kk12.out.at 3 rfl).out)
            have HWB1 := Lib.hid (show w.heap.size ≤ y13.heap.size from kk12.out.low.out.size)
            go_cut [10] from 62 to 73 (fun s10 wx => ∃ (b2 : Nat) (T2 : Th), s10 = .pointer (some ⟨b2, 0, none⟩) ∧ y13.heap.size ≤ b2 ∧ wx.heap[b2]? = some (.cells (Th.enc T2).toArray 31 (0, 0)) ∧ T2.ok wx ∧ T2.In (fun g => g ≠ b2) ∧ T2.In (fun g => g ≠ w.heap.size + 1 + 1) ∧ T2.t = (Tr.withN (Tr.enter T.t s.dir ⟨s.name, T.next⟩ ver) (Nh.d ⟨⟨T.next, 2, x.who, (L.child (nodeD T.t.nodes s.dir).acl (x.kind == 1)), [], [], 1, ver⟩, CA, cm, cc, none, 0, 0, none, 0, 0⟩)) ∧ (∀ P, Th.In P T → T2.In (Fresh P w)) ∧ Below y13.heap.size y13 wx)
            case first =>
             have HBR0 := Lib.hid (Below.refl y13.heap.size y13)
             have kk14 := Lib.hid (kk12.out.step (W' := y13.drew) (show Below y13.heap.size y13 y13.drew from below_drewN y13 1))
             have HBQ15 := Lib.hid (HBR0.out.trans ((show Below y13.heap.size y13 y13.drew from below_drewN y13 1).mono HBR0.out.size))
             refine wp_region_held_drew (S := (fun W' => W'.heap[w.heap.size]? = some (.cells (Th.enc T).toArray 31 (0, 0)) ∧ W'.heap[b]? = some (.cells (Nh.enc ⟨⟨T.next, 2, x.who, (L.child (nodeD T.t.nodes s.dir).acl (x.kind == 1)), [], [], 1, ver⟩, CA, cm, cc, none, 0, 0, none, 0, 0⟩).toArray 65 (0, 0)) ∧ W'.cell? ⟨w2.heap.size, 0, none⟩ = some (.int .i64 s.dir) ∧ W'.cell? ⟨w2.heap.size, 1, none⟩ = some (.string s.name) ∧ W'.cell? ⟨b, 0, none⟩ = some (.int .i64 T.next))) (by kernel_rfl) (by exact ⟨(kk14.out.at 5 rfl).out, (kk14.out.at 0 rfl).out, cell_of_row _ _ 0 _ _ _ (kk14.out.at 2 rfl).out, cell_of_row _ _ 1 _ _ _ (kk14.out.at 2 rfl).out, cell_of_row _ _ 0 _ _ _ (kk14.out.at 0 rfl).out⟩) (fun hHeld => ?_)
             generalize y13.drew = y16 at *
             refine any_pure (i := 0) (v := Th.val T) (hy := yieldsIf_load_mid (by rfl) 31 _ rfl (w.heap.size) 0 rfl (Th.enc T) _ (fun w h => box_range h.1) Tryz.underlying31 rfl (by kernel_rfl)) ?_
             refine any_pure (i := 1) ?_
             refine any_pure (i := 2) ?_
             refine any_pure (i := 3) ?_
             refine any_pure (i := 4) ?_
             refine any_pure (i := 5) ?_
             refine any_pure (i := 6) ?_
             refine any_pure (i := 7) ?_
             refine any_pure (i := 8) ?_
             refine any_pure (i := 10) (v := Nh.val ⟨⟨T.next, 2, x.who, (L.child (nodeD T.t.nodes s.dir).acl (x.kind == 1)), [], [], 1, ver⟩, CA, cm, cc, none, 0, 0, none, 0, 0⟩) (hy := yieldsIf_load_mid (by rfl) 65 _ rfl (b) 0 rfl (Nh.enc ⟨⟨T.next, 2, x.who, (L.child (nodeD T.t.nodes s.dir).acl (x.kind == 1)), [], [], 1, ver⟩, CA, cm, cc, none, 0, 0, none, 0, 0⟩) _ (fun w h => box_range h.2.1) Tryz.underlying65 rfl (by kernel_rfl)) ?_
             refine wpAnyH_ready (rs := [9, 12]) (by kernel_rfl) (by simp) ?_
             refine AllReadyH.cons rfl (fun K hK => ?_) (AllReadyH.cons rfl (fun K hK => ?_) AllReadyH.nil)
             · go_simp
               go_wp2_with (go_at_call 125; (with_reducible refine (CE.out _ kk14.out.low.out).mono ?_); rintro e w6 ⟨T1, rfl, hok, ht, hi, hb⟩; have HB6 := Lib.hid hb; have H6 := Lib.hid (And.intro hok (And.intro ht hi)); clear hok ht hi hb)
               have HL6 := Lib.hid (show y13.heap.size ≤ y16.heap.size from HBQ15.out.size)
               have AR1 := Lib.hid (show T1.In (fun g => g ≠ w.heap.size + 1 + 1) from (H6.out.2.2 (fun g => g ≠ w.heap.size + 1 + 1) (HTT.out.off (by omega))).mono fun g hg => by have h1 := HRB1.out; have h2 := HL6.out; rcases hg with hg | hg; exact hg; omega)
               have AI1 := Lib.hid (fun P (hP : Th.In P T) => (show T1.In (Fresh P w) from (H6.out.2.2 P hP).mono fun g hg => by have h1 := HWB1.out; have h2 := HL6.out; rcases hg with hg | hg; exact .inl hg; exact .inr (by omega)))
               have HL1 := Lib.hid (show T1.t.nodes.length ≤ 100000 by rw [H6.out.2.1]; have := withD_len T.t.nodes { nodeD T.t.nodes s.dir with list := putE (nodeD T.t.nodes s.dir).list ⟨s.name, T.next⟩, ver := ver }; have h2 := HSM.out.1; show (withD _ _).length ≤ _; omega)
               have kk17 := Lib.hid (kk14.out.step (W' := w6) HB6.out)
               have HBQ18 := Lib.hid (HBQ15.out.trans (HB6.out.mono HBQ15.out.size))
               refine hK.out _ _ ?_ (fun hHeld => ?_)
               · exact ⟨(kk17.out.at 5 rfl).out, (kk17.out.at 0 rfl).out, cell_of_row _ _ 0 _ _ _ (kk17.out.at 2 rfl).out, cell_of_row _ _ 1 _ _ _ (kk17.out.at 2 rfl).out, cell_of_row _ _ 0 _ _ _ (kk17.out.at 0 rfl).out⟩
               clear hK K
               try simp only [Act.put, puts]
               refine wpAnyH_ready (rs := [11, 12]) (by kernel_rfl) (by simp) ?_
               refine AllReadyH.cons rfl (fun K hK => ?_) (AllReadyH.cons rfl (fun K hK => ?_) AllReadyH.nil)
               · have CX := Lib.hid (with_c T1 ⟨⟨T.next, 2, x.who, (L.child (nodeD T.t.nodes s.dir).acl (x.kind == 1)), [], [], 1, ver⟩, CA, cm, cc, none, 0, 0, none, 0, 0⟩ w6 (H6.out.1) (HMO.out.below HBQ18.out) HL1.out)
                 have HL7 := Lib.hid (show y13.heap.size ≤ w6.heap.size from HBQ18.out.size)
                 go_simp
                 go_wp2_with (go_at_call 124; (with_reducible refine (CX.out).mono ?_); rintro e w7 ⟨T2, rfl, hok, ht, hi, hb⟩; have HB7 := Lib.hid hb; have H7 := Lib.hid (And.intro hok (And.intro ht hi)); clear hok ht hi hb)
                 have AR2 := Lib.hid (show T2.In (fun g => g ≠ w.heap.size + 1 + 1) from (H7.out.2.2 _ AR1.out HMR.out).mono fun g hg => by have h1 := HRB1.out; have h2 := HL7.out; rcases hg with hg | hg; exact hg; omega)
                 have AI2 := Lib.hid (fun P (hP : Th.In P T) => (show T2.In (Fresh P w) from (H7.out.2.2 _ (AI1.out P hP) (HMI.out P hP)).mono fun g hg => by have h1 := HWB1.out; have h2 := HL7.out; rcases hg with (hg | hg) | hg; exact .inl hg; exact .inr hg; exact .inr (by omega)))
                 have kk19 := Lib.hid (kk17.out.step (W' := w7) HB7.out)
                 have HBQ20 := Lib.hid (HBQ18.out.trans (HB7.out.mono HBQ18.out.size))
                 refine hK.out _ _ ?_ (fun hHeld => ?_)
                 · exact ⟨(kk19.out.at 5 rfl).out, (kk19.out.at 0 rfl).out, cell_of_row _ _ 0 _ _ _ (kk19.out.at 2 rfl).out, cell_of_row _ _ 1 _ _ _ (kk19.out.at 2 rfl).out, cell_of_row _ _ 0 _ _ _ (kk19.out.at 0 rfl).out⟩
                 clear hK K
                 try simp only [Act.put, puts]
                 refine wpAnyH_ready (rs := [12]) (by kernel_rfl) (by simp) ?_
                 refine AllReadyH.cons rfl (fun K hK => ?_) AllReadyH.nil
                 have HOW := Lib.hid (show w.heap.size ≤ w7.heap.size from kk19.out.low.out.size)
                 have HOB := Lib.hid (show y13.heap.size ≤ w7.heap.size from HBQ20.out.size)
                 go_simp
                 have OKA := Lib.hid ((H7.out.1).below ((Below.refl w7.heap.size w7).alloc (Nat.le_refl _) (.cells zT 31)))
                 have AO2 := Lib.hid (show T2.In (fun g => g ≠ w7.heap.size) from (H7.out.1).off (Nat.le_refl _))
                 have kk21 := Lib.hid (kk19.out.alloc (c := zT) zT 31)
                 have HBQ22 := Lib.hid (HBQ20.out.trans (((Below.refl w7.heap.size w7).alloc (Nat.le_refl _) (.cells zT 31)).mono HBQ20.out.size))
                 refine hK.out _ _ ?_ (fun hHeld => ?_)
                 · exact ⟨(kk21.out.at 6 rfl).out, (kk21.out.at 1 rfl).out, cell_of_row _ _ 0 _ _ _ (kk21.out.at 3 rfl).out, cell_of_row _ _ 1 _ _ _ (kk21.out.at 3 rfl).out, cell_of_row _ _ 0 _ _ _ (kk21.out.at 1 rfl).out⟩
                 clear hK K
                 try simp only [Act.put, puts]
                 generalize w7.alloc (.cells zT 31) = y23 at *
                 refine wpAnyH_ready (rs := [13]) (by kernel_rfl) (by simp) ?_
                 refine AllReadyH.cons rfl (fun K hK => ?_) AllReadyH.nil
                 refine step_store_row rfl 31 _ _ rfl (w7.heap.size) (Th.enc T2).toArray rfl rfl zT (kk21.out.at 0 rfl).out (by kernel_rfl) rfl (by simp [Th.enc, Value.oneCell']) ?_
                 have kk24 := Lib.hid (kk21.out.row 0 rfl (Th.enc T2).toArray)
                 have OKB := Lib.hid (Th.ok.setRow (OKA.out) AO2.out (Th.enc T2).toArray)
                 have HBRz := Lib.hid (below_setRow HBQ22.out (g := w7.heap.size) HOB.out (Th.enc T2).toArray)
                 refine hK.out _ _ ?_ (fun hHeld => ?_)
                 · exact ⟨(kk24.out.at 6 rfl).out, (kk24.out.at 1 rfl).out, cell_of_row _ _ 0 _ _ _ (kk24.out.at 3 rfl).out, cell_of_row _ _ 1 _ _ _ (kk24.out.at 3 rfl).out, cell_of_row _ _ 0 _ _ _ (kk24.out.at 1 rfl).out⟩
                 clear hK K
                 try simp only [Act.put, puts]
                 generalize y23.setRow (w7.heap.size) (Th.enc T2).toArray = y25 at *
                 refine wpAnyH_done (by kernel_rfl) ?_ _
                 go_wp2
                 go_meet
                 case rel => exact ⟨w7.heap.size, T2, rfl, HOB.out, (kk24.out.at 0 rfl).out, OKB.out, AO2.out, AR2.out, H7.out.2.1.trans (by rw [H6.out.2.1]), AI2.out, HBRz.out⟩
               · have HOW := Lib.hid (show w.heap.size ≤ w6.heap.size from kk17.out.low.out.size)
                 have HOB := Lib.hid (show y13.heap.size ≤ w6.heap.size from HBQ18.out.size)
                 go_simp
                 have OKA := Lib.hid ((H6.out.1).below ((Below.refl w6.heap.size w6).alloc (Nat.le_refl _) (.cells zT 31)))
                 have AO1 := Lib.hid (show T1.In (fun g => g ≠ w6.heap.size) from (H6.out.1).off (Nat.le_refl _))
                 have kk19 := Lib.hid (kk17.out.alloc (c := zT) zT 31)
                 have HBQ20 := Lib.hid (HBQ18.out.trans (((Below.refl w6.heap.size w6).alloc (Nat.le_refl _) (.cells zT 31)).mono HBQ18.out.size))
                 refine hK.out _ _ ?_ (fun hHeld => ?_)
                 · exact ⟨(kk19.out.at 6 rfl).out, (kk19.out.at 1 rfl).out, cell_of_row _ _ 0 _ _ _ (kk19.out.at 3 rfl).out, cell_of_row _ _ 1 _ _ _ (kk19.out.at 3 rfl).out, cell_of_row _ _ 0 _ _ _ (kk19.out.at 1 rfl).out⟩
                 clear hK K
                 try simp only [Act.put, puts]
                 generalize w6.alloc (.cells zT 31) = y21 at *
                 refine wpAnyH_ready (rs := [11]) (by kernel_rfl) (by simp) ?_
                 refine AllReadyH.cons rfl (fun K hK => ?_) AllReadyH.nil
                 have CX := Lib.hid (with_c T1 ⟨⟨T.next, 2, x.who, (L.child (nodeD T.t.nodes s.dir).acl (x.kind == 1)), [], [], 1, ver⟩, CA, cm, cc, none, 0, 0, none, 0, 0⟩ y21 (OKA.out) (HMO.out.below HBQ20.out) HL1.out)
                 have HL7 := Lib.hid (show y13.heap.size ≤ y21.heap.size from HBQ20.out.size)
                 have HO7 := Lib.hid (show w6.heap.size < y21.heap.size from block_lt (kk19.out.at 0 rfl).out)
                 go_simp
                 go_wp2_with (go_at_call 124; (with_reducible refine (CX.out).mono ?_); rintro e w7 ⟨T2, rfl, hok, ht, hi, hb⟩; have HB7 := Lib.hid hb; have H7 := Lib.hid (And.intro hok (And.intro ht hi)); clear hok ht hi hb)
                 have AR2 := Lib.hid (show T2.In (fun g => g ≠ w.heap.size + 1 + 1) from (H7.out.2.2 _ AR1.out HMR.out).mono fun g hg => by have h1 := HRB1.out; have h2 := HL7.out; rcases hg with hg | hg; exact hg; omega)
                 have AI2 := Lib.hid (fun P (hP : Th.In P T) => (show T2.In (Fresh P w) from (H7.out.2.2 _ (AI1.out P hP) (HMI.out P hP)).mono fun g hg => by have h1 := HWB1.out; have h2 := HL7.out; rcases hg with (hg | hg) | hg; exact .inl hg; exact .inr hg; exact .inr (by omega)))
                 have AO2 := Lib.hid (show T2.In (fun g => g ≠ w6.heap.size) from (H7.out.2.2 _ AO1.out (HMO.out.off HOB.out)).mono fun g hg => by have h2 := HO7.out; rcases hg with hg | hg; exact hg; omega)
                 have kk22 := Lib.hid (kk19.out.step (W' := w7) HB7.out)
                 have HBQ23 := Lib.hid (HBQ20.out.trans (HB7.out.mono HBQ20.out.size))
                 refine hK.out _ _ ?_ (fun hHeld => ?_)
                 · exact ⟨(kk22.out.at 6 rfl).out, (kk22.out.at 1 rfl).out, cell_of_row _ _ 0 _ _ _ (kk22.out.at 3 rfl).out, cell_of_row _ _ 1 _ _ _ (kk22.out.at 3 rfl).out, cell_of_row _ _ 0 _ _ _ (kk22.out.at 1 rfl).out⟩
                 clear hK K
                 try simp only [Act.put, puts]
                 refine wpAnyH_ready (rs := [13]) (by kernel_rfl) (by simp) ?_
                 refine AllReadyH.cons rfl (fun K hK => ?_) AllReadyH.nil
                 refine step_store_row rfl 31 _ _ rfl (w6.heap.size) (Th.enc T2).toArray rfl rfl zT (kk22.out.at 0 rfl).out (by kernel_rfl) rfl (by simp [Th.enc, Value.oneCell']) ?_
                 have kk24 := Lib.hid (kk22.out.row 0 rfl (Th.enc T2).toArray)
                 have OKB := Lib.hid (Th.ok.setRow (H7.out.1) AO2.out (Th.enc T2).toArray)
                 have HBRz := Lib.hid (below_setRow HBQ23.out (g := w6.heap.size) HOB.out (Th.enc T2).toArray)
                 refine hK.out _ _ ?_ (fun hHeld => ?_)
                 · exact ⟨(kk24.out.at 6 rfl).out, (kk24.out.at 1 rfl).out, cell_of_row _ _ 0 _ _ _ (kk24.out.at 3 rfl).out, cell_of_row _ _ 1 _ _ _ (kk24.out.at 3 rfl).out, cell_of_row _ _ 0 _ _ _ (kk24.out.at 1 rfl).out⟩
                 clear hK K
                 try simp only [Act.put, puts]
                 generalize w7.setRow (w6.heap.size) (Th.enc T2).toArray = y25 at *
                 refine wpAnyH_done (by kernel_rfl) ?_ _
                 go_wp2
                 go_meet
                 case rel => exact ⟨w6.heap.size, T2, rfl, HOB.out, (kk24.out.at 0 rfl).out, OKB.out, AO2.out, AR2.out, H7.out.2.1.trans (by rw [H6.out.2.1]), AI2.out, HBRz.out⟩
             · have HOW := Lib.hid (show w.heap.size ≤ y16.heap.size from kk14.out.low.out.size)
               have HOB := Lib.hid (show y13.heap.size ≤ y16.heap.size from HBQ15.out.size)
               go_simp
               have kk17 := Lib.hid (kk14.out.alloc (c := zT) zT 31)
               have HBQ18 := Lib.hid (HBQ15.out.trans (((Below.refl y16.heap.size y16).alloc (Nat.le_refl _) (.cells zT 31)).mono HBQ15.out.size))
               refine hK.out _ _ ?_ (fun hHeld => ?_)
               · exact ⟨(kk17.out.at 6 rfl).out, (kk17.out.at 1 rfl).out, cell_of_row _ _ 0 _ _ _ (kk17.out.at 3 rfl).out, cell_of_row _ _ 1 _ _ _ (kk17.out.at 3 rfl).out, cell_of_row _ _ 0 _ _ _ (kk17.out.at 1 rfl).out⟩
               clear hK K
               try simp only [Act.put, puts]
               generalize y16.alloc (.cells zT 31) = y19 at *
               refine wpAnyH_ready (rs := [9]) (by kernel_rfl) (by simp) ?_
               refine AllReadyH.cons rfl (fun K hK => ?_) AllReadyH.nil
               go_simp
               go_wp2_with (go_at_call 125; (with_reducible refine (CE.out _ kk17.out.low.out).mono ?_); rintro e w6 ⟨T1, rfl, hok, ht, hi, hb⟩; have HB6 := Lib.hid hb; have H6 := Lib.hid (And.intro hok (And.intro ht hi)); clear hok ht hi hb)
               have HL6 := Lib.hid (show y13.heap.size ≤ y19.heap.size from HBQ18.out.size)
               have HO6 := Lib.hid (show y16.heap.size < y19.heap.size from block_lt (kk17.out.at 0 rfl).out)
               have AR1 := Lib.hid (show T1.In (fun g => g ≠ w.heap.size + 1 + 1) from (H6.out.2.2 (fun g => g ≠ w.heap.size + 1 + 1) (HTT.out.off (by omega))).mono fun g hg => by have h1 := HRB1.out; have h2 := HL6.out; rcases hg with hg | hg; exact hg; omega)
               have AI1 := Lib.hid (fun P (hP : Th.In P T) => (show T1.In (Fresh P w) from (H6.out.2.2 P hP).mono fun g hg => by have h1 := HWB1.out; have h2 := HL6.out; rcases hg with hg | hg; exact .inl hg; exact .inr (by omega)))
               have HL1 := Lib.hid (show T1.t.nodes.length ≤ 100000 by rw [H6.out.2.1]; have := withD_len T.t.nodes { nodeD T.t.nodes s.dir with list := putE (nodeD T.t.nodes s.dir).list ⟨s.name, T.next⟩, ver := ver }; have h2 := HSM.out.1; show (withD _ _).length ≤ _; omega)
               have kk20 := Lib.hid (kk17.out.step (W' := w6) HB6.out)
               have HBQ21 := Lib.hid (HBQ18.out.trans (HB6.out.mono HBQ18.out.size))
               have AO1 := Lib.hid (show T1.In (fun g => g ≠ y16.heap.size) from (H6.out.2.2 (fun g => g ≠ y16.heap.size) (HTT.out.off HOW.out)).mono fun g hg => by have h2 := HO6.out; rcases hg with hg | hg; exact hg; omega)
               refine hK.out _ _ ?_ (fun hHeld => ?_)
               · exact ⟨(kk20.out.at 6 rfl).out, (kk20.out.at 1 rfl).out, cell_of_row _ _ 0 _ _ _ (kk20.out.at 3 rfl).out, cell_of_row _ _ 1 _ _ _ (kk20.out.at 3 rfl).out, cell_of_row _ _ 0 _ _ _ (kk20.out.at 1 rfl).out⟩
               clear hK K
               try simp only [Act.put, puts]
               refine wpAnyH_ready (rs := [11]) (by kernel_rfl) (by simp) ?_
               refine AllReadyH.cons rfl (fun K hK => ?_) AllReadyH.nil
               have CX := Lib.hid (with_c T1 ⟨⟨T.next, 2, x.who, (L.child (nodeD T.t.nodes s.dir).acl (x.kind == 1)), [], [], 1, ver⟩, CA, cm, cc, none, 0, 0, none, 0, 0⟩ w6 (H6.out.1) (HMO.out.below HBQ21.out) HL1.out)
               have HL7 := Lib.hid (show y13.heap.size ≤ w6.heap.size from HBQ21.out.size)
               have HO7 := Lib.hid (show y16.heap.size < w6.heap.size from block_lt (kk20.out.at 0 rfl).out)
               go_simp
               go_wp2_with (go_at_call 124; (with_reducible refine (CX.out).mono ?_); rintro e w7 ⟨T2, rfl, hok, ht, hi, hb⟩; have HB7 := Lib.hid hb; have H7 := Lib.hid (And.intro hok (And.intro ht hi)); clear hok ht hi hb)
               have AR2 := Lib.hid (show T2.In (fun g => g ≠ w.heap.size + 1 + 1) from (H7.out.2.2 _ AR1.out HMR.out).mono fun g hg => by have h1 := HRB1.out; have h2 := HL7.out; rcases hg with hg | hg; exact hg; omega)
               have AI2 := Lib.hid (fun P (hP : Th.In P T) => (show T2.In (Fresh P w) from (H7.out.2.2 _ (AI1.out P hP) (HMI.out P hP)).mono fun g hg => by have h1 := HWB1.out; have h2 := HL7.out; rcases hg with (hg | hg) | hg; exact .inl hg; exact .inr hg; exact .inr (by omega)))
               have AO2 := Lib.hid (show T2.In (fun g => g ≠ y16.heap.size) from (H7.out.2.2 _ AO1.out (HMO.out.off HOB.out)).mono fun g hg => by have h2 := HO7.out; rcases hg with hg | hg; exact hg; omega)
               have kk22 := Lib.hid (kk20.out.step (W' := w7) HB7.out)
               have HBQ23 := Lib.hid (HBQ21.out.trans (HB7.out.mono HBQ21.out.size))
               refine hK.out _ _ ?_ (fun hHeld => ?_)
               · exact ⟨(kk22.out.at 6 rfl).out, (kk22.out.at 1 rfl).out, cell_of_row _ _ 0 _ _ _ (kk22.out.at 3 rfl).out, cell_of_row _ _ 1 _ _ _ (kk22.out.at 3 rfl).out, cell_of_row _ _ 0 _ _ _ (kk22.out.at 1 rfl).out⟩
               clear hK K
               try simp only [Act.put, puts]
               refine wpAnyH_ready (rs := [13]) (by kernel_rfl) (by simp) ?_
               refine AllReadyH.cons rfl (fun K hK => ?_) AllReadyH.nil
               refine step_store_row rfl 31 _ _ rfl (y16.heap.size) (Th.enc T2).toArray rfl rfl zT (kk22.out.at 0 rfl).out (by kernel_rfl) rfl (by simp [Th.enc, Value.oneCell']) ?_
               have kk24 := Lib.hid (kk22.out.row 0 rfl (Th.enc T2).toArray)
               have OKB := Lib.hid (Th.ok.setRow (H7.out.1) AO2.out (Th.enc T2).toArray)
               have HBRz := Lib.hid (below_setRow HBQ23.out (g := y16.heap.size) HOB.out (Th.enc T2).toArray)
               refine hK.out _ _ ?_ (fun hHeld => ?_)
               · exact ⟨(kk24.out.at 6 rfl).out, (kk24.out.at 1 rfl).out, cell_of_row _ _ 0 _ _ _ (kk24.out.at 3 rfl).out, cell_of_row _ _ 1 _ _ _ (kk24.out.at 3 rfl).out, cell_of_row _ _ 0 _ _ _ (kk24.out.at 1 rfl).out⟩
               clear hK K
               try simp only [Act.put, puts]
               generalize w7.setRow (y16.heap.size) (Th.enc T2).toArray = y25 at *
               refine wpAnyH_done (by kernel_rfl) ?_ _
               go_wp2
               go_meet
               case rel => exact ⟨y16.heap.size, T2, rfl, HOB.out, (kk24.out.at 0 rfl).out, OKB.out, AO2.out, AR2.out, H7.out.2.1.trans (by rw [H6.out.2.1]), AI2.out, HBRz.out⟩
            case rest =>
             obtain ⟨b2, T2, rfl, hbge, hbo, hok, hno, hnr, ht2, hi2, hbc⟩ := hcut
             have HOB2 := Lib.hid hbge
             have BO0 := Lib.hid hbo
             have OK2 := Lib.hid hok
             have AO2 := Lib.hid hno
             have AR2 := Lib.hid hnr
             have HT2 := Lib.hid ht2
             have AI2 := Lib.hid hi2
             have HBC2 := Lib.hid hbc
             clear hbge hbo hok hno hnr ht2 hi2 hbc
             have HNX := Lib.hid (show T2.next = T.next from congrArg Tr.next HT2.out)
             have kk14 := Lib.hid (kk12.out.add HBC2.out BO0.out HOB2.out)
             have o1 : wc.cell? ⟨b2, 1, none⟩ = some (.int .i64 T2.next) := kk14.out.cell 0 1 _ rfl
             have fo : wc.frozen? ⟨b2, 1, none⟩ = false := kk14.out.thaw 0 1 rfl
             go_upto_region 16 with fail
             clear o1 fo
             have kk15 := Lib.hid (kk14.out.cel 0 rfl 1 (.int .i64 (wrap64 (T2.next + 1))) (Th.enc ⟨T2.A, T2.n, T2.c, T2.hs, wrap64 (T2.next + 1), T2.oA, T2.on, T2.oc, T2.opens⟩).toArray)
             have OK3 := Lib.hid (OK2.out.setCell (k := 1) AO2.out (.int .i64 (wrap64 (T2.next + 1))))
             generalize wc.setCell ⟨b2, 1, none⟩ (.int .i64 (wrap64 (T2.next + 1))) = y16 at *
             have m0 : y16.cell? ⟨b, 0, none⟩ = some (.int .i64 T.next) := kk15.out.cell 1 0 _ rfl
             repeat (first | (go_big_may; (first | (with_reducible refine load_tr rfl _ rfl (b2) rfl ⟨T2.A, T2.n, T2.c, T2.hs, wrap64 (T2.next + 1), T2.oA, T2.on, T2.oc, T2.opens⟩ (box_range (kk15.out.at 0 rfl).out) ?_) | (with_reducible refine store_dn rfl _ _ rfl (w.heap.size + 1 + 1) rfl ⟨T2.A, T2.n, T2.c, T2.hs, wrap64 (T2.next + 1), T2.oA, T2.on, T2.oc, T2.opens⟩ (Rh.num 0 T.next) rfl zD (kk15.out.at 4 rfl).out hz15 ?_))) | go_values | go_skip | go_guarded | go_step | go_upon | dsimp only)
             have LOWz := Lib.hid (below_setRow kk15.out.low.out (g := w.heap.size + 1 + 1) (by omega) (denc ⟨T2.A, T2.n, T2.c, T2.hs, wrap64 (T2.next + 1), T2.oA, T2.on, T2.oc, T2.opens⟩ (Rh.num 0 T.next)).toArray)
             have OK4 := Lib.hid (OK3.out.setRow AR2.out (denc ⟨T2.A, T2.n, T2.c, T2.hs, wrap64 (T2.next + 1), T2.oA, T2.on, T2.oc, T2.opens⟩ (Rh.num 0 T.next)).toArray)
             refine bodyPost_ret (v := dval ⟨T2.A, T2.n, T2.c, T2.hs, wrap64 (T2.next + 1), T2.oA, T2.on, T2.oc, T2.opens⟩ (Rh.num 0 T.next)) (ret_dn rfl _ _ (w.heap.size + 1 + 1) ⟨T2.A, T2.n, T2.c, T2.hs, wrap64 (T2.next + 1), T2.oA, T2.on, T2.oc, T2.opens⟩ (Rh.num 0 T.next) zD rfl (kk15.out.at 4 rfl).out) rfl ?_
             have hmd : madeD L T.t x.kind x.who x.path ver = ({ (Tr.withN (Tr.enter T.t s.dir ⟨s.name, T.next⟩ ver) (Nh.d ⟨⟨T.next, 2, x.who, (L.child (nodeD T.t.nodes s.dir).acl (x.kind == 1)), [], [], 1, ver⟩, CA, cm, cc, none, 0, 0, none, 0, 0⟩)) with next := wrap64 (T.next + 1) }, Rp.num 0 T.next) := by unfold madeD; rw [HS.out]; simp only []; rw [if_pos HE.out, if_neg (Int.not_lt.2 HI.out), if_pos HAL.out, if_neg HBG.out, if_pos HK2.out]; rfl
             rw [hmd]
             refine ⟨⟨T2.A, T2.n, T2.c, T2.hs, wrap64 (T2.next + 1), T2.oA, T2.on, T2.oc, T2.opens⟩, Rh.num 0 T.next, rfl, ⟨OK4.out.nodes, OK4.out.each, OK4.out.opens⟩, Rh.num_ok _ _ _, ?_, rfl, fun P hP => ⟨(AI2.out P hP).nodes, (AI2.out P hP).each, (AI2.out P hP).opens⟩, fun P _ => Rh.num_in _ _ _, LOWz.out⟩
             show { Th.t T2 with next := wrap64 (T2.next + 1) } = _
             rw [HT2.out, HNX.out]
 · have b3 : (s.e != 0) = true := by simp [he]
   have HE := Lib.hid he
   clear he
   go_upto_region 4 with fail
   have FA := Lib.hid (failed_any T s.e y9)
   repeat (first | (go_big_may; (first | (with_reducible refine load_tr rfl _ rfl (w.heap.size) rfl T (box_range (kk8.out.at 4 rfl).out) ?_) | (go_at_call 79; (with_reducible refine FA.out.mono ?_); rintro e wf ⟨rfl, hb⟩; have HBf := Lib.hid hb; clear hb) | (with_reducible refine store_dn rfl _ _ rfl (w.heap.size + 1 + 1) rfl T (Rh.num s.e 0) rfl zD (keep_block (kk8.out.at 2 rfl).out HBf.out) hz15 ?_))) | go_values | go_skip | go_guarded | go_step | go_upon | dsimp only)
   refine bodyPost_ret (v := dval T (Rh.num s.e 0)) (ret_dn rfl _ _ (w.heap.size + 1 + 1) T (Rh.num s.e 0) zD rfl (keep_block (kk8.out.at 2 rfl).out HBf.out)) rfl ?_
   rw [show madeD L T.t x.kind x.who x.path ver = (Th.t T, Rp.num s.e 0) by unfold madeD; rw [HS.out]; simp only []; rw [if_neg HE.out]]
   exact kk8.out.failed 2 rfl HTT.out HBf.out s.e
end Go.Proofs.YtemgejblnionlaaGreatDoor
namespace Go.Proofs.YtemgejblnionlaaGreatDoor
open Go.RowKit
set_option maxHeartbeats 8000000
set_option maxRecDepth 100000
def removedD (L : Low) (t : Tr) (kind who : Int) (path : ByteArray) (ver : Int) : Tr × Rp :=
 let s := placeP L t.nodes who path
 if s.e = 0 then
  if s.id = 0 then (t, .num 90 0)
  else if kind = 7 ∧ (nodeD t.nodes s.id).kind = 1 then (t, .num 93 0)
  else if kind = 8 ∧ (nodeD t.nodes s.id).kind = 2 then (t, .num 92 0)
  else if L.allows (nodeD t.nodes s.dir).acl who (nodeD t.nodes s.dir).owner 2 = true then
   if kind = 8 ∧ 0 < (nodeD t.nodes s.id).list.length then (t, .num 94 0) else (t.leave s.dir s.name s.id ver, .num 0 0)
  else (t, .num 95 0)
 else (t, .num s.e 0)
end Go.Proofs.YtemgejblnionlaaGreatDoor
namespace Go.Proofs.YtemgejblnionlaaGreatDoor
open Go.RowKit
set_option maxHeartbeats 80000000
set_option maxRecDepth 100000
section
variable {L : Low} {t : Tr}
def doD (L : Low) (t : Tr) (x : Xd) (ver : Int) : Tr × Rp :=
 if 0 ≤ x.who ∧ x.who ≤ 999 then
  if x.kind = 1 ∨ x.kind = 2 then madeD L t x.kind x.who x.path ver
  else if x.kind = 3 ∨ x.kind = 4 ∨ x.kind = 5 then wroteD L t x.kind x.who x.path x.off x.id x.n ver
  else if x.kind = 6 then linkedD L t x.who x.path x.dst ver
  else if x.kind = 7 ∨ x.kind = 8 then removedD L t x.kind x.who x.path ver
  else if x.kind = 9 then renamedD L t x.who x.path x.dst ver
  else if x.kind = 10 ∨ x.kind = 11 then ruledD L t x.kind x.who x.path x.n x.acl ver
  else if x.kind = 12 then openD L t x.who x.path
  else if x.kind = 13 then closeD t x.who x.n
  else if x.kind = 14 ∨ x.kind = 15 ∨ x.kind = 16 then askedD L t x.kind x.who x.path x.off x.n x.id
  else (t, .num 97 0)
 else (t, .num 1 0)
end
abbrev Xh.d (x : Xh) : Xd := ⟨x.kind, x.who, x.path, x.dst, x.off, x.n, x.id, x.acl⟩
theorem Xh.ok.below {w w' : World} {x : Xh} (k : x.ok w) (hb : Below w.heap.size w w') : x.ok w' := ⟨k.acl.below hb, k.path, k.dst⟩
theorem do_cw {L : Low} (LR : LowR0 L) (T : Th) (x : Xh) (ver : Int) (w : World) (hT : T.ok w) (hs' : T.t.small) (hx : x.ok w) (hw : 0 ≤ x.who ∧ x.who ≤ 999) (hk : x.kind = 2 ∨ x.kind = 3) :
 Calls Tryz.prog 45 #[T.val, x.val, .int .i64 ver] w fun e w' => DoneRes w T (doD L T.t x.d (max ver 0)) e w' := by
 have CN := Lib.hid (fun id W (h : Below w.heap.size w W) => (show Calls Tryz.prog 41 #[T.val, .int .i64 id] W fun e w' => ∃ N : Nh, e = .returned N.val ∧ N.ok w ∧ N.d = nodeD T.t.nodes id ∧ (∀ P, T.In P → N.In P) ∧ Below W.heap.size W w' from
  (node_any T id W (hT.below h) (by have := hs'.1; rw [Th.t_len hT] at this; omega)).mono fun e w' ⟨he, hb⟩ => ⟨_, he, nodeH_ok hT id, nodeH_d _ _, fun P h => nodeH_in h id, hb⟩))
 have HTT := Lib.hid hT
 have HSM := Lib.hid hs'
 have HX := Lib.hid hx
 have hz8 : zN.size = 8 := rfl
 have hz4 : zS.size = 4 := rfl
 have hz2 : zG.size = 2 := rfl
 have hz15 : zD.size = 15 := rfl
 clear hT hs' hx
 show Calls Tryz.prog 45 #[T.val, x.val, .int .i64 ver] w _
 have kk0 := Bxs.nil w
 obtain ⟨x1, hwx1, hzx1, kx1⟩ := kk0.new rfl T.cs (Th.enc T).toArray 31
 have HWx1 := Lib.hid hwx1
 obtain ⟨x2, hwx2, hzx2, kx2⟩ := kx1.new hzx1 x.cs x.enc.toArray 25
 have HWx2 := Lib.hid hwx2
 obtain ⟨x3, hwx3, hzx3, kx3⟩ := kx2.new hzx2 zD zD 98
 have HWx3 := Lib.hid hwx3
 have kk1 := Lib.hid kx3
 clear kk0 hwx1 hzx1 kx1 hwx2 hzx2 kx2 hwx3 hzx3 kx3
 go_enter Tryz.func45, Tryz.ntmps45
 go_upto_region 1 with fail
 rw [HWx1.out, HWx2.out, HWx3.out]
 go_upto_region 2 with fail
 have hmx : (if 0 > ver then (0 : Int) else ver) = max ver 0 := by split <;> omega
 try rw [hmx]
 try simp only [hmx]
 clear hmx
 obtain ⟨vr, hvr⟩ : ∃ v, max ver 0 = v := ⟨_, rfl⟩
 try rw [hvr]
 try rw [hvr]
 have HVR := Lib.hid hvr
 have x1c : x3.cell? ⟨w.heap.size + 1, 1, none⟩ = some (.int .i64 x.who) := kk1.out.cell 1 1 _ rfl
 have CS := Lib.hid (somebody_any x.who x3)
 have hd : (decide (0 ≤ x.who) && decide (x.who ≤ 999)) = true := by simp [hw]
 rw [hd] at CS
 have HN := Lib.hid hw
 clear hw hd
 go_upto_region 4 with (go_at_call 78; (with_reducible refine CS.out.mono ?_); rintro e w5 ⟨rfl, hww⟩; have hww2 := hww.symm; subst hww2)
 clear x1c
 have x0c : x3.cell? ⟨w.heap.size + 1, 0, none⟩ = some (.int .i64 x.kind) := kk1.out.cell 1 0 _ rfl
 rcases hk with hk | hk
 · have HKQ := Lib.hid (show x.kind = 1 ∨ x.kind = 2 from .inr hk)
   have HK2 := Lib.hid hk
   rw [hk] at x0c
   clear hk
   go_upto_region 7 with fail
   clear x0c
   have CC := Lib.hid (made2_c LR T x vr x3 (HTT.out.below kk1.out.low.out) HSM.out (HX.out.below kk1.out.low.out) HK2.out)
   repeat (first | (go_big_may; (first | (with_reducible refine load_tr rfl _ rfl (w.heap.size) rfl T (box_range (kk1.out.at 2 rfl).out) ?_) | (with_reducible refine load_op rfl _ rfl (w.heap.size + 1) rfl x (box_range (kk1.out.at 1 rfl).out) ?_) | (go_at_call 80; (with_reducible refine CC.out.mono ?_); rintro e w7 ⟨T2, R2, rfl, hok, hrk, ht, hr, hi, hj, hb⟩; have HB7 := Lib.hid hb; have H7 := Lib.hid (And.intro hok (And.intro hrk (And.intro ht (And.intro hr (And.intro hi hj))))); clear hok hrk ht hr hi hj hb) | (with_reducible refine store_dn rfl _ _ rfl (w.heap.size + 1 + 1) rfl T2 R2 rfl zD (keep_block (kk1.out.at 0 rfl).out HB7.out) hz15 ?_))) | go_values | go_skip | go_guarded | go_step | go_upon | dsimp only)
   refine bodyPost_ret (v := dval T2 R2) (ret_dn rfl _ _ (w.heap.size + 1 + 1) T2 R2 zD rfl (keep_block (kk1.out.at 0 rfl).out HB7.out)) rfl ?_
   rw [show doD L T.t x.d (max ver 0) = madeD L T.t x.kind x.who x.path vr by rw [HVR.out]; unfold doD; rw [if_pos HN.out, if_pos HKQ.out]]
   exact kk1.out.done 0 rfl HTT.out HB7.out H7.out.1 H7.out.2.1 H7.out.2.2.1 H7.out.2.2.2.1 H7.out.2.2.2.2.1 H7.out.2.2.2.2.2
 · have K0 := Lib.hid (show ¬ (x.kind = 1 ∨ x.kind = 2) by omega)
   have HKQ := Lib.hid (show x.kind = 3 ∨ x.kind = 4 ∨ x.kind = 5 from .inl hk)
   rw [hk] at x0c
   clear hk
   go_upto_region 11 with fail
   clear x0c
   have CC := Lib.hid (wrote_c LR T x vr x3 (HTT.out.below kk1.out.low.out) HSM.out (HX.out.below kk1.out.low.out) HKQ.out)
   repeat (first | (go_big_may; (first | (with_reducible refine load_tr rfl _ rfl (w.heap.size) rfl T (box_range (kk1.out.at 2 rfl).out) ?_) | (with_reducible refine load_op rfl _ rfl (w.heap.size + 1) rfl x (box_range (kk1.out.at 1 rfl).out) ?_) | (go_at_call 81; (with_reducible refine CC.out.mono ?_); rintro e w7 ⟨T2, R2, rfl, hok, hrk, ht, hr, hi, hj, hb⟩; have HB7 := Lib.hid hb; have H7 := Lib.hid (And.intro hok (And.intro hrk (And.intro ht (And.intro hr (And.intro hi hj))))); clear hok hrk ht hr hi hj hb) | (with_reducible refine store_dn rfl _ _ rfl (w.heap.size + 1 + 1) rfl T2 R2 rfl zD (keep_block (kk1.out.at 0 rfl).out HB7.out) hz15 ?_))) | go_values | go_skip | go_guarded | go_step | go_upon | dsimp only)
   refine bodyPost_ret (v := dval T2 R2) (ret_dn rfl _ _ (w.heap.size + 1 + 1) T2 R2 zD rfl (keep_block (kk1.out.at 0 rfl).out HB7.out)) rfl ?_
   rw [show doD L T.t x.d (max ver 0) = wroteD L T.t x.kind x.who x.path x.off x.id x.n vr by rw [HVR.out]; unfold doD; rw [if_pos HN.out, if_neg K0.out, if_pos HKQ.out]]
   exact kk1.out.done 0 rfl HTT.out HB7.out H7.out.1 H7.out.2.1 H7.out.2.2.1 H7.out.2.2.2.1 H7.out.2.2.2.2.1 H7.out.2.2.2.2.2
end Go.Proofs.YtemgejblnionlaaGreatDoor
namespace Go.Proofs.YtemgejblnionlaaGreatDoor
open Go.RowKit
set_option maxHeartbeats 16000000
set_option maxRecDepth 100000
section
variable {L : Low} {Env : World → Prop} {u W : World} {b : Nat} {T : Th} {x : Xh} {ver : Int}
theorem MRes.later {d : Tr × Rp} {e : Ending} {w' W' : World} (hb : Below W.heap.size W W') (h : MRes u b T x ver d W' e w') : MRes u b T x ver d W e w' :=
 ⟨fun h0 => by
  obtain ⟨T2, R2, h1, h2, h3, h4, h5⟩ := h.1 h0
  exact ⟨T2, R2, h1, h2, h3, h4, (Rest.of_below hb).then_ h5 fun _ _ h => h⟩, fun h0 => by
  obtain ⟨h1, h2, h3⟩ := h.2 h0
  exact ⟨h1, hb.trans (h2.mono hb.size), h3⟩⟩
theorem wrun_who (K : Wrk u b T x ver (Rh.num 0 0) W) (hw : ¬ (0 ≤ x.who ∧ x.who ≤ 999)) :
 Calls Tryz.prog 70 #[.pointer (some ⟨b, 0, none⟩)] W fun e w' => MRes u b T x ver (T.t, .num 1 0) W e w' := by
 have CI := Lib.hid (person_lands x.who W)
 have CY := Lib.hid (fun e W => refuse_yes e W)
 have c1 := K.cell 4 (.int .i64 x.who)
 have hb : (decide (0 ≤ x.who) && decide (x.who ≤ 999)) = false := by
  cases h : (decide (0 ≤ x.who) && decide (x.who ≤ 999)) with
  | false => rfl
  | true => simp at h; exact absurd h hw
 rw [hb] at CI
 clear hb hw K
 go_enter Tryz.func70, Tryz.ntmps70
 go_wp2_with (first | (go_at_call 111; (with_reducible refine CI.out.mono ?_); rintro e w2 ⟨rfl, rfl⟩) | (go_at_call 110; (with_reducible refine (CY.out _ _).mono ?_); rintro e w3 ⟨rfl, rfl⟩))
 exact ⟨rfl, MRes.no (by decide) rfl rfl (Below.refl _ _)⟩
theorem wrun_any (K : Wrk u b T x ver (Rh.num 0 0) W) (hw : 0 ≤ x.who ∧ x.who ≤ 999) (hkk : (Lit.int .i64 x.kind).wf = true) {d : Tr × Rp}
 (hm : (methF x.kind = none ∧ d = (T.t, .num 97 0)) ∨ ∃ g, methF x.kind = some (.func (.func g) #[] #[]) ∧ (∀ args W, (callFunc g args).run Tryz.prog W = .ok (.enter g args) W) ∧
  ∀ W, Wrk u b T x ver (Rh.num 0 0) W → Calls Tryz.prog g #[.pointer (some ⟨b, 0, none⟩)] W fun e w' => MRes u b T x ver d W e w') :
 Calls Tryz.prog 70 #[.pointer (some ⟨b, 0, none⟩)] W fun e w' => MRes u b T x ver d W e w' := by
 have CI := Lib.hid (person_lands x.who W)
 have CN := Lib.hid (fun e W => refuse_no e W)
 have CY := Lib.hid (fun e W => refuse_yes e W)
 have CMM := Lib.hid (fun W => methods_any W)
 have HK := Lib.hid K
 have HD := Lib.hid (K.step (W' := W.drew) (below_drewN W 1))
 have HBD := Lib.hid (below_drewN W 1)
 have HKK := Lib.hid hkk
 have c1 := K.cell 4 (.int .i64 x.who)
 have hb : (decide (0 ≤ x.who) && decide (x.who ≤ 999)) = true := by simp [hw.1, hw.2]
 rw [hb] at CI
 have HM := Lib.hid hm
 clear hb hw K hkk hm
 go_enter Tryz.func70, Tryz.ntmps70
 go_upto_region 1 with (first | (go_at_call 111; (with_reducible refine CI.out.mono ?_); rintro e w2 ⟨rfl, hw⟩; have hw2 := hw.symm; subst hw2) | (go_at_call 110; (with_reducible refine (CN.out _ _).mono ?_); rintro e w3 ⟨rfl, hw⟩; have hw2 := hw.symm; subst hw2))
 clear c1
 refine wp_region_ord (fun w' => w'.cell? ⟨b, 3, none⟩ = some (.int .i64 x.kind)) [(1, true), (2, true), (3, true), (4, true), (5, true), (0, false), (6, false), (7, true), (8, true), (9, true), (10, true), (11, true)] (by kernel_rfl) (by kernel_rfl) (by kernel_rfl) (HD.out.cell 3 _) (fun d _ _ _ _ h => by cases d <;> exact h) ?_
 iterate 5 refine ord_pure ?_
 refine ord_eff (by rfl) (fun K hK => ?_)
 go_simp
 go_wp2_with (go_at_call 112; (with_reducible refine (CMM.out _).mono ?_); rintro e w4 ⟨g, rfl, hfm, hb4⟩; have HB4 := Lib.hid hb4; have HFM := Lib.hid hfm; clear hb4 hfm)
 have K4 := Lib.hid (HD.out.step HB4.out)
 refine hK.out _ _ (K4.out.cell 3 _) ?_
 clear hK K
 try simp only [Act.put, puts]
 have HBW := Lib.hid (HBD.out.trans (HB4.out.mono HBD.out.size))
 have hlook := HFM.out.look_ok HKK.out
 rcases HM.out with ⟨hn, hd⟩ | ⟨gf, hs, hin, hc⟩
 · rw [hn] at hlook
   have HDD := Lib.hid hd
   clear hn hd HM
   refine ord_eff (by rfl) (fun K hK => ?_)
   go_simp
   refine hK.out _ _ (K4.out.cell 3 _) ?_
   clear hK K hlook
   try simp only [Act.put, puts]
   iterate 5 refine ord_pure ?_
   refine ord_nil ?_
   go_wp2_with (go_at_call 110; (with_reducible refine (CY.out _ _).mono ?_); rintro e w3 ⟨rfl, rfl⟩)
   exact ⟨rfl, MRes.no (by decide) HDD.out rfl HBW.out⟩
 · rw [hs] at hlook
   have HC := Lib.hid (hc _ K4.out)
   clear hs hc HM
   refine ord_eff (by rfl) (fun K hK => ?_)
   go_simp
   refine hK.out _ _ (K4.out.cell 3 _) ?_
   clear hK K hlook
   try simp only [Act.put, puts]
   iterate 5 refine ord_pure ?_
   refine ord_nil ?_
   by_cases h0 : d.2.e = 0
   · go_wp2_with (first | (go_at_call 110; (with_reducible refine (CN.out _ _).mono ?_); rintro e w3 ⟨rfl, hw⟩; have hw2 := hw.symm; subst hw2) | ((with_reducible refine HC.out.mono ?_); rintro e w5 h5; obtain ⟨T2, R2, rfl, h2, h3, h4, h6⟩ := h5.1 h0; have H5 := Lib.hid (And.intro h2 (And.intro h3 (And.intro h4 h6))); clear h5 h2 h3 h4 h6))
     go_end0
     exact ⟨fun _ => ⟨T2, R2, rfl, H5.out.1, H5.out.2.1, H5.out.2.2.1, (Rest.of_below HBW.out).then_ H5.out.2.2.2 fun _ _ h => h⟩, fun h => absurd h0 h⟩
   · go_wp2_with (first | (go_at_call 110; (with_reducible refine (CN.out _ _).mono ?_); rintro e w3 ⟨rfl, hw⟩; have hw2 := hw.symm; subst hw2) | ((with_reducible refine HC.out.mono ?_); rintro e w5 h5; obtain ⟨rfl, h2, h3⟩ := h5.2 h0; have H5 := Lib.hid (And.intro h2 h3); clear h5 h2 h3))
     exact ⟨rfl, fun h => absurd h h0, fun _ => ⟨rfl, HBW.out.trans (H5.out.1.mono HBW.out.size), H5.out.2⟩⟩
structure XWf (x : Xh) : Prop where
 kind : (Lit.int .i64 x.kind).wf = true
 off : (Lit.int .i64 x.off).wf = true
 id : (Lit.int .i64 x.id).wf = true
 n : (Lit.int .i64 x.n).wf = true
theorem wrote_err {t : Tr} {kind who : Int} {path : ByteArray} {off id k ver : Int} (h : (wroteD L t kind who path off id k ver).2.e ≠ 0) : wroteD L t kind who path off id k ver = (t, .num (wroteD L t kind who path off id k ver).2.e 0) := by
 unfold wroteD at h ⊢
 dsimp only at h ⊢
 by_cases h1 : (wayP L t.nodes who path).2 = 0
 · simp only [if_pos h1] at h ⊢
   by_cases h2 : (nodeD t.nodes (wayP L t.nodes who path).1).kind = 2
   · simp only [if_pos h2] at h ⊢
     by_cases h3 : L.allows (nodeD t.nodes (wayP L t.nodes who path).1).acl who (nodeD t.nodes (wayP L t.nodes who path).1).owner 2 = true
     · simp only [if_pos h3] at h ⊢
       generalize (if kind = 5 then L.cut (nodeD t.nodes (wayP L t.nodes who path).1).body k else L.put (nodeD t.nodes (wayP L t.nodes who path).1).body (if kind = 4 then L.size (nodeD t.nodes (wayP L t.nodes who path).1).body else off) id k) = r at h ⊢
       by_cases h4 : r.2 = 0
       · rw [if_pos h4] at h
         exact absurd rfl h
       · rw [if_neg h4]
         rfl
     · simp only [if_neg h3]
       rfl
   · simp only [if_neg h2]
     rfl
 · simp only [if_neg h1]
   rfl
theorem write_done (LW : LowW L Env) (LG : LowG L) {w : World} (hE : Env w) (hs' : T.t.small) (G : Good L T.t) (hx : x.ok w) (hT : T.ok w) (hwf : XWf x) (hk : x.kind = 3) (ver : Int) :
 Calls Tryz.prog 36 #[T.val, x.val, .int .i64 ver] w fun e w' => DoRes w (doD L T.t x.d (max ver 0)) e w' := by
 by_cases hw : 0 ≤ x.who ∧ x.who ≤ 999
 · have hd : doD L T.t x.d (max ver 0) = wroteD L T.t 3 x.who x.path x.off x.id x.n (max ver 0) := by
    unfold doD
    simp only [Xh.d, hk, if_pos hw]
    rfl
   rw [hd]
   refine Do_lands T x ver w hT hs' hx (fun h => ?_) (fun T' u W b hu ht K => ?_)
   · exact wrote_err h
   · rw [← ht] at hs' G ⊢
     exact wrun_any K hw hwf.kind (.inr ⟨146, by rw [hk]; rfl, fun args W => Go.MuLone.run_callFunc_enter Tryz.func146 (by kernel_rfl) rfl args W, fun W2 K2 => wwrite_lands LW LG K2 (LW.env _ _ hE hu) hs' G hx.path hwf.off hwf.id hwf.n⟩)
 · have hd : doD L T.t x.d (max ver 0) = (T.t, .num 1 0) := by
    unfold doD
    simp only [Xh.d, if_neg hw]
   rw [hd]
   refine Do_lands T x ver w hT hs' hx (fun h => rfl) (fun T' u W b hu ht K => ?_)
   rw [← ht]
   exact wrun_who K hw
end
end Go.Proofs.YtemgejblnionlaaGreatDoor
