/-
  Texts Cg Ch, put together by program.
-/
import Derived.Test.YtemgejblnionlaaGreatDoorY0
import Derived.Test.YtemgejblnionlaaGreatDoorY12
namespace Go.Proofs.YtemgejblnionlaaGreatDoor
open Go.RowKit Go.Maps
set_option maxHeartbeats 16000000
set_option maxRecDepth 100000
abbrev OwnWf (l : List (Int × Us)) : Prop := ∀ a ∈ l, (Lit.int .i64 a.1).wf = true
theorem Add_lands (CS : SortU) (A1 A2 : Option Addr) (n1 c1 n2 c2 : Nat) (l1 l2 : List (Int × Us)) (w : World) (h1 : Sv w A1 n1 c1 3 (encs encU l1)) (h2 : Sv w A2 n2 c2 3 (encs encU l2)) (hn1 : n1 ≤ 10000) (hn2 : n2 ≤ 10000) (hw1 : OwnWf l1) (hw2 : OwnWf l2) :
 Calls Tryz.prog 20 #[.slice A1 n1 c1, .slice A2 n2 c2] w fun e w' => ∃ A m c l, e = .returned (.slice A m c) ∧ w'.ownsRow w.heap.size 67 3 (.slice A m c) m (encs encU l) ∧ AccL l (totF (ofF (l1 ++ l2))) ∧ m ≤ n1 + n2 ∧ Below w.heap.size w w' := by
 have HS1 := Lib.hid h1
 have HS2 := Lib.hid h2
 have HN := Lib.hid (And.intro hn1 hn2)
 have HWF := Lib.hid (show OwnWf (l1 ++ l2) from fun a ha => (List.mem_append.1 ha).elim (hw1 a) (hw2 a))
 have CA := Lib.hid (fun g n F W hM hn => accounts_lands CS g n F W hM hn)
 have CSM := Lib.hid (fun u v W => sum_lands u v W)
 have hmm := @run_makeMap Tryz.prog
 obtain ⟨x1, hwx1⟩ : ∃ W, w.alloc (.map #[] 0) = W := ⟨_, rfl⟩
 have hb1 : Below w.heap.size w x1 := by rw [← hwx1]; exact (Below.refl _ w).alloc (Nat.le_refl _) _
 have HM1 := Lib.hid (show UseM x1 w.heap.size 0 (ofF []) by rw [← hwx1]; exact UseM.made w)
 have HB1 := Lib.hid hb1
 have HW1 := Lib.hid hwx1
 have hb2 : Below x1.heap.size x1 (x1.alloc (.cells #[.slice A1 n1 c1, .slice A2 n2 c2] 35)) := (Below.refl _ x1).alloc (Nat.le_refl _) _
 have CC := Lib.hid (concatU_lands x1.heap.size A1 A2 n1 c1 n2 c2 l1 l2 (x1.alloc (.cells #[.slice A1 n1 c1, .slice A2 n2 c2] 35)) (heap_alloc_new x1 _) ((h1.below hb1).below hb2) ((h2.below hb1).below hb2) (by omega) (by omega))
 have HB2 := Lib.hid (hb1.trans (hb2.mono hb1.size))
 have HM2 := Lib.hid (HM1.out.keep hb2 HM1.out.lt)
 clear h1 h2 hn1 hn2 hw1 hw2 CS hwx1 hb1 hb2
 go_enter Tryz.func20, Tryz.ntmps20
 go_upto_region 2 with fail
 clear hmm
 rw [HW1.out]
 go_wp2_with (go_at_call 55; (with_reducible refine CC.out.mono ?_); rintro e w5 ⟨B, m, d, rfl, hO, hm, hb5⟩; have HO := Lib.hid (Sv.own hO (encs_cells encU_one _)); have HOL := Lib.hid hO.lt; have HMM := Lib.hid hm; have HB5 := Lib.hid (HB2.out.trans (hb5.mono HB2.out.size)); have HM5 := Lib.hid (HM2.out.keep hb5 HM2.out.lt); clear hO hm hb5)
 have hsx : (x1.alloc (.cells #[.slice A1 n1 c1, .slice A2 n2 c2] 35)).heap.size = w.heap.size + 1 + 1 := by rw [← HW1.out]; simp
 have HPL := Lib.hid (show plc (fun g => g ≠ w.heap.size ∧ g < w5.heap.size) B m from fun hn g o sp e => by
  have h := HOL.out g (by rw [e]; rfl)
  have := h.1
  exact ⟨by omega, h.2⟩)
 have HL := Lib.hid (HO.out.plen encU_len (by decide))
 have HM0 := Lib.hid (show m ≤ 20000 by have := HMM.out; have := HN.out; omega)
 clear hsx HOL
 go_loopw [14] (fun i wr => ∃ (k : Nat), k ≤ m ∧ i = .int .i64 k ∧ UseM wr w.heap.size k (ofF ((l1 ++ l2).take k)) ∧ Sv wr B m d 3 (encs encU (l1 ++ l2)) ∧ Below w.heap.size w wr ∧ w5.heap.size ≤ wr.heap.size) (fun i _ => m - (intOf i).toNat)
 case atStart => exact ⟨0, Nat.zero_le _, rfl, HM5.out, HO.out, HB5.out, Nat.le_refl _⟩
 case round =>
  clear HM5 HO HB5
  obtain ⟨k, hk, rfl, hM, hO, hB, hz⟩ := hrel
  have HM := Lib.hid hM
  have HO := Lib.hid hO
  have HB := Lib.hid hB
  have HZ := Lib.hid hz
  clear hM hO hB hz
  by_cases hlt : k < m
  · obtain ⟨a, ha⟩ : ∃ a, (l1 ++ l2)[k]? = some a := ⟨_, List.getElem?_eq_getElem (by rw [HL.out]; exact hlt)⟩
    have kn : (k : Int) < (m : Int) := Int.ofNat_lt.2 hlt
    have k0 : (0 : Int) ≤ (k : Int) := Int.natCast_nonneg k
    have hwj : IntKind.i64.wrap ((k : Int) + 1) = (k : Int) + 1 := IntWalk.i64_in _ (by have := HM0.out; omega)
    obtain ⟨g, ad, rfl, hg, hc⟩ := Sv.range encU_len (by decide) HO.out ha
    have HC := Lib.hid hc
    have HWA := Lib.hid (HWF.out a (List.mem_of_getElem? ha))
    have HTK := Lib.hid (show ofF ((l1 ++ l2).take (k + 1)) = updF (ofF ((l1 ++ l2).take k)) a.1 a.2 by rw [takeU_snoc ha]; exact ofF_snoc _ _)
    have HLT := Lib.hid hlt
    clear hc ha hlt hk
    obtain ⟨F, hF⟩ : ∃ F, ofF ((l1 ++ l2).take k) = F := ⟨_, rfl⟩
    rw [hF] at HM HTK
    clear hF
    have kk0 := Bxs.nil wr
    obtain ⟨y1, hwy1, hzy1, ky1⟩ := kk0.new rfl zA zA 67
    have HY1 := Lib.hid hwy1
    have KY1 := Lib.hid ky1
    have KY2 := Lib.hid (ky1.row 0 rfl (encU a).toArray)
    have HM2 := Lib.hid (HM.out.keep KY2.out.low.out HM.out.lt)
    have HO2 := Lib.hid (HO.out.below KY2.out.low.out)
    clear kk0 hwy1 hzy1 ky1
    go_upto_region 5 with (first | rw [HY1.out] | (with_reducible refine load_au rfl _ rfl g (ad + k * 3) rfl a HC.out ?_) | (with_reducible refine store_au rfl _ _ rfl wr.heap.size rfl a rfl zA (KY1.out.at 0 rfl).out rfl ?_))
    generalize y1.setRow wr.heap.size (encU a).toArray = y2 at *
    have hd : Below y2.heap.size y2 y2.drew := below_drewN y2 1
    have KD := Lib.hid (KY2.out.step (W' := y2.drew) hd)
    have HMD := Lib.hid (HM2.out.keep (w' := y2.drew) hd HM2.out.lt)
    have HOD := Lib.hid (HO2.out.below hd)
    clear hd
    generalize hw3 : y2.drew = y3 at KD HMD HOD
    refine wp_region_ord (fun w' => w'.heap[wr.heap.size]? = some (.cells (encU a).toArray 67 (0, 0)) ∧ w'.cell? ⟨wr.heap.size, 0, none⟩ = some (.int .i64 a.1)) [(0, true), (1, true), (2, true), (3, true), (4, true), (5, true), (7, true), (8, true), (6, false), (9, false), (10, false)] (by kernel_rfl) (by kernel_rfl) (by kernel_rfl) (by rw [hw3]; exact ⟨(KD.out.at 0 rfl).out, KD.out.cell 0 0 _ rfl⟩) (fun d _ _ _ _ h => by cases d <;> exact h) ?_
    rw [hw3]
    clear hw3
    iterate 7 refine ord_pure ?_
    refine ord_pure (v := usv a.2) (hy := yieldsIf_load_mid (by rfl) 42 _ rfl wr.heap.size 1 rfl [.int .i64 a.2.1, .int .i64 a.2.2] _ (fun w h => mid_range h.1 1 _ rfl) Tryz.underlying42 rfl (by kernel_rfl)) ?_
    refine ord_eff (by rfl) (fun K hK => ?_)
    have hl := HMD.out.look HWA.out
    go_simp
    refine hK.out _ _ ⟨(KD.out.at 0 rfl).out, KD.out.cell 0 0 _ rfl⟩ ?_
    clear hl hK K
    try simp only [Act.put, puts]
    refine ord_eff (by rfl) (fun K hK => ?_)
    go_simp
    have CSa := Lib.hid (CSM.out ((F a.1).getD (0, 0)) a.2 y3)
    go_wp2_with (go_at_call 51; (with_reducible refine CSa.out.mono ?_); rintro e w6 ⟨rfl, hb6⟩; have HB6 := Lib.hid hb6; clear hb6)
    have K6 := Lib.hid (KD.out.step (W' := w6) HB6.out)
    have HM6 := Lib.hid (HMD.out.keep HB6.out HMD.out.lt)
    have HO6 := Lib.hid (HOD.out.below HB6.out)
    refine hK.out _ _ ⟨(K6.out.at 0 rfl).out, K6.out.cell 0 0 _ rfl⟩ ?_
    clear hK K
    try simp only [Act.put, puts]
    refine ord_eff (by rfl) (fun K hK => ?_)
    obtain ⟨w7, hrun, hM7, hg7⟩ := HM6.out.update (by unfold maxLen; have := HLT.out; have := HM0.out; omega) HWA.out (addU ((F a.1).getD (0, 0)) a.2)
    have hsz6 : w5.heap.size ≤ w6.heap.size := Nat.le_trans HZ.out K6.out.low.out.size
    have hbk : w7.heap[wr.heap.size]? = w6.heap[wr.heap.size]? := hg7.block _ (K6.out.lt 0 rfl) (fun e => by have := Option.some.inj e; have := HM.out.lt; omega)
    have HO7 := Lib.hid (show Sv w7 (some ⟨g, ad, none⟩) m d 3 (encs encU (l1 ++ l2)) from (HO6.out).agree (P := fun g => g ≠ w.heap.size ∧ g < w5.heap.size) HPL.out (fun j hj => hg7.block j (by omega) (fun e => hj.1 (Option.some.inj e))) hg7.size)
    have HB7 := Lib.hid (((HB.out.trans (K6.out.low.out.mono HB.out.size))).grown hg7 (Nat.le_trans HB.out.size K6.out.low.out.size) (fun k e => by cases e; exact Nat.le_refl _))
    have HZ7 := Lib.hid (Nat.le_trans hsz6 hg7.size)
    have HK7 := Lib.hid (hbk.trans (K6.out.at 0 rfl).out)
    go_simp
    have HM7 := Lib.hid hM7
    refine hK.out _ _ ⟨HK7.out, cell_of_row _ _ 0 _ _ _ HK7.out⟩ ?_
    clear hrun hM7 hg7 hbk hsz6 hK K
    refine ord_nil ?_
    go_wp2
    go_roundw
    case rel => exact ⟨k + 1, HLT.out, by go_num, by rw [HTK.out]; exact HM7.out, HO7.out, HB7.out, HZ7.out⟩
    case measure => have := HLT.out; simp [intOf]; omega
  · have kn : ¬ (k : Int) < (m : Int) := fun e => hlt (Int.ofNat_lt.1 e)
    have hkn : k = m := by omega
    subst hkn
    have ht : (l1 ++ l2).take k = l1 ++ l2 := List.take_of_length_le (by rw [HL.out]; exact Nat.le_refl _)
    rw [ht] at HM
    have CAa := Lib.hid (CA.out w.heap.size k _ wr HM.out (by have := HM0.out; omega))
    clear hlt hk ht
    go_wp2_with (go_at_call 53; (with_reducible refine CAa.out.mono ?_); rintro e w6 ⟨A, m, c, l, rfl, hO, hA, hm, hb5⟩; have H5 := Lib.hid (And.intro hO (And.intro hA (And.intro hm hb5))); clear hO hA hm hb5)
    go_ret
    obtain ⟨hO, hA, hm, hb5⟩ := H5.out
    exact ⟨A, m, c, l, rfl, own_weak hO HB.out.size, hA, by have := HMM.out; omega, HB.out.trans (hb5.mono HB.out.size)⟩
end Go.Proofs.YtemgejblnionlaaGreatDoor
namespace Go.Proofs.YtemgejblnionlaaGreatDoor
open Go.RowKit Go.Maps
set_option maxHeartbeats 16000000
set_option maxRecDepth 100000
theorem ofF_keys {o : Int} : ∀ (l : List (Int × Us)) (F : Int → Option Us), l.foldl (fun F a => updF F a.1 a.2) F o ≠ none → (∃ a ∈ l, a.1 = o) ∨ F o ≠ none
 | [], _, h => .inr h
 | a :: l, F, h => by
   rcases ofF_keys l _ h with ⟨b, hb, e⟩ | h2
   · exact .inl ⟨b, List.mem_cons_of_mem _ hb, e⟩
   · dsimp only [updF] at h2
     split at h2
     · rename_i e
       exact .inl ⟨a, List.mem_cons_self, e.symm⟩
     · exact .inr h2
theorem ofF_key {l : List (Int × Us)} {o : Int} {u : Us} (h : ofF l o = some u) : ∃ a ∈ l, a.1 = o :=
 (ofF_keys l _ (by unfold ofF at h; rw [h]; exact Option.some_ne_none u)).elim id fun h => absurd rfl h
theorem AccL.key {l m : List (Int × Us)} (h : AccL l (totF (ofF m))) {a : Int × Us} (ha : a ∈ l) : ∃ b ∈ m, b.1 = a.1 := by
 obtain ⟨h1, h2⟩ := (h.mem a.1 a.2).1 ha
 unfold totF at h1
 cases e : ofF m a.1 with
 | none => rw [e] at h1; exact absurd h1.symm h2
 | some u => exact ofF_key e
theorem acc_wf {L : Low} {t : Tr} (G : Good L t) {l : List (Int × Us)} (h : AccL l (totF (ofF (t.nodes.map (nuse L))))) : OwnWf l := fun a ha => by
 obtain ⟨b, hb, e⟩ := h.key ha
 obtain ⟨n, hn, rfl⟩ := List.mem_map.1 hb
 rw [← e]
 exact wf_small (G.self n hn).1 (G.self n hn).2.1
theorem Delta_lands {L : Low} {Env : World → Prop} (LW : LowW L Env) (LG : LowG L) (CS : SortU) (T : Th) (x : Xh) (d : Tr × Rp) (w : World) (hE : Env w) (hT : T.ok w) (hx : x.ok w) (G : Good L T.t) (G2 : Good L d.1)
 (CD : ∀ W, Below w.heap.size w W → Calls Tryz.prog 36 #[T.val, x.val, .int .i64 0] W fun e w' => DoRes W d e w') :
 Calls Tryz.prog 19 #[T.val, x.val] w fun e w' => ∃ A m c l lA lB, e = .returned (.slice A m c) ∧ w'.ownsRow w.heap.size 67 3 (.slice A m c) m (encs encU l) ∧ AccL lA (totF (ofF (d.1.nodes.map (nuse L)))) ∧ AccL lB (totF (ofF (T.t.nodes.map (nuse L)))) ∧ AccL l (totF (ofF (lA ++ lB.map negU))) ∧ m ≤ 512 ∧ Below w.heap.size w w' := by
 have HT := Lib.hid hT
 have HX := Lib.hid hx
 have HG := Lib.hid (And.intro G G2)
 have HE := Lib.hid hE
 have HLW := Lib.hid LW
 have CO := Lib.hid (fun (T : Th) W (hE : Env W) (hT : T.ok W) (G : Good L T.t) => Of_lands LW LG CS T W hE hT G)
 have CN := Lib.hid (fun A n c l W h hn => negative_lands A n c l W h hn)
 have CA := Lib.hid (fun A1 A2 n1 c1 n2 c2 l1 l2 W h1 h2 hn1 hn2 hw1 hw2 => Add_lands CS A1 A2 n1 c1 n2 c2 l1 l2 W h1 h2 hn1 hn2 hw1 hw2)
 have CDH := Lib.hid CD
 clear hT hx G G2 hE LW LG CS CD
 have kk0 := Bxs.nil w
 obtain ⟨x1, hwx1, hzx1, kx1⟩ := kk0.new rfl T.cs (Th.enc T).toArray 31
 obtain ⟨x2, hwx2, hzx2, kx2⟩ := kx1.new hzx1 x.cs x.cs 25
 have HW1 := Lib.hid hwx1
 have HW2 := Lib.hid hwx2
 have K2 := Lib.hid kx2
 have CDa := Lib.hid (CDH.out x2 K2.out.low.out)
 clear kk0 hwx1 hwx2 hzx1 hzx2 kx1 kx2
 go_enter Tryz.func19, Tryz.ntmps19
 go_upto_region 1 with fail
 rw [HW1.out, HW2.out]
 go_upto_region 2 with (first | (with_reducible refine load_tr rfl _ rfl (w.heap.size) rfl T (box_range (K2.out.at 1 rfl).out) ?_) | (with_reducible refine load_op rfl _ rfl (w.heap.size + 1) rfl x (mid_range (K2.out.at 0 rfl).out 0 _ rfl) ?_) | (go_at_call 36; (with_reducible refine CDa.out.mono ?_); rintro e w3 ⟨T2, R2, rfl, hok, hrk, ht, hr, hb3⟩; have K3 := Lib.hid (K2.out.step hb3); have H3 := Lib.hid (And.intro hok ht); clear hok hrk ht hr hb3; obtain ⟨y1, hwy1, hzy1, ky1⟩ := K3.out.new rfl zT zT 31; obtain ⟨y2, hwy2, hzy2, ky2⟩ := ky1.new hzy1 zR zR 71; have HY1 := Lib.hid hwy1; have HY2 := Lib.hid hwy2; have KY2 := Lib.hid ky2; have hz1 := hzy1; clear hwy1 hwy2 hzy1 hzy2 ky1 ky2) | rw [HY1.out] | rw [HY2.out] | (with_reducible refine store_tr rfl _ _ rfl w3.heap.size rfl T2 rfl zT (KY2.out.at 1 rfl).out rfl ?_) | (with_reducible refine store_rp rfl _ _ rfl (w3.heap.size + 1) rfl R2 rfl zR ((KY2.out.row 1 rfl _).at 0 rfl).out rfl ?_))
 clear hz1
 have K4 := Lib.hid ((KY2.out.row 1 rfl (Th.enc T2).toArray).row 0 rfl (Rh.enc R2).toArray)
 have hb4 : Below w3.heap.size w3 ((y2.setRow w3.heap.size (Th.enc T2).toArray).setRow (w3.heap.size + 1) (Rh.enc R2).toArray) := by
  have : Below w3.heap.size w3 y2 := by rw [← HY2.out, ← HY1.out]; exact ((Below.refl _ w3).alloc (Nat.le_refl _) _).alloc (by simp) _
  exact below_setRow (below_setRow this (Nat.le_refl _) _) (Nat.le_succ _) _
 have HT4 := Lib.hid (H3.out.1.below hb4)
 clear hb4
 generalize (y2.setRow w3.heap.size (Th.enc T2).toArray).setRow (w3.heap.size + 1) (Rh.enc R2).toArray = W4 at *
 have hd : Below W4.heap.size W4 W4.drew := below_drewN W4 1
 have KD := Lib.hid (K4.out.step hd)
 have HTD := Lib.hid (HT4.out.below hd)
 clear hd HT4 K4 KY2
 have HG2 := Lib.hid (show Good L T2.t by rw [H3.out.2]; exact HG.out.2)
 have C1 := Lib.hid (CO.out T2 W4.drew (HLW.out.env _ _ HE.out KD.out.low.out) HTD.out HG2.out)
 generalize hw5 : W4.drew = W5 at KD HTD C1
 refine wp_region_ord (fun w' => w'.heap[w3.heap.size]? = some (.cells (Th.enc T2).toArray 31 (0, 0)) ∧ w'.heap[w.heap.size]? = some (.cells (Th.enc T).toArray 31 (0, 0))) [(0, true), (2, true), (1, false), (3, false), (4, false), (5, false), (6, true)] (by kernel_rfl) (by kernel_rfl) (by kernel_rfl) (by rw [hw5]; exact ⟨(KD.out.at 1 rfl).out, (KD.out.at 3 rfl).out⟩) (fun d _ _ _ _ h => by cases d <;> exact h) ?_
 rw [hw5]
 clear hw5
 refine ord_pure (v := T2.val) (hy := yieldsIf_load_mid (by rfl) 31 _ rfl w3.heap.size 0 rfl (Th.enc T2) _ (fun w h => box_range h.1) Tryz.underlying31 rfl (by kernel_rfl)) ?_
 refine ord_pure (v := T.val) (hy := yieldsIf_load_mid (by rfl) 31 _ rfl w.heap.size 0 rfl (Th.enc T) _ (fun w h => box_range h.2) Tryz.underlying31 rfl (by kernel_rfl)) ?_
 refine ord_eff (by rfl) (fun K hK => ?_)
 go_simp
 go_wp2_with (go_at_call 18; (with_reducible refine C1.out.mono ?_); rintro e w6 ⟨A1, m1, c1, lA, rfl, hO, hA, hm, hb⟩; have HA1 := Lib.hid (And.intro hO (And.intro hA hm)); have HB6 := Lib.hid hb; clear hO hA hm hb)
 have K6 := Lib.hid (KD.out.step (W' := w6) HB6.out)
 refine hK.out _ _ ⟨(K6.out.at 1 rfl).out, (K6.out.at 3 rfl).out⟩ ?_
 clear hK K
 try simp only [Act.put, puts]
 have C2 := Lib.hid (CO.out T w6 (HLW.out.env _ _ HE.out K6.out.low.out) (HT.out.below K6.out.low.out) HG.out.1)
 refine ord_eff (by rfl) (fun K hK => ?_)
 go_simp
 go_wp2_with (go_at_call 18; (with_reducible refine C2.out.mono ?_); rintro e w7 ⟨A2, m2, c2, lB, rfl, hO, hA, hm, hb⟩; have HA2 := Lib.hid (And.intro hO (And.intro hA hm)); have HB7 := Lib.hid hb; clear hO hA hm hb)
 have K7 := Lib.hid (K6.out.step (W' := w7) HB7.out)
 refine hK.out _ _ ⟨(K7.out.at 1 rfl).out, (K7.out.at 3 rfl).out⟩ ?_
 clear hK K
 try simp only [Act.put, puts]
 have S2 := Lib.hid (Sv.own HA2.out.1 (encs_cells encU_one _))
 have C3 := Lib.hid (CN.out A2 m2 c2 lB w7 S2.out (by have := HA2.out.2.2; omega))
 refine ord_eff (by rfl) (fun K hK => ?_)
 go_simp
 go_wp2_with (go_at_call 54; (with_reducible refine C3.out.mono ?_); rintro e w8 ⟨A3, m3, c3, rfl, hO, hm, hb⟩; have HA3 := Lib.hid (And.intro hO hm); have HB8 := Lib.hid hb; clear hO hm hb)
 have K8 := Lib.hid (K7.out.step (W' := w8) HB8.out)
 refine hK.out _ _ ⟨(K8.out.at 1 rfl).out, (K8.out.at 3 rfl).out⟩ ?_
 clear hK K
 try simp only [Act.put, puts]
 have S1 := Lib.hid (((Sv.own HA1.out.1 (encs_cells encU_one _)).below HB7.out).below HB8.out)
 have W1 := Lib.hid (acc_wf HG2.out HA1.out.2.1)
 have W2 := Lib.hid (show OwnWf (lB.map negU) from fun a ha => by
  obtain ⟨b, hb, rfl⟩ := List.mem_map.1 ha
  exact acc_wf HG.out.1 HA2.out.2.1 b hb)
 have C4 := Lib.hid (CA.out A1 A3 m1 c1 m3 c3 lA (lB.map negU) w8 S1.out (Sv.own HA3.out.1 (encs_cells encU_one _)) (by have := HA1.out.2.2; omega) (by have := HA2.out.2.2; have := HA3.out.2; omega) W1.out W2.out)
 refine ord_eff (by rfl) (fun K hK => ?_)
 go_simp
 go_wp2_with (go_at_call 20; (with_reducible refine C4.out.mono ?_); rintro e w9 ⟨A4, m4, c4, l4, rfl, hO, hA, hm, hb⟩; have HA4 := Lib.hid (And.intro hO (And.intro hA hm)); have HB9 := Lib.hid hb; clear hO hA hm hb)
 have K9 := Lib.hid (K8.out.step (W' := w9) HB9.out)
 refine hK.out _ _ ⟨(K9.out.at 1 rfl).out, (K9.out.at 3 rfl).out⟩ ?_
 clear hK K
 try simp only [Act.put, puts]
 refine ord_pure ?_
 refine ord_nil ?_
 go_wp2
 go_ret
 refine ⟨A4, m4, c4, l4, lA, lB, rfl, own_weak HA4.out.1 K8.out.low.out.size, ?_, HA2.out.2.1, HA4.out.2.1, by have := HA1.out.2.2; have := HA2.out.2.2; have := HA3.out.2; have := HA4.out.2.2; omega, K9.out.low.out⟩
 rw [← H3.out.2]
 exact HA1.out.2.1
end Go.Proofs.YtemgejblnionlaaGreatDoor
