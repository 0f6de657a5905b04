/-
  Texts Cm Cn Co, put together by program.
-/
import Derived.Test.YtemgejblnionlaaGreatDoorY0
import Derived.Test.YtemgejblnionlaaGreatDoorY12
import Derived.Test.YtemgejblnionlaaGreatDoorY24
import Derived.Test.YtemgejblnionlaaGreatDoorY26
import Derived.Lib.Overlaps
import Derived.Lib.AppendZeros
import Derived.Deep.RegionLaw
import Derived.Laws.IdiomCopy
import Derived.Deep.RegionHeldLaw
import Derived.Laws.AppendOwnNone
namespace Go.Proofs.YtemgejblnionlaaGreatDoor
open Go.RowKit Go.Maps Go.Shelf Go.Lib Go.Sort
set_option maxHeartbeats 16000000
set_option maxRecDepth 100000
theorem cell1 {W : World} {b : Nat} {c : Array Value} {t : TypeId} (h : W.heap[b]? = some (.cells c t (0, 0))) (hz : c.size = 1) (v : Value) : W.setCell ⟨b, 0, none⟩ v = W.setRow b #[v] := by
 rw [setCell_eq_setRow W b 0 c t (0, 0) v h]
 congr 1
 apply Array.ext_getElem?
 intro i
 cases i with
 | zero => rw [Array.getElem?_setIfInBounds_self_of_lt (by omega)]; rfl
 | succ i => rw [Array.getElem?_eq_none (by simp [hz]), Array.getElem?_eq_none (by simp)]
theorem indexL_zero (A : Option Addr) (c : Nat) (f : Value) (W : World) : Calls Tryz.prog 101 #[.slice A 0 c, f] W fun e w' => e = .returned (.int .i64 (-1)) ∧ w' = W := by
 go_enter Tryz.func101, Tryz.ntmps101
 go_wp2
 refine wp_loop_rounds 1 ?_
 rw [rounds_succ]
 go_wp2
 go_ret
 exact ⟨rfl, rfl⟩
theorem containsL_zero (A : Option Addr) (c : Nat) (f : Value) (W : World) : Calls Tryz.prog 59 #[.slice A 0 c, f] W fun e w' => e = .returned (.bool false) ∧ w' = W := by
 have HI := Lib.hid (indexL_zero A c f W)
 go_enter Tryz.func59, Tryz.ntmps59
 go_wp2_with (go_at_call 101; refine HI.out.mono ?_; rintro e w' ⟨rfl, rfl⟩)
 go_ret
 exact ⟨rfl, rfl⟩
theorem containsL_any (A : Option Addr) (n c : Nat) (l : List (Int × Us)) (b b' : Nat) (p : Int × Us → Bool) (w : World) (hA : Sv w A n c 3 (encs encU l)) (hn : n ≤ 1000000)
 (hp : ∀ W, Below w.heap.size w W → ∀ x : Int × Us, Calls Tryz.prog 60 #[.agg (encU x).toArray, .pointer (some ⟨b, 0, none⟩), .pointer (some ⟨b', 0, none⟩)] W fun e w' => e = .returned (.bool (p x)) ∧ Below W.heap.size W w') :
 Calls Tryz.prog 59 #[.slice A n c, .func (.func 60) #[] #[.pointer (some ⟨b, 0, none⟩), .pointer (some ⟨b', 0, none⟩)]] w fun e w' => e = .returned (.bool (l.any p)) ∧ Below w.heap.size w w' := by
 have hlen : l.length = n := hA.plen encU_len (by decide)
 rcases Nat.eq_zero_or_pos n with h0 | h0
 · subst h0
   obtain rfl : l = [] := List.eq_nil_of_length_eq_zero hlen
   refine (containsL_zero A c _ w).mono ?_
   rintro e w' ⟨rfl, rfl⟩
   exact ⟨rfl, Below.refl _ _⟩
 · obtain ⟨g, o, rfl, hg, -⟩ := Sv.range encU_len (by decide) hA (List.getElem?_eq_getElem (show 0 < l.length by omega))
   have eg : ∀ args w, (callFunc 60 args).run Tryz.prog w = .ok (.enter 60 args) w := enters_of Tryz.func60 (by kernel_rfl) rfl
   have hcon := AnyQ.slices_ContainsFunc Tryz.conL 3 Tryz.isAgg44 Tryz.sizeOf44 encU (fun _ => rfl) p 60 #[.pointer (some ⟨b, 0, none⟩), .pointer (some ⟨b', 0, none⟩)] eg g o n c l w
    (fun W x hb => (hp W hb x).mono fun e w' h => ⟨h.1, hb.trans (h.2.mono hb.size)⟩) (by omega) (by omega) hg (fun j hj i v hi => by
     obtain ⟨g', o', hA', _, hr⟩ := Sv.range encU_len (by decide) hA (List.getElem?_eq_getElem hj)
     injection hA' with hA'
     injection hA' with e1 e2
     subst e1 e2
     rw [getElem!_pos l j hj] at hi
     exact hr i v hi)
   change Calls Tryz.prog 59 _ _ _ at hcon
   refine hcon.mono ?_
   rintro e w' ⟨rfl, h2⟩
   exact ⟨by rw [List.take_of_length_le (by omega)], h2⟩
def AccRow (u : World) (L : Low) (t : Tr) (v : Value) (W : World) : Prop := ∃ A m c l, v = .slice A m c ∧ W.ownsRow u.heap.size 67 3 (.slice A m c) m (encs encU l) ∧ AccL l (totF (ofF (t.nodes.map (nuse L)))) ∧ m ≤ 256
theorem AccRow.keep {u W W' : World} {L : Low} {t : Tr} {v : Value} (h : AccRow u L t v W) (hb : Below W.heap.size W W') : AccRow u L t v W' := by
 obtain ⟨A, m, c, l, h1, h2, h3⟩ := h
 exact ⟨A, m, c, l, h1, own_keep h2 hb, h3⟩
theorem AccRow.row {u W : World} {L : Low} {t : Tr} {v : Value} {b : Nat} {cs x : Array Value} (h : AccRow u L t v W) (hb : W.heap[b]? = some (.cells cs 35 (0, 0))) : AccRow u L t v (W.setRow b x) := by
 obtain ⟨A, m, c, l, h1, h2, h3⟩ := h
 exact ⟨A, m, c, l, h1, own_rowT h2 hb (by decide) _, h3⟩
def rowS (v : Value) : Array Value := #[v]
abbrev zL : Array Value := #[.slice none 0 0]
theorem Blocks_lands {L : Low} {Env : World → Prop} (LW : LowW L Env) (LG : LowG L) (CS : SortU) (T : Th) (x : Xh) (d : Tr × Rp) (B : Option Addr) (m cc : Nat) (lim : List (Int × Us)) (w : World) (hE : Env w) (hT : T.ok w) (hx : x.ok w) (G : Good L T.t) (G2 : Good L d.1) (hB : Sv w B m cc 3 (encs encU lim)) (hm : m ≤ 1000000)
 (CD : ∀ W, Below w.heap.size w W → Calls Tryz.prog 36 #[T.val, x.val, .int .i64 0] W fun e w' => DoRes W d e w') :
 Calls Tryz.prog 29 #[T.val, x.val, .slice B m cc] w fun e w' => Below w.heap.size w w' ∧ ∃ lA lB, AccL lA (totF (ofF (T.t.nodes.map (nuse L)))) ∧ AccL lB (totF (ofF (d.1.nodes.map (nuse L)))) ∧ e = .returned (.bool (lim.any (blkP lA lB))) := by
 have HLI := Lib.hid (And.intro hB hm)
 have HT := Lib.hid hT
 have HX := Lib.hid hx
 have HG := Lib.hid (And.intro G G2)
 have HE := Lib.hid hE
 have HLW := Lib.hid LW
 have CO := Lib.hid (fun (T : Th) W (hE : Env W) (hT : T.ok W) (G : Good L T.t) => Of_lands LW LG CS T W hE hT G)
 have CDH := Lib.hid CD
 have hmf : ∀ (fn : Fn) (first cap : Array Value) (w : World), (Instr.makeFunc fn first cap).run Tryz.prog w = .ok (.func fn first cap) w := fun _ _ _ _ => rfl
 clear hB hm hT hx G G2 hE LW LG CS CD
 have kk0 := Bxs.nil w
 obtain ⟨x1, hwx1, hzx1, kx1⟩ := kk0.new rfl T.cs (Th.enc T).toArray 31
 obtain ⟨x2, hwx2, hzx2, kx2⟩ := kx1.new hzx1 x.cs x.cs 25
 have HW1 := Lib.hid hwx1
 have HW2 := Lib.hid hwx2
 have K2 := Lib.hid kx2
 have CDa := Lib.hid (CDH.out x2 K2.out.low.out)
 clear kk0 hwx1 hwx2 hzx1 hzx2 kx1 kx2
 go_enter Tryz.func29, Tryz.ntmps29
 go_upto_region 1 with fail
 rw [HW1.out, HW2.out]
 go_upto_region 2 with (first | (with_reducible refine load_tr rfl _ rfl (w.heap.size) rfl T (box_range (K2.out.at 1 rfl).out) ?_) | (with_reducible refine load_op rfl _ rfl (w.heap.size + 1) rfl x (mid_range (K2.out.at 0 rfl).out 0 _ rfl) ?_) | (go_at_call 36; (with_reducible refine CDa.out.mono ?_); rintro e w3 ⟨T2, R2, rfl, hok, hrk, ht, hr, hb3⟩; have K3 := Lib.hid (K2.out.step hb3); have H3 := Lib.hid (And.intro hok ht); clear hok hrk ht hr hb3; obtain ⟨y1, hwy1, hzy1, ky1⟩ := K3.out.new rfl zT zT 31; obtain ⟨y2, hwy2, hzy2, ky2⟩ := ky1.new hzy1 zR zR 71; have HY1 := Lib.hid hwy1; have HY2 := Lib.hid hwy2; have KY2 := Lib.hid ky2; have hz1 := hzy1; clear hwy1 hwy2 hzy1 hzy2 ky1 ky2) | rw [HY1.out] | rw [HY2.out] | (with_reducible refine store_tr rfl _ _ rfl w3.heap.size rfl T2 rfl zT (KY2.out.at 1 rfl).out rfl ?_) | (with_reducible refine store_rp rfl _ _ rfl (w3.heap.size + 1) rfl R2 rfl zR ((KY2.out.row 1 rfl _).at 0 rfl).out rfl ?_))
 clear hz1
 have K4 := Lib.hid ((KY2.out.row 1 rfl (Th.enc T2).toArray).row 0 rfl (Rh.enc R2).toArray)
 have hb4 : Below w3.heap.size w3 ((y2.setRow w3.heap.size (Th.enc T2).toArray).setRow (w3.heap.size + 1) (Rh.enc R2).toArray) := by
  have : Below w3.heap.size w3 y2 := by rw [← HY2.out, ← HY1.out]; exact ((Below.refl _ w3).alloc (Nat.le_refl _) _).alloc (by simp) _
  exact below_setRow (below_setRow this (Nat.le_refl _) _) (Nat.le_succ _) _
 have HT4 := Lib.hid (H3.out.1.below hb4)
 clear hb4
 generalize (y2.setRow w3.heap.size (Th.enc T2).toArray).setRow (w3.heap.size + 1) (Rh.enc R2).toArray = W4 at *
 have hd : Below W4.heap.size W4 W4.drew := below_drewN W4 1
 have KD := Lib.hid (K4.out.step hd)
 have HTD := Lib.hid (HT4.out.below hd)
 clear hd HT4 K4 KY2
 have HG2 := Lib.hid (show Good L T2.t by rw [H3.out.2]; exact HG.out.2)
 obtain ⟨wd, hwd⟩ : ∃ q, W4.drew = q := ⟨_, rfl⟩
 have g1 : wd.heap[w.heap.size]? = some (.cells (Th.enc T).toArray 31 (0, 0)) := by rw [← hwd]; exact (KD.out.at 3 rfl).out
 have g2 : wd.heap[w3.heap.size]? = some (.cells (Th.enc T2).toArray 31 (0, 0)) := by rw [← hwd]; exact (KD.out.at 1 rfl).out
 have GG := Lib.hid (And.intro g1 g2)
 have KE := Lib.hid (show Below w.heap.size w wd by rw [← hwd]; exact KD.out.low.out)
 have HTE := Lib.hid (show T2.ok wd by rw [← hwd]; exact HTD.out)
 clear g1 g2 KD HTD
 refine wp_region_fork (fun w' => w'.heap[w.heap.size]? = some (.cells (Th.enc T).toArray 31 (0, 0)) ∧ w'.heap[w3.heap.size]? = some (.cells (Th.enc T2).toArray 31 (0, 0))) [(0, true), (2, true)] 6 #[true, false, true, false, false, false, false, false] (by kernel_rfl) (by kernel_rfl) (by rfl) (by kernel_rfl) (by rw [hwd]; exact GG.out) (fun d _ _ _ _ h => by cases d <;> exact h) ?_
 rw [hwd]
 clear hwd
 refine ord_pure (v := T.val) (hy := yieldsIf_load_mid (by rfl) 31 _ rfl w.heap.size 0 rfl (Th.enc T) _ (fun w h => box_range h.1) Tryz.underlying31 rfl (by kernel_rfl)) ?_
 refine ord_pure (v := T2.val) (hy := yieldsIf_load_mid (by rfl) 31 _ rfl w3.heap.size 0 rfl (Th.enc T2) _ (fun w h => box_range h.2) Tryz.underlying31 rfl (by kernel_rfl)) ?_
 refine ord_nil (fun _ => ?_)
 refine wp_locM (X := [1, 3, 4, 5, 6, 7]) (fun f => by simp only [putAll, dstOf, List.getElem?_toArray, List.getElem?_cons_succ, List.getElem?_cons_zero, Option.bind_some, Act.put, List.setIfInBounds_toArray, List.set_cons_zero, List.set_cons_succ]; rfl) (TwoB wd 35 zL rowS (AccRow wd L T.t) (AccRow wd L T2.t)) (by kernel_rfl) (fun f d W I => ⟨(I.low.block _ (Array.getElem?_eq_some_iff.1 GG.out.1).1).trans GG.out.1, (I.low.block _ (Array.getElem?_eq_some_iff.1 GG.out.2).1).trans GG.out.2⟩) (fun f => TwoB.none_ (Below.refl _ _) f) ?_ ?_
 · refine ⟨?_, ?_, ?_, ?_, ?_, ?_, trivial⟩
   · intro f q wj I hd hp
     refine ⟨_, rfl, fun K hK => ?_⟩
     have hn : q 6 = false := by
      cases e : q 6 with
      | false => rfl
      | true => exact no_bool hd ((I.o1 e).1)
     have CC := Lib.hid (CO.out T wj (HLW.out.env _ _ HE.out (KE.out.trans (I.low.mono KE.out.size))) (HT.out.below (KE.out.trans (I.low.mono KE.out.size))) HG.out.1)
     have HI := Lib.hid (And.intro I hn)
     clear hn
     go_simp
     go_wp2_with (go_at_call 18; (with_reducible refine CC.out.mono ?_); rintro e w5 ⟨A1, m1, c1, lA, rfl, hO, hA, hm, hb⟩; have HB5 := Lib.hid hb; have HR5 := Lib.hid (show AccRow wd L T.t (.slice A1 m1 c1) w5 from ⟨A1, m1, c1, lA, rfl, own_weak hO HI.out.1.low.size, hA, hm⟩); clear hb hO hA hm)
     exact hK.out _ (.slice A1 m1 c1) _ (by first | rfl | (simp only [Act.put, puts])) (HI.out.1.callA HI.out.2 HB5.out (fun _ h => h.keep HB5.out) HR5.out)
   · intro f q wj I hd hp
     refine ⟨_, rfl, fun K hK => ?_⟩
     have hn : q 6 = false := by
      cases e : q 6 with
      | false => rfl
      | true => exact no_bool hd ((I.o1 e).2.1)
     have CC := Lib.hid (CO.out T2 wj (HLW.out.env _ _ HE.out (KE.out.trans (I.low.mono KE.out.size))) (HTE.out.below I.low) HG2.out)
     have HI := Lib.hid (And.intro I hn)
     clear hn
     go_simp
     go_wp2_with (go_at_call 18; (with_reducible refine CC.out.mono ?_); rintro e w5 ⟨A1, m1, c1, lA, rfl, hO, hA, hm, hb⟩; have HB5 := Lib.hid hb; have HR5 := Lib.hid (show AccRow wd L T2.t (.slice A1 m1 c1) w5 from ⟨A1, m1, c1, lA, rfl, own_weak hO HI.out.1.low.size, hA, hm⟩); clear hb hO hA hm)
     exact hK.out _ (.slice A1 m1 c1) _ (by first | rfl | (simp only [Act.put, puts])) (HI.out.1.callB HI.out.2 HB5.out (fun _ h => h.keep HB5.out) HR5.out)
   · intro f q wj I hd hp
     refine ⟨_, rfl, fun K hK => ?_⟩
     have hn : q 6 = false := by
      cases e : q 6 with
      | false => rfl
      | true => exact no_bool hd ((I.o1 e).2.2)
     have HI := Lib.hid (And.intro I hn)
     clear hn
     have ha := Lib.hid (show Below wj.heap.size wj (wj.alloc (.cells zL 35)) from (Below.refl _ wj).alloc (Nat.le_refl _) _)
     go_simp
     exact hK.out _ (.pointer (some ⟨wj.heap.size, 0, none⟩)) _ (by first | rfl | (simp only [Act.put, puts])) (HI.out.1.new1 HI.out.2 (fun _ h => h.keep ha.out) (fun _ h => h.keep ha.out))
   · intro f q wj I hd hp
     refine ⟨_, rfl, fun K hK => ?_⟩
     have hn : q 7 = false := by
      cases e : q 7 with
      | false => rfl
      | true => exact no_bool hd ((I.o2 e).2)
     have HI := Lib.hid (And.intro I hn)
     clear hn
     have ha := Lib.hid (show Below wj.heap.size wj (wj.alloc (.cells zL 35)) from (Below.refl _ wj).alloc (Nat.le_refl _) _)
     go_simp
     exact hK.out _ (.pointer (some ⟨wj.heap.size, 0, none⟩)) _ (by first | rfl | (simp only [Act.put, puts])) (HI.out.1.new2 HI.out.2 (fun _ h => h.keep ha.out) (fun _ h => h.keep ha.out))
   · intro f q wj I hd hp
     refine ⟨_, rfl, fun K hK => ?_⟩
     have d1 := hp 1 (by decide +kernel) (by decide)
     have d3 := hp 3 (by decide +kernel) (by decide)
     have d4 := hp 4 (by decide +kernel) (by decide)
     obtain ⟨b, c, e4, h2, h3, h4, h5⟩ := I.l1 d4
     obtain ⟨A1, m1, c1, l1, e1, -⟩ := I.lA d1
     have I2 := I.put1 d1 d3 d4 e4 (fun _ h => h.row h3) (fun _ h => h.row h3) rfl undef
     rw [e1] at I2
     have HI := Lib.hid I2
     obtain ⟨c0, hc0⟩ : ∃ c0, c[0]? = some c0 := ⟨_, Array.getElem?_eq_getElem (show 0 < c.size by rw [h4]; decide)⟩
     have q1 : wj.cell? ⟨b, 0, none⟩ = some c0 := (cell_of_row _ _ 0 _ _ _ h3).trans hc0
     have q2 : wj.frozen? ⟨b, 0, none⟩ = false := frozen_of_row _ _ 0 _ _ h3
     have HC := Lib.hid (cell1 h3 h4 (.slice A1 m1 c1))
     simp only [e1, e4]
     clear h3 h4 h5 hc0 I2
     go_simp
     rw [HC.out]
     exact hK.out _ undef _ (by first | rfl | (simp only [Act.put, puts, e1, e4])) HI.out
   · intro f q wj I hd hp
     refine ⟨_, rfl, fun K hK => ?_⟩
     have d3 := hp 3 (by decide +kernel) (by decide)
     have d6 := hp 6 (by decide +kernel) (by decide)
     have d5 := hp 5 (by decide +kernel) (by decide)
     obtain ⟨b, c, e5, h2, h3, h4, h5⟩ := I.l2 d5
     obtain ⟨A1, m1, c1, l1, e3, -⟩ := I.lB d3
     have I2 := I.put2 d6 d5 e5 (fun _ h => h.row h3) (fun _ h => h.row h3) rfl undef
     rw [e3] at I2
     have HI := Lib.hid I2
     obtain ⟨c0, hc0⟩ : ∃ c0, c[0]? = some c0 := ⟨_, Array.getElem?_eq_getElem (show 0 < c.size by rw [h4]; decide)⟩
     have q1 : wj.cell? ⟨b, 0, none⟩ = some c0 := (cell_of_row _ _ 0 _ _ _ h3).trans hc0
     have q2 : wj.frozen? ⟨b, 0, none⟩ = false := frozen_of_row _ _ 0 _ _ h3
     have HC := Lib.hid (cell1 h3 h4 (.slice A1 m1 c1))
     simp only [e3, e5]
     clear h3 h4 h5 hc0 I2
     go_simp
     rw [HC.out]
     exact hK.out _ undef _ (by first | rfl | (simp only [Act.put, puts, e3, e5])) HI.out
 · intro f q wj I hall
   obtain ⟨b, c, e4, h2, h3, h4, h5⟩ := I.l1 (hall 4 (by decide))
   obtain ⟨b', c', e5, h2', h3', h4', h5'⟩ := I.l2 (hall 5 (by decide))
   obtain ⟨A1, m1, c1, lA, e1, hO1, hA1, hm1⟩ := I.lA (hall 1 (by decide))
   obtain ⟨A2, m2, c2, lB, e3, hO2, hA2, hm2⟩ := I.lB (hall 3 (by decide))
   have k1 := h5 (hall 6 (by decide))
   have k2 := h5' (hall 7 (by decide))
   rw [e1] at k1
   rw [e3] at k2
   rw [k1] at h3
   rw [k2] at h3'
   simp only [e4, e5]
   have HBJ := Lib.hid (KE.out.trans (I.low.mono KE.out.size))
   have CB := Lib.hid (fun W (hb : Below wj.heap.size wj W) (x : Int × Us) => blocks1_any b b' A1 A2 m1 c1 m2 c2 lA lB x W ((hb.block _ (Array.getElem?_eq_some_iff.1 h3).1).trans h3) ((hb.block _ (Array.getElem?_eq_some_iff.1 h3').1).trans h3') ((Sv.own hO1 (encs_cells encU_one _)).below hb) ((Sv.own hO2 (encs_cells encU_one _)).below hb) (by omega) (by omega))
   have CK := Lib.hid (containsL_any B m cc lim b b' (blkP lA lB) wj (HLI.out.1.below HBJ.out) HLI.out.2 CB.out)
   have HR := Lib.hid (And.intro hA1 hA2)
   clear I hall h2 h3 h4 h5 h2' h3' h4' h5' e1 e3 e4 e5 k1 k2 hO1 hO2 hA1 hA2 hm1 hm2
   go_wp2_with (go_at_call 59; (with_reducible refine CK.out.mono ?_); rintro e w5 ⟨rfl, hb5⟩; have HB5 := Lib.hid hb5; clear hb5)
   go_ret
   refine ⟨HBJ.out.trans (HB5.out.mono HBJ.out.size), lA, lB, HR.out.1, ?_, rfl⟩
   rw [← H3.out.2]
   exact HR.out.2
end Go.Proofs.YtemgejblnionlaaGreatDoor
namespace Go.Proofs.YtemgejblnionlaaGreatDoor
open Go.RowKit Go.Maps
set_option maxHeartbeats 16000000
set_option maxRecDepth 100000
theorem info_li : (Tryz.prog.info? 44).map (fun i => (i.zero, i.size, i.bytes)) = some (some (.agg #[.int .i64 0, .int .i64 0, .int .i64 0]), 3, 24) := by kernel_rfl
theorem clone_li (A : Option Addr) (n c : Nat) (ys : List Value) (w : World) (hS : Sv w A n c 3 ys) (hn : n ≤ 1000000) :
 Calls Tryz.prog 89 #[.slice A n c] w fun e w' => Copied 44 3 n ys w e w' := by
 obtain ⟨i2, hj, hj0, hj1, hj2⟩ := info_parts info_li
 have e1 := fun W : World => Lib.run_eql_slice_nil (P := Tryz.prog) W 33 44 A n c 0 0 Tryz.underlying33
 have HS := Lib.hid hS
 have HN := Lib.hid hn
 clear hn hS
 cases A with
 | none =>
   have hc : c = 0 := HS.out.nil rfl
   have hm : n = 0 := by have := HS.out.cap; omega
   subst hc hm
   have HY := Lib.hid (List.eq_nil_of_length_eq_zero (by have := HS.out.len; omega) : ys = [])
   go_enter Tryz.func89, Tryz.ntmps89
   go_wp2
   go_ret
   exact ⟨none, 0, rfl, by rw [HY.out]; exact World.ownsRow_nil _ _ _ _, Below.refl _ _⟩
 | some ad =>
   go_enter Tryz.func89, Tryz.ntmps89
   go_wp2_with (at_builtin; refine wpList_append_sv rfl _ _ 33 rfl w.heap.size 44 i2 _ 3 24 Tryz.underlying33 hj hj0 hj1 hj2 rfl (by decide) _ _ _ rfl (own_empty w _ 3) (some ad) n c ys rfl (HS.out.below ((Below.refl _ w).alloc (Nat.le_refl _) _)) (by unfold maxLen; have := HN.out; omega) (by have := HN.out; omega) (by simp) ?_; intro v' w1 hown' hb; rw [Nat.zero_add, List.nil_append] at hown'; obtain ⟨A', c', rfl⟩ := own_form hown'; have HB := Lib.hid (hb w (Nat.le_refl _) ((Below.refl _ w).alloc (Nat.le_refl _) _)); clear hb)
   go_ret
   exact ⟨A', c', rfl, hown', HB.out⟩
def personB (o : Int) : Bool := decide (0 ≤ o) && decide (o ≤ 999)
theorem isPerson_lands (o : Int) (w : World) : Calls Tryz.prog 90 #[.int .i64 o] w fun e w' => e = .returned (.bool (personB o)) ∧ w' = w := by
 by_cases h1 : (0 : Int) ≤ o
 · by_cases h2 : o ≤ 999
   · go_enter Tryz.func90, Tryz.ntmps90
     go_wp2
     go_ret
     exact ⟨ret_bool (by simp [personB, h1, h2]), rfl⟩
   · go_enter Tryz.func90, Tryz.ntmps90
     go_wp2
     go_ret
     exact ⟨ret_bool (by simp [personB, h1, h2]), rfl⟩
 · go_enter Tryz.func90, Tryz.ntmps90
   go_wp2
   go_ret
   exact ⟨ret_bool (by simp [personB]; omega), rfl⟩
theorem setCmp_any (a : Int × Us) (o : Int) (w : World) : Calls Tryz.prog 92 #[.agg (encU a).toArray, .int .i64 o] w fun e w' => e = .returned (.int .i64 (cmpI a.1 o)) ∧ Below w.heap.size w w' := by
 have kk0 := Bxs.nil w
 obtain ⟨x1, hwx1, hzx1, kx1⟩ := kk0.new rfl (encU a).toArray (encU a).toArray 44
 have HWx1 := Lib.hid (show w.alloc (.cells #[.int .i64 a.1, .int .i64 a.2.1, .int .i64 a.2.2] 44) = x1 from hwx1)
 have kk1 := Lib.hid kx1
 clear kk0 hwx1 hzx1 kx1
 go_enter Tryz.func92, Tryz.ntmps92
 go_upto_region 1 with fail
 simp only [encU]
 rw [HWx1.out]
 have d0 : x1.cell? ⟨w.heap.size, 0, none⟩ = some (.int .i64 a.1) := kk1.out.cell 0 0 _ rfl
 go_wp2_with (go_at_call 93; (with_reducible refine (cmpInt_any _ _ _).mono ?_); rintro e w1 ⟨rfl, rfl⟩)
 go_ret
 exact ⟨rfl, kk1.out.low.out⟩
structure FoundL (l : List (Int × Us)) (o : Int) (i : Nat) (f : Bool) : Prop where
 le : i ≤ l.length
 yes : f = true → ∃ h, l[i]? = some h ∧ h.1 = o
 lt : ∀ (k : Nat) (h : Int × Us), l[k]? = some h → k < i → h.1 < o
 ge : ∀ (k : Nat) (h : Int × Us), l[k]? = some h → i ≤ k → f = false → o < h.1
abbrev SrtU (l : List (Int × Us)) : Prop := l.Pairwise (fun a b => a.1 < b.1)
theorem srtU_le {l : List (Int × Us)} (h : SrtU l) {i j : Nat} {a b : Int × Us} (ha : l[i]? = some a) (hb : l[j]? = some b) (hij : i ≤ j) : a.1 ≤ b.1 := by
 rcases Nat.lt_or_eq_of_le hij with h1 | h1
 · have h3 := List.pairwise_iff_getElem.1 h i j (List.getElem?_eq_some_iff.1 ha).1 (List.getElem?_eq_some_iff.1 hb).1 h1
   rw [(List.getElem?_eq_some_iff.1 ha).2, (List.getElem?_eq_some_iff.1 hb).2] at h3
   omega
 · subst h1
   rw [ha] at hb
   injection hb with hb
   rw [hb]; exact Int.le_refl _
theorem bsLim_any (A : Option Addr) (n c : Nat) (l : List (Int × Us)) (o : Int) (w : World) (hA : Sv w A n c 3 (encs encU l)) (hs : SrtU l) (hn : n ≤ 100000) :
 Calls Tryz.prog 91 #[.slice A n c, .int .i64 o, .func (.func 92) #[] #[]] w fun e w' => Below w.heap.size w w' ∧ ∃ i f, FoundL l o i f ∧ e = .returned (.tuple #[.int .i64 (i : Nat), .bool f]) := by
 have HTT := Lib.hid hA
 have HSR := Lib.hid hs
 have HN := Lib.hid hn
 have HLN := Lib.hid (show l.length = n from hA.plen encU_len (by decide))
 clear hA hs hn
 go_enter Tryz.func91, Tryz.ntmps91
 go_wp2
 go_loopw [9, 10] (fun i j wr => ∃ lo hi : Nat, lo ≤ hi ∧ hi ≤ n ∧ i = .int .i64 lo ∧ j = .int .i64 hi ∧ (∀ (k : Nat) (h : Int × Us), l[k]? = some h → k < lo → h.1 < o) ∧ (∀ (k : Nat) (h : Int × Us), l[k]? = some h → hi ≤ k → o ≤ h.1) ∧ Below w.heap.size w wr) (fun i j _ => (intOf j).toNat - (intOf i).toNat)
 case atStart => exact ⟨0, n, Nat.zero_le _, Nat.le_refl _, rfl, rfl, fun _ _ _ h => absurd h (Nat.not_lt_zero _), fun k h hk hle => absurd (List.getElem?_eq_some_iff.1 hk).1 (by rw [HLN.out]; omega), Below.refl _ _⟩
 case round =>
  obtain ⟨lo, hi, hlh, hhn, rfl, rfl, h1, h2, hbw⟩ := hrel
  have H1 := Lib.hid h1
  have H2 := Lib.hid h2
  have HBW := Lib.hid hbw
  clear h1 h2 hbw
  by_cases hlt : lo < hi
  · have kn : (lo : Int) < (hi : Int) := Int.ofNat_lt.2 hlt
    obtain ⟨m, hm, hm1, hm2⟩ : ∃ m : Nat, wrap64 (IntKind.u64.wrap (wrap64 ((lo : Int) + (hi : Int))) / 2) = (m : Int) ∧ lo ≤ m ∧ m < hi := by
     have e1 : wrap64 ((lo : Int) + (hi : Int)) = (lo : Int) + (hi : Int) := (IntWalk.i64_left _).symm.trans (IntWalk.i64_in _ (by have := HN.out; omega))
     have e2 : IntKind.u64.wrap ((lo : Int) + (hi : Int)) = (lo : Int) + (hi : Int) := IntWalk.u64_in _ (by have := HN.out; omega)
     rw [e1, e2]
     refine ⟨(lo + hi) / 2, ?_, by omega, by omega⟩
     rw [show ((lo : Int) + (hi : Int)) / 2 = (((lo + hi) / 2 : Nat) : Int) by omega]
     exact (IntWalk.i64_left _).symm.trans (IntWalk.i64_in _ (by have := HN.out; omega))
    obtain ⟨h, hh⟩ : ∃ h, l[m]? = some h := ⟨_, List.getElem?_eq_getElem (by rw [HLN.out]; omega)⟩
    have HM := Lib.hid hm
    have HM12 := Lib.hid (And.intro hm1 hm2)
    have HH := Lib.hid hh
    obtain ⟨g, ad, hA, hg, hc⟩ := Sv.range encU_len (by decide) (HTT.out.below HBW.out) hh
    have HR := Lib.hid hc
    have HA := Lib.hid hA
    rw [hA]
    clear hm hm1 hm2 hh hc hA
    go_upto_region 5 with fail
    rw [HM.out]
    have m0 : (0 : Int) ≤ (m : Int) := Int.natCast_nonneg m
    have mn : (m : Int) < (n : Int) := by have := HM12.out.2; omega
    by_cases hbn : cmpI h.1 o < 0
    · have HB := Lib.hid (cmpI_neg.1 hbn)
      have hwm : IntKind.i64.wrap ((m : Int) + 1) = (m : Int) + 1 := IntWalk.i64_in _ (by have := HN.out; omega)
      go_wp2_with (first | (with_reducible refine load_li rfl _ rfl g (ad + m * 3) rfl h HR.out ?_) | (go_at_call 92; (with_reducible refine (setCmp_any _ _ _).mono ?_); rintro e w2 ⟨rfl, hb⟩; have HB2 := Lib.hid hb; clear hb))
      go_roundw
      case rel => exact ⟨m + 1, hi, by have := HM12.out.2; omega, hhn, by go_num, rfl, fun k x hk hle => by have := srtU_le HSR.out hk HH.out (by omega); have := HB.out; omega, H2.out, HBW.out.trans (HB2.out.mono HBW.out.size)⟩
      case measure => have := HM12.out; simp [intOf]; omega
    · have HB := Lib.hid (fun e => hbn (cmpI_neg.2 e) : ¬ h.1 < o)
      go_wp2_with (first | (with_reducible refine load_li rfl _ rfl g (ad + m * 3) rfl h HR.out ?_) | (go_at_call 92; (with_reducible refine (setCmp_any _ _ _).mono ?_); rintro e w2 ⟨rfl, hb⟩; have HB2 := Lib.hid hb; clear hb))
      go_roundw
      case rel => exact ⟨lo, m, HM12.out.1, by have := HM12.out.2; omega, rfl, rfl, H1.out, fun k x hk hle => by have h5 := srtU_le HSR.out HH.out hk hle; have h6 : ¬ h.1 < o := HB.out; omega, HBW.out.trans (HB2.out.mono HBW.out.size)⟩
      case measure => have := HM12.out; simp [intOf]; omega
  · have hle : lo = hi := by omega
    subst hle
    have kn : ¬ (lo : Int) < (lo : Int) := Int.lt_irrefl _
    by_cases hn : lo < n
    · obtain ⟨h, hh⟩ : ∃ h, l[lo]? = some h := ⟨_, List.getElem?_eq_getElem (by rw [HLN.out]; exact hn)⟩
      have kl : (lo : Int) < (n : Int) := Int.ofNat_lt.2 hn
      have l0 : (0 : Int) ≤ (lo : Int) := Int.natCast_nonneg lo
      obtain ⟨g, ad, hA, hg, hc⟩ := Sv.range encU_len (by decide) (HTT.out.below HBW.out) hh
      have HR := Lib.hid hc
      have HH := Lib.hid hh
      have HNL := Lib.hid hn
      subst hA
      clear hh hn hlt hc
      go_wp2_with (first | (refine wpList_unguard (by rfl) ?_; (with_reducible refine load_li rfl _ rfl g (ad + lo * 3) rfl h HR.out ?_)) | (go_at_call 92; (with_reducible refine (setCmp_any _ _ _).mono ?_); rintro e w2 ⟨rfl, hb⟩; have HB2 := Lib.hid hb; clear hb))
      refine bodyPost_ret (results_tmp2 rfl _ _ _) rfl ?_
      refine ⟨HBW.out.trans (HB2.out.mono HBW.out.size), lo, (cmpI h.1 o == 0), ⟨by have := HNL.out; rw [HLN.out]; omega, fun e => ⟨h, HH.out, cmpI_zero.1 (eq_of_beq e)⟩, H1.out, fun k x hk h3 e => ?_⟩, rfl⟩
      have h4 := srtU_le HSR.out HH.out hk h3
      have h5 := H2.out lo h HH.out (Nat.le_refl _)
      have h6 : ¬ h.1 = o := fun e6 => by rw [cmpI_zero.2 e6] at e; cases e
      omega
    · have kl : ¬ (lo : Int) < (n : Int) := fun e => hn (Int.ofNat_lt.1 e)
      go_wp2
      refine bodyPost_ret (results_tmp2 rfl _ _ _) rfl ?_
      have hf : FoundL l o lo false := ⟨by rw [HLN.out]; exact hhn, fun e => (by cases e), H1.out, fun k x hk hle _ => by have := (List.getElem?_eq_some_iff.1 hk).1; rw [HLN.out] at this; omega⟩
      first | exact ⟨HBW.out, lo, false, hf, rfl⟩ | exact ⟨HBW.out, lo, .inl ⟨hf, rfl⟩⟩
end Go.Proofs.YtemgejblnionlaaGreatDoor
namespace Go.Proofs.YtemgejblnionlaaGreatDoor.Li
open Go.RowKit
set_option maxHeartbeats 8000000
set_option maxRecDepth 100000
theorem own_none {w : World} {base : Nat} {e : TypeId} {s : Nat} {A : Option Addr} {n c : Nat} {xs : List Value} (h : w.ownsRow base e s (.slice A n c) n xs) : A = none → n = 0 ∧ c = 0 := by
 rintro rfl
 rcases h.2 with ⟨hv, hn⟩ | ⟨g, cap, cur, hv, _⟩
 · injection hv with h1 h2 h3; exact ⟨hn, h3⟩
 · cases hv
theorem own_mono {w : World} {base base' : Nat} {e : TypeId} {s : Nat} {v : Value} {n : Nat} {xs : List Value} (h : w.ownsRow base e s v n xs) (hb : base' ≤ base) : w.ownsRow base' e s v n xs := own_weak h hb
def layA (cur : Array Value) : Nat → List Value → Array Value
 | _, [] => cur
 | o, v :: r => layA (cur.setIfInBounds o v) (o + 1) r
theorem layA_size (vs : List Value) : ∀ (cur : Array Value) (o : Nat), (layA cur o vs).size = cur.size := by
 induction vs with
 | nil => intro cur o; rfl
 | cons v r ih => intro cur o; rw [layA, ih]; simp
theorem layA_get (vs : List Value) : ∀ (cur : Array Value) (o i : Nat), o + vs.length ≤ cur.size → (layA cur o vs)[i]? = if o ≤ i ∧ i < o + vs.length then vs[i - o]? else cur[i]? := by
 induction vs with
 | nil => intro cur o i _; rw [layA, if_neg (by simp)]
 | cons v r ih =>
   intro cur o i h
   simp at h
   rw [layA, ih _ _ _ (by simp; omega)]
   by_cases h1 : o + 1 ≤ i ∧ i < o + 1 + r.length
   · rw [if_pos h1, if_pos (by simp; omega)]
     obtain ⟨k, rfl⟩ : ∃ k, i = o + 1 + k := ⟨i - (o + 1), by omega⟩
     rw [show o + 1 + k - (o + 1) = k by omega, show o + 1 + k - o = k + 1 by omega]; rfl
   · rw [if_neg h1]
     by_cases h2 : i = o
     · subst h2
       rw [if_pos (by simp)]
       simp [Array.getElem?_setIfInBounds]; omega
     · rw [if_neg (by simp; omega)]
       rw [Array.getElem?_setIfInBounds, if_neg (by omega)]
theorem row_setCells (vs : List Value) : ∀ (w : World) (g o : Nat) (cur : Array Value) (e : TypeId), w.heap[g]? = some (.cells cur e (0, 0)) → (w.setCells g o vs).heap[g]? = some (.cells (layA cur o vs) e (0, 0)) := by
 induction vs with
 | nil => intro w g o cur e h; exact h
 | cons v r ih =>
   intro w g o cur e h
   rw [World.setCells, layA]
   refine ih _ _ _ _ _ ?_
   show (w.heap.modify g _)[g]? = _
   rw [Array.getElem?_modify, if_pos rfl, h]
   rfl
theorem other_setCells (vs : List Value) : ∀ (w : World) (g o b : Nat), b ≠ g → (w.setCells g o vs).heap[b]? = w.heap[b]? := by
 induction vs with
 | nil => intro w g o b _; rfl
 | cons v r ih =>
   intro w g o b h
   rw [World.setCells, ih _ _ _ _ h]
   show (w.heap.modify g _)[b]? = _
   rw [Array.getElem?_modify, if_neg (fun e => h e.symm)]
theorem below_setCells {B : Nat} {a w : World} (h : Below B a w) (g : Nat) (hg : B ≤ g) (vs : List Value) : ∀ (o : Nat), Below B a (w.setCells g o vs) := by
 induction vs generalizing w with
 | nil => intro o; exact h
 | cons v r ih => intro o; exact ih (h.setCell (p := ⟨g, o, none⟩) hg v) (o + 1)
theorem own_open {w : World} {base g n cap : Nat} {e : TypeId} {s : Nat} {xs : List Value} (h : w.ownsRow base e s (.slice (some ⟨g, 0, none⟩) n cap) n xs) :
 ∃ cur, base ≤ g ∧ w.heap[g]? = some (.cells cur e (0, 0)) ∧ n ≤ cap ∧ cap ≤ maxLen ∧ cur.size = cap * s ∧ xs.length = n * s ∧ ∀ i, i < n * s → cur[i]? = xs[i]? := by
 obtain ⟨h1, h2⟩ := h
 rcases h2 with ⟨hv, _⟩ | ⟨g', cap', cur, hv, hg, hc, hn, hm, hs, ht⟩
 · cases hv
 · injection hv with e1 e2 e3
   injection e1 with e4
   injection e4 with e5
   subst e5 e3
   refine ⟨cur, hg, hc, hn, hm, hs, h1, fun i hi => ?_⟩
   rw [← ht, List.getElem?_take, if_pos hi, Array.getElem?_toList]
theorem own_shut {w : World} {base g n cap : Nat} {e : TypeId} {s : Nat} {xs : List Value} {cur : Array Value} (hg : base ≤ g) (hc : w.heap[g]? = some (.cells cur e (0, 0))) (hn : n ≤ cap) (hm : cap ≤ maxLen) (hs : cur.size = cap * s) (hl : xs.length = n * s) (ht : ∀ i, i < n * s → cur[i]? = xs[i]?) :
 w.ownsRow base e s (.slice (some ⟨g, 0, none⟩) n cap) n xs := by
 refine ⟨hl, .inr ⟨g, cap, cur, rfl, hg, hc, hn, hm, hs, ?_⟩⟩
 have hns : n * s ≤ cap * s := Nat.mul_le_mul_right _ hn
 apply List.ext_getElem?
 intro i
 by_cases hi : i < n * s
 · rw [List.getElem?_take, if_pos hi, Array.getElem?_toList, ht i hi]
 · rw [List.getElem?_eq_none (by simp; omega), List.getElem?_eq_none (by omega)]
theorem own_write {w : World} {base g n n' cap : Nat} {e : TypeId} {s : Nat} {xs xs' : List Value} (h : w.ownsRow base e s (.slice (some ⟨g, 0, none⟩) n cap) n xs) (o : Nat) (vs : List Value) (ho : o + vs.length ≤ cap * s) (hn' : n' ≤ cap) (hl : xs'.length = n' * s)
 (hx : ∀ i, i < n' * s → if o ≤ i ∧ i < o + vs.length then vs[i - o]? = xs'[i]? else i < n * s ∧ xs[i]? = xs'[i]?) :
 (w.setCells g o vs).ownsRow base e s (.slice (some ⟨g, 0, none⟩) n' cap) n' xs' := by
 obtain ⟨cur, hg, hc, hn, hm, hs, hl0, hr⟩ := own_open h
 refine own_shut hg (row_setCells vs w g o cur e hc) hn' hm (by rw [layA_size]; exact hs) hl (fun i hi => ?_)
 rw [layA_get vs cur o i (by rw [hs]; exact ho)]
 have := hx i hi
 split at this
 · rename_i h1; rw [if_pos h1]; exact this
 · rename_i h1; rw [if_neg h1, hr i this.1]; exact this.2
theorem own_spare {w : World} {base g n cap : Nat} {e : TypeId} {s : Nat} {xs : List Value} (h : w.ownsRow base e s (.slice (some ⟨g, 0, none⟩) n cap) n xs) (j : Nat) (hj : j < cap * s) : (w.cell? ⟨g, j, none⟩).isSome = true ∧ w.frozen? ⟨g, j, none⟩ = false := by
 obtain ⟨cur, hg, hc, hn, hm, hs, hl0, hr⟩ := own_open h
 refine ⟨?_, h.frozenAt j⟩
 have := cell_of_row w g j cur e (0, 0) hc
 rw [this, Array.getElem?_eq_getElem (by omega)]; rfl
theorem encs_length (l : List (Int × Us)) : (encs encU l).length = l.length * 3 := Go.Proofs.YtemgejblnionlaaGreatDoor.encs_len encU_len l
theorem encs_append (l m : List (Int × Us)) : encs encU (l ++ m) = encs encU l ++ encs encU m := Go.Proofs.YtemgejblnionlaaGreatDoor.encs_append encU l m
theorem encs_one (a : (Int × Us)) : encs encU [a] = encU a := Go.Proofs.YtemgejblnionlaaGreatDoor.encs_one encU a
theorem encs_one' (l : List (Int × Us)) : ∀ u ∈ encs encU l, u.oneCell' = true := Go.Proofs.YtemgejblnionlaaGreatDoor.encs_cells encU_one l
theorem encs_get (l : List (Int × Us)) (j i : Nat) (a : (Int × Us)) (hi : i < 3) (h : l[j]? = some a) : (encs encU l)[j * 3 + i]? = (encU a)[i]? := Go.Proofs.YtemgejblnionlaaGreatDoor.encs_get encU_len hi h
theorem own_len {w : World} {base : Nat} {e : TypeId} {A : Option Addr} {m c : Nat} {l : List (Int × Us)} (h : w.ownsRow base e 3 (.slice A m c) m (encs encU l)) : l.length = m := by
 have := h.1
 rw [encs_length] at this
 omega
theorem encs_put (l : List (Int × Us)) (j : Nat) (e : (Int × Us)) (hj : j < l.length) : ∀ i, i < l.length * 3 → if j * 3 ≤ i ∧ i < j * 3 + (encU e).length then (encU e)[i - j * 3]? = (encs encU (l.set j e))[i]? else i < l.length * 3 ∧ (encs encU l)[i]? = (encs encU (l.set j e))[i]? := by
 intro i hi
 have hr : i % 3 < 3 := Nat.mod_lt _ (by omega)
 have hq : i / 3 < l.length := by omega
 have h1 := encs_get (l.set j e) (i / 3) (i % 3) ((l.set j e)[i / 3]'(by simpa using hq)) hr (List.getElem?_eq_getElem _)
 have h2 := encs_get l (i / 3) (i % 3) l[i / 3] hr (List.getElem?_eq_getElem hq)
 rw [show i / 3 * 3 + i % 3 = i by omega] at h1 h2
 rw [h1, h2, List.getElem_set]
 have he : (encU e).length = 3 := rfl
 rw [he]
 by_cases hij : j = i / 3
 · rw [if_pos (by omega), if_pos hij, show i - j * 3 = i % 3 by omega]
 · rw [if_neg (by omega), if_neg hij]; exact ⟨hi, rfl⟩
theorem encs_split (l : List (Int × Us)) (j : Nat) : encs encU l = encs encU (l.take j) ++ encs encU (l.drop j) := by rw [← encs_append, List.take_append_drop]
theorem run_copyS {P : Program} (w : World) (dT sT ty elem : TypeId) (b o dLen dCap : Nat) (a : Addr) (sLen sCap k : Nat) (cs : List Value) (i : TypeInfo)
 (hu : P.underlying dT = some (.slice elem)) (hq : P.info? elem = some i) (hi : i.size = 3) (hk : Nat.min sLen dLen = k) (hn : cs.length = k * 3)
 (hsrc : ∀ j v, cs[j]? = some v → w.cell? (a.add j) = some v) (hc : ∀ j, j < cs.length → (w.cell? ⟨b, o + j, none⟩).isSome = true ∧ w.frozen? ⟨b, o + j, none⟩ = false) (h1 : ∀ v ∈ cs, v.oneCell' = true) :
 (Builtin.copy_ #[dT, sT] ty #[.slice (some ⟨b, o, none⟩) dLen dCap, .slice (some a) sLen sCap]).run P w = .ok (goInt k) (w.setCells b o cs) := by
 have hl := run_firstCells_some (P := P) w 3 k a sLen sCap cs hn hsrc
 have hst := run_storeCells_cells (P := P) b o cs 0 w (fun j hj => (hc j hj).1) (fun j hj => (hc j hj).2) h1
 simp only [Nat.add_zero] at hst
 simp [Builtin.copy_, run_underlying hu, Builtin.lenOf, sizeOf, typeInfo, hq, hi, hk, hl, hst]
theorem wp_copyS {P : Program} {w : World} {o : Oper} {a : Act} {K : Act → World → Prop} {Q : Exit → Act → World → Prop} (d s : Operand) (dT sT : TypeId)
 (ho : o.op = .call { callee := .builtin .copy, args := #[d, s], argTypes := #[dT, sT] }) (elem : TypeId) (i : TypeInfo) (hu : P.underlying dT = some (.slice elem)) (hq : P.info? elem = some i) (hi : i.size = 3)
 {b off dLen dCap : Nat} {ad : Addr} {sLen sCap : Nat} (hd : a.eval d = .slice (some ⟨b, off, none⟩) dLen dCap) (hs : a.eval s = .slice (some ad) sLen sCap) (k : Nat) (cs : List Value) (hk : Nat.min sLen dLen = k) (hn : cs.length = k * 3)
 (hsrc : ∀ j v, cs[j]? = some v → w.cell? (ad.add j) = some v) (hc : ∀ j, j < cs.length → (w.cell? ⟨b, off + j, none⟩).isSome = true ∧ w.frozen? ⟨b, off + j, none⟩ = false) (h1 : ∀ v ∈ cs, v.oneCell' = true)
 (h : K (a.put o.dst (goInt k)) (w.setCells b off cs)) : Oper.wp P o a w K Q := by
 have hrun := run_copyS (P := P) w dT sT o.type elem b off dLen dCap ad sLen sCap k cs i hu hq hi hk hn hsrc hc h1
 unfold Oper.wp execOp
 simp only [ho, resolve, invoke, builtin, Sem.run_bind, Sem.run_pure, Result.andThen_ok, List.map_toArray, List.map_cons, List.map_nil, hd, hs, hrun]
 exact h
theorem wpList_copyS {P : Program} {w : World} {ops : Array Oper} {rest : List Oper} {o : Oper} {a : Act} {Q : Exit → Act → World → Prop} (hgd : o.guard = none) (d s : Operand) (dT sT : TypeId)
 (ho : o.op = .call { callee := .builtin .copy, args := #[d, s], argTypes := #[dT, sT] }) (elem : TypeId) (i : TypeInfo) (hu : P.underlying dT = some (.slice elem)) (hq : P.info? elem = some i) (hi : i.size = 3)
 {b off dLen dCap : Nat} {ad : Addr} {sLen sCap : Nat} (hd : a.eval d = .slice (some ⟨b, off, none⟩) dLen dCap) (hs : a.eval s = .slice (some ad) sLen sCap) (k : Nat) (cs : List Value) (hk : Nat.min sLen dLen = k) (hn : cs.length = k * 3)
 (hsrc : ∀ j v, cs[j]? = some v → w.cell? (ad.add j) = some v) (hc : ∀ j, j < cs.length → (w.cell? ⟨b, off + j, none⟩).isSome = true ∧ w.frozen? ⟨b, off + j, none⟩ = false) (h1 : ∀ v ∈ cs, v.oneCell' = true)
 (h : ∀ w', w' = w.setCells b off cs → wpList P ops Q rest (a.put o.dst (goInt k)) w') : wpList P ops Q (o :: rest) a w :=
 wpList_plain hgd fun _ hK => wp_copyS d s dT sT ho elem i hu hq hi hd hs k cs hk hn hsrc hc h1 (hK _ _ (h _ rfl))
theorem step_copyS {P : Program} {w : World} {ops : Array Oper} {o : Oper} {a : Act} {K : Act → World → Prop} {Q : Exit → Act → World → Prop} {E : Prop} (hgd : o.guard = none) (d s : Operand) (dT sT : TypeId)
 (ho : o.op = .call { callee := .builtin .copy, args := #[d, s], argTypes := #[dT, sT] }) (elem : TypeId) (i : TypeInfo) (hu : P.underlying dT = some (.slice elem)) (hq : P.info? elem = some i) (hi : i.size = 3)
 {b off dLen dCap : Nat} {ad : Addr} {sLen sCap : Nat} (hd : a.eval d = .slice (some ⟨b, off, none⟩) dLen dCap) (hs : a.eval s = .slice (some ad) sLen sCap) (k : Nat) (cs : List Value) (hk : Nat.min sLen dLen = k) (hn : cs.length = k * 3)
 (hsrc : ∀ j v, cs[j]? = some v → w.cell? (ad.add j) = some v) (hc : ∀ j, j < cs.length → (w.cell? ⟨b, off + j, none⟩).isSome = true ∧ w.frozen? ⟨b, off + j, none⟩ = false) (h1 : ∀ v ∈ cs, v.oneCell' = true)
 (h : ∀ w', w' = w.setCells b off cs → K (a.put o.dst (goInt k)) w') : if Region.wanted o (yielded ops a.tmps) = true then Oper.wp P o a w K Q else E := by
 have hw : Region.wanted o (yielded ops a.tmps) = true := by simp [Region.wanted, hgd]
 rw [if_pos hw]
 exact wp_copyS d s dT sT ho elem i hu hq hi hd hs k cs hk hn hsrc hc h1 (h _ rfl)
def insL (l : List (Int × Us)) (k : Nat) (e : (Int × Us)) : List (Int × Us) := l.take k ++ e :: l.drop k
theorem insL_len {l : List (Int × Us)} {k : Nat} {e : (Int × Us)} (h : k ≤ l.length) : (insL l k e).length = l.length + 1 := by simp [insL]; omega
theorem insL_end (l : List (Int × Us)) (e : (Int × Us)) : insL l l.length e = l ++ [e] := by simp [insL]
theorem up_cells (l : List (Int × Us)) (k : Nat) (hk : k < l.length) : ∀ i, i < (l.length + 1) * 3 → if (k + 1) * 3 ≤ i ∧ i < (k + 1) * 3 + (encs encU (l.drop k)).length then (encs encU (l.drop k))[i - (k + 1) * 3]? = (encs encU (l.take (k + 1) ++ l.drop k))[i]? else i < l.length * 3 ∧ (encs encU l)[i]? = (encs encU (l.take (k + 1) ++ l.drop k))[i]? := by
 intro i hi
 have e1 : encs encU (l.take (k + 1) ++ l.drop k) = encs encU (l.take (k + 1)) ++ encs encU (l.drop k) := encs_append _ _
 have hlt : (encs encU (l.take (k + 1))).length = (k + 1) * 3 := by rw [encs_length, List.length_take]; omega
 have hld : (encs encU (l.drop k)).length = (l.length - k) * 3 := by rw [encs_length, List.length_drop]
 rw [e1]
 split
 · rw [List.getElem?_append_right (by omega), hlt]
 · rw [encs_split l (k + 1), List.getElem?_append_left (by omega), List.getElem?_append_left (by omega)]
   exact ⟨by omega, rfl⟩
theorem up_set (l : List (Int × Us)) (k : Nat) (hk : k < l.length) (e : (Int × Us)) : (l.take (k + 1) ++ l.drop k).set k e = insL l k e := by
 have h1 : (l.take (k + 1)).length = k + 1 := by rw [List.length_take]; omega
 rw [List.set_append_left _ _ (by omega)]
 have : (l.take (k + 1)).set k e = l.take k ++ [e] := by
  rw [List.take_succ_eq_append_getElem hk, List.set_append_right _ _ (by rw [List.length_take]; omega), List.length_take, Nat.min_eq_left (by omega), Nat.sub_self, List.set_cons_zero]
 rw [this, insL, List.append_assoc]; rfl
theorem run_append_make {P : Program} (w : World) (t tn ty e : TypeId) (i : TypeInfo) (z : Value) (size bytes : Nat) (k kn : IntKind) (ht : P.underlying t = some (.slice e)) (htn : P.underlying tn = some (.int kn)) (hi : P.info? e = some i) (hz : i.zero = some z) (hsize : i.size = size) (hby : i.bytes = bytes) (hzs : z.cells.size = size) (hsz : 0 < size)
 (b : Addr) (n cap m : Nat) (olds : List Value) (hlo : olds.length = n * size) (holds : ∀ j v, olds[j]? = some v → w.cell? (b.add j) = some v) (hm : 0 < m)
 (hg : cap < n + m) (h63 : n + m ≤ maxLen) (hbytes : (n + m) * bytes ≤ 140737488355328) :
 ∃ g' cap' w', (Builtin.append_ #[t, tn] ty #[.slice (some b) n cap, .int k m]).run P w = .ok (.slice (some ⟨g', 0, none⟩) (n + m) cap') w' ∧ w'.ownsRow w.heap.size e size (.slice (some ⟨g', 0, none⟩) (n + m) cap') (n + m) (olds ++ (Builtin.zeroCells z.cells m).toList) ∧ w.grownBy w' none := by
 subst hsize
 subst hby
 have hn : ¬ (n + m ≤ cap) := by omega
 have hm63 : (m : Int) ≤ 9223372036854775807 := by simp only [maxLen] at h63; omega
 have hw : IntKind.i64.wrap (m : Int) = m := by rw [IntKind.wrap_i64]; omega
 have h63' : ¬ (9223372036854775807 < ((n : Int) + (m : Int))) := by simp only [maxLen] at h63; omega
 have hfit := growslice_fits hg hbytes
 have h48' : ¬ (281474976710656 < Builtin.nextslicecap (n + m) cap * i.bytes) := by omega
 have hmb : m * i.bytes ≤ (n + m) * i.bytes := Nat.mul_le_mul_right _ (by omega)
 have h48i : ¬ (281474976710656 < (m : Int) * (i.bytes : Int)) := by
  rw [← Int.natCast_mul]
  omega
 have hm0 : ¬ (m * i.size = 0) := by
  have := Nat.mul_pos hm hsz
  omega
 have hm0' : ¬ (m = 0) := by omega
 have hs0' : ¬ (i.size = 0) := by omega
 have hneg : ¬ ((m : Int) < 0) := by omega
 have hfo := run_firstCells_some (P := P) w.drew i.size n b n cap olds hlo (by simpa using holds)
 have hge := grownCap_ge w (n + m) cap e
 have hcm : grownCap w (n + m) cap e ≤ maxLen := grownCap_le_maxLen w (n + m) cap e h63
 have hlen : (olds ++ (Builtin.zeroCells z.cells m).toList).length = (n + m) * i.size := by rw [List.length_append, hlo, Array.length_toList, size_zeroCells, hzs, Nat.add_mul]
 have hr : (Builtin.append_ #[t, tn] ty #[.slice (some b) n cap, .int k m]).run P w = .ok (.slice (some ⟨w.heap.size, 0, none⟩) (n + m) (grownCap w (n + m) cap e)) (w.drew.alloc (.cells (olds.toArray ++ Builtin.zeroCells z.cells m ++ Builtin.zeroCells z.cells (grownCap w (n + m) cap e - (n + m))) e)) := by
  simp [Builtin.append_, run_underlying ht, run_underlying htn, sizeOf, typeInfo, zeroValue, hi, hz, asInt, asIntOf, hw, hneg, hn, hm0, h63', h48', h48i, Question.forced, hfo, newRow, grownCap]
 refine ⟨_, _, _, hr, ⟨hlen, .inr ⟨w.heap.size, _, _, rfl, Nat.le_refl _, heap_alloc_new w.drew _, hge, hcm, ?_, ?_⟩⟩, ⟨rfl, rfl, rfl, by simp, fun j hj _ => Go.heap_alloc_old w.drew _ hj⟩⟩
 · simp only [Array.size_append, List.size_toArray, size_zeroCells, hzs, hlo, ← Nat.add_mul]
   congr 1
   omega
 · simp only [Array.toList_append, List.append_assoc]
   rw [← List.append_assoc, ← hlen]
   exact List.take_left
theorem wpList_append_make {P : Program} {w : World} {ops : Array Oper} {rest : List Oper} {o : Oper} {a : Act} {Q : Exit → Act → World → Prop} (hgd : o.guard = none) (s x : Operand) (t tn : TypeId)
 (ho : o.op = .call { callee := .builtin .append, args := #[s, x], argTypes := #[t, tn] }) (e : TypeId) (i : TypeInfo) (z : Value) (size bytes : Nat) (k kn : IntKind) (ht : P.underlying t = some (.slice e)) (htn : P.underlying tn = some (.int kn)) (hi : P.info? e = some i) (hz : i.zero = some z) (hsize : i.size = size) (hby : i.bytes = bytes) (hzs : z.cells.size = size) (hsz : 0 < size)
 {b : Addr} {n cap : Nat} {y : Int} (m q : Nat) (olds : List Value) (hs : a.eval s = .slice (some b) n cap) (hx : a.eval x = .int k y) (hy : y = (m : Int)) (hq : n + m = q) (hlo : olds.length = n * size) (holds : ∀ j v, olds[j]? = some v → w.cell? (b.add j) = some v) (hm : 0 < m)
 (hg : cap < q) (h63 : q ≤ maxLen) (hbytes : q * bytes ≤ 140737488355328)
 (h : ∀ g' cap' w', w'.ownsRow w.heap.size e size (.slice (some ⟨g', 0, none⟩) q cap') q (olds ++ (Builtin.zeroCells z.cells m).toList) → w.grownBy w' none → wpList P ops Q rest (a.put o.dst (.slice (some ⟨g', 0, none⟩) q cap')) w') : wpList P ops Q (o :: rest) a w := by
 subst hy
 subst hq
 obtain ⟨g', cap', w', hr, h1, h2⟩ := run_append_make (P := P) w t tn o.type e i z size bytes k kn ht htn hi hz hsize hby hzs hsz b n cap m olds hlo holds hm hg h63 hbytes
 exact Lib.wpList_append_run w hgd s x t tn ho _ _ hs hx _ _ hr (h g' cap' w' h1 h2)
theorem own_over {w : World} {base g n cap : Nat} {e : TypeId} {s : Nat} {xs : List Value} (h : w.ownsRow base e s (.slice (some ⟨g, 0, none⟩) n cap) n xs) (o : Nat) (vs : List Value) (ho : o + vs.length ≤ xs.length) :
 (w.setCells g o vs).ownsRow base e s (.slice (some ⟨g, 0, none⟩) n cap) n (xs.take o ++ (vs ++ xs.drop (o + vs.length))) := by
 obtain ⟨cur, hg, hc, hn, hm, hs, hl0, hr⟩ := own_open h
 have hns : n * s ≤ cap * s := Nat.mul_le_mul_right _ hn
 refine own_write h o vs (by omega) hn (by simp only [List.length_append, List.length_take, List.length_drop]; omega) (fun i hi => ?_)
 have hto : (xs.take o).length = o := by rw [List.length_take]; omega
 split
 · rw [List.getElem?_append_right (by omega), hto, List.getElem?_append_left (by omega)]
 · rename_i hno
   refine ⟨hi, ?_⟩
   by_cases hio : i < o
   · rw [List.getElem?_append_left (by omega), List.getElem?_take, if_pos hio]
   · rw [List.getElem?_append_right (by omega), hto, List.getElem?_append_right (by omega), List.getElem?_drop]
     congr 1
     omega
theorem grow_cells (X Z E D : List Value) (k r : Nat) (hX : X.length = k) (hE : E.length = 3) (hZ : Z.length = 3 + r) (hD : D.length = r) :
 ((X ++ Z).take k ++ (E ++ (X ++ Z).drop (k + E.length))).take (k + 3) ++ (D ++ ((X ++ Z).take k ++ (E ++ (X ++ Z).drop (k + E.length))).drop (k + 3 + D.length)) = X ++ (E ++ D) := by
 have h1 : (X ++ Z).take k = X := List.take_left' hX
 rw [h1]
 have h2 : (X ++ (E ++ (X ++ Z).drop (k + E.length))).take (k + 3) = X ++ E := by
  rw [← List.append_assoc]; exact List.take_left' (by simp [hX, hE])
 have h3 : (X ++ (E ++ (X ++ Z).drop (k + E.length))).drop (k + 3 + D.length) = [] := by
  rw [List.drop_eq_nil_iff]; simp only [List.length_append, List.length_drop]; omega
 rw [h2, h3, List.append_nil, List.append_assoc]
theorem insert_end (base : Nat) (A : Option Addr) (n c b : Nat) (l : List (Int × Us)) (e : (Int × Us)) (hl : n ≤ 1000) (w : World) (hown : w.ownsRow base 44 3 (.slice A n c) n (encs encU l)) (hb : w.heap[b]? = some (.cells (encU e).toArray 44 (0, 0))) (hbase : base ≤ w.heap.size) :
 Calls Tryz.prog 94 #[.slice A n c, .int .i64 n, .slice (some ⟨b, 0, none⟩) 1 1] w fun x w' => ∃ A' c', x = .returned (.slice A' (n + 1) c') ∧ w'.ownsRow base 44 3 (.slice A' (n + 1) c') (n + 1) (encs encU (l ++ [e])) ∧ Below base w w' := by
 obtain ⟨i0, hi, hz0, hz1, hz2⟩ := info_parts info_li
 have HNEWS := Lib.hid (fun j u hu => World.news_of_block hb j u hu)
 have H1 := Lib.hid (encU_one e)
 have HOWN := Lib.hid hown
 have n0 : (0 : Int) ≤ (n : Int) := by omega
 clear hown hb
 rcases A with _ | ⟨g, o, sp⟩
 · obtain ⟨rfl, rfl⟩ := own_none HOWN.out rfl
   go_enter Tryz.func94, Tryz.ntmps94
   go_wp2_with (at_builtin; refine wpList_append_own w rfl _ _ 33 rfl base 44 i0 _ 3 24 Tryz.underlying33 hi hz0 hz1 hz2 rfl (by decide) _ 0 (encs encU l) rfl HOWN.out ⟨b, 0, none⟩ 1 1 (encU e) rfl rfl HNEWS.out H1.out (by unfold maxLen; omega) (by omega) hbase ?_; intro v' w' hown' hg _; obtain ⟨A', c', rfl⟩ := own_form hown')
   go_ret
   exact ⟨A', c', rfl, by rw [encs_append, encs_one]; exact hown', (Below.refl base w).grown hg hbase (fun j hj => (HOWN.out.lt j hj).1)⟩
 · go_enter Tryz.func94, Tryz.ntmps94
   go_wp2_with (at_builtin; refine wpList_append_own w rfl _ _ 33 rfl base 44 i0 _ 3 24 Tryz.underlying33 hi hz0 hz1 hz2 rfl (by decide) _ n (encs encU l) rfl HOWN.out ⟨b, 0, none⟩ 1 1 (encU e) rfl rfl HNEWS.out H1.out (by unfold maxLen; omega) (by omega) hbase ?_; intro v' w' hown' hg _; obtain ⟨A', c', rfl⟩ := own_form hown')
   all_goals (go_ret; exact ⟨A', c', rfl, by rw [encs_append, encs_one]; exact hown', (Below.refl base w).grown hg hbase (fun j hj => (HOWN.out.lt j hj).1)⟩)
theorem sizeOf_el (w : World) : (Go.sizeOf 44).run Tryz.prog w = .ok 3 w := by kernel_rfl
theorem shape_of_row {w : World} {b : Nat} {cs : Array Value} {t : TypeId} {fr : Nat × Nat} (h : w.heap[b]? = some (.cells cs t fr)) : w.shape? b = some (t, cs.size) := by
 unfold World.shape?; rw [h]
theorem overlaps_any (w : World) (g b o la ca lb cb : Nat) (hne : b ≠ g) {csb csg : Array Value} {tb tg : TypeId} (hb : w.heap[b]? = some (.cells csb tb (0, 0))) (hg : w.heap[g]? = some (.cells csg tg (0, 0))) (hk : csg.size ≠ 0) :
 (callFunc 135 #[.slice (some ⟨b, 0, none⟩) la ca, .slice (some ⟨g, o, none⟩) lb cb]).run Tryz.prog w = .ok (.value (.bool false)) w := by
 rw [run_callFunc_extern Tryz.func135 (by kernel_rfl) (by kernel_rfl) (by kernel_rfl) (e := Extern.SlicesOverlaps.overlaps #[33, 33] #[4]) (by kernel_rfl),
  Lib.run_overlaps_apart w 33 4 44 Tryz.underlying33 3 sizeOf_el ⟨b, 0, none⟩ ⟨g, o, none⟩ la ca lb cb hne tb tg csb.size csg.size (shape_of_row hb) (shape_of_row hg) hk (frozen_of_row w b 0 csb tb hb) (frozen_of_row w b csb.size csb tb hb)]
 rfl
theorem insert_shift (base g n c k b : Nat) (l : List (Int × Us)) (e : (Int × Us)) (hk : k < n) (hl : n ≤ 1000) (hroom : n + 1 ≤ c) (hne : b ≠ g) (w : World) (hown : w.ownsRow base 44 3 (.slice (some ⟨g, 0, none⟩) n c) n (encs encU l)) (hb : w.heap[b]? = some (.cells (encU e).toArray 44 (0, 0))) :
 Calls Tryz.prog 94 #[.slice (some ⟨g, 0, none⟩) n c, .int .i64 k, .slice (some ⟨b, 0, none⟩) 1 1] w fun x w' => x = .returned (.slice (some ⟨g, 0, none⟩) (n + 1) c) ∧ w'.ownsRow base 44 3 (.slice (some ⟨g, 0, none⟩) (n + 1) c) (n + 1) (encs encU (insL l k e)) ∧ Below base w w' := by
 obtain ⟨i0, hi, hz0, hz1, hz2⟩ := info_parts info_li
 have hn := own_len hown
 obtain ⟨cur, hbg, hcur, hnc, hcm, hcs, hxl, hxs⟩ := own_open hown
 have hov : ∀ o lb cb, (callFunc 135 #[.slice (some ⟨b, 0, none⟩) 1 1, .slice (some ⟨g, o, none⟩) lb cb]).run Tryz.prog w = .ok (.value (.bool false)) w := fun o lb cb => overlaps_any w g b o 1 1 lb cb hne hb hcur (by rw [hcs]; omega)
 obtain ⟨D, hD⟩ : ∃ D, encs encU (l.drop k) = D := ⟨_, rfl⟩
 have hDl : D.length = (n - k) * 3 := by rw [← hD, encs_length, List.length_drop, hn]
 have hlen1 : (l.take (k + 1) ++ l.drop k).length = n + 1 := by rw [List.length_append, List.length_take, List.length_drop, hn]; omega
 obtain ⟨W1, hW1⟩ : ∃ W1, W1 = w.drew.setCells g ((k + 1) * 3) D := ⟨_, rfl⟩
 have hr1 : W1.ownsRow base 44 3 (.slice (some ⟨g, 0, none⟩) (n + 1) c) (n + 1) (encs encU (l.take (k + 1) ++ l.drop k)) := by
  rw [hW1]
  refine own_write (n' := n + 1) hown.drew ((k + 1) * 3) D (by omega) hroom (by rw [encs_length, hlen1]) (fun i hi' => ?_)
  have := up_cells l k (by omega) i (by omega)
  rw [hD, hn] at this
  exact this
 have hb1 : Below base w W1 := by rw [hW1]; exact below_setCells (Below.refl base w).drew g hbg D _
 have hbr : W1.heap[b]? = some (.cells (encU e).toArray 44 (0, 0)) := by rw [hW1, other_setCells D _ g _ b hne]; exact hb
 have hr2 : (W1.setCells g (k * 3) (encU e)).ownsRow base 44 3 (.slice (some ⟨g, 0, none⟩) (n + 1) c) (n + 1) (encs encU (insL l k e)) := by
  refine own_write (n' := n + 1) hr1 (k * 3) (encU e) (by simp [encU]; omega) hroom (by rw [encs_length, insL_len (by omega), hn]) (fun i hi' => ?_)
  have := encs_put (l.take (k + 1) ++ l.drop k) k e (by omega) i (by omega)
  rw [up_set l k (by omega), hlen1] at this
  exact this
 have hb2 : Below base w (W1.setCells g (k * 3) (encU e)) := below_setCells hb1 g hbg (encU e) _
 have hsrc : ∀ j u, D[j]? = some u → w.drew.cell? ((⟨g, k * 3, none⟩ : Addr).add j) = some u := fun j u hu => by
  rw [← hD] at hu
  have hj := (List.getElem?_eq_some_iff.1 hu).1
  rw [encs_length, List.length_drop] at hj
  have := hown.drew.cellAt (k * 3 + j) (by omega)
  rw [encs_split l k, List.getElem?_append_right (by rw [encs_length, List.length_take]; omega)] at this
  rw [show k * 3 + j - (encs encU (l.take k)).length = j by rw [encs_length, List.length_take]; omega, hu] at this
  have hadd : (⟨g, k * 3, none⟩ : Addr).add j = ⟨g, k * 3 + j, none⟩ := by unfold Addr.add; split <;> simp_all
  rw [hadd]
  exact this
 have h1D : ∀ u ∈ D, u.oneCell' = true := by rw [← hD]; exact encs_one' _
 have hsp1 : ∀ j, j < D.length → (w.drew.cell? ⟨g, (k + 1) * 3 + j, none⟩).isSome = true ∧ w.drew.frozen? ⟨g, (k + 1) * 3 + j, none⟩ = false := fun j hj => own_spare hown.drew _ (by omega)
 have hsp2 : ∀ j, j < (encU e).length → (W1.cell? ⟨g, k * 3 + j, none⟩).isSome = true ∧ W1.frozen? ⟨g, k * 3 + j, none⟩ = false := fun j hj => own_spare hr1 _ (by simp [encU] at hj; omega)
 have HW1 := Lib.hid hW1
 have HR2 := Lib.hid hr2
 have HB2 := Lib.hid hb2
 have HSRC := Lib.hid hsrc
 have H1D := Lib.hid h1D
 have HSP1 := Lib.hid hsp1
 have HSP2 := Lib.hid hsp2
 have HDL := Lib.hid hDl
 have HNEWS := Lib.hid (fun j u hu => World.news_of_block hbr j u hu)
 have H1 := Lib.hid (encU_one e)
 clear hW1 hr1 hr2 hb1 hb2 hsrc h1D hsp1 hsp2 hDl hbr hb hlen1 hD hxs hxl hcs hcur hown hn hcm
 have f0 : ¬ ((k : Int) = (n : Int)) := by omega
 have f1 : (k : Int) ≤ (n : Int) := by omega
 have f2 : (k : Int) ≤ (n : Int) + 1 := by omega
 have f3 : ¬ (c = k) := by omega
 have f4 : ¬ (c = k + 1) := by omega
 have f5 : (n : Int) + 1 ≤ (c : Int) := by omega
 have f6 : k ≤ n + 1 := by omega
 have f7 : k + 1 ≤ n + 1 := by omega
 have f8 : k ≤ n := by omega
 have f9 : ¬ ((c : Int) < (n : Int) + 1) := by omega
 have f10 : (0 : Int) ≤ (k : Int) + 1 := by omega
 have g1 : IntKind.i64.wrap ((k : Int) + 1) = (k : Int) + 1 := IntWalk.i64_in _ (by omega)
 have g2 : IntKind.i64.wrap ((n : Int) + 1) = (n : Int) + 1 := IntWalk.i64_in _ (by omega)
 go_enter Tryz.func94, Tryz.ntmps94
 go_wp2_with (simp only [hov])
 go_region_law (refine step_copyS rfl _ _ 33 33 rfl 44 i0 Tryz.underlying33 hi hz1 (b := g) (off := (k + 1) * 3) (dLen := n - k) (dCap := c - (k + 1)) (ad := ⟨g, k * 3, none⟩) (sLen := n + 1 - k) (sCap := c - k) (by simp [Act.eval, Act.put]) (by simp [Act.eval, Act.put]) (n - k) D (by simp only [Nat.min_def]; split <;> omega) HDL.out HSRC.out HSP1.out H1D.out ?_; intro w' hw'; have hwe := hw'.trans HW1.out.symm; clear hw'; subst hwe)
 go_wp2_with (refine wpList_copyS rfl _ _ 33 33 rfl 44 i0 Tryz.underlying33 hi hz1 (b := g) (off := k * 3) (dLen := n + 1 - k) (dCap := c - k) (ad := ⟨b, 0, none⟩) (sLen := 1) (sCap := 1) (by rfl) (by rfl) 1 (encU e) (by simp only [Nat.min_def]; split <;> omega) rfl HNEWS.out HSP2.out H1.out ?_; intro w2 hw2; have HW2 := Lib.hid hw2; clear hw2)
 go_ret
 rw [HW2.out]
 exact ⟨rfl, HR2.out, HB2.out⟩
theorem insert_grow (base g n c k b : Nat) (l : List (Int × Us)) (e : (Int × Us)) (hk : k < n) (hl : n ≤ 1000) (hroom : c < n + 1) (w : World) (hown : w.ownsRow base 44 3 (.slice (some ⟨g, 0, none⟩) n c) n (encs encU l)) (hb : w.heap[b]? = some (.cells (encU e).toArray 44 (0, 0))) (hbase : base ≤ w.heap.size) :
 Calls Tryz.prog 94 #[.slice (some ⟨g, 0, none⟩) n c, .int .i64 k, .slice (some ⟨b, 0, none⟩) 1 1] w fun x w' => ∃ g' c', x = .returned (.slice (some ⟨g', 0, none⟩) (n + 1) c') ∧ w'.ownsRow base 44 3 (.slice (some ⟨g', 0, none⟩) (n + 1) c') (n + 1) (encs encU (insL l k e)) ∧ Below base w w' := by
 obtain ⟨i0, hi, hz0, hz1, hz2⟩ := info_parts info_li
 have hn := own_len hown
 obtain ⟨cur, hbg, hcur, hnc, hcm, hcs, hxl, hxs⟩ := own_open hown
 have hglt : g < w.heap.size := by
  rcases Nat.lt_or_ge g w.heap.size with h | h
  · exact h
  · rw [Array.getElem?_eq_none h] at hcur; cases hcur
 have hblt : b < w.heap.size := by
  rcases Nat.lt_or_ge b w.heap.size with h | h
  · exact h
  · rw [Array.getElem?_eq_none h] at hb; cases hb
 obtain ⟨D, hD⟩ : ∃ D, encs encU (l.drop k) = D := ⟨_, rfl⟩
 have hDl : D.length = (n - k) * 3 := by rw [← hD, encs_length, List.length_drop, hn]
 obtain ⟨X, hX⟩ : ∃ X, encs encU (l.take k) = X := ⟨_, rfl⟩
 have hXl : X.length = k * 3 := by rw [← hX, encs_length, List.length_take, hn]; omega
 have hins : X ++ (encU e ++ D) = encs encU (insL l k e) := by rw [insL, encs_append, hX, ← hD]; rfl
 have hXc : ∀ j v, X[j]? = some v → w.cell? ((⟨g, 0, none⟩ : Addr).add j) = some v := fun j u hu => by
  have hj := (List.getElem?_eq_some_iff.1 hu).1
  have := hown.cellAt j (by omega)
  rw [encs_split l k, hX, List.getElem?_append_left (by omega), hu] at this
  have hadd : (⟨g, 0, none⟩ : Addr).add j = ⟨g, j, none⟩ := by unfold Addr.add; split <;> simp_all
  rw [hadd]
  exact this
 have hsrc : ∀ (W : World), W.heap[g]? = w.heap[g]? → ∀ j u, D[j]? = some u → W.cell? ((⟨g, k * 3, none⟩ : Addr).add j) = some u := fun W hW j u hu => by
  rw [← hD] at hu
  have hj := (List.getElem?_eq_some_iff.1 hu).1
  rw [encs_length, List.length_drop] at hj
  have := hown.cellAt (k * 3 + j) (by omega)
  rw [encs_split l k, List.getElem?_append_right (by rw [encs_length, List.length_take]; omega)] at this
  rw [show k * 3 + j - (encs encU (l.take k)).length = j by rw [encs_length, List.length_take]; omega, hu] at this
  have hadd : (⟨g, k * 3, none⟩ : Addr).add j = ⟨g, k * 3 + j, none⟩ := by unfold Addr.add; split <;> simp_all
  rw [hadd, World.cell?_of_block (w := w) (w' := W) hW]
  exact this
 have h1D : ∀ u ∈ D, u.oneCell' = true := by rw [← hD]; exact encs_one' _
 have HSRC := Lib.hid hsrc
 have HXC := Lib.hid hXc
 have HXL := Lib.hid hXl
 have HDL := Lib.hid hDl
 have H1D := Lib.hid h1D
 have HINS := Lib.hid hins
 have HB := Lib.hid hb
 have H1 := Lib.hid (encU_one e)
 clear hsrc hXc hXl hDl h1D hins hb hX hD hxs hxl hcs hcur hown hn hcm
 have f0 : ¬ ((k : Int) = (n : Int)) := by omega
 have f1 : (k : Int) ≤ (n : Int) := by omega
 have f1' : (k : Int) ≤ (c : Int) := by omega
 have f2 : (k : Int) ≤ (n : Int) + 1 := by omega
 have f3 : ¬ (c = k) := by omega
 have f6 : k ≤ n + 1 := by omega
 have f7 : k + 1 ≤ n + 1 := by omega
 have f8 : k ≤ n := by omega
 have f9 : ((c : Int) < (n : Int) + 1) := by omega
 have f10 : (0 : Int) ≤ (k : Int) + 1 := by omega
 have g1 : IntKind.i64.wrap ((k : Int) + 1) = (k : Int) + 1 := IntWalk.i64_in _ (by omega)
 have g2 : IntKind.i64.wrap ((n : Int) + 1) = (n : Int) + 1 := IntWalk.i64_in _ (by omega)
 have g3 : IntKind.i64.wrap ((n : Int) + 1 - (k : Int)) = ((n + 1 - k : Nat) : Int) := by rw [IntWalk.i64_in _ (by omega)]; omega
 go_enter Tryz.func94, Tryz.ntmps94
 go_wp2_with (first
  | (at_builtin; refine wpList_append_make rfl _ _ 33 3 rfl 44 i0 _ 3 24 .i64 .i64 Tryz.underlying33 Tryz.underlying3 hi hz0 hz1 hz2 rfl (by decide) (b := ⟨g, 0, none⟩) (n := k) (cap := c) (n + 1 - k) (n + 1) X (by rfl) (by rfl) (by first | rfl | omega) (by omega) HXL.out HXC.out (by omega) (by omega) (by unfold maxLen; omega) (by omega) ?_; intro g' c' w1 hr1 hg1; obtain ⟨_, hbg', _, hnc', _, _, hzl, _⟩ := own_open hr1; have hc1 : ¬ (c' = k) := (by omega); have hc2 : ¬ (c' = k + 1) := (by omega); have HR1 := Lib.hid hr1; have HG1 := Lib.hid hg1; have HB1 := Lib.hid ((hg1.block b hblt (by simp)).trans HB.out); have HZL := Lib.hid hzl; clear hr1 hg1 hzl)
  | (refine wpList_copyS rfl _ _ 33 33 rfl 44 i0 Tryz.underlying33 hi hz1 (b := g') (off := k * 3) (dLen := n + 1 - k) (dCap := c' - k) (ad := ⟨b, 0, none⟩) (sLen := 1) (sCap := 1) (by rfl) (by rfl) 1 (encU e) (by simp only [Nat.min_def]; split <;> omega) rfl (fun j u hu => World.news_of_block HB1.out j u hu) (fun j hj => own_spare HR1.out _ (by simp [encU] at hj; omega)) H1.out ?_; intro w2 hw2; have HW2 := Lib.hid hw2; clear hw2))
 have hne' : g ≠ g' := by omega
 have hz := HZL.out
 have hx0 := HXL.out
 have hd0 := HDL.out
 have hE : (encU e).length = 3 := rfl
 have hr2 := own_over HR1.out (k * 3) (encU e) (by omega)
 rw [← HW2.out] at hr2
 have hg2 : w2.heap[g]? = w.heap[g]? := by
  rw [HW2.out, other_setCells (encU e) w1 g' _ g hne']
  exact HG1.out.block g hglt (by simp)
 have hb2 : Below base w w2 := by
  rw [HW2.out]
  exact below_setCells ((Below.refl base w).grown HG1.out hbase (fun _ h => by cases h)) g' (by omega) (encU e) _
 obtain ⟨Z, hZ⟩ : ∃ Z, ((Builtin.zeroCells (Value.agg #[.int .i64 0, .int .i64 0, .int .i64 0]).cells (n + 1 - k)).toList) = Z := ⟨_, rfl⟩
 rw [hZ] at hr2
 have hzz : Z.length = 3 + D.length := by
  have := hz
  rw [hZ, List.length_append] at this
  omega
 have hr3 := own_over hr2.drew ((k + 1) * 3) D (by simp only [List.length_append, List.length_take, List.length_drop]; omega)
 rw [show (k + 1) * 3 = k * 3 + 3 by omega, grow_cells X Z (encU e) D (k * 3) D.length hx0 rfl hzz rfl, HINS.out] at hr3
 have hb3 := below_setCells hb2.drew g' (show base ≤ g' by omega) D ((k + 1) * 3)
 rw [show (k + 1) * 3 = k * 3 + 3 by omega] at hb3
 have HR3 := Lib.hid hr3
 have HB3 := Lib.hid hb3
 have HS2 := Lib.hid (fun j hj => own_spare hr2.drew ((k + 1) * 3 + j) hj)
 have HG2 := Lib.hid hg2
 clear hr2 hr3 hb2 hb3 hg2 hz hx0 hd0 hE hzz hZ
 first | (go_region_law (refine step_copyS rfl _ _ 33 33 rfl 44 i0 Tryz.underlying33 hi hz1 (b := g') (off := (k + 1) * 3) (dLen := n - k) (dCap := c' - (k + 1)) (ad := ⟨g, k * 3, none⟩) (sLen := n - k) (sCap := c - k) (by simp [Act.eval, Act.put]) (by simp [Act.eval, Act.put]) (n - k) D (by simp only [Nat.min_def]; split <;> omega) HDL.out (HSRC.out _ HG2.out) (fun j hj => HS2.out j (by rw [HDL.out] at hj; omega)) H1D.out ?_; intro w3 hw3; have HW3 := Lib.hid hw3; clear hw3)) | fail
 go_wp2
 go_ret
 rw [show (k + 1) * 3 = k * 3 + 3 by omega] at HW3
 refine ⟨g', c', rfl, ?_, ?_⟩
 · rw [HW3.out]; exact own_mono HR3.out hbase
 · rw [HW3.out]; exact HB3.out
theorem insert_any (base : Nat) (A : Option Addr) (n c k b : Nat) (l : List (Int × Us)) (e : (Int × Us)) (hk : k ≤ n) (hl : n ≤ 1000) (hne : ∀ g, A = some ⟨g, 0, none⟩ → b ≠ g) (w : World) (hown : w.ownsRow base 44 3 (.slice A n c) n (encs encU l)) (hb : w.heap[b]? = some (.cells (encU e).toArray 44 (0, 0))) (hbase : base ≤ w.heap.size) :
 Calls Tryz.prog 94 #[.slice A n c, .int .i64 k, .slice (some ⟨b, 0, none⟩) 1 1] w fun x w' => ∃ A' c', x = .returned (.slice A' (n + 1) c') ∧ w'.ownsRow base 44 3 (.slice A' (n + 1) c') (n + 1) (encs encU (insL l k e)) ∧ Below base w w' := by
 rcases Nat.lt_or_ge k n with hlt | hge
 · obtain ⟨g, cap, hv, _, _⟩ := hown.form (by omega)
   obtain ⟨rfl, rfl⟩ : A = some ⟨g, 0, none⟩ ∧ c = cap := by injection hv with h1 h2 h3; exact ⟨h1, h3⟩
   rcases Nat.lt_or_ge c (n + 1) with hc | hc
   · exact (insert_grow base g n c k b l e hlt hl hc w hown hb hbase).mono fun x w' ⟨g', c', h⟩ => ⟨_, c', h⟩
   · exact (insert_shift base g n c k b l e hlt hl hc (hne g rfl) w hown hb).mono fun x w' h => ⟨_, c, h⟩
 · obtain rfl : k = n := by omega
   have hln := own_len hown
   have := insert_end base A k c b l e hl w hown hb hbase
   rw [show l ++ [e] = insL l k e by rw [← hln, insL_end]] at this
   exact this
end Go.Proofs.YtemgejblnionlaaGreatDoor.Li
