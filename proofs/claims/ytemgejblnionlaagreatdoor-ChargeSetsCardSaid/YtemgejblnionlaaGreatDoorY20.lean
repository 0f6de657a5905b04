/-
  Texts Gz Ha Lf, put together by program.
-/
import Derived.Test.YtemgejblnionlaaGreatDoorY5
import Derived.Test.YtemgejblnionlaaGreatDoorY6
import Derived.Test.YtemgejblnionlaaGreatDoorY9
import Derived.Test.YtemgejblnionlaaGreatDoorY10
import Derived.Test.YtemgejblnionlaaGreatDoorY11
import Derived.Test.YtemgejblnionlaaGreatDoorY18
import Derived.Test.YtemgejblnionlaaGreatDoorY19
import Derived.Laws.StructEq
namespace Go.Proofs.YtemgejblnionlaaGreatDoor
open Go.RowKit
set_option maxHeartbeats 4000000
set_option maxRecDepth 100000
def newD (owner : Int) : Tr := ⟨[⟨1, 1, if 0 ≤ owner ∧ owner ≤ 999 then owner else 0, [], [], [], 1, 0⟩], 2, []⟩
theorem new_any (owner : Int) (w : World) : Calls Tryz.prog 46 #[.int .i64 owner] w fun e w' => ∃ T : Th, e = .returned T.val ∧ T.ok w' ∧ T.t = newD owner ∧ (∀ P, T.In (Fresh P w)) ∧ Below w.heap.size w w' := by
 have hz3 : zT.size = 3 := rfl
 obtain ⟨x1, hwx1, hbx1, hlx1, hxx1⟩ := box_new w zT 31
 have HWx1 := Lib.hid hwx1
 have HB1 := Lib.hid hbx1
 have BR1 := Lib.hid hxx1
 have HZ1 := Lib.hid (show x1.heap.size = w.heap.size + 1 by rw [← hwx1]; simp)
 clear hwx1 hbx1 hlx1 hxx1
 go_enter Tryz.func46, Tryz.ntmps46
 go_upto_region 1 with fail
 rw [HWx1.out]
 have CS := Lib.hid (somebody_any owner x1)
 have key : ∀ o1 : Int, (if 0 ≤ owner ∧ owner ≤ 999 then owner else 0) = o1 →
  ∃ T : Th, T = (⟨some ⟨x1.heap.size, 0, none⟩, 1, 1, [⟨⟨1, 1, o1, [], [], [], 1, 0⟩, none, 0, 0, none, 0, 0, none, 0, 0⟩], 2, none, 0, 0, []⟩ : Th) ∧ T.ok ((x1.alloc (.cells #[.int .i64 1, .int .i64 1, .int .i64 o1, .slice none 0 0, .slice none 0 0, .slice none 0 0, .int .i64 1, .int .i64 0] 65)).setRow w.heap.size (Th.enc T).toArray) ∧ T.t = newD owner ∧ (∀ P, T.In (Fresh P w)) ∧ Below w.heap.size w ((x1.alloc (.cells #[.int .i64 1, .int .i64 1, .int .i64 o1, .slice none 0 0, .slice none 0 0, .slice none 0 0, .int .i64 1, .int .i64 0] 65)).setRow w.heap.size (Th.enc T).toArray) := fun o1 ho => by
  refine ⟨_, rfl, ?_, ?_, fun P => ?_, below_setRow (HB1.out.alloc HB1.out.size _) (Nat.le_refl _) _⟩
  · have hS := sv_new x1 (encs Nh.enc [⟨⟨1, 1, o1, [], [], [], 1, 0⟩, none, 0, 0, none, 0, 0, none, 0, 0⟩]) 1 8 65 rfl (by decide) (encs_cells Nh.enc_one _)
    refine ⟨hS.agree (P := fun g => g ≠ w.heap.size) (fun _ g o s e => by injection e with e; injection e with e; have := HZ1.out; omega) (fun g hg => setRow_other _ _ _ _ hg) (by simp), fun h hm => ?_, Sv.none_ _ _⟩
    rw [List.mem_singleton.1 hm]
    exact ⟨Sv.none_ _ _, Sv.none_ _ _, Sv.none_ _ _⟩
  · unfold newD; rw [ho]; rfl
  · refine ⟨fun _ g o s e => .inr (by injection e with e; injection e with e; have := HZ1.out; omega), fun h hm => ?_, plc_none _⟩
    rw [List.mem_singleton.1 hm]
    exact ⟨plc_none _, plc_none _, plc_none _⟩
 have KEY := Lib.hid key
 clear key
 by_cases hn : 0 ≤ owner ∧ owner ≤ 999
 · have hd : (decide (0 ≤ owner) && decide (owner ≤ 999)) = true := by simp [hn]
   obtain ⟨T, hT, hok, ht, hi, hb⟩ := KEY.out owner (if_pos hn)
   have H := Lib.hid (And.intro hok (And.intro ht (And.intro hi hb)))
   have HT := Lib.hid hT
   rw [hd] at CS
   clear hn hd hok ht hi hb hT
   go_upto_region 3 with (go_at_call 78; (with_reducible refine CS.out.mono ?_); rintro e w5 ⟨rfl, hww⟩; have hww2 := hww.symm; subst hww2)
   repeat (first | (go_big_may; (with_reducible refine store_tr rfl _ _ rfl w.heap.size rfl ⟨some ⟨x1.heap.size, 0, none⟩, 1, 1, [⟨⟨1, 1, owner, [], [], [], 1, 0⟩, none, 0, 0, none, 0, 0, none, 0, 0⟩], 2, none, 0, 0, []⟩ rfl zT ((heap_alloc_old x1 _ (block_lt BR1.out)).trans BR1.out) hz3 ?_)) | go_values | go_skip | go_guarded | go_step | go_upon | dsimp only)
   rw [← HT.out]
   refine bodyPost_ret (v := T.val) (ret_tr rfl _ _ w.heap.size T zT rfl ((heap_alloc_old x1 _ (block_lt BR1.out)).trans BR1.out)) rfl ?_
   exact ⟨T, rfl, H.out⟩
 · have hd : (decide (0 ≤ owner) && decide (owner ≤ 999)) = false := by simp only [Bool.and_eq_false_iff, decide_eq_false_iff_not]; omega
   obtain ⟨T, hT, hok, ht, hi, hb⟩ := KEY.out 0 (if_neg hn)
   have H := Lib.hid (And.intro hok (And.intro ht (And.intro hi hb)))
   have HT := Lib.hid hT
   rw [hd] at CS
   clear hn hd hok ht hi hb hT
   go_upto_region 3 with (go_at_call 78; (with_reducible refine CS.out.mono ?_); rintro e w5 ⟨rfl, hww⟩; have hww2 := hww.symm; subst hww2)
   repeat (first | (go_big_may; (with_reducible refine store_tr rfl _ _ rfl w.heap.size rfl ⟨some ⟨x1.heap.size, 0, none⟩, 1, 1, [⟨⟨1, 1, 0, [], [], [], 1, 0⟩, none, 0, 0, none, 0, 0, none, 0, 0⟩], 2, none, 0, 0, []⟩ rfl zT ((heap_alloc_old x1 _ (block_lt BR1.out)).trans BR1.out) hz3 ?_)) | go_values | go_skip | go_guarded | go_step | go_upon | dsimp only)
   rw [← HT.out]
   refine bodyPost_ret (v := T.val) (ret_tr rfl _ _ w.heap.size T zT rfl ((heap_alloc_old x1 _ (block_lt BR1.out)).trans BR1.out)) rfl ?_
   exact ⟨T, rfl, H.out⟩
end Go.Proofs.YtemgejblnionlaaGreatDoor
namespace Go.Proofs.YtemgejblnionlaaGreatDoor
open Go.RowKit
set_option maxHeartbeats 80000000
set_option maxRecDepth 100000
abbrev Xh.cells (x : Xh) : Array Value := x.cs
end Go.Proofs.YtemgejblnionlaaGreatDoor
namespace Go.Proofs.YtemgejblnionlaaGreatDoor
open Go.RowKit
set_option maxHeartbeats 4000000
set_option maxRecDepth 100000
theorem strs_enc (l : List (List UInt8)) : Nam.strs l = encs encS (l.map Nam.Pl.mk) := by
 induction l with
 | nil => rfl
 | cons x l ih => show Value.string (Nam.Pl.mk x) :: Nam.strs l = encS (Nam.Pl.mk x) ++ encs encS (l.map Nam.Pl.mk); rw [ih]; rfl
def partsX (p : ByteArray) : List ByteArray × Int := ((Nam.partsS p.data.toList).1.map Nam.Pl.mk, (Nam.partsS p.data.toList).2)
def belowX (p q : ByteArray) : Bool := Nam.Pl.belowB p.data.toList q.data.toList
def nameX (n : ByteArray) : Bool := Nam.Pl.vld n.data.toList
theorem partsS_ok {p : List UInt8} (h : (Nam.partsS p).2 = 0) : (Nam.partsS p).1 = Nam.Pl.cut p ∧ (Nam.Pl.cut p).length ≤ 8 ∧ ∀ x ∈ Nam.Pl.cut p, Nam.Pl.vld x = true := by
 unfold Nam.partsS at h ⊢
 split at h
 · rename_i hp
   rw [if_pos hp]
   unfold Nam.Pl.isPath at hp
   rw [Bool.and_eq_true, decide_eq_true_eq, List.all_eq_true] at hp
   exact ⟨rfl, hp.2, hp.1⟩
 · cases h
theorem partsS_len (p : List UInt8) : (Nam.partsS p).1.length ≤ 8 := by
 by_cases h : (Nam.partsS p).2 = 0
 · rw [(partsS_ok h).1]; exact (partsS_ok h).2.1
 · unfold Nam.partsS at h ⊢
   split
   · rename_i hp; rw [if_pos hp] at h; exact absurd rfl h
   · exact Nat.zero_le _
theorem names_good (p : ByteArray) (h : (partsX p).2 = 0) : (partsX p).1.length ≤ 8 ∧ ∀ x ∈ (partsX p).1, nameX x = true := by
 obtain ⟨h1, h2, h3⟩ := partsS_ok h
 refine ⟨by show ((Nam.partsS p.data.toList).1.map Nam.Pl.mk).length ≤ 8; rw [List.length_map, h1]; exact h2, fun x hx => ?_⟩
 obtain ⟨y, hy, rfl⟩ := List.mem_map.1 hx
 rw [h1] at hy
 exact h3 y hy
theorem mk_inj {x y : List UInt8} (h : Nam.Pl.mk x = Nam.Pl.mk y) : x = y := by
 have := congrArg (fun z : ByteArray => z.data.toList) h
 exact this
theorem map_prefix {a b : List (List UInt8)} : a.map Nam.Pl.mk <+: b.map Nam.Pl.mk ↔ a <+: b := by
 constructor
 · rintro ⟨c, hc⟩
   have h1 : a = b.take a.length := by
    refine List.ext_getElem? fun i => ?_
    by_cases hi : i < a.length
    · rw [List.getElem?_take, if_pos hi]
      have h2 : (b.map Nam.Pl.mk)[i]? = (a.map Nam.Pl.mk)[i]? := by rw [← hc, List.getElem?_append_left (by rw [List.length_map]; exact hi)]
      rw [List.getElem?_map, List.getElem?_map, List.getElem?_eq_getElem hi] at h2
      rw [List.getElem?_eq_getElem hi]
      cases hb : b[i]? with
      | none => rw [hb] at h2; cases h2
      | some y => rw [hb] at h2; simp only [Option.map_some, Option.some.injEq] at h2; rw [mk_inj h2]
    · rw [List.getElem?_eq_none (by omega), List.getElem?_eq_none (by rw [List.length_take]; omega)]
   rw [h1]
   exact List.take_prefix _ _
 · rintro ⟨c, rfl⟩
   exact ⟨c.map Nam.Pl.mk, by rw [List.map_append]⟩
theorem below_good (p q : ByteArray) (hp : (partsX p).2 = 0) (hq : (partsX q).2 = 0) : belowX p q = true ↔ (partsX q).1 <+: (partsX p).1 := by
 have h1 := (partsS_ok hp).1
 have h2 := (partsS_ok hq).1
 show _ ↔ (Nam.partsS q.data.toList).1.map Nam.Pl.mk <+: (Nam.partsS p.data.toList).1.map Nam.Pl.mk
 rw [map_prefix, h1, h2]
 unfold belowX
 rw [Nam.Pl.below_cut, List.isPrefixOf_iff_prefix]
theorem name_parts (p : ByteArray) (W : World) (hp : p.size < 4294967281) :
 Calls Tryz.prog 119 #[.string p] W fun e w' => ∃ A' m c', e = .returned (.tuple #[.slice A' m c', .int .i64 (partsX p).2]) ∧ Sv w' A' m c' 1 (encs encS (partsX p).1) ∧ m ≤ 8 ∧ Below W.heap.size W w' := by
 have hl := partsS_len p.data.toList
 have c1 := fun W => Nam.partsOf_any p hp W
 show Calls _ _ _ _ fun e w' => ∃ A' m c', e = .returned (.tuple #[.slice A' m c', .int .i64 (Nam.partsS p.data.toList).2]) ∧ Sv w' A' m c' 1 (encs encS ((Nam.partsS p.data.toList).1.map Nam.Pl.mk)) ∧ m ≤ 8 ∧ Below W.heap.size W w'
 rw [← strs_enc]
 obtain ⟨Z, hZ⟩ : ∃ Z, Nam.partsS p.data.toList = Z := ⟨_, rfl⟩
 rw [hZ] at hl c1
 rw [hZ]
 obtain ⟨zl, ze⟩ := Z
 simp only [] at hl c1 ⊢
 obtain ⟨m, hm⟩ : ∃ m, zl.length = m := ⟨_, rfl⟩
 rw [hm] at hl c1
 have C1 := Lib.hid c1
 clear hZ hm c1
 go_enter Tryz.func119, Tryz.ntmps119
 go_upto_region 2 with (go_at_call 165; (with_reducible refine (C1.out _).mono ?_); rintro e w1 ⟨A1, c1, rfl, ho1, hb1⟩; have HO1 := Lib.hid ho1; have HB1 := Lib.hid hb1; clear ho1 hb1)
 have HXB := Lib.hid ((Below.refl w1.heap.size w1).alloc (Nat.le_refl _) (.cells #[.slice A1 m c1, .int .i64 ze] 213))
 go_quiet (fail)
 go_wp2
 refine bodyPost_ret (results_tmp2 rfl _ _ _) rfl ?_
 have HXC := Lib.hid (HXB.out.trans ((below_drewN _ nq).mono HXB.out.size))
 exact ⟨A1, m, c1, rfl, HO1.out.below HXC.out, hl, HB1.out.trans (HXC.out.mono HB1.out.size)⟩
def LowX : Low where
 allows := allowsB
 aclOk := Acl.Ap.validB
 child := childB
 size := Ext.sizeW
 put := Ext.putW
 cut := Ext.cutW
 part := Ext.partW
 bodyOk := Ext.Ex.validL
 nameOk := nameX
 parts := partsX
 below := belowX
theorem lowR0 : LowR0 LowX := ⟨acl_allows, acl_child, Ext.ext_size, Ext.ext_put, Ext.ext_cut, name_parts⟩
theorem lowG : LowG LowX where
 acl0 := rfl
 body0 := rfl
 child := acl_good_child
 ruled := acl_good_ruled
 put := fun _ _ _ _ h hz => Ext.putW_good h hz
 cut := fun _ _ h hz => Ext.cutW_good h hz
 parts := names_good
 below := below_good
end Go.Proofs.YtemgejblnionlaaGreatDoor
