/-
  Texts Lg Ci Cj Cq Cr, put together by program.
-/
import Derived.Test.YtemgejblnionlaaGreatDoorY0
import Derived.Test.YtemgejblnionlaaGreatDoorY9
import Derived.Test.YtemgejblnionlaaGreatDoorY12
import Derived.Test.YtemgejblnionlaaGreatDoorY17
import Derived.Test.YtemgejblnionlaaGreatDoorY20
import Derived.Test.YtemgejblnionlaaGreatDoorY21
import Derived.Test.YtemgejblnionlaaGreatDoorY23
import Derived.Lib.MinMax
namespace Go.Proofs.YtemgejblnionlaaGreatDoor.Ext
open Go.RowKit Ex
set_option maxHeartbeats 1600000
set_option maxRecDepth 100000
theorem ints_one (xs : List Int) {j : Nat} {u : Value} (h : (ints xs)[j]? = some u) : ∃ x, xs[j]? = some x ∧ u = .int .i64 x := by
 unfold ints at h
 rw [List.getElem?_map] at h
 cases hx : xs[j]? with
 | none => rw [hx] at h; cases h
 | some x => rw [hx] at h; simp only [Option.map_some, Option.some.injEq] at h; exact ⟨x, rfl, h.symm⟩
theorem sv_of_sp {lo : Nat} {w : World} {A : Option Addr} {n c : Nat} {l : List Pc} (h : Sp lo w A n c l) : Sv w A n c 3 (Go.Proofs.YtemgejblnionlaaGreatDoor.encs encP l) ∧ plc (lo ≤ ·) A n := by
 constructor
 · rw [encP_ints]
   refine ⟨by rw [ints_length]; exact h.len, h.cap, h.max, h.nil, ints_cells _, fun hne => ?_⟩
   obtain ⟨g, o, h1, -, h3, h4⟩ := h.cells (fun e => hne (by rw [e]; rfl))
   refine ⟨g, o, h1, h3, fun j u hu => ?_⟩
   obtain ⟨x, hx, rfl⟩ := ints_one _ hu
   exact h4 j x hx
 · intro hn g o s e
   have hl := h.len
   obtain ⟨g', o', h1, h2, -⟩ := h.cells (fun e => by rw [e] at hl; simp only [List.length_nil] at hl; omega)
   rw [h1] at e
   injection e with e
   injection e with e
   exact e ▸ h2
theorem exSize_l (A : Option Addr) (n c : Nat) (l : List Pc) (W : World) (h : Sv W A n c 3 (Go.Proofs.YtemgejblnionlaaGreatDoor.encs encP l)) (hv : validL l = true) :
 Calls Tryz.prog 52 #[.slice A n c] W fun e w' => e = .returned (.int .i64 (sizeW l)) ∧ Below W.heap.size W w' := by
 obtain ⟨h1, h2⟩ := Pcs.of_sv h
 rw [sizeW_eq hv]
 exact (bod h1 hv).sizeC A c h2 W (Below.refl _ _)
theorem putB_eq {b : List Pc} (h : ∀ p ∈ b, rightB p = true) {off id k : Int} (hid : 1 ≤ id) (h0 : 0 ≤ off) (hk : 1 ≤ k) :
 (eachL b).take off.toNat ++ List.replicate (off.toNat - (eachL b).length) (0, 0) ++ eachP ⟨id, 0, k⟩ ++ (eachL b).drop (off + k).toNat = putB (eachL b) off id k := by
 have hl := eachL_len (l := b) (fun p hp => by have := (right_iff.1 (h p hp)).1; omega)
 rw [← put_each h hid h0 hk, eachL_append, eachL_append, eachL_append, within_each0 h, within_each0 h, hole_each, eachL_one, List.take_of_length_le (i := (sizeL b).toNat) (by omega), show (off - sizeL b).toNat = off.toNat - (eachL b).length by omega]
 simp [List.append_assoc]
theorem cutB_eq (bs : List (Int × Int)) (k : Int) : bs.take k.toNat ++ List.replicate (k.toNat - bs.length) (0, 0) = cutB bs k := by
 refine List.ext_getElem? fun i => ?_
 unfold cutB
 rw [List.getElem?_map]
 by_cases hi : i < k.toNat
 · rw [List.getElem?_range hi]
   by_cases hj : i < bs.length
   · rw [List.getElem?_append_left (by rw [List.length_take]; omega), List.getElem?_take, if_pos hi, List.getElem?_eq_getElem hj]
     simp [hj]
   · rw [List.getElem?_append_right (by rw [List.length_take]; omega), List.getElem?_replicate, List.length_take, if_pos (by omega)]
     simp [hj]
 · rw [List.getElem?_eq_none (by simp; omega), List.getElem?_eq_none (by simp; omega)]
   rfl
theorem exPut_l (A : Option Addr) (n c : Nat) (l : List Pc) (off id k : Int) (W : World) (h : Sv W A n c 3 (Go.Proofs.YtemgejblnionlaaGreatDoor.encs encP l)) (hv : validL l = true) (h1 : (Lit.int .i64 off).wf = true) (h3 : (Lit.int .i64 k).wf = true) :
 Calls Tryz.prog 194 #[.slice A n c, .int .i64 off, .int .i64 id, .int .i64 k] W fun e w' => ∃ A' m c', e = .returned (.tuple #[.slice A' m c', .int .i64 (putW l off id k).2]) ∧ ((putW l off id k).2 = 0 → Sv w' A' m c' 3 (Go.Proofs.YtemgejblnionlaaGreatDoor.encs encP (putW l off id k).1) ∧ plc (W.heap.size ≤ ·) A' m) ∧ Below W.heap.size W w' := by
 obtain ⟨hn, hc⟩ := Pcs.of_sv h
 have hB := bod hn hv
 have o1 := i64_wf h1
 have o3 := i64_wf h3
 by_cases c1 : 1 ≤ id ∧ id < 4096 ∧ 0 ≤ off ∧ 1 ≤ k
 · obtain ⟨d1, d2, d3, d4⟩ := c1
   by_cases c2 : off + k ≤ 1048576
   · obtain ⟨e1, e2, e3⟩ := putW_ok hv ⟨d1, d2⟩ d3 d4 c2
     refine (exPutYes_any A n c l hB W hc off id k d1 d2 d3 d4 c2).mono ?_
     rintro e w' ⟨A', m, c', r, rfl, g1, g2, g3, g4⟩
     have hr : r = normW (putO l off id k) := form_eq (valid_iff.1 g2).1 (valid_iff.1 e2).1 (g3.trans ((putB_eq hB.right d1 d3 d4).symm.trans e3.symm))
     rw [e1]
     subst hr
     exact ⟨A', m, c', rfl, fun _ => sv_of_sp g1, g4⟩
   · have e1 : putW l off id k = ([], 2) := by unfold putW; rw [if_neg (by rw [hv]; decide), if_neg (by omega), if_pos (by omega)]
     refine (exPutBig_any A n c l hB W hc off id k d1 d2 d3 d4 (by omega) o3.2).mono ?_
     rintro e w' ⟨A', c', rfl, g4⟩
     rw [e1]
     exact ⟨A', 0, c', rfl, fun h0 => (by cases h0), g4⟩
 · have e1 : putW l off id k = ([], 1) := by unfold putW; rw [if_neg (by rw [hv]; decide), if_pos (by omega)]
   refine (exPutArg_any A n c l hB W hc off id k c1).mono ?_
   rintro e w' ⟨A', c', rfl, g4⟩
   rw [e1]
   exact ⟨A', 0, c', rfl, fun h0 => (by cases h0), g4⟩
theorem exCut_l (A : Option Addr) (n c : Nat) (l : List Pc) (k : Int) (W : World) (h : Sv W A n c 3 (Go.Proofs.YtemgejblnionlaaGreatDoor.encs encP l)) (hv : validL l = true) :
 Calls Tryz.prog 196 #[.slice A n c, .int .i64 k] W fun e w' => ∃ A' m c', e = .returned (.tuple #[.slice A' m c', .int .i64 (cutW l k).2]) ∧ ((cutW l k).2 = 0 → Sv w' A' m c' 3 (Go.Proofs.YtemgejblnionlaaGreatDoor.encs encP (cutW l k).1) ∧ plc (W.heap.size ≤ ·) A' m) ∧ Below W.heap.size W w' := by
 obtain ⟨hn, hc⟩ := Pcs.of_sv h
 have hB := bod hn hv
 by_cases c1 : k < 0
 · have e1 : cutW l k = ([], 1) := by unfold cutW; rw [if_neg (by rw [hv]; decide), if_pos c1]
   refine (exCutArg_any A n c l hB W hc k c1).mono ?_
   rintro e w' ⟨A', c', rfl, g4⟩
   rw [e1]
   exact ⟨A', 0, c', rfl, fun h0 => (by cases h0), g4⟩
 · by_cases c2 : 1048576 < k
   · have e1 : cutW l k = ([], 2) := by unfold cutW; rw [if_neg (by rw [hv]; decide), if_neg c1, if_pos c2]
     refine (exCutBig_any A n c l hB W hc k c2).mono ?_
     rintro e w' ⟨A', c', rfl, g4⟩
     rw [e1]
     exact ⟨A', 0, c', rfl, fun h0 => (by cases h0), g4⟩
   · obtain ⟨r, e1, e2, e3⟩ := cutW_ok hv (k := k) (by omega) (by omega)
     refine (exCutYes_any A n c l hB W hc k (by omega) (by omega)).mono ?_
     rintro e w' ⟨A', m, c', r', rfl, g1, g2, g3, g4⟩
     have hr : r' = r := form_eq (valid_iff.1 g2).1 (valid_iff.1 e2).1 (g3.trans ((cutB_eq _ _).symm.trans e3.symm))
     rw [e1]
     subst hr
     exact ⟨A', m, c', rfl, fun _ => sv_of_sp g1, g4⟩
end Go.Proofs.YtemgejblnionlaaGreatDoor.Ext
namespace Go.Proofs.YtemgejblnionlaaGreatDoor
open Go.RowKit
set_option maxHeartbeats 1600000
set_option maxRecDepth 100000
theorem nameParts_l (p : ByteArray) (W : World) (hE : Nam.Env W) (hp : p.size < 4294967281) :
 Calls Tryz.prog 245 #[.string p] W fun e w' => ∃ A' m c', e = .returned (.tuple #[.slice A' m c', .int .i64 (partsX p).2]) ∧ ((partsX p).2 = 0 → Sv w' A' m c' 1 (encs encS (partsX p).1)) ∧ m ≤ 100 ∧ Below W.heap.size W w' := by
 refine (Nam.parts_any p hp W hE).mono ?_
 rintro e w' ⟨hb, ⟨hv, A, c, rfl, ho⟩ | ⟨hv, rfl⟩⟩
 · have h1 : Nam.partsS p.data.toList = (Nam.Pl.cut p.data.toList, 0) := by unfold Nam.partsS; rw [if_pos hv]
   have h2 : partsX p = ((Nam.Pl.cut p.data.toList).map Nam.Pl.mk, 0) := by unfold partsX; rw [h1]
   have h3 := partsS_len p.data.toList
   rw [h1] at h3
   rw [h2]
   refine ⟨A, _, c, rfl, fun _ => ?_, by simp only [] at h3; omega, hb⟩
   rw [← strs_enc]
   exact Sv.own ho (Nam.strs_cells _)
 · have h1 : Nam.partsS p.data.toList = ([], 10) := by unfold Nam.partsS; rw [if_neg (by rw [hv]; decide)]
   have h2 : partsX p = ([], 10) := by unfold partsX; rw [h1]; rfl
   rw [h2]
   exact ⟨none, 0, 0, rfl, fun h0 => (by cases h0), by decide, hb⟩
theorem partsX_code (p : ByteArray) : (partsX p).2 = 0 ∨ (partsX p).2 = 10 := by
 unfold partsX Nam.partsS
 split
 · exact .inl rfl
 · exact .inr rfl
theorem aclAllows_l (A : Option Addr) (n c : Nat) (l : List Ac) (who owner right : Int) (W : World) (h : Sv W A n c 5 (encs encA l)) (hn : n ≤ 1000) (hr : (Lit.int .i64 right).wf = true) :
 Calls Tryz.prog 271 #[.slice A n c, .int .i64 who, .int .i64 owner, .int .i64 right] W fun e w' => e = .returned (.bool (allowsB l who owner right)) ∧ Below W.heap.size W w' := by
 have h1 := Acl.allows_any A n c l (aces_of_sv h).1 hn who owner right W (aces_of_sv h).2
 have h2 := Acl.allows_same (Acl.Ap.rightsV l who owner) right (Ext.i64_wf hr)
 unfold allowsB
 rw [h2]
 exact h1
theorem lowT : LowT LowX Nam.Env := ⟨fun _ _ h hb => h.below hb, fun A n c l who owner right W _ h hn hr => aclAllows_l A n c l who owner right W h hn hr, fun p W hE hp => nameParts_l p W hE hp, partsX_code⟩
theorem lowW : LowW LowX Nam.Env := ⟨lowT, fun A n c l W _ h hv => Ext.exSize_l A n c l W h hv, fun A n c l off id k W _ h hv h1 _ h3 => Ext.exPut_l A n c l off id k W h hv h1 h3, fun A n c l k W _ h hv _ => Ext.exCut_l A n c l k W h hv,
 fun l hv => by
  have h := Ext.size_bound (l := l) hv
  show 0 ≤ Ext.sizeW l ∧ Ext.sizeW l ≤ 1048576
  rw [Ext.sizeW_eq hv]
  exact ⟨h.1, h.2.1⟩⟩
end Go.Proofs.YtemgejblnionlaaGreatDoor
namespace Go.Proofs.YtemgejblnionlaaGreatDoor
open Go.RowKit Go.Maps
set_option maxHeartbeats 16000000
set_option maxRecDepth 100000
theorem and_low (n : Int) : bits BinOp.and IntKind.i64 n 4294967295 = n % 4294967296 := by
 have hb : IntKind.i64.bits = 64 := rfl
 unfold bits
 simp only [BitVec.toNat_and, BitVec.toNat_ofInt, hb]
 rw [show ((4294967295 : Int) % ((2 ^ 64 : Nat) : Int)).toNat = 2 ^ 32 - 1 from by decide, Nat.and_two_pow_sub_one_eq_mod, IntKind.wrap_i64]
 have h1 : (0 : Int) ≤ n % ((2 ^ 64 : Nat) : Int) := Int.emod_nonneg _ (by decide)
 have h2 : (((n % ((2 ^ 64 : Nat) : Int)).toNat % 2 ^ 32 : Nat) : Int) = n % 4294967296 := by
  rw [Int.natCast_emod, Int.toNat_of_nonneg h1]
  omega
 rw [h2]
 omega
abbrev tot2 (s : Int) : Array Value := #[.int .i64 (s / 4294967296), .int .i64 (s % 4294967296)]
theorem plus_lands (s n : Int) (w : World) (hs : -1237940039285380274899124224 ≤ s ∧ s ≤ 1237940039285380274899124224) (hn : -9223372036854775808 ≤ n ∧ n ≤ 9223372036854775807) :
 Calls Tryz.prog 56 #[.agg (tot2 s), .int .i64 n] w fun e w' => e = .returned (.agg (tot2 (s + n))) ∧ Below w.heap.size w w' := by
 have kk0 := Bxs.nil w
 obtain ⟨x1, hwx1, hzx1, kx1⟩ := kk0.new rfl (tot2 s) (tot2 s) 112
 obtain ⟨x2, hwx2, hzx2, kx2⟩ := kx1.new hzx1 zG zG 112
 have HW1 := Lib.hid hwx1
 have HW2 := Lib.hid hwx2
 have K2 := Lib.hid kx2
 clear kk0 hwx1 hwx2 hzx1 hzx2 kx1 kx2
 go_enter Tryz.func56, Tryz.ntmps56
 go_upto_region 1 with fail
 rw [HW1.out, HW2.out]
 have c1 := K2.out.cell 1 0 (.int .i64 (s / 4294967296)) rfl
 have c2 := K2.out.cell 1 1 (.int .i64 (s % 4294967296)) rfl
 go_upto_region 2 with fail
 rw [and_low]
 have e1 : wrap64 (s % 4294967296 + n % 4294967296) = s % 4294967296 + n % 4294967296 := by unfold wrap64; omega
 rw [e1]
 have e2 : wrap64 (s / 4294967296 + n / 4294967296) = s / 4294967296 + n / 4294967296 := by unfold wrap64; omega
 have e3 : wrap64 (s / 4294967296 + n / 4294967296 + (s % 4294967296 + n % 4294967296) / 4294967296) = s / 4294967296 + n / 4294967296 + (s % 4294967296 + n % 4294967296) / 4294967296 := by unfold wrap64; omega
 have HE := Lib.hid (show s / 4294967296 + n / 4294967296 + (s % 4294967296 + n % 4294967296) / 4294967296 = (s + n) / 4294967296 by omega)
 have e4 : bits BinOp.and IntKind.i64 (s % 4294967296 + n % 4294967296) 4294967295 = (s + n) % 4294967296 := by rw [and_low]; omega
 go_wp2_with (with_reducible refine wpList_store_row rfl 112 _ _ rfl (w.heap.size + 1) #[.int .i64 (s / 4294967296 + n / 4294967296 + (s % 4294967296 + n % 4294967296) / 4294967296), .int .i64 ((s + n) % 4294967296)] rfl rfl 112 zG (K2.out.at 0 rfl).out (by kernel_rfl) rfl (by simp [Value.oneCell']) ?_)
 rw [HE.out]
 have K4 := K2.out.row 0 rfl (tot2 (s + n))
 refine bodyPost_ret (results_cell_row rfl _ _ (w.heap.size + 1) 112 _ (0, 0) _ rfl (K4.at 0 rfl).out Tryz.underlying112 rfl (by kernel_rfl)) rfl ?_
 exact ⟨rfl, K4.low.out⟩
theorem exceeds_lands (s n : Int) (w : World) (hn : -9223372036854775808 ≤ n ∧ n ≤ 9223372036854775807) :
 Calls Tryz.prog 57 #[.agg (tot2 s), .int .i64 n] w fun e w' => e = .returned (.bool (decide (n < s))) ∧ Below w.heap.size w w' := by
 have kk0 := Bxs.nil w
 obtain ⟨x1, hwx1, hzx1, kx1⟩ := kk0.new rfl (tot2 s) (tot2 s) 112
 have HW1 := Lib.hid hwx1
 have K1 := Lib.hid kx1
 have CP := Lib.hid (show Calls Tryz.prog 56 #[.agg #[.int .i64 0, .int .i64 0], .int .i64 n] x1 _ from plus_lands 0 n x1 (by decide) hn)
 clear kk0 hwx1 hzx1 kx1
 rw [Int.zero_add] at CP
 obtain ⟨r, hr⟩ : ∃ r, decide (n < s) = r := ⟨_, rfl⟩
 rw [hr]
 have HR := Lib.hid hr
 clear hr
 go_enter Tryz.func57, Tryz.ntmps57
 go_upto_region 1 with fail
 rw [HW1.out]
 go_upto_region 2 with (first | (go_at_call 56; (with_reducible refine CP.out.mono ?_); rintro e w3 ⟨rfl, hb3⟩; have K3 := Lib.hid (K1.out.step hb3); clear hb3; obtain ⟨y1, hwy1, hzy1, ky1⟩ := K3.out.new rfl zG zG 112; have HY1 := Lib.hid hwy1; have KY1 := Lib.hid ky1; clear hwy1 hzy1 ky1) | rw [HY1.out] | (with_reducible refine wpList_store_row rfl 112 _ _ rfl w3.heap.size (tot2 n) rfl rfl 112 zG (KY1.out.at 0 rfl).out (by kernel_rfl) rfl (by simp [Value.oneCell']) ?_))
 have K4 := Lib.hid (KY1.out.row 0 rfl (tot2 n))
 clear KY1
 generalize y1.setRow w3.heap.size (tot2 n) = y2 at *
 have c1 : y2.cell? ⟨w.heap.size, 0, none⟩ = some (.int .i64 (s / 4294967296)) := K4.out.cell 1 0 _ rfl
 have c2 : y2.cell? ⟨w.heap.size, 1, none⟩ = some (.int .i64 (s % 4294967296)) := K4.out.cell 1 1 _ rfl
 have c3 : y2.cell? ⟨w3.heap.size, 0, none⟩ = some (.int .i64 (n / 4294967296)) := K4.out.cell 0 0 _ rfl
 have c4 : y2.cell? ⟨w3.heap.size, 1, none⟩ = some (.int .i64 (n % 4294967296)) := K4.out.cell 0 1 _ rfl
 obtain ⟨p, hp⟩ : ∃ p, s / 4294967296 = p := ⟨_, rfl⟩
 obtain ⟨q, hq⟩ : ∃ p, n / 4294967296 = p := ⟨_, rfl⟩
 obtain ⟨p2, hp2⟩ : ∃ p, s % 4294967296 = p := ⟨_, rfl⟩
 obtain ⟨q2, hq2⟩ : ∃ p, n % 4294967296 = p := ⟨_, rfl⟩
 rw [hp] at c1
 rw [hp2] at c2
 rw [hq] at c3
 rw [hq2] at c4
 have HS := Lib.hid (And.intro hp (And.intro hq (And.intro hp2 hq2)))
 clear hp hq hp2 hq2 hn
 by_cases h1 : q < p
 · have HQ := Lib.hid (show r = true from HR.out.symm.trans (decide_eq_true (by have := HS.out; omega)))
   have g1 : ¬ (p ≤ q) := by omega
   go_wp2
   go_ret
   exact ⟨by rw [HQ.out]; rfl, K4.out.low.out⟩
 · by_cases h2 : p = q
   · have e2 : (p == q) = true := by simp [h2]
     have h1' : ¬ (q < p) := h1
     by_cases h3 : q2 < p2
     · have HQ := Lib.hid (show r = true from HR.out.symm.trans (decide_eq_true (by have := HS.out; omega)))
       have g1 : ¬ (p2 ≤ q2) := by omega
       clear h1
       go_wp2
       go_ret
       exact ⟨by rw [HQ.out]; rfl, K4.out.low.out⟩
     · have HQ := Lib.hid (show r = false from HR.out.symm.trans (decide_eq_false (by have := HS.out; omega)))
       clear h1
       go_wp2
       go_ret
       exact ⟨by rw [HQ.out]; rfl, K4.out.low.out⟩
   · have e2 : (p == q) = false := by simp [h2]
     have HQ := Lib.hid (show r = false from HR.out.symm.trans (decide_eq_false (by have := HS.out; omega)))
     go_wp2
     go_ret
     exact ⟨by rw [HQ.out]; rfl, K4.out.low.out⟩
end Go.Proofs.YtemgejblnionlaaGreatDoor
namespace Go.Proofs.YtemgejblnionlaaGreatDoor
open Go.RowKit Go.Maps
set_option maxHeartbeats 16000000
set_option maxRecDepth 100000
abbrev In64 (n : Int) : Prop := -9223372036854775808 ≤ n ∧ n ≤ 9223372036854775807
abbrev UseIn (l : List (Int × Us)) : Prop := ∀ a ∈ l, In64 a.2.1 ∧ In64 a.2.2
def addO (x : Int) (s : Us) (a : Int × Us) : Us := if x = -1 ∨ x = a.1 then (s.1 + a.2.1, s.2 + a.2.2) else s
def sumO (x : Int) (l : List (Int × Us)) : Us := l.foldl (addO x) (0, 0)
theorem sumO_snoc (x : Int) (l : List (Int × Us)) (a : Int × Us) : sumO x (l ++ [a]) = addO x (sumO x l) a := by simp [sumO]
theorem sumO_le {x : Int} {l : List (Int × Us)} (h : UseIn l) (k : Nat) : -(9223372036854775808 * (k : Int)) ≤ (sumO x (l.take k)).1 ∧ (sumO x (l.take k)).1 ≤ 9223372036854775808 * k ∧ -(9223372036854775808 * (k : Int)) ≤ (sumO x (l.take k)).2 ∧ (sumO x (l.take k)).2 ≤ 9223372036854775808 * k := by
 induction k with
 | zero => simp [sumO]
 | succ k ih =>
   cases hk : l[k]? with
   | none =>
     have : l.take (k + 1) = l.take k := by rw [List.take_add_one, hk]; simp
     rw [this]
     omega
   | some a =>
     rw [takeU_snoc hk, sumO_snoc]
     have ha := h a (List.mem_of_getElem? hk)
     unfold addO
     split
     · dsimp only; omega
     · omega
def fitsL (l lim : List (Int × Us)) : Bool := lim.all fun x => decide ((sumO x.1 l).1 ≤ x.2.1) && decide ((sumO x.1 l).2 ≤ x.2.2)
theorem load_li {ops : Array Oper} {rest : List Oper} {o : Oper} {a : Act} {w : World} {Q : Exit → Act → World → Prop} (hgd : o.guard = none) (x : Operand) (ho : o.op = .load 44 x)
 (b k : Nat) (hx : a.eval x = .pointer (some ⟨b, k, none⟩)) (u : Int × Us) (hc : w.rangeAt b k (encU u)) (hr : wpList Tryz.prog ops Q rest (a.put o.dst (.agg (encU u).toArray)) w) : wpList Tryz.prog ops Q (o :: rest) a w :=
 wpList_load_mid hgd 44 x ho b k hx (encU u) _ hc Tryz.underlying44 rfl (by kernel_rfl) hr
theorem store_li {ops : Array Oper} {rest : List Oper} {o : Oper} {a : Act} {w : World} {Q : Exit → Act → World → Prop} (hgd : o.guard = none) (x y : Operand) (ho : o.op = .store 44 x y)
 (g : Nat) (hx : a.eval x = .pointer (some ⟨g, 0, none⟩)) (u : Int × Us) (hy : a.eval y = .agg (encU u).toArray) (old : Array Value) (hg : w.heap[g]? = some (.cells old 44 (0, 0))) (hold : old.size = 3)
 (hr : wpList Tryz.prog ops Q rest (a.put o.dst undef) (w.setRow g (encU u).toArray)) : wpList Tryz.prog ops Q (o :: rest) a w :=
 wpList_store_row hgd 44 x y ho g (encU u).toArray hx hy 44 old hg (by kernel_rfl) hold (by simp [encU, Value.oneCell']) hr
theorem load_to {ops : Array Oper} {rest : List Oper} {o : Oper} {a : Act} {w : World} {Q : Exit → Act → World → Prop} (hgd : o.guard = none) (x : Operand) (ho : o.op = .load 112 x)
 (b : Nat) (hx : a.eval x = .pointer (some ⟨b, 0, none⟩)) (s : Int) (hc : w.heap[b]? = some (.cells (tot2 s) 112 (0, 0))) (hr : wpList Tryz.prog ops Q rest (a.put o.dst (.agg (tot2 s))) w) : wpList Tryz.prog ops Q (o :: rest) a w :=
 wpList_load_row hgd 112 x ho b hx 112 (tot2 s) (0, 0) _ hc Tryz.underlying112 rfl (by kernel_rfl) hr
abbrev FBx (w : World) (y t8 t7 lb : Nat) (a x : Int × Us) (s : Us) (q : Nat → Bool) (W : World) : Prop :=
 ∃ v7 v8, Bxs w [(y, (encU a).toArray, 67), (t8, tot2 v8, 112), (t7, tot2 v7, 112), (lb, (encU x).toArray, 44)] W ∧
   v7 = (if q 10 = true then s.1 + a.2.1 else s.1) ∧ v8 = (if q 11 = true then s.2 + a.2.2 else s.2)
structure FIn (w : World) (y t8 t7 lb : Nat) (a x : Int × Us) (s : Us) (f : Nat → Value) (q : Nat → Bool) (W : World) : Prop where
 bx : FBx w y t8 t7 lb a x s q W
 l0 : q 0 = true → f 0 = .agg (tot2 s.1)
 l4 : q 4 = true → f 4 = .agg (tot2 (s.1 + a.2.1))
 l5 : q 5 = true → f 5 = .agg (tot2 s.2)
 l9 : q 9 = true → f 9 = .agg (tot2 (s.2 + a.2.2))
 o10 : q 10 = true → q 0 = true ∧ q 4 = true ∧ q 5 = true ∧ q 9 = true
 o11 : q 11 = true → q 10 = true
 o9 : q 9 = true → q 5 = true
theorem Fits_lands (A : Option Addr) (n c : Nat) (l : List (Int × Us)) (B : Option Addr) (m d : Nat) (lim : List (Int × Us)) (w : World) (hA : Sv w A n c 3 (encs encU l)) (hB : Sv w B m d 3 (encs encU lim)) (hn : n ≤ 100000) (hm : m ≤ 1000000) (hl : UseIn l) (hli : UseIn lim) :
 Calls Tryz.prog 27 #[.slice A n c, .slice B m d] w fun e w' => e = .returned (.bool (fitsL l lim)) ∧ Below w.heap.size w w' := by
 have HA := Lib.hid hA
 have HB := Lib.hid hB
 have HL := Lib.hid (hA.plen encU_len (by decide))
 have HLB := Lib.hid (hB.plen encU_len (by decide))
 have HN := Lib.hid (And.intro hn hm)
 have HI := Lib.hid (And.intro hl hli)
 have CP := Lib.hid (fun s n W hs hn => plus_lands s n W hs hn)
 have CX := Lib.hid (fun s n W hn => exceeds_lands s n W hn)
 clear hA hB hn hm hl hli
 obtain ⟨r, hr⟩ : ∃ r, fitsL l lim = r := ⟨_, rfl⟩
 rw [hr]
 have HR := Lib.hid hr
 clear hr
 go_enter Tryz.func27, Tryz.ntmps27
 go_wp2
 go_loopw [13] (fun i wr => ∃ (k : Nat), k ≤ m ∧ i = .int .i64 k ∧ fitsL l (lim.take k) = true ∧ Below w.heap.size w wr) (fun i _ => m - (intOf i).toNat)
 case atStart => exact ⟨0, Nat.zero_le _, rfl, rfl, Below.refl _ _⟩
 case round =>
  obtain ⟨k, hk, rfl, hf, hbw⟩ := hrel
  have HF := Lib.hid hf
  have HBW := Lib.hid hbw
  clear hf hbw
  by_cases hlt : k < m
  · obtain ⟨x, hx⟩ : ∃ x, lim[k]? = some x := ⟨_, List.getElem?_eq_getElem (by rw [HLB.out]; exact hlt)⟩
    have kn : (k : Int) < (m : Int) := Int.ofNat_lt.2 hlt
    have k0 : (0 : Int) ≤ (k : Int) := Int.natCast_nonneg k
    have hwj : IntKind.i64.wrap ((k : Int) + 1) = (k : Int) + 1 := IntWalk.i64_in _ (by have := HN.out; omega)
    obtain ⟨g, ad, rfl, hg, hc⟩ := Sv.range encU_len (by decide) (HB.out.below HBW.out) hx
    have HC := Lib.hid hc
    have HX := Lib.hid hx
    have HLT := Lib.hid hlt
    have HXI := Lib.hid (HI.out.2 x (List.mem_of_getElem? hx))
    clear hc hx hlt hk
    have kk0 : Bxs w [] wr := ⟨HBW.out, fun _ h => by simp at h, List.Pairwise.nil⟩
    obtain ⟨y1, hwy1, hzy1, ky1⟩ := kk0.new rfl zA zA 44
    have HY1 := Lib.hid hwy1
    have KY1 := Lib.hid ky1
    have KY2 := Lib.hid (ky1.row 0 rfl (encU x).toArray)
    have hz1 : (y1.setRow wr.heap.size (encU x).toArray).heap.size = wr.heap.size + 1 := by simp [hzy1]
    have HZ1 := Lib.hid hz1
    clear kk0 hwy1 hzy1 ky1 hz1
    go_upto_region 4 with (first | rw [HY1.out] | (with_reducible refine load_li rfl _ rfl g (ad + k * 3) rfl x HC.out ?_) | (with_reducible refine store_li rfl _ _ rfl wr.heap.size rfl x rfl zA (KY1.out.at 0 rfl).out rfl ?_))
    generalize y1.setRow wr.heap.size (encU x).toArray = y2 at *
    obtain ⟨y3, hwy3, hzy3, ky3⟩ := KY2.out.new HZ1.out zG (tot2 0) 112
    obtain ⟨y4, hwy4, hzy4, ky4⟩ := ky3.new hzy3 zG (tot2 0) 112
    have HY3 := Lib.hid hwy3
    have HY4 := Lib.hid hwy4
    have KY4 := Lib.hid ky4
    have hz3 := hzy3
    have hz2 := HZ1.out
    clear hwy3 hwy4 hzy4 ky3 ky4 hzy3
    go_upto_region 5 with (first | rw [HY3.out] | rw [HY4.out])
    clear hz2 hz3
    obtain ⟨wo, hwo⟩ : ∃ q, q = wr := ⟨_, rfl⟩
    subst hwo
    go_wp2
    go_loopw [19] (fun j wr => ∃ (p : Nat), p ≤ n ∧ j = .int .i64 p ∧ Bxs w [(wo.heap.size + 1 + 1, tot2 (sumO x.1 (l.take p)).2, 112), (wo.heap.size + 1, tot2 (sumO x.1 (l.take p)).1, 112), (wo.heap.size, (encU x).toArray, 44)] wr) (fun j _ => n - (intOf j).toNat)
    case atStart => exact ⟨0, Nat.zero_le _, rfl, KY4.out⟩
    case round =>
     clear KY4
     obtain ⟨p, hp, rfl, hK⟩ := hrel
     have HK := Lib.hid hK
     clear hK
     by_cases hpt : p < n
     · obtain ⟨a, ha⟩ : ∃ a, l[p]? = some a := ⟨_, List.getElem?_eq_getElem (by rw [HL.out]; exact hpt)⟩
       have pn : (p : Int) < (n : Int) := Int.ofNat_lt.2 hpt
       have p0 : (0 : Int) ≤ (p : Int) := Int.natCast_nonneg p
       have hwp : IntKind.i64.wrap ((p : Int) + 1) = (p : Int) + 1 := IntWalk.i64_in _ (by have := HN.out; omega)
       obtain ⟨g2, ad2, hA2, hg2, hc2⟩ := Sv.range encU_len (by decide) (HA.out.below HK.out.low.out) ha
       have HC2 := Lib.hid hc2
       have HA2 := Lib.hid hA2
       have HTK := Lib.hid (show sumO x.1 (l.take (p + 1)) = addO x.1 (sumO x.1 (l.take p)) a by rw [takeU_snoc ha, sumO_snoc])
       have HAI := Lib.hid (HI.out.1 a (List.mem_of_getElem? ha))
       have hsb := sumO_le (x := x.1) HI.out.1 p
       have HSB := Lib.hid (show (-1237940039285380274899124224 ≤ (sumO x.1 (l.take p)).1 ∧ (sumO x.1 (l.take p)).1 ≤ 1237940039285380274899124224) ∧ (-1237940039285380274899124224 ≤ (sumO x.1 (l.take p)).2 ∧ (sumO x.1 (l.take p)).2 ≤ 1237940039285380274899124224) by have := HN.out; omega)
       have HPT := Lib.hid hpt
       clear hc2 ha hpt hp hsb
       obtain ⟨S, hS⟩ : ∃ S, sumO x.1 (l.take p) = S := ⟨_, rfl⟩
       rw [hS] at HK HTK HSB
       clear hS
       obtain ⟨u1, hwu1, hzu1, ku1⟩ := HK.out.new rfl zA zA 67
       have HU1 := Lib.hid hwu1
       have KU1 := Lib.hid ku1
       have KU2 := Lib.hid (ku1.row 0 rfl (encU a).toArray)
       clear hwu1 hzu1 ku1
       go_upto_region 8 with (first | rw [HU1.out] | (with_reducible refine load_au rfl _ rfl g2 (ad2 + p * 3) rfl a HC2.out ?_) | (with_reducible refine store_au rfl _ _ rfl wr.heap.size rfl a rfl zA (KU1.out.at 0 rfl).out rfl ?_))
       clear hA2
       rw [← HA2.out]
       generalize u1.setRow wr.heap.size (encU a).toArray = u2 at *
       have c0 : u2.cell? ⟨wr.heap.size, 0, none⟩ = some (.int .i64 a.1) := KU2.out.cell 0 0 _ rfl
       have c1 : u2.cell? ⟨wo.heap.size, 0, none⟩ = some (.int .i64 x.1) := KU2.out.cell 3 0 _ rfl
       by_cases hor : x.1 = -1 ∨ x.1 = a.1
       · have HEQ := Lib.hid (show addO x.1 S a = (S.1 + a.2.1, S.2 + a.2.2) from if_pos hor)
         have hd : Below u2.heap.size u2 u2.drew := below_drewN u2 1
         have KD := Lib.hid (KU2.out.step hd)
         clear hd
         have hq : (x.1 == -1) = true ∨ ((x.1 == -1) = false ∧ (x.1 == a.1) = true) := by
          by_cases h1 : x.1 = -1
          · exact .inl (by simp [h1])
          · exact .inr ⟨by simp [h1], by simp [hor.resolve_left h1]⟩
         clear hor
         rcases hq with hq1 | ⟨hq1, hq2⟩
         all_goals
          go_upto_region 9 with fail
          refine wp_region_fork (fun w' => w'.cell? ⟨wr.heap.size, 1, none⟩ = some (.int .i64 a.2.1) ∧ w'.cell? ⟨wr.heap.size, 2, none⟩ = some (.int .i64 a.2.2)) [(1, true), (2, true), (3, true), (6, true), (7, true), (8, true)] 6 #[false, true, true, true, false, false, true, true, true, false, false, false] (by kernel_rfl) (by kernel_rfl) (by rfl) (by kernel_rfl) ⟨KD.out.cell 0 1 _ rfl, KD.out.cell 0 2 _ rfl⟩ (fun d _ _ _ _ h => by cases d <;> exact h) ?_
          iterate 6 refine ord_pure ?_
          refine ord_nil (fun _ => ?_)
          refine wp_locM (X := [0, 4, 5, 9, 10, 11]) (fun f => by simp only [putAll, dstOf, List.getElem?_toArray, List.getElem?_cons_succ, List.getElem?_cons_zero, Option.bind_some, Act.put, List.setIfInBounds_toArray, List.set_cons_zero, List.set_cons_succ]; rfl) (FIn w wr.heap.size (wo.heap.size + 1 + 1) (wo.heap.size + 1) wo.heap.size a x S) (by kernel_rfl) (fun f d W I => by obtain ⟨v7, v8, KB, -, -⟩ := I.bx; exact ⟨KB.cell 0 1 _ rfl, KB.cell 0 2 _ rfl⟩) (fun f => ⟨⟨S.1, S.2, KD.out, rfl, rfl⟩, (fun h => by cases h), (fun h => by cases h), (fun h => by cases h), (fun h => by cases h), (fun h => by cases h), (fun h => by cases h), (fun h => by cases h)⟩) ?_ ?_
          · refine ⟨?_, ?_, ?_, ?_, ?_, ?_, trivial⟩
            · intro f q wj I hd hp
              refine ⟨_, rfl, fun K hK => ?_⟩
              have hn : q 10 = false := by
               cases e : q 10 with
               | false => rfl
               | true => exact no_bool hd (I.o10 e).1
              obtain ⟨v7, v8, KB, k1, k2⟩ := I.bx
              rw [hn] at k1
              have k3 : v7 = S.1 := k1
              subst k3
              refine wp_load_row 112 _ rfl (wo.heap.size + 1) rfl 112 (tot2 S.1) (0, 0) _ (KB.at 2 rfl).out Tryz.underlying112 rfl (by kernel_rfl) ?_
              exact hK.out _ (.agg (tot2 S.1)) _ (by first | rfl | (simp only [Act.put, puts])) ⟨I.bx, fun _ => rfl, fun k => I.l4 k, fun k => I.l5 k, fun k => I.l9 k, fun k => ⟨rfl, (I.o10 k).2⟩, fun k => I.o11 k, fun k => I.o9 k⟩
            · intro f q wj I hd hp
              refine ⟨_, rfl, fun K hK => ?_⟩
              have d0 := hp 0 (by decide +kernel) (by decide)
              have e0 := I.l0 d0
              obtain ⟨v7, v8, KB, k1, k2⟩ := I.bx
              have CC := Lib.hid (CP.out S.1 a.2.1 wj HSB.out.1 HAI.out.1)
              have HKB := Lib.hid KB
              have HII := Lib.hid I
              clear KB
              simp only [e0]
              go_simp
              go_wp2_with (go_at_call 56; (with_reducible refine CC.out.mono ?_); rintro e w5 ⟨rfl, hb⟩; have HB5 := Lib.hid hb; clear hb)
              exact hK.out _ (.agg (tot2 (S.1 + a.2.1))) _ (by first | rfl | (simp only [Act.put, puts, e0])) ⟨⟨v7, v8, HKB.out.step HB5.out, k1, k2⟩, fun k => HII.out.l0 k, fun _ => rfl, fun k => HII.out.l5 k, fun k => HII.out.l9 k, fun k => ⟨(HII.out.o10 k).1, rfl, (HII.out.o10 k).2.2⟩, fun k => HII.out.o11 k, fun k => HII.out.o9 k⟩
            · intro f q wj I hd hp
              refine ⟨_, rfl, fun K hK => ?_⟩
              have hn : q 11 = false := by
               cases e : q 11 with
               | false => rfl
               | true => exact no_bool hd (I.o10 (I.o11 e)).2.2.1
              obtain ⟨v7, v8, KB, k1, k2⟩ := I.bx
              rw [hn] at k2
              have k3 : v8 = S.2 := k2
              subst k3
              refine wp_load_row 112 _ rfl (wo.heap.size + 1 + 1) rfl 112 (tot2 S.2) (0, 0) _ (KB.at 1 rfl).out Tryz.underlying112 rfl (by kernel_rfl) ?_
              exact hK.out _ (.agg (tot2 S.2)) _ (by first | rfl | (simp only [Act.put, puts])) ⟨I.bx, fun k => I.l0 k, fun k => I.l4 k, fun _ => rfl, fun k => I.l9 k, fun k => ⟨(I.o10 k).1, (I.o10 k).2.1, rfl, (I.o10 k).2.2.2⟩, fun k => I.o11 k, fun _ => rfl⟩
            · intro f q wj I hd hp
              refine ⟨_, rfl, fun K hK => ?_⟩
              have d5 := hp 5 (by decide +kernel) (by decide)
              have e5 := I.l5 d5
              obtain ⟨v7, v8, KB, k1, k2⟩ := I.bx
              have CC := Lib.hid (CP.out S.2 a.2.2 wj HSB.out.2 HAI.out.2)
              have HKB := Lib.hid KB
              have HII := Lib.hid I
              clear KB
              simp only [e5]
              go_simp
              go_wp2_with (go_at_call 56; (with_reducible refine CC.out.mono ?_); rintro e w5 ⟨rfl, hb⟩; have HB5 := Lib.hid hb; clear hb)
              exact hK.out _ (.agg (tot2 (S.2 + a.2.2))) _ (by first | rfl | (simp only [Act.put, puts, e5])) ⟨⟨v7, v8, HKB.out.step HB5.out, k1, k2⟩, fun k => HII.out.l0 k, fun k => HII.out.l4 k, fun k => HII.out.l5 k, fun _ => rfl, fun k => ⟨(HII.out.o10 k).1, (HII.out.o10 k).2.1, (HII.out.o10 k).2.2.1, rfl⟩, fun k => HII.out.o11 k, fun _ => d5⟩
            · intro f q wj I hd hp
              refine ⟨_, rfl, fun K hK => ?_⟩
              have d4 := hp 4 (by decide +kernel) (by decide)
              have e4 := I.l4 d4
              have d0 := hp 0 (by decide +kernel) (by decide)
              have d9 := hp 9 (by decide +kernel) (by decide)
              have d5 := I.o9 d9
              obtain ⟨v7, v8, KB, k1, k2⟩ := I.bx
              have h11 : q 11 = false := by
               cases e : q 11 with
               | false => rfl
               | true => exact no_bool hd (I.o11 e)
              simp only [e4]
              refine wp_store_row 112 _ _ rfl (wo.heap.size + 1) (tot2 (S.1 + a.2.1)) rfl rfl 112 (tot2 v7) (KB.at 2 rfl).out (by kernel_rfl) rfl (by simp [Value.oneCell']) ?_
              exact hK.out _ undef _ (by first | rfl | (simp only [Act.put, puts, e4])) ⟨⟨S.1 + a.2.1, v8, KB.row 2 rfl _, rfl, k2⟩, fun k => I.l0 k, fun k => I.l4 k, fun k => I.l5 k, fun k => I.l9 k, fun _ => ⟨d0, d4, d5, d9⟩, fun _ => rfl, fun k => I.o9 k⟩
            · intro f q wj I hd hp
              refine ⟨_, rfl, fun K hK => ?_⟩
              have d9 := hp 9 (by decide +kernel) (by decide)
              have e9 := I.l9 d9
              have d10 := hp 10 (by decide +kernel) (by decide)
              obtain ⟨v7, v8, KB, k1, k2⟩ := I.bx
              simp only [e9]
              refine wp_store_row 112 _ _ rfl (wo.heap.size + 1 + 1) (tot2 (S.2 + a.2.2)) rfl rfl 112 (tot2 v8) (KB.at 1 rfl).out (by kernel_rfl) rfl (by simp [Value.oneCell']) ?_
              exact hK.out _ undef _ (by first | rfl | (simp only [Act.put, puts, e9])) ⟨⟨v7, S.2 + a.2.2, KB.row 1 rfl _, k1, rfl⟩, fun k => I.l0 k, fun k => I.l4 k, fun k => I.l5 k, fun k => I.l9 k, fun k => I.o10 k, fun _ => d10, fun k => I.o9 k⟩
          · intro f q wj I hall
            obtain ⟨v7, v8, KB, k1, k2⟩ := I.bx
            rw [hall 10 (by decide)] at k1
            rw [hall 11 (by decide)] at k2
            have k3 : v7 = S.1 + a.2.1 := k1
            have k4 : v8 = S.2 + a.2.2 := k2
            subst k3 k4
            have HK := Lib.hid (KB.drop 1)
            clear KB k1 k2 hall I
            go_wp2
            go_roundw
            case rel => exact ⟨p + 1, HPT.out, by go_num, by rw [HTK.out, HEQ.out]; exact HK.out⟩
            case measure => have := HPT.out; simp [intOf]; omega
       · have HEQ := Lib.hid (show addO x.1 S a = S from if_neg hor)
         have hq1 : (x.1 == -1) = false := beq_eq_false_iff_ne.2 fun e => hor (.inl e)
         have hq2 : (x.1 == a.1) = false := beq_eq_false_iff_ne.2 fun e => hor (.inr e)
         clear hor
         go_wp2
         have HK2 := Lib.hid (KU2.out.drop 1)
         go_roundw
         case rel => exact ⟨p + 1, HPT.out, by go_num, by rw [HTK.out, HEQ.out]; exact HK2.out⟩
         case measure => have := HPT.out; simp [intOf]; omega
     · have pn : ¬ (p : Int) < (n : Int) := fun e => hpt (Int.ofNat_lt.1 e)
       have hpn : p = n := by omega
       subst hpn
       have ht : l.take p = l := List.take_of_length_le (by rw [HL.out]; exact Nat.le_refl _)
       rw [ht] at HK
       clear hpt hp ht
       have e1 : wr.cell? ⟨wo.heap.size, 1, none⟩ = some (.int .i64 x.2.1) := HK.out.cell 2 1 _ rfl
       have e2 : wr.cell? ⟨wo.heap.size, 2, none⟩ = some (.int .i64 x.2.2) := HK.out.cell 2 2 _ rfl
       have C1 := Lib.hid (CX.out (sumO x.1 l).1 x.2.1 wr HXI.out.1)
       have C2 := Lib.hid (fun W => CX.out (sumO x.1 l).2 x.2.2 W HXI.out.2)
       have HFX := Lib.hid (show fitsL l (lim.take (k + 1)) = (fitsL l (lim.take k) && (decide ((sumO x.1 l).1 ≤ x.2.1) && decide ((sumO x.1 l).2 ≤ x.2.2))) by
        rw [takeU_snoc HX.out]; unfold fitsL; rw [List.all_append]; simp)
       have HNO := Lib.hid (show (decide ((sumO x.1 l).1 ≤ x.2.1) && decide ((sumO x.1 l).2 ≤ x.2.2)) = false → r = false from fun h => by
        rw [← HR.out]
        unfold fitsL
        rw [List.all_eq_false]
        exact ⟨x, List.mem_of_getElem? HX.out, by rw [h]; decide⟩)
       by_cases h1 : x.2.1 < (sumO x.1 l).1
       · rw [decide_eq_true h1] at C1
         have HQ := Lib.hid (HNO.out (by rw [decide_eq_false (by omega)]; rfl))
         clear h1 C2
         go_wp2_with (first | (with_reducible refine load_to rfl _ rfl (wo.heap.size + 1) rfl (sumO x.1 l).1 (HK.out.at 1 rfl).out ?_) | (go_at_call 57; (with_reducible refine C1.out.mono ?_); rintro e w5 ⟨rfl, hb5⟩; have HB5 := Lib.hid hb5; clear hb5))
         go_ret
         exact ⟨by rw [HQ.out]; rfl, HK.out.low.out.trans (HB5.out.mono HK.out.low.out.size)⟩
       · rw [decide_eq_false h1] at C1
         by_cases h2 : x.2.2 < (sumO x.1 l).2
         · have HQ := Lib.hid (HNO.out (by rw [decide_eq_false (p := (sumO x.1 l).2 ≤ x.2.2) (by omega), Bool.and_false]))
           have C2' := Lib.hid (fun W => (C2.out W).mono fun e w' h => (show e = .returned (.bool true) ∧ Below W.heap.size W w' from ⟨by rw [h.1, decide_eq_true h2], h.2⟩))
           clear h1 h2
           go_wp2_with (first | (with_reducible refine load_to rfl _ rfl (wo.heap.size + 1) rfl (sumO x.1 l).1 (HK.out.at 1 rfl).out ?_) | (go_at_call 57; (with_reducible refine C1.out.mono ?_); rintro e w5 ⟨rfl, hb5⟩; have K5 := Lib.hid (HK.out.step hb5); have d1 := K5.out.cell 2 2 (.int .i64 x.2.2) rfl; clear hb5) | (refine wpList_unguard (by rfl) ?_; (with_reducible refine load_to rfl _ rfl (wo.heap.size + 1 + 1) rfl (sumO x.1 l).2 (K5.out.at 0 rfl).out ?_)) | (go_at_call 57; (with_reducible refine (C2'.out _).mono ?_); rintro e w6 ⟨rfl, hb6⟩; have HB6 := Lib.hid hb6; clear hb6))
           go_ret
           exact ⟨by rw [HQ.out]; rfl, K5.out.low.out.trans (HB6.out.mono K5.out.low.out.size)⟩
         · have C2' := Lib.hid (fun W => (C2.out W).mono fun e w' h => (show e = .returned (.bool false) ∧ Below W.heap.size W w' from ⟨by rw [h.1, decide_eq_false h2], h.2⟩))
           have HQ := Lib.hid (show fitsL l (lim.take (k + 1)) = true by rw [HFX.out, HF.out, decide_eq_true (p := (sumO x.1 l).1 ≤ x.2.1) (by omega), decide_eq_true (p := (sumO x.1 l).2 ≤ x.2.2) (by omega)]; rfl)
           clear h1 h2
           go_wp2_with (first | (with_reducible refine load_to rfl _ rfl (wo.heap.size + 1) rfl (sumO x.1 l).1 (HK.out.at 1 rfl).out ?_) | (go_at_call 57; (with_reducible refine C1.out.mono ?_); rintro e w5 ⟨rfl, hb5⟩; have K5 := Lib.hid (HK.out.step hb5); have d1 := K5.out.cell 2 2 (.int .i64 x.2.2) rfl; clear hb5) | (refine wpList_unguard (by rfl) ?_; (with_reducible refine load_to rfl _ rfl (wo.heap.size + 1 + 1) rfl (sumO x.1 l).2 (K5.out.at 0 rfl).out ?_)) | (go_at_call 57; (with_reducible refine (C2'.out _).mono ?_); rintro e w6 ⟨rfl, hb6⟩; have HB6 := Lib.hid (K5.out.low.out.trans (hb6.mono K5.out.low.out.size)); clear hb6))
           go_roundw
           case rel => exact ⟨k + 1, HLT.out, by go_num, HQ.out, HB6.out⟩
           case measure => have := HLT.out; simp [intOf]; omega
  · have kn : ¬ (k : Int) < (m : Int) := fun e => hlt (Int.ofNat_lt.1 e)
    have hkn : k = m := by omega
    subst hkn
    have ht : lim.take k = lim := List.take_of_length_le (by rw [HLB.out]; exact Nat.le_refl _)
    rw [ht] at HF
    have HQ := Lib.hid (HR.out.symm.trans HF.out)
    clear hlt hk ht
    go_wp2
    go_ret
    exact ⟨by rw [HQ.out]; rfl, HBW.out⟩
end Go.Proofs.YtemgejblnionlaaGreatDoor
namespace Go.Proofs.YtemgejblnionlaaGreatDoor
open Go.RowKit Go.Maps Go.Shelf Go.Lib Go.Sort
attribute [local go_sem] Oper.semAt_some
set_option maxHeartbeats 16000000
set_option maxRecDepth 100000
abbrev Rn := Int × Int
def encR (r : Rn) : List Value := [.int .i64 r.1, .int .i64 r.2]
theorem encR_len (r : Rn) : (encR r).length = 2 := rfl
theorem encR_one (r : Rn) : ∀ u ∈ encR r, u.oneCell' = true := oneC rfl
theorem info_rn : (Tryz.prog.info? 124).map (fun i => (i.zero, i.size, i.bytes)) = some (some (.agg #[.int .i64 0, .int .i64 0]), 2, 16) := by kernel_rfl
def SortR : Prop := ∀ (base : Nat) (A : Option Addr) (m c : Nat) (l : List Rn) (w : World), m ≤ 4294967296 → w.ownsRow base 124 2 (.slice A m c) m (encs encR l) →
    Calls Tryz.prog 102 #[.slice A m c, .func (.func 103) #[] #[]] w fun e w' => e = .returned (.tuple #[]) ∧ ∃ l', l'.Perm l ∧ l'.Pairwise (fun a b => a.1 ≤ b.1) ∧ w'.ownsRow base 124 2 (.slice A m c) m (encs encR l') ∧ Below base w w'
theorem cmpR_any (d e : Rn) (W : World) : Calls Tryz.prog 103 #[.agg (encR d).toArray, .agg (encR e).toArray] W fun r w' => r = .returned (.int .i64 (Lib.compareInt d.1 e.1)) ∧ ∃ q os', w' = grow (W.drewN q) os' := by
 have hcon := fun W' => Tryz.cmp_Compare_int d.1 e.1 W'
 change ∀ W', Calls Tryz.prog 93 _ _ _ at hcon
 generalize Lib.compareInt d.1 e.1 = r at hcon ⊢
 show Calls Tryz.prog 103 #[.agg #[.int .i64 d.1, .int .i64 d.2], .agg #[.int .i64 e.1, .int .i64 e.2]] W _
 go_enter Tryz.func103, Tryz.ntmps103
 go_wp2_with (go_at_call 93; refine (hcon _).mono ?_; rintro e w' ⟨rfl, rfl⟩)
 go_ret
 exact ⟨rfl, 0, _, by rw [alloc_eq_grow, alloc_eq_grow, grow_grow]; rfl⟩
theorem ltR (d e : Rn) : ltOf (fun d e : Rn => Lib.compareInt d.1 e.1) d e = decide (d.1 < e.1) := by
 unfold ltOf Lib.compareInt
 by_cases h1 : d.1 < e.1
 · simp [h1]
 · by_cases h2 : e.1 < d.1 <;> simp [h1, h2]
theorem swoR : SWO (ltOf fun d e : Rn => Lib.compareInt d.1 e.1) :=
 ⟨fun x => by rw [ltR]; simp, fun x y z h1 h2 => by rw [ltR] at *; simp at *; omega, fun x y z h1 h2 => by rw [ltR] at *; simp at *; omega⟩
theorem sortR_c : SortR := by
 intro base A m c L w hm hown
 have hl : L.length = m := own_plen encR_len hown (by decide)
 by_cases h0 : m = 0
 · subst h0
   have hcon := AnyF.slices_SortFunc_none Tryz.sortR A c (.func (.func 103) #[] #[]) w
   change Calls Tryz.prog 102 _ _ _ at hcon
   refine hcon.mono ?_
   rintro e w' ⟨rfl, rfl⟩
   obtain rfl : L = [] := List.eq_nil_of_length_eq_zero hl
   exact ⟨rfl, [], List.Perm.refl _, List.Pairwise.nil, hown, Below.refl _ _⟩
 · obtain ⟨g, cap, hv, hbg, hgs⟩ := hown.form (Nat.pos_of_ne_zero h0)
   injection hv with hv _ hc
   subst hv hc
   have eg : ∀ args w, (callFunc 103 args).run Tryz.prog w = .ok (.enter 103 args) w := enters_of Tryz.func103 (by kernel_rfl) rfl
   have hcon := AnyQ.slices_SortFunc Tryz.sortR 2 Tryz.isAgg124 Tryz.sizeOf124 encR (fun _ => rfl) encR_one (fun d e => Lib.compareInt d.1 e.1) swoR 103 #[] g 0 c L.toArray w eg
    (fun _ _ _ _ d e => cmpR_any d e _) (own_holds encR_len (by decide) hown) (hown.lt g rfl).2 (by simp; omega)
   change Calls Tryz.prog 102 _ _ _ at hcon
   rw [List.size_toArray, hl] at hcon
   refine hcon.mono ?_
   rintro e w' ⟨rfl, d', n, os, hp, hs, rfl⟩
   obtain ⟨hps, _, hpp⟩ := hp
   replace hps : d'.size = m := hps.trans (by simpa using hl)
   have hl' : d'.toList.length = m := by rw [Array.length_toList]; exact hps
   have hperm : d'.toList.Perm L := by
    have e1 : (d'.extract 0 m).toList = d'.toList := by rw [← hps]; simp
    have e2 : (L.toArray.extract 0 m).toList = L := by rw [← hl]; simp
    rw [e1, e2] at hpp
    exact hpp
   have hsort : d'.toList.Pairwise (fun d e => d.1 ≤ e.1) := by
    rw [List.pairwise_iff_getElem]
    intro i j hi hj hij
    have := hs i j (Nat.zero_le _) hij (by rw [hl'] at hj; exact hj)
    rw [ltR, decide_eq_false_iff_not] at this
    rw [Array.length_toList] at hi hj
    rw [getElem!_pos d' j hj, getElem!_pos d' i hi] at this
    rw [Array.getElem_toList, Array.getElem_toList]
    omega
   obtain ⟨o1, o2⟩ := own_sorted (n := n) (os := os) encR_len (by decide) hown hps
   exact ⟨rfl, d'.toList, hperm, hsort, o1, o2⟩
theorem growR_lands (k : Nat) (hk : k ≤ 1000000000) (w : World) : Calls Tryz.prog 104 #[.slice none 0 0, .int .i64 (k : Int)] w fun e w' => ∃ B d, e = .returned (.slice B 0 d) ∧ w'.ownsRow w.heap.size 124 2 (.slice B 0 d) 0 [] ∧ Below w.heap.size w w' := by
 obtain ⟨i2, hj, hj0, hj1, hj2⟩ := info_parts info_rn
 have h0 : ¬ ((k : Int) < 0) := by omega
 have hs : wrap64 ((k : Int) - wrap64 ((0 : Int) - 0)) = k := by unfold wrap64; omega
 by_cases hz : k = 0
 · subst hz
   go_enter Tryz.func104, Tryz.ntmps104
   go_wp2
   go_ret
   exact ⟨none, 0, rfl, World.ownsRow_nil _ _ _ _, Below.refl _ _⟩
 · have hr := fun ty => Lib.run_append_nil_zeros (P := Tryz.prog) w 117 3 ty 124 i2 (Value.agg #[.int .i64 0, .int .i64 0]) .i64 .i64 Tryz.underlying117 Tryz.underlying3 hj hj0 k (by omega) (by rw [hj1]; decide) (by omega) (by rw [hj2]; omega)
   have hpos : (k : Int) > 0 := by omega
   have hge := grownCap_ge w k 0 124
   have hle := grownCap_le_maxLen w k 0 124 (by unfold maxLen; omega)
   obtain ⟨G, hG⟩ : ∃ G, G = grownCap w k 0 124 := ⟨_, rfl⟩
   rw [← hG] at hr hge hle
   have hmax : G ≤ 9223372036854775807 := by unfold maxLen at hle; omega
   have HL := Lib.hid hle
   have HGE := Lib.hid hge
   clear hG hle hz
   go_enter Tryz.func104, Tryz.ntmps104
   go_wp2_with (at_builtin; refine Lib.wpList_append_run _ rfl _ _ _ _ rfl _ _ rfl rfl _ _ (hr _) ?_)
   go_ret
   have hb : Below w.heap.size w (w.drew.alloc (.cells (Builtin.zeroCells (Value.agg #[.int .i64 0, .int .i64 0]).cells k ++ Builtin.zeroCells (Value.agg #[.int .i64 0, .int .i64 0]).cells (G - k)) 124)) := (below_drewN w 1).alloc (Nat.le_refl _) _
   refine ⟨_, G, rfl, ⟨rfl, .inr ⟨_, G, _, rfl, Nat.le_refl _, heap_alloc_new w.drew _, Nat.zero_le _, HL.out, ?_, rfl⟩⟩, hb⟩
   rw [Array.size_append, size_zeroCells, size_zeroCells, ← Nat.add_mul]
   show (k + (G - k)) * 2 = G * 2
   congr 1
   have := HGE.out
   omega
theorem concatR_lands (g : Nat) (A1 A2 : Option Addr) (n1 c1 n2 c2 : Nat) (l1 l2 : List Rn) (w : World) (hg : w.heap[g]? = some (.cells #[.slice A1 n1 c1, .slice A2 n2 c2] 117 (0, 0))) (h1 : Sv w A1 n1 c1 2 (encs encR l1)) (h2 : Sv w A2 n2 c2 2 (encs encR l2)) (hn1 : n1 ≤ 1000000) (hn2 : n2 ≤ 1000000) :
 Calls Tryz.prog 66 #[.slice (some ⟨g, 0, none⟩) 2 2] w fun e w' => ∃ B m d, e = .returned (.slice B m d) ∧ w'.ownsRow w.heap.size 124 2 (.slice B m d) m (encs encR (l1 ++ l2)) ∧ m = n1 + n2 ∧ Below w.heap.size w w' := by
 obtain ⟨i2, hj, hj0, hj1, hj2⟩ := info_parts info_rn
 have HG := Lib.hid hg
 have HS1 := Lib.hid h1
 have HS2 := Lib.hid h2
 have HN := Lib.hid (And.intro hn1 hn2)
 have CG0 := fun W => growR_lands (n1 + n2) (by omega) W
 rw [show ((n1 + n2 : Nat) : Int) = (n1 : Int) + (n2 : Int) by omega] at CG0
 have CG := Lib.hid CG0
 clear CG0
 have q0 : w.cell? ⟨g, 0, none⟩ = some (.slice A1 n1 c1) := cell_of_row _ _ 0 _ _ _ hg
 have q1 : w.cell? ⟨g, 1, none⟩ = some (.slice A2 n2 c2) := cell_of_row _ _ 1 _ _ _ hg
 have w1 : wrap64 (n1 : Int) = n1 := by unfold wrap64; omega
 have w2 : wrap64 ((n1 : Int) + (n2 : Int)) = (n1 : Int) + (n2 : Int) := by unfold wrap64; omega
 have p1 : ¬ ((n1 : Int) < 0) := by omega
 have p2 : ¬ ((n1 : Int) + (n2 : Int) < 0) := by omega
 clear hg h1 h2 hn1 hn2
 go_enter Tryz.func66, Tryz.ntmps66
 go_wp2
 go_loopw [3, 11] (fun z i wr => wr = w ∧ ((i = .int .i64 0 ∧ z = .int .i64 0) ∨ (i = .int .i64 1 ∧ z = .int .i64 (n1 : Int)) ∨ (i = .int .i64 2 ∧ z = .int .i64 ((n1 : Int) + (n2 : Int))))) (fun _ i _ => 2 - (intOf i).toNat)
 case atStart => exact ⟨rfl, .inl ⟨rfl, rfl⟩⟩
 case round =>
  obtain ⟨hw, hh⟩ := hrel
  subst hw
  rcases hh with ⟨rfl, rfl⟩ | ⟨rfl, rfl⟩ | ⟨rfl, rfl⟩
  · go_wp2
    go_roundw
    case rel => simp [w1]
    case measure => decide
  · go_wp2
    go_roundw
    case rel => simp [w2]
    case measure => decide
  · clear p1 w1 w2
    obtain ⟨wq, hwq⟩ : ∃ q, q = wr := ⟨_, rfl⟩
    subst hwq
    go_upto_region 10 with (go_at_call 104; (with_reducible refine (CG.out _).mono ?_); rintro e w5 ⟨B, d, rfl, hO, hb5⟩; have HO5 := Lib.hid hO; have HB5 := Lib.hid hb5; clear hO hb5)
    clear p2 q0 q1
    have q0 : w5.cell? ⟨g, 0, none⟩ = some (.slice A1 n1 c1) := cell_of_row _ _ 0 _ _ _ ((HB5.out.block g (Array.getElem?_eq_some_iff.1 HG.out).1).trans HG.out)
    go_wp2
    go_loopw [6, 27] (fun v i wr => Below wq.heap.size wq wr ∧ ((i = .int .i64 0 ∧ ∃ B d, v = .slice B 0 d ∧ wr.ownsRow wq.heap.size 124 2 (.slice B 0 d) 0 []) ∨ (i = .int .i64 1 ∧ ∃ B d, v = .slice B n1 d ∧ wr.ownsRow wq.heap.size 124 2 (.slice B n1 d) n1 (encs encR l1)) ∨ (i = .int .i64 2 ∧ ∃ B d, v = .slice B (n1 + n2) d ∧ wr.ownsRow wq.heap.size 124 2 (.slice B (n1 + n2) d) (n1 + n2) (encs encR (l1 ++ l2))))) (fun _ i _ => 2 - (intOf i).toNat)
    case atStart => exact ⟨HB5.out, .inl ⟨rfl, B, d, rfl, HO5.out⟩⟩
    case round =>
     clear q0 HO5 HB5
     obtain ⟨hbr, hh⟩ := hrel
     have HBR := Lib.hid hbr
     have HSZ := Lib.hid hbr.size
     have r0 : wr.cell? ⟨g, 0, none⟩ = some (.slice A1 n1 c1) := cell_of_row _ _ 0 _ _ _ ((hbr.block g (Array.getElem?_eq_some_iff.1 HG.out).1).trans HG.out)
     have r1 : wr.cell? ⟨g, 1, none⟩ = some (.slice A2 n2 c2) := cell_of_row _ _ 1 _ _ _ ((hbr.block g (Array.getElem?_eq_some_iff.1 HG.out).1).trans HG.out)
     clear hbr
     rcases hh with ⟨rfl, B2, d2, rfl, hO⟩ | ⟨rfl, B2, d2, rfl, hO⟩ | ⟨rfl, B2, d2, rfl, hO⟩
     · have HO := Lib.hid hO
       clear hO
       go_wp2_with (at_builtin; refine wpList_append_sv rfl _ _ 117 rfl wq.heap.size 124 i2 _ 2 16 Tryz.underlying117 hj hj0 hj1 hj2 rfl (by decide) _ _ _ rfl HO.out A1 n1 c1 (encs encR l1) rfl (HS1.out.below HBR.out) (by unfold maxLen; have := HN.out; omega) (by have := HN.out; omega) HSZ.out ?_; intro v' w3 hown3 hB3; rw [Nat.zero_add, List.nil_append] at hown3; obtain ⟨B3, c3, rfl⟩ := own_form hown3; have HO3 := Lib.hid hown3; have HB3 := Lib.hid (hB3 wq (Nat.le_refl _) HBR.out); clear hown3 hB3)
       go_roundw
       case rel => exact ⟨HB3.out, .inr (.inl ⟨rfl, B3, c3, by simp, HO3.out⟩)⟩
       case measure => decide
     · have HO := Lib.hid hO
       clear hO
       go_wp2_with (at_builtin; refine wpList_append_sv rfl _ _ 117 rfl wq.heap.size 124 i2 _ 2 16 Tryz.underlying117 hj hj0 hj1 hj2 rfl (by decide) _ _ _ rfl HO.out A2 n2 c2 (encs encR l2) rfl (HS2.out.below HBR.out) (by unfold maxLen; have := HN.out; omega) (by have := HN.out; omega) HSZ.out ?_; intro v' w3 hown3 hB3; obtain ⟨B3, c3, rfl⟩ := own_form hown3; have HO3 := Lib.hid hown3; have HB3 := Lib.hid (hB3 wq (Nat.le_refl _) HBR.out); clear hown3 hB3)
       go_roundw
       case rel => exact ⟨HB3.out, .inr (.inr ⟨rfl, B3, c3, rfl, by have := HO3.out; unfold encs at this ⊢; rw [List.flatMap_append]; exact this⟩)⟩
       case measure => decide
     · have HO := Lib.hid hO
       clear hO r0 r1
       go_wp2
       go_ret
       exact ⟨B2, n1 + n2, d2, rfl, HO.out, rfl, HBR.out⟩
theorem load_rn {ops : Array Oper} {rest : List Oper} {o : Oper} {a : Act} {w : World} {Q : Exit → Act → World → Prop} (hgd : o.guard = none) (x : Operand) (ho : o.op = .load 124 x)
 (b k : Nat) (hx : a.eval x = .pointer (some ⟨b, k, none⟩)) (u : Rn) (hc : w.rangeAt b k (encR u)) (hr : wpList Tryz.prog ops Q rest (a.put o.dst (.agg (encR u).toArray)) w) : wpList Tryz.prog ops Q (o :: rest) a w :=
 wpList_load_mid hgd 124 x ho b k hx (encR u) _ hc Tryz.underlying124 rfl (by kernel_rfl) hr
theorem store_rn {ops : Array Oper} {rest : List Oper} {o : Oper} {a : Act} {w : World} {Q : Exit → Act → World → Prop} (hgd : o.guard = none) (x y : Operand) (ho : o.op = .store 124 x y)
 (g : Nat) (hx : a.eval x = .pointer (some ⟨g, 0, none⟩)) (u : Rn) (hy : a.eval y = .agg (encR u).toArray) (old : Array Value) (hg : w.heap[g]? = some (.cells old 124 (0, 0))) (hold : old.size = 2)
 (hr : wpList Tryz.prog ops Q rest (a.put o.dst undef) (w.setRow g (encR u).toArray)) : wpList Tryz.prog ops Q (o :: rest) a w :=
 wpList_store_row hgd 124 x y ho g (encR u).toArray hx hy 124 old hg (by kernel_rfl) hold (by simp [encR, Value.oneCell']) hr
abbrev z2 : Array Value := #[.int .i64 0, .int .i64 0]
def lenR (l : List Rn) : Int := l.foldl (fun n r => wrap64 (n + wrap64 (r.2 - r.1))) 0
theorem lenR_snoc (l : List Rn) (r : Rn) : lenR (l ++ [r]) = wrap64 (lenR l + wrap64 (r.2 - r.1)) := by unfold lenR; rw [List.foldl_append]; rfl
theorem length_lands (A : Option Addr) (n c : Nat) (l : List Rn) (w : World) (hA : Sv w A n c 2 (encs encR l)) (hn : n ≤ 1000000) :
 Calls Tryz.prog 65 #[.slice A n c] w fun e w' => e = .returned (.int .i64 (lenR l)) ∧ Below w.heap.size w w' := by
 have HA := Lib.hid hA
 have HN := Lib.hid hn
 have HL := Lib.hid (show l.length = n from hA.plen encR_len (by decide))
 clear hA hn
 go_enter Tryz.func65, Tryz.ntmps65
 go_wp2
 go_loopw [3, 8] (fun s i wr => ∃ k : Nat, k ≤ n ∧ i = .int .i64 k ∧ s = .int .i64 (lenR (l.take k)) ∧ Below w.heap.size w wr) (fun _ i _ => n - (intOf i).toNat)
 case atStart => exact ⟨0, Nat.zero_le _, rfl, rfl, Below.refl _ _⟩
 case round =>
  obtain ⟨k, hk, rfl, rfl, hbw⟩ := hrel
  have HBW := Lib.hid hbw
  clear hbw
  by_cases hlt : k < n
  · obtain ⟨x, hx⟩ : ∃ x, l[k]? = some x := ⟨_, List.getElem?_eq_getElem (by rw [HL.out]; exact hlt)⟩
    have kn : (k : Int) < (n : Int) := Int.ofNat_lt.2 hlt
    have k0 : (0 : Int) ≤ (k : Int) := Int.natCast_nonneg k
    have hwj : IntKind.i64.wrap ((k : Int) + 1) = (k : Int) + 1 := IntWalk.i64_in _ (by have := HN.out; omega)
    obtain ⟨g, ad, hA, hg, hc⟩ := Sv.range encR_len (by decide) (HA.out.below HBW.out) hx
    have HC := Lib.hid hc
    have HAA := Lib.hid hA
    have HX := Lib.hid (show lenR (l.take (k + 1)) = wrap64 (lenR (l.take k) + wrap64 (x.2 - x.1)) by rw [takeU_snoc hx, lenR_snoc])
    have HLT := Lib.hid hlt
    obtain ⟨S, hS⟩ : ∃ S, lenR (l.take k) = S := ⟨_, rfl⟩
    rw [hS] at HX ⊢
    rw [hA]
    clear hc hx hlt hk hA hS
    have kk0 : Bxs w [] wr := ⟨HBW.out, fun _ h => by simp at h, List.Pairwise.nil⟩
    obtain ⟨y1, hwy1, hzy1, ky1⟩ := kk0.new rfl z2 z2 124
    have HY1 := Lib.hid hwy1
    have KY1 := Lib.hid ky1
    have KY2 := Lib.hid (ky1.row 0 rfl (encR x).toArray)
    clear kk0 hwy1 hzy1 ky1
    go_upto_region 5 with (first | rw [HY1.out] | (with_reducible refine load_rn rfl _ rfl g (ad + k * 2) rfl x HC.out ?_) | (with_reducible refine store_rn rfl _ _ rfl wr.heap.size rfl x rfl z2 (KY1.out.at 0 rfl).out rfl ?_))
    generalize y1.setRow wr.heap.size (encR x).toArray = y2 at *
    have c0 : y2.cell? ⟨wr.heap.size, 0, none⟩ = some (.int .i64 x.1) := KY2.out.cell 0 0 _ rfl
    have c1 : y2.cell? ⟨wr.heap.size, 1, none⟩ = some (.int .i64 x.2) := KY2.out.cell 0 1 _ rfl
    go_wp2
    go_roundw
    case rel => exact ⟨k + 1, by have := HLT.out; omega, by first | rfl | (simp only [hwj]; rfl), by rw [HX.out], KY2.out.low.out⟩
    case measure => have := HLT.out; simp [intOf]; omega
  · have he : k = n := by omega
    subst he
    have kn : ¬ (k : Int) < (k : Int) := Int.lt_irrefl _
    have HT := Lib.hid (show l.take k = l by rw [← HL.out, List.take_length])
    rw [HT.out]
    go_wp2
    go_ret
    exact ⟨rfl, HBW.out⟩
end Go.Proofs.YtemgejblnionlaaGreatDoor
namespace Go.Proofs.YtemgejblnionlaaGreatDoor
open Go.RowKit Go.Maps
set_option maxHeartbeats 16000000
set_option maxRecDepth 100000
def joinStep (out : List Rn) (r : Rn) : List Rn :=
 match out[out.length - 1]? with
 | some p => if r.1 ≤ p.2 then out.set (out.length - 1) (p.1, max p.2 r.2) else out ++ [r]
 | none => out ++ [r]
def joinF (l : List Rn) : List Rn := l.foldl joinStep []
theorem joinF_snoc (l : List Rn) (r : Rn) : joinF (l ++ [r]) = joinStep (joinF l) r := by unfold joinF; rw [List.foldl_append]; rfl
theorem own_end {w : World} {base g m d j : Nat} {l : List Rn} {p : Rn} (h : w.ownsRow base 124 2 (.slice (some ⟨g, 0, none⟩) m d) m (encs encR l)) (hp : l[j]? = some p) (v : Int) :
 (w.setCell ⟨g, j * 2 + 1, none⟩ (.int .i64 v)).ownsRow base 124 2 (.slice (some ⟨g, 0, none⟩) m d) m (encs encR (l.set j (p.1, v))) := by
 have h1 := own_store h (j * 2 + 1) (.int .i64 v)
 have hj := (List.getElem?_eq_some_iff.1 hp).1
 have h2 := encs_set encR_len l j (p.1, v) hj
 have h3 : (encs encR l)[j * 2 + 0]? = some (.int .i64 p.1) := encs_get encR_len (by decide) hp
 have h4 : (encs encR l).set (j * 2) (.int .i64 p.1) = encs encR l := by
  apply List.ext_getElem?
  intro i
  rw [List.getElem?_set]
  split
  · rename_i e
    subst e
    rw [Nat.add_zero] at h3
    rw [if_pos (List.getElem?_eq_some_iff.1 h3).1, h3]
  · rfl
 simp only [encR, over] at h2
 rw [h4] at h2
 rw [h2] at h1
 exact h1
abbrev JoinRes (base : Nat) (l : List Rn) (n : Nat) (w : World) (e : Ending) (w' : World) : Prop :=
 ∃ l' B m d, e = .returned (.slice B m d) ∧ l'.Perm l ∧ l'.Pairwise (fun a b => a.1 ≤ b.1) ∧ w'.ownsRow w.heap.size 124 2 (.slice B m d) m (encs encR (joinF l')) ∧ m ≤ n ∧ Below base w w'
theorem joined_lands (CS : SortR) (base : Nat) (A : Option Addr) (n c : Nat) (l : List Rn) (w : World) (hown : w.ownsRow base 124 2 (.slice A n c) n (encs encR l)) (hn : n ≤ 1000000) (hbase : base ≤ w.heap.size) :
 Calls Tryz.prog 63 #[.slice A n c] w fun e w' => JoinRes base l n w e w' := by
 obtain ⟨i2, hj, hj0, hj1, hj2⟩ := info_parts info_rn
 have CC := Lib.hid (CS base A n c l w (by omega) hown)
 have HN := Lib.hid hn
 have HBS := Lib.hid hbase
 have HLN := Lib.hid (show l.length = n from own_plen encR_len hown (by decide))
 clear hn hown hbase
 go_enter Tryz.func63, Tryz.ntmps63
 go_upto_region 3 with (go_at_call 102; (with_reducible refine CC.out.mono ?_); rintro e w1 ⟨rfl, L, hp, hs, hO, hb⟩; have HP := Lib.hid hp; have HS := Lib.hid hs; have HO := Lib.hid (Sv.own hO (encs_cells encR_one _)); have HB1 := Lib.hid hb; clear hp hs hO hb)
 have HL := Lib.hid (show L.length = n from HP.out.length_eq.trans HLN.out)
 go_wp2
 go_loopw [3, 11] (fun o i wr => ∃ (k : Nat) (B : Option Addr) (m d : Nat), k ≤ n ∧ i = .int .i64 k ∧ o = .slice B m d ∧ m ≤ k ∧ wr.ownsRow w1.heap.size 124 2 (.slice B m d) m (encs encR (joinF (L.take k))) ∧ Below w1.heap.size w1 wr) (fun _ i _ => n - (intOf i).toNat)
 case atStart => exact ⟨0, none, 0, 0, Nat.zero_le _, rfl, rfl, Nat.le_refl _, World.ownsRow_nil _ _ _ _, Below.refl _ _⟩
 case round =>
  obtain ⟨k, B, m, d, hk, rfl, rfl, hm, hO2, hB⟩ := hrel
  have HB := Lib.hid hB
  have HOW := Lib.hid hO2
  have HM := Lib.hid hm
  clear hB hO2 hm
  by_cases hlt : k < n
  · obtain ⟨x, hx⟩ : ∃ x, L[k]? = some x := ⟨_, List.getElem?_eq_getElem (by rw [HL.out]; exact hlt)⟩
    have kn : (k : Int) < (n : Int) := Int.ofNat_lt.2 hlt
    have k0 : (0 : Int) ≤ (k : Int) := Int.natCast_nonneg k
    have hwj : IntKind.i64.wrap ((k : Int) + 1) = (k : Int) + 1 := IntWalk.i64_in _ (by have := HN.out; omega)
    obtain ⟨g, ad, rfl, hg, hc⟩ := Sv.range encR_len (by decide) (HO.out.below HB.out) hx
    have HC := Lib.hid hc
    have HT := Lib.hid (show joinF (L.take (k + 1)) = joinStep (joinF (L.take k)) x by rw [takeU_snoc hx, joinF_snoc])
    have HLT := Lib.hid hlt
    have HSZ := Lib.hid HB.out.size
    obtain ⟨J, hJ⟩ : ∃ J, joinF (L.take k) = J := ⟨_, rfl⟩
    rw [hJ] at HT HOW
    have HJL := Lib.hid (show J.length = m from own_plen encR_len HOW.out (by decide))
    clear hc hx hlt hk hJ
    have kk0 := Bxs.nil wr
    obtain ⟨y1, hwy1, hzy1, ky1⟩ := kk0.new rfl z2 z2 124
    have HY1 := Lib.hid hwy1
    have KY1 := Lib.hid ky1
    have KY2 := Lib.hid (ky1.row 0 rfl (encR x).toArray)
    clear kk0 hwy1 hzy1 ky1
    go_upto_region 6 with (first | rw [HY1.out] | (with_reducible refine load_rn rfl _ rfl g (ad + k * 2) rfl x HC.out ?_) | (with_reducible refine store_rn rfl _ _ rfl wr.heap.size rfl x rfl z2 (KY1.out.at 0 rfl).out rfl ?_))
    generalize y1.setRow wr.heap.size (encR x).toArray = y2 at *
    have c0 : y2.cell? ⟨wr.heap.size, 0, none⟩ = some (.int .i64 x.1) := KY2.out.cell 0 0 _ rfl
    have c1 : y2.cell? ⟨wr.heap.size, 1, none⟩ = some (.int .i64 x.2) := KY2.out.cell 0 1 _ rfl
    have HO2 := Lib.hid (own_keep HOW.out KY2.out.low.out)
    have HS2 := Lib.hid (Nat.le_trans HSZ.out KY2.out.low.out.size)
    clear HY1 KY1
    have KY3 := Lib.hid (KY2.out.step (show RowKit.Below y2.heap.size y2 y2.drew from below_drewN y2 1))
    have HO3 := Lib.hid (own_keep HO2.out (show RowKit.Below y2.heap.size y2 y2.drew from below_drewN y2 1))
    have HS3 := Lib.hid (show w1.heap.size ≤ y2.drew.heap.size from HS2.out)
    by_cases hm0 : m = 0
    · subst hm0
      have HST := Lib.hid (show joinStep J x = J ++ [x] by rw [List.eq_nil_of_length_eq_zero HJL.out]; rfl)
      go_upto_region 7 with fail
      refine wp_region_ord (fun _ => True) [(0, true), (1, true), (2, true), (3, true), (4, true), (5, true), (6, true), (7, true), (8, true), (9, true), (10, true), (11, true)] (by kernel_rfl) (by kernel_rfl) (by kernel_rfl) trivial (fun d _ _ _ _ h => by cases d <;> exact h) ?_
      iterate 12 refine ord_pure ?_
      refine ord_nil ?_
      generalize y2.drew = y3 at *
      go_wp2_with (first | (with_reducible refine load_rn rfl _ rfl wr.heap.size 0 rfl x (box_range (KY3.out.at 0 rfl).out) ?_; simp only [encR]) | (at_builtin; refine wpList_append_gr rfl _ _ 117 rfl w1.heap.size 124 i2 _ 2 16 Tryz.underlying117 hj hj0 hj1 hj2 rfl (by decide) _ _ _ rfl (own_keep HO3.out ((Below.refl _ y3).alloc (Nat.le_refl _) _)) ⟨y3.heap.size, 0, none⟩ 1 1 (encR x) rfl rfl (new_row y3 _ _) (encR_one _) (by unfold maxLen; have := HLT.out; have := HN.out; have := HM.out; omega) (by have := HLT.out; have := HN.out; have := HM.out; omega) (by have := HS3.out; simp; omega) ?_; intro v' w3 hown3 hg3; obtain ⟨B3, c3, rfl⟩ := own_form hown3; have HO4 := Lib.hid hown3; have HG3 := Lib.hid hg3; clear hown3 hg3))
      have hra : RowKit.Below y3.heap.size y3 (y3.alloc (.cells (encR x).toArray 124)) := (Below.refl _ y3).alloc (Nat.le_refl _) _
      have HB3 := Lib.hid (((HB.out.trans (KY3.out.low.out.mono HSZ.out)).trans (hra.mono HS3.out)).grown HG3.out (Nat.le_trans HS3.out hra.size) (fun k e => (HO3.out.lt k e).1))
      clear hra
      go_roundw
      case rel => exact ⟨k + 1, B3, 0 + 1, c3, by have := HLT.out; omega, by go_num, rfl, by have := HM.out; omega, by have := HO4.out; rw [HT.out, HST.out]; unfold encs at this ⊢; rw [List.flatMap_append]; simpa using this, HB3.out⟩
      case measure => have := HLT.out; simp [intOf]; omega
    obtain ⟨j, rfl⟩ : ∃ j, m = j + 1 := ⟨m - 1, by omega⟩
    obtain ⟨p, hp⟩ : ∃ p, J[j]? = some p := ⟨_, List.getElem?_eq_getElem (by rw [HJL.out]; omega)⟩
    obtain ⟨gb, cap, hv, -, -⟩ := HOW.out.form (by omega)
    obtain ⟨rfl, rfl⟩ : B = some ⟨gb, 0, none⟩ ∧ d = cap := by injection hv with h1 h2 h3; exact ⟨h1, h3⟩
    have hwl : wrap64 (j : Int) = (j : Int) := by have := HN.out; have := HM.out; have := HLT.out; unfold wrap64; omega
    go_upto_region 7 with fail
    rw [hwl]
    have q0 : y2.drew.cell? ⟨wr.heap.size, 0, none⟩ = some (.int .i64 x.1) := KY3.out.cell 0 0 _ rfl
    have q1 : y2.drew.cell? ⟨gb, j * 2 + 1, none⟩ = some (.int .i64 p.2) := (own_at HO3.out ((encs_get encR_len (by decide) hp).trans rfl)).1
    have jm : (j : Int) < (j : Int) + 1 := by omega
    have j0 : (0 : Int) ≤ (j : Int) := Int.natCast_nonneg j
    refine wp_region_ord (fun w' => w'.cell? ⟨wr.heap.size, 0, none⟩ = some (.int .i64 x.1) ∧ w'.cell? ⟨gb, j * 2 + 1, none⟩ = some (.int .i64 p.2)) [(0, true), (1, true), (2, true), (3, true), (4, true), (5, true), (6, true), (7, true), (8, true), (9, true), (10, true), (11, true)] (by kernel_rfl) (by kernel_rfl) (by kernel_rfl) ⟨q0, q1⟩ (fun d _ _ _ _ h => by cases d <;> exact h) ?_
    iterate 12 refine ord_pure ?_
    refine ord_nil ?_
    generalize y2.drew = y3 at *
    by_cases hle : x.1 ≤ p.2
    · have HST := Lib.hid (show joinStep J x = J.set j (p.1, max p.2 x.2) by unfold joinStep; rw [HJL.out, Nat.add_sub_cancel, hp]; exact if_pos hle)
      have hd4 : RowKit.Below y3.heap.size y3 y3.drew := below_drewN y3 1
      have KY4 := Lib.hid (KY3.out.step hd4)
      have HO4 := Lib.hid (own_keep HO3.out hd4)
      have HB4 := Lib.hid hd4
      clear hd4
      go_upto_region 8 with fail
      have c2 : y3.drew.cell? ⟨wr.heap.size, 1, none⟩ = some (.int .i64 x.2) := KY4.out.cell 0 1 _ rfl
      have hne : wr.heap.size ≠ gb := fun e => by have := (HOW.out.lt gb rfl).2; omega
      obtain ⟨q3, q4⟩ := own_at HO4.out ((encs_get (i := 1) encR_len (by decide) hp).trans rfl)
      have q5 := (World.cell?_setCell_far y3.drew ⟨gb, j * 2 + 1, none⟩ ⟨wr.heap.size, 1, none⟩ (.int .i64 (max p.2 x.2)) (fun e => hne e.symm)).trans c2
      have HP1 := Lib.hid hp
      have HQ := Lib.hid (And.intro c2 q5)
      clear hp q0 c0 c1 q5 c2
      refine wp_region_ord (fun w' => w'.cell? ⟨wr.heap.size, 1, none⟩ = some (.int .i64 x.2)) [(0, true), (1, true), (2, true), (3, true), (4, true), (5, true), (7, true), (8, true), (6, false), (9, true), (10, true), (11, true), (12, false)] (by kernel_rfl) (by kernel_rfl) (by kernel_rfl) HQ.out.1 (fun d _ _ _ _ h => by cases d <;> exact h) ?_
      iterate 8 refine ord_pure ?_
      refine ord_eff (by rfl) (fun K hK => ?_)
      go_simp
      refine hK.out _ _ HQ.out.1 ?_
      clear hK K
      try simp only [Act.put, puts]
      iterate 3 refine ord_pure ?_
      refine ord_eff (by rfl) (fun K hK => ?_)
      go_simp
      refine hK.out _ _ HQ.out.2 ?_
      clear hK K
      try simp only [Act.put, puts]
      refine ord_nil ?_
      have HOE := Lib.hid (own_end HO4.out HP1.out (max p.2 x.2))
      have HBE := Lib.hid (((HB.out.trans (KY3.out.low.out.mono HSZ.out)).trans (HB4.out.mono HS3.out)).setCell (p := ⟨gb, j * 2 + 1, none⟩) (HO3.out.lt gb rfl).1 (.int .i64 (max p.2 x.2)))
      clear q3 q4
      go_wp2
      go_roundw
      case rel => exact ⟨k + 1, _, j + 1, d, by have := HLT.out; omega, by go_num, rfl, by have := HM.out; omega, by rw [HT.out, HST.out]; exact HOE.out, HBE.out⟩
      case measure => have := HLT.out; simp [intOf]; omega
    · have HST := Lib.hid (show joinStep J x = J ++ [x] by unfold joinStep; rw [HJL.out, Nat.add_sub_cancel, hp]; exact if_neg hle)
      clear hp q0 q1 c0 c1
      go_wp2_with (first | (with_reducible refine load_rn rfl _ rfl wr.heap.size 0 rfl x (box_range (KY3.out.at 0 rfl).out) ?_; simp only [encR]) | (at_builtin; refine wpList_append_gr rfl _ _ 117 rfl w1.heap.size 124 i2 _ 2 16 Tryz.underlying117 hj hj0 hj1 hj2 rfl (by decide) _ _ _ rfl (own_keep HO3.out ((Below.refl _ y3).alloc (Nat.le_refl _) _)) ⟨y3.heap.size, 0, none⟩ 1 1 (encR x) rfl rfl (new_row y3 _ _) (encR_one _) (by unfold maxLen; have := HLT.out; have := HN.out; have := HM.out; omega) (by have := HLT.out; have := HN.out; have := HM.out; omega) (by have := HS3.out; simp; omega) ?_; intro v' w3 hown3 hg3; obtain ⟨B3, c3, rfl⟩ := own_form hown3; have HO4 := Lib.hid hown3; have HG3 := Lib.hid hg3; clear hown3 hg3))
      have hra : RowKit.Below y3.heap.size y3 (y3.alloc (.cells (encR x).toArray 124)) := (Below.refl _ y3).alloc (Nat.le_refl _) _
      have HB3 := Lib.hid (((HB.out.trans (KY3.out.low.out.mono HSZ.out)).trans (hra.mono HS3.out)).grown HG3.out (Nat.le_trans HS3.out hra.size) (fun k e => (HO3.out.lt k e).1))
      clear hra
      go_roundw
      case rel => exact ⟨k + 1, B3, j + 1 + 1, c3, by have := HLT.out; omega, by go_num, rfl, by have := HM.out; omega, by have := HO4.out; rw [HT.out, HST.out]; unfold encs at this ⊢; rw [List.flatMap_append]; simpa using this, HB3.out⟩
      case measure => have := HLT.out; simp [intOf]; omega
  · have he : k = n := by omega
    subst he
    have kn : ¬ (k : Int) < (k : Int) := Int.lt_irrefl _
    have HT := Lib.hid (show L.take k = L by rw [← HL.out, List.take_length])
    rw [HT.out] at HOW
    go_wp2
    go_ret
    exact ⟨L, B, m, d, rfl, HP.out, HS.out, own_weak HOW.out (HB1.out.size), HM.out, HB1.out.trans (HB.out.mono (Nat.le_trans HBS.out HB1.out.size))⟩
end Go.Proofs.YtemgejblnionlaaGreatDoor
