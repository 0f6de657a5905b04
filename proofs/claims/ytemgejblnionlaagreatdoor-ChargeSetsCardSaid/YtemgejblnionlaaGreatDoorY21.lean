/-
  Texts QnQ, put together by program.
-/
import Derived.Test.YtemgejblnionlaaGreatDoorY19
import Derived.Test.YtemgejblnionlaaGreatDoorShelfN
import Derived.Handy
import Derived.Laws.Rows
import Derived.Lib.Hide
import Derived.Lib.OthersKept
import Derived.Lib.TrimU
import Derived.LoopIn
import Derived.LoopNIn
import Derived.Maps.AppendAt
import Derived.Outline
import Derived.OwnWalkIn
import Derived.RangeFuncBound
import Derived.RangeFuncBox
import Derived.RangeFuncCalls
import Derived.RangeFuncLeaves
import Derived.RangeFuncNested
import Derived.Shelf.Abstract
import Derived.Shelf.RegionOpen
import Derived.TacticsInMore
import Derived.WalkKit
import Derived.WalkSpells
namespace Go.Proofs.YtemgejblnionlaaGreatDoor.Nam
open Go.RowKit Go.Shelf Pl
set_option maxHeartbeats 400000
set_option maxRecDepth 100000
attribute [local go_sem] Oper.semAt_some
theorem kindOf_any (r : Int) (h0 : -2147483648 ≤ r) (h1 : r ≤ 2147483647) (w : World) (hE : Env w) :
 Calls Tryz.prog 300 #[.int .i32 r] w fun e w' => e = .returned (.int .i64 (kindI r)) ∧ Below w.heap.size w w' := by
 obtain ⟨⟨t, fr, hT⟩, _⟩ := hE
 have i0 : ∀ w, (Instr.index 334 (.agg tabCells) (.int .i64 0)).run Tryz.prog w = .ok (.agg #[.int .i32 97, .int .i32 122, .int .i64 1]) w := fun _ => by kernel_rfl
 have i1 : ∀ w, (Instr.index 334 (.agg tabCells) (.int .i64 1)).run Tryz.prog w = .ok (.agg #[.int .i32 65, .int .i32 90, .int .i64 1]) w := fun _ => by kernel_rfl
 have i2 : ∀ w, (Instr.index 334 (.agg tabCells) (.int .i64 2)).run Tryz.prog w = .ok (.agg #[.int .i32 48, .int .i32 57, .int .i64 2]) w := fun _ => by kernel_rfl
 have i3 : ∀ w, (Instr.index 334 (.agg tabCells) (.int .i64 3)).run Tryz.prog w = .ok (.agg #[.int .i32 46, .int .i32 46, .int .i64 3]) w := fun _ => by kernel_rfl
 have i4 : ∀ w, (Instr.index 334 (.agg tabCells) (.int .i64 4)).run Tryz.prog w = .ok (.agg #[.int .i32 95, .int .i32 95, .int .i64 3]) w := fun _ => by kernel_rfl
 have i5 : ∀ w, (Instr.index 334 (.agg tabCells) (.int .i64 5)).run Tryz.prog w = .ok (.agg #[.int .i32 45, .int .i32 45, .int .i64 3]) w := fun _ => by kernel_rfl
 have i6 : ∀ w, (Instr.index 334 (.agg tabCells) (.int .i64 6)).run Tryz.prog w = .ok (.agg #[.int .i32 126, .int .i32 126, .int .i64 3]) w := fun _ => by kernel_rfl
 go_enter Tryz.func300, Tryz.ntmps300
 go_wp2_with (refine wpList_load_row rfl 334 (.global 0) rfl 0 rfl t tabCells fr _ hT Tryz.underlying334 rfl (by kernel_rfl) ?_)
 go_rounds 8
 all_goals
  go_ret
  refine ⟨ret_int ?_, by go_grown⟩
  unfold kindI
  repeat' split
  all_goals omega
set_option maxHeartbeats 1000000 in
theorem Valid_any (s : ByteArray) (hs : s.size ≤ maxLen) (w : World) (hE : Env w) :
 Calls Tryz.prog 279 #[.string s] w fun e w' => e = .returned (.bool (Pl.vld s.data.toList)) ∧ Below w.heap.size w w' := by
 unfold maxLen at hs
 have hsz := Lib.size_eq s
 by_cases c : s.data.toList ≠ [] ∧ s.data.toList.length ≤ 16 ∧ s.data.toList ≠ [46] ∧ s.data.toList ≠ [46, 46]
 · have C := Lib.hid c
   rw [← Lib.toList_data] at c
   obtain ⟨c1, c2, c3, c4⟩ := c
   rw [Lib.toList_data, ← hsz] at c2
   have d1 : s.toList.isEmpty = false := by cases h : s.toList with | nil => exact absurd h c1 | cons => rfl
   have d3 : (s.toList == [46]) = false := beq_eq_false_iff_ne.2 c3
   have d4 : (s.toList == [46, 46]) = false := beq_eq_false_iff_ne.2 c4
   have d2 : decide (16 < (s.size : Int)) = false := by simp; omega
   have HS := Lib.hid hsz
   clear hsz c1 c3 c4
   go_enter Tryz.func279, Tryz.ntmps279
   go_wp2
   go_loopw [4] (fun _ wx => ∃ pos : Nat, pos ≤ s.size ∧ wx.heap[w.heap.size]? = some (.stringIter s pos) ∧ Pl.Okto s.data.toList pos ∧ Below w.heap.size w wx) (fun _ wx => s.size - wx.iterPos w.heap.size)
   case atStart => exact ⟨0, Nat.zero_le _, World.iter_heap w s 0, Pl.okto_zero _, (Below.refl _ _).alloc (Nat.le_refl _) _⟩
   case round =>
    obtain ⟨pos, hps, hit, hok, hbw⟩ := hrel
    have hpos : wr.iterPos w.heap.size = pos := by simp [World.iterPos, hit]
    have HP := Lib.hid hpos
    clear hpos
    by_cases hlt : pos < s.size
    · have hnx : ∀ ty, (Instr.next (.pointer (some ⟨w.heap.size, 0, none⟩)) true ty).run Tryz.prog wr = _ := fun ty => Lib.run_next_any_at wr w.heap.size s pos ty hit hlt
      obtain ⟨rk, _, rw1⟩ := rune_at s pos hlt
      have hwd := Lib.width_pos s pos
      have hle := Lib.rune_le s pos
      obtain ⟨R, hR⟩ : ∃ R, (Utf8.decode s pos).1 = R := ⟨_, rfl⟩
      obtain ⟨K, hK⟩ : ∃ K, (Utf8.decode s pos).2 = K := ⟨_, rfl⟩
      rw [hR] at rk rw1 hle
      rw [hK] at rw1 hwd
      rw [hR, hK] at hnx
      have hit2 := Lib.iterAt_heap wr w.heap.size s pos (pos + K) hit
      have hbw2 := Lib.below_iterAt hbw (k := w.heap.size) (Nat.le_refl _) s (pos + K)
      obtain ⟨W, hWd⟩ : ∃ W, wr.iterAt w.heap.size s (pos + K) = W := ⟨_, rfl⟩
      rw [hWd] at hnx hit2 hbw2
      have hEW : Env W := hE.below hbw2
      have cS := kindOf_any (R : Int) (by omega) (by omega) W hEW
      have HR := Lib.hid hR; have HK := Lib.hid hK; have HW := Lib.hid hWd; have HRK := Lib.hid rk; have HRW := Lib.hid rw1
      clear hR hK hWd rk rw1 hit hbw
      cases hk0 : (kindI (R : Int) == 0)
      · have HK0 := Lib.hid hk0
        go_wp2_with (go_at_call 300; refine cS.mono ?_; rintro e W1 ⟨rfl, hb1⟩)
        have hIT : w.heap.size < W.heap.size := (Array.getElem?_eq_some_iff.1 hit2).1
        have hit3 := (hb1.block w.heap.size hIT).trans hit2
        obtain rfl := HRW.out HK0.out
        go_roundw
        case rel =>
         refine ⟨pos + 1, by omega, hit3, Pl.okto_succ hok (by rw [← HS.out]; exact hlt) ?_, hbw2.trans (hb1.mono hbw2.size)⟩
         rw [HRK.out, HK0.out]; rfl
        case measure =>
         rw [HP.out]
         have : W1.iterPos w.heap.size = pos + 1 := by simp [World.iterPos, hit3]
         rw [this]; omega
      · have HK0 := Lib.hid hk0
        go_wp2_with (go_at_call 300; refine cS.mono ?_; rintro e W1 ⟨rfl, hb1⟩)
        go_ret
        refine ⟨ret_bool (Pl.vld_bad (i := pos) (by rw [← HS.out]; exact hlt) ?_).symm, hbw2.trans (hb1.mono hbw2.size)⟩
        rw [HRK.out, HK0.out]; rfl
    · have hnx : ∀ ty, (Instr.next (.pointer (some ⟨w.heap.size, 0, none⟩)) true ty).run Tryz.prog wr = _ := fun ty => Lib.run_next_end_at wr w.heap.size s pos ty hit hlt
      have hbwH := Lib.hid hbw
      clear hit
      go_wp2
      go_ret
      obtain rfl : pos = s.size := by omega
      refine ⟨ret_bool (Pl.vld_yes C.out ?_).symm, hbw⟩
      rw [← HS.out]; exact hok
 · have hv := Pl.vld_no c
   have HV := Lib.hid hv
   have c' : s.data.toList = [] ∨ 16 < s.size ∨ s.data.toList = [46] ∨ s.data.toList = [46, 46] := by
    rw [hsz]
    by_cases e1 : s.data.toList = []
    · exact .inl e1
    · by_cases e2 : 16 < s.data.toList.length
      · exact .inr (.inl e2)
      · by_cases e3 : s.data.toList = [46]
        · exact .inr (.inr (.inl e3))
        · exact .inr (.inr (.inr (Decidable.byContradiction fun e4 => c ⟨e1, by omega, e3, e4⟩)))
   clear hsz hv c
   rcases c' with e | e | e | e
   · obtain rfl : s = ⟨#[]⟩ := by rw [← Lib.mk_data s, e]
     clear e
     go_enter Tryz.func279, Tryz.ntmps279
     go_wp2
     go_ret
     exact ⟨ret_bool HV.out.symm, Below.refl _ _⟩
   · have d2 : decide (16 < (s.size : Int)) = true := by simp; omega
     have d1 : s.toList.isEmpty = false := by
      rw [Lib.toList_data]
      cases h : s.data.toList with
      | nil => rw [Lib.size_eq, h] at e; simp at e
      | cons => rfl
     go_enter Tryz.func279, Tryz.ntmps279
     go_wp2
     go_ret
     exact ⟨ret_bool HV.out.symm, Below.refl _ _⟩
   · obtain rfl : s = ⟨#[46]⟩ := by rw [← Lib.mk_data s, e]
     clear e
     go_enter Tryz.func279, Tryz.ntmps279
     go_wp2
     go_ret
     exact ⟨ret_bool HV.out.symm, Below.refl _ _⟩
   · obtain rfl : s = ⟨#[46, 46]⟩ := by rw [← Lib.mk_data s, e]
     clear e
     go_enter Tryz.func279, Tryz.ntmps279
     go_wp2
     go_ret
     exact ⟨ret_bool HV.out.symm, Below.refl _ _⟩
theorem cut_any (F : Fence) (n : Nat) (hF : F = Fence.wide) (s : ByteArray) (m : Int) (w : World) (hs : s.size < 4294967281) (hm : w.cell? ⟨1, 0, none⟩ = some (.int .i64 m)) :
 CallsIn F n Tryz.prog 299 #[.string s, .string ⟨#[47]⟩] w fun e w' => e = .returned (.tuple #[.string (mk (Lib.cut s.data.toList [47]).1), .string (mk (Lib.cut s.data.toList [47]).2.1), .bool (Lib.cut s.data.toList [47]).2.2]) ∧ ∃ q, w' = w.drewN q := by
 subst hF
 exact callsIn_wide.2 (Tryz.strings_Cut s ⟨#[47]⟩ m w hs hm)
set_option maxRecDepth 100000 in
set_option maxHeartbeats 1000000 in
theorem names1_in (n : Nat) (hn : 1 ≤ n) (l Bn n₀ : Nat) (p : ByteArray) (hp : p.size < 4294967281) (J Jx : List Tx → World → Prop)
 (hY : ∀ (pre : List Tx) (x : Tx) W, J pre W → pre.length < (cut p.data.toList).length → YieldAt Fence.wide (n - 1) Tryz.prog l #[.string x.1] W fun e W' =>
  (e = .returned (.bool true) ∧ J (pre ++ [x]) W' ∧ Below n₀ W W') ∨ (e = .returned (.bool false) ∧ Jx (pre ++ [x]) W'))
 (W : World) (hJ : AbidesFrom W.heap.size J) (h2 : 1 < n₀) (m : Int) (hm : W.cell? ⟨1, 0, none⟩ = some (.int .i64 m)) (hBn : W.cell? ⟨Bn, 0, none⟩ = some (.string p)) (h0 : J [] W) :
 CallsIn Fence.wide n Tryz.prog 298 #[.func (.yield l) #[] #[], .pointer (some ⟨Bn, 0, none⟩)] W fun e W' => (∃ v, e = .returned v) ∧
  ((∃ ys, txs ys = cut p.data.toList ∧ J ys W') ∨ (∃ pre, txs pre <+: cut p.data.toList ∧ Jx pre W')) := by
 have hJd : ∀ s (A : World) (q : Nat), J s A → J s (A.drewN q) := fun s A q h => hJ s A _ none h ⟨rfl, rfl, rfl, Nat.le_refl _, fun _ _ _ => rfl⟩ (fun r e => by cases e)
 have HJ := Lib.hid hJ
 have HJd := Lib.hid hJd
 have HY := Lib.hid hY
 clear hJ hJd hY
 have h53 : Fence.wide.fn 298 := trivial
 refine callsIn_of_wp Tryz.func298 rfl h53 ?_ rfl
 simp only [Tryz.ntmps298, List.size_toArray, List.length_cons, List.length_nil, Nat.reduceAdd, Nat.reduceSub, Array.replicate_succ, Array.replicate_zero, List.push_toArray, List.append_toArray, List.nil_append, List.cons_append]
 gi_wp2
 gi_region
 gi_wp2
 gi_loopw [3, 4] (fun r b wr => ∃ (s : ByteArray) (f : Bool) (pre : List Tx), r = .string s ∧ b = .bool f ∧ s.size ≤ p.size ∧ J pre wr ∧ wr.cell? ⟨1, 0, none⟩ = some (.int .i64 m) ∧
  (f = true → txs pre ++ cutGo [] s.data.toList = cut p.data.toList) ∧ (f = false → txs pre = cut p.data.toList))
  (fun r b _ => moreLen r b)
 case atStart =>
  refine ⟨p, _, [], rfl, rfl, Nat.le_refl _, HJd.out [] W 1 h0, hm, fun h => ?_, fun h => ?_⟩
  · rw [cutGo_cut (fun e => by rw [Lib.toList_data, e] at h; simp at h)]; rfl
  · have : p.data.toList = [] := by rw [Lib.toList_data] at h; simpa using h
    rw [this]; rfl
 case round =>
  obtain ⟨s, f, pre, rfl, rfl, hsz, hJs, hms, hgo, hend⟩ := hrel
  cases f with
  | false =>
    have HE := Lib.hid (hend rfl)
    clear hgo hend
    gi_wp2
    go_end0
    exact ⟨⟨_, rfl⟩, .inl ⟨pre, HE.out, hJs⟩⟩
  | true =>
    have hg := hgo rfl
    have hst := cutGo_step s.data.toList []
    have hcl := libcut_len s.data.toList
    have hcl2 := libcut_len2 s.data.toList
    have cC := fun W' hm' => cut_any Fence.wide (n - 1) rfl s m W' (by omega) hm'
    obtain ⟨a, ha⟩ : ∃ a, mk (Lib.cut s.data.toList [47]).1 = a := ⟨_, rfl⟩
    obtain ⟨r2, hr2⟩ : ∃ r2, mk (Lib.cut s.data.toList [47]).2.1 = r2 := ⟨_, rfl⟩
    obtain ⟨f2, hf2⟩ : ∃ f2, (Lib.cut s.data.toList [47]).2.2 = f2 := ⟨_, rfl⟩
    have ha' : (Lib.cut s.data.toList [47]).1 = a.data.toList := by rw [← ha, mk_data]
    have hr2' : (Lib.cut s.data.toList [47]).2.1 = r2.data.toList := by rw [← hr2, mk_data]
    simp only [ha, hr2, hf2] at cC
    rw [ha', hr2', hf2] at hst
    rw [ha', hr2', hf2, ← Lib.size_eq, ← Lib.size_eq, ← Lib.size_eq] at hcl
    rw [hst, List.nil_append] at hg
    obtain ⟨hca, hcr⟩ := hcl
    rw [hr2', ← Lib.size_eq, ← Lib.size_eq] at hcl2
    have hlen : pre.length < (cut p.data.toList).length := by rw [← hg]; simp [txs]
    have HG := Lib.hid hg
    have CC := Lib.hid cC
    have HCR := Lib.hid hcr
    clear hgo hend hg hst ha hr2 hf2 ha' hr2' cC hcr
    have hxs : a.size ≤ maxLen := by unfold maxLen; omega
    gi_wp2_with fail
    refine ⟨trivial, ?_⟩
    gi_at_call 299
    refine (CC.out _ hms).mono ?_
    rintro e w' ⟨rfl, q, rfl⟩
    obtain ⟨fn, tmps, assign, body, hy, hR⟩ := HY.out pre ⟨a, hxs⟩ (wr.drewN q) (HJd.out pre wr q hJs) hlen
    dsimp only at hy
    gi_wp2
    refine hR.mono ?_
    rintro e W3 (⟨rfl, hJ3, hk3⟩ | ⟨rfl, hJx3⟩)
    · have hm3 : W3.cell? ⟨1, 0, none⟩ = some (.int .i64 m) := (hk3.cell (p := ⟨1, 0, none⟩) h2).trans hms
      gi_wp2
      go_roundw
      case rel =>
       refine ⟨r2, f2, pre ++ [⟨a, hxs⟩], rfl, rfl, ?_, hJ3, hm3, fun h => ?_, fun h => ?_⟩
       · omega
       · rw [← HG.out, txs_snoc, h]; simp
       · rw [← HG.out, txs_snoc, h]; simp
      case measure =>
       cases f2
       · simp [moreLen]
       · have := HCR.out rfl; simp [moreLen]; omega
    · gi_wp2
      refine bodyPost_ret (results_none rfl _ _ _) rfl ?_
      refine ⟨⟨_, rfl⟩, .inr ⟨pre ++ [⟨a, hxs⟩], ?_, hJx3⟩⟩
      rw [← HG.out, txs_snoc]
      exact ⟨_, by rw [List.append_assoc]; rfl⟩
theorem names_stops (n : Nat) (hn : 1 ≤ n) (Bn n₀ : Nat) (p : ByteArray) (hp : p.size < 4294967281) (w : World) (hBn : Bn < w.heap.size) (hn₀ : n₀ ≤ w.heap.size) (h2 : 1 < n₀) (m : Int)
 (hm : w.cell? ⟨1, 0, none⟩ = some (.int .i64 m)) (hc : w.cell? ⟨Bn, 0, none⟩ = some (.string p)) :
 SeqStopsK Fence.wide n Tryz.prog 298 #[.pointer (some ⟨Bn, 0, none⟩)] (fun x : Tx => #[Value.string x.1]) (Below n₀) (fun ys => txs ys = cut p.data.toList) (fun pre => txs pre <+: cut p.data.toList) (cut p.data.toList).length w :=
 fun l J Jx W hW hJ _ hY h0 =>
  names1_in n hn l Bn n₀ p hp J Jx hY W hJ h2 m ((hW.cell (p := ⟨1, 0, none⟩) (by show 1 < _; omega)).trans hm) ((hW.cell (p := ⟨Bn, 0, none⟩) hBn).trans hc) h0
set_option maxRecDepth 100000 in
set_option maxHeartbeats 2000000 in
theorem parts_any (p : ByteArray) (hp : p.size < 4294967281) (w : World) (hE : Env w) :
 Calls Tryz.prog 245 #[.string p] w (PartsPost p.data.toList w) := by
 refine (callsIn_wide (n := 5)).1 ?_
 obtain ⟨m, hm⟩ := hE.maxlen
 have h2 : 1 < w.heap.size := block_lt_of_cell hm
 obtain ⟨i0, hi, hz0, hz1, hz2⟩ := info_parts info_string
 have h35 : Fence.wide.fn 245 := trivial
 refine callsIn_of_wp_marks Tryz.func245 rfl h35 ?_ rfl
 simp only [Tryz.ntmps245, List.size_toArray, List.length_cons, List.length_nil, Nat.reduceAdd, Nat.reduceSub, Array.replicate_succ, Array.replicate_zero, List.push_toArray, List.append_toArray, List.nil_append, List.cons_append]
 gi_wp2_with fail
 refine ⟨trivial, ?_⟩
 gi_at_call 278
 refine (names_any Fence.wide _ trivial rfl _ _).mono ?_
 rintro e w' ⟨rfl, rfl⟩
 gi_wp2
 have b0 := Boxed.new w 69 (.slice none 0 0)
 have b1 := Boxed.new (w.alloc (.cells #[.slice none 0 0] 69)) 45 (.int .i64 0)
 have b2 := Boxed.new ((w.alloc (.cells #[.slice none 0 0] 69)).alloc (.cells #[.int .i64 0] 45)) 69 (.slice none 0 0)
 have b3 := Boxed.new (((w.alloc (.cells #[.slice none 0 0] 69)).alloc (.cells #[.int .i64 0] 45)).alloc (.cells #[.slice none 0 0] 69)) 9 (.string p)
 simp only [World.size_alloc] at b1 b2 b3
 have hB0 : Below w.heap.size w ((((w.alloc (.cells #[.slice none 0 0] 69)).alloc (.cells #[.int .i64 0] 45)).alloc (.cells #[.slice none 0 0] 69)).alloc (.cells #[.string p] 9)) :=
  ((((Below.refl _ w).alloc (Nat.le_refl _) _).alloc (by simp) _).alloc (by simp; omega) _).alloc (by simp; omega) _
 refine wpIn_rangeFunc_ownG rfl (by omega) (gf := 298) (lb := #[.pointer (some ⟨w.heap.size + 1 + 1 + 1, 0, none⟩)]) rfl trivial (enters_of Tryz.func298 (by kernel_rfl) rfl)
  (names_stops 4 (by omega) (w.heap.size + 1 + 1 + 1) w.heap.size p hp _ (by simp) (by simp; omega) h2 m (hB0.cell (p := ⟨1, 0, none⟩) h2 |>.trans hm) b3.cell) belowK_t (belowK_b (by simp; omega)) (Below.refl _ _) (fun _ => rfl)
  (fun (pre : List Tx) W => ((∃ v, Boxed W (w.heap.size + 1 + 1) 69 v ∧ W.ownsRow w.heap.size 9 1 v pre.length (pre.map fun x => Value.string x.1) ∧ (∃ A c, v = .slice A pre.length c)) ∧ (goodPre (txs pre) ∧ Boxed W w.heap.size 69 (.slice none 0 0) ∧ Boxed W (w.heap.size + 1) 45 (.int .i64 0))) ∧ Below w.heap.size w W)
  (fun c pre W => ((c = .ret ∧ badPre (txs pre)) ∧ Boxed W w.heap.size 69 (.slice none 0 0) ∧ Boxed W (w.heap.size + 1) 45 (.int .i64 10)) ∧ Below w.heap.size w W)
  (OwnFrom.and (OwnFrom.and (Own.from (holdsRow_own w.heap.size (w.heap.size + 1 + 1) 69 9 1 (fun (pre : List Tx) => pre.length) (fun pre => pre.map fun x => Value.string x.1) (fun pre v => ∃ A c, v = .slice A pre.length c)) _)
   (OwnFrom.and (ownFrom_pure _ _) (OwnFrom.and (Own.from (boxed_own _ _ _) _) (Own.from (boxed_own _ _ _) _)))) (ownFrom_below (Nat.le_refl _) (by simp; omega)))
  (fun c => OwnFrom.and (OwnFrom.and (ownFrom_pure _ _) (OwnFrom.and (Own.from (boxed_own _ _ _) _) (Own.from (boxed_own _ _ _) _))) (ownFrom_below (Nat.le_refl _) (by simp; omega)))
  ⟨⟨⟨_, b2.alloc _, World.ownsRow_nil _ _ _ _, none, 0, rfl⟩, ⟨rfl, Nat.zero_le _⟩, ((b0.alloc _).alloc _).alloc _, (b1.alloc _).alloc _⟩, hB0⟩
  (fun x => { tmps := #[.string p, undef, .pointer (some ⟨w.heap.size, 0, none⟩), .pointer (some ⟨w.heap.size + 1, 0, none⟩), .pointer (some ⟨w.heap.size + 1 + 1, 0, none⟩), .string x.1, .string p, .func (.func 298) #[] #[.pointer (some ⟨w.heap.size + 1 + 1 + 1, 0, none⟩)], .string x.1, undef, undef, undef, undef, undef, undef, undef, undef, undef, undef, undef, undef, undef], defers := [] }) ?assign ?body ?done ?stop
 case assign =>
  intro l x W K hK
  gi_wp2
  exact hK
 case body =>
  rintro l pre x W ⟨⟨⟨v, hv, hrow, A, c, rfl⟩, hgood, hr0, hr1⟩, hB⟩ hlt
  have hEW : Env W := hE.below hB
  have hsz := hB.size
  have hc := hv.cell
  have hc0 := hr0.cell
  have hf0 := hr0.frozen
  have hc1 := hr1.cell
  have hf1 := hr1.frozen
  by_cases h8 : pre.length = 8
  · have h8b : ((pre.length : Int) == 8) = true := by rw [h8]; rfl
    have H8 := Lib.hid h8
    clear h8
    gi_wp2_with fail
    refine ⟨trivial, ?_⟩
    gi_wp2
    refine ⟨((KeepsOthers.setCell _ _ _).trans (KeepsOthers.setCell _ _ _)).from _, ⟨⟨rfl, ?_⟩, ?_, ?_⟩, ?_⟩
    · rw [txs_snoc]; exact bad_long (by rw [txs, List.length_map]; exact H8.out)
    · exact (hr0.set _).other (by simp) _
    · exact (hr1.other (by simp) _).set _
    · exact (hB.setCell (p := ⟨w.heap.size, 0, none⟩) (Nat.le_refl _) _).setCell (p := ⟨w.heap.size + 1, 0, none⟩) (by simp) _
  · have h8b : ((pre.length : Int) == 8) = false := by rw [beq_eq_false_iff_ne]; omega
    have hl8 : pre.length ≤ 7 := by have := hgood.2; rw [txs, List.length_map] at this; omega
    have H8 := Lib.hid h8
    clear h8
    have cV := Valid_any x.1 x.2 W hEW
    cases hx : vld x.1.data.toList <;> rw [hx] at cV <;> have HX := Lib.hid hx <;> clear hx
    · gi_wp2_with fail
      refine ⟨trivial, ?_⟩
      gi_at_call 279
      refine (CallsIn.inRound l (callsIn_wide.2 cV)).mono ?_
      rintro e W1 ⟨rfl, hb1⟩
      have hg1 : W.grownBy W1 none := ⟨hb1.os, hb1.tape, hb1.output, hb1.size, fun i hi _ => hb1.block i hi⟩
      have hr0' := hr0.kept hg1 (by simp)
      have hr1' := hr1.kept hg1 (by simp)
      have hc0' := hr0'.cell
      have hf0' := hr0'.frozen
      have hc1' := hr1'.cell
      have hf1' := hr1'.frozen
      gi_wp2
      refine ⟨(KeepsFrom.of_grownBy hg1 (by simp)).trans (((KeepsOthers.setCell _ _ _).trans (KeepsOthers.setCell _ _ _)).from _), ⟨⟨rfl, ?_⟩, ?_, ?_⟩, ?_⟩
      · rw [txs_snoc]; exact bad_snoc HX.out
      · exact (hr0'.set _).other (by simp) _
      · exact (hr1'.other (by simp) _).set _
      · exact ((hB.trans (hb1.mono hsz)).setCell (p := ⟨w.heap.size, 0, none⟩) (Nat.le_refl _) _).setCell (p := ⟨w.heap.size + 1, 0, none⟩) (by simp) _
    · gi_wp2_with fail
      refine ⟨trivial, ?_⟩
      gi_at_call 279
      refine (CallsIn.inRound l (callsIn_wide.2 cV)).mono ?_
      rintro e W1 ⟨rfl, hb1⟩
      have hg1 : W.grownBy W1 none := ⟨hb1.os, hb1.tape, hb1.output, hb1.size, fun i hi _ => hb1.block i hi⟩
      have hr0' := hr0.kept hg1 (by simp)
      have hr1' := hr1.kept hg1 (by simp)
      have hv' := hv.kept hg1 (by simp)
      have hrow' : W1.ownsRow w.heap.size 9 1 (.slice A pre.length c) pre.length (pre.map fun x => Value.string x.1) := hrow.kept hg1 (by cases A <;> simp [Value.ownBlock])
      have hB' := hB.trans (hb1.mono hsz)
      have hc' := hv'.cell
      gi_wp2_with (gi_at_builtin; refine wpListIn_append_own _ rfl _ _ 69 rfl w.heap.size 9 i0 (.string ⟨#[]⟩) 1 16 Tryz.underlying69 hi hz0 hz1 hz2 rfl (by decide) _ _ _ rfl (hrow'.alloc _) ⟨W1.heap.size, 0, none⟩ 1 1 [.string x.1] rfl rfl (cell_one_new _ _ _) (by simp [Value.oneCell']) (by unfold maxLen; omega) (by omega) (by have := hB'.size; simp; omega) ?_; intro v' w1 hown' hgrow _; obtain ⟨g', cap', rfl⟩ := ownsRow_succ hown'; obtain ⟨hv1, hv2, hr2, hk2, hb2⟩ := hv'.appended (by decide) hrow' hB'.size (by omega) hown' hgrow; have hcc1 := hv1.cell; have hff1 := hv1.frozen)
      have hne0 := hr0'.not_row (by decide) hrow'
      have hne1 := hr1'.not_row (by decide) hrow'
      refine ⟨(KeepsFrom.of_grownBy hg1 (by simp)).trans (hk2.from _), (hb1.mono hsz).trans hb2, ⟨⟨_, hv2, ?_, some ⟨g', 0, none⟩, cap', ?_⟩, ?_, ?_, ?_⟩, hB'.trans hb2⟩
      · simpa using hr2
      · simp
      · rw [txs_snoc]; exact good_snoc hgood (by rw [txs, List.length_map]; exact H8.out) HX.out
      · exact ((hr0'.alloc _).kept hgrow hne0).other (by simp; omega) _
      · exact ((hr1'.alloc _).kept hgrow hne1).other (by simp) _
 case done =>
  rintro D ys W hD hys ⟨⟨⟨v, hv, hrow, A, c, rfl⟩, hgood, hr0, hr1⟩, hB⟩ hK
  have HYS := Lib.hid hys
  clear hys
  have hc := hv.cell
  have hc0 := hr0.cell
  have hf0 := hr0.frozen
  have hc1 := hr1.cell
  have hf1 := hr1.frozen
  gi_wp2
  have hK' := ((KeepsOthers.setCell W ⟨w.heap.size, 0, none⟩ (.slice A ys.length c)).trans (KeepsOthers.setCell _ ⟨w.heap.size + 1, 0, none⟩ (.int .i64 0))).same D _ hK rfl
  refine ⟨by simp, .inl ⟨_, _, rfl, run_takeDeferred hK', ?_⟩⟩
  have hDs : w.heap.size + 1 + 1 + 1 + 1 ≤ D := by simpa using hD
  have g0 := ((hr0.set (.slice A ys.length c)).other (B' := w.heap.size + 1) (by simp) (.int .i64 0)).kept (grownBy_putObj' _ D (.deferred none)) (by simp; omega)
  have g1 := ((hr1.other (B' := w.heap.size) (by simp) (.slice A ys.length c)).set (.int .i64 0)).kept (grownBy_putObj' _ D (.deferred none)) (by simp; omega)
  have hc5 := g0.cell
  have hc6 := g1.cell
  have hrow2 := ((hrow.kept (grownBy_setCell' W w.heap.size (.slice A ys.length c)) (.inr (hr0.not_row (by decide) hrow).symm)).kept (grownBy_setCell' _ (w.heap.size + 1) (.int .i64 0)) (.inr ((hr1.not_row (by decide) hrow).symm)))
  have hrow3 := ownsRow_putObj hrow2 (.deferred none) hK' rfl
  have hl : ys.length = (cut p.data.toList).length := by rw [← HYS.out, txs, List.length_map]
  have hBf := ((hB.setCell (p := ⟨w.heap.size, 0, none⟩) (Nat.le_refl _) (.slice A ys.length c)).setCell (p := ⟨w.heap.size + 1, 0, none⟩) (by simp) (.int .i64 0)).trans (belowK_b (w := w) (Nat.le_refl _) _ D _ (.deferred none) (by omega) hK' rfl rfl)
  refine ⟨.tuple #[.slice A ys.length c, .int .i64 0], ?_, hBf, .inl ⟨good_path (by rw [← HYS.out]; exact hgood), A, c, ?_, ?_⟩⟩
  · simp [results, Tryz.f245, go_sem, hc5, hc6]
  · rw [hl]
  · rw [← hl, ← HYS.out, ← strs_txs]
    exact hrow3
 case stop =>
  rintro D cc pre W hD hpre ⟨⟨⟨rfl, hbad⟩, hr0, hr1⟩, hB⟩ hK
  have HB := Lib.hid hbad
  have HP := Lib.hid hpre
  clear hbad hpre
  gi_wp2
  refine ⟨by simp, .inl ⟨_, _, rfl, run_takeDeferred hK, ?_⟩⟩
  have hDs : w.heap.size + 1 + 1 + 1 + 1 ≤ D := by simpa using hD
  have g0 := hr0.kept (grownBy_putObj' _ D (.deferred none)) (by simp; omega)
  have g1 := hr1.kept (grownBy_putObj' _ D (.deferred none)) (by simp; omega)
  have hc5 := g0.cell
  have hc6 := g1.cell
  refine ⟨.tuple #[.slice none 0 0, .int .i64 10], ?_, hB.trans (belowK_b (w := w) (Nat.le_refl _) _ D _ (.deferred none) (by omega) hK rfl rfl), .inr ⟨bad_path HB.out HP.out, rfl⟩⟩
  simp [results, Tryz.f245, go_sem, hc5, hc6]
end Go.Proofs.YtemgejblnionlaaGreatDoor.Nam
