/-
  Texts La Lb Lc, put together by program.
-/
import Derived.Test.YtemgejblnionlaaGreatDoorY0
import Derived.Test.YtemgejblnionlaaGreatDoorY5
import Derived.Test.YtemgejblnionlaaGreatDoorY14
import Derived.Lib.MinMax
namespace Go.Proofs.YtemgejblnionlaaGreatDoor.Ext
open Go.RowKit Ex
set_option maxHeartbeats 1000000
set_option maxRecDepth 100000
def sizeW (l : List Pc) : Int := l.foldl (fun s p => wrap64 (s + p.n)) 0
theorem sizeW_take {l : List Pc} {k : Nat} {p : Pc} (h : l[k]? = some p) : sizeW (l.take (k + 1)) = wrap64 (sizeW (l.take k) + p.n) := by
 unfold sizeW
 rw [List.take_add_one, h, List.foldl_append]
 rfl
def oneW (p q : Pc) : Bool := decide (p.id = q.id) && (decide (p.id ≤ 0) || decide (q.fr = wrap64 (p.fr + p.n)))
def addW (out : List Pc) (p : Pc) : List Pc :=
 if p.n ≤ 0 then out else match out.getLast? with
 | some q => if oneW q p then out.dropLast ++ [{ q with n := wrap64 (q.n + p.n) }] else out ++ [p]
 | none => out ++ [p]
def normW (l : List Pc) : List Pc := l.foldl addW []
theorem normW_take {l : List Pc} {k : Nat} {p : Pc} (h : l[k]? = some p) : normW (l.take (k + 1)) = addW (normW (l.take k)) p := by
 unfold normW
 rw [List.take_add_one, h, List.foldl_append]
 rfl
theorem addW_len (out : List Pc) (p : Pc) : (addW out p).length ≤ out.length + 1 := by
 unfold addW
 split
 · omega
 · split
   · split
     · simp only [List.length_append, List.length_dropLast, List.length_cons, List.length_nil]; omega
     · simp
   · simp
theorem normW_len (l : List Pc) : (normW l).length ≤ l.length := by
 have h : ∀ (l out : List Pc), (l.foldl addW out).length ≤ out.length + l.length := by
  intro l
  induction l with
  | nil => intro out; simp
  | cons p l ih => intro out; have h1 := ih (addW out p); have h2 := addW_len out p; simp only [List.foldl_cons, List.length_cons]; omega
 have h2 := h l []
 simp only [List.length_nil, Nat.zero_add] at h2
 exact h2
def movW (p : Pc) (skip n : Int) : Pc := ⟨p.id, if 0 < p.id then wrap64 (p.fr + skip) else p.fr, min (wrap64 (p.n - skip)) n⟩
theorem Size_w (A : Option Addr) (n c : Nat) (l : List Pc) (hn : l.length = n) (hl : n ≤ 4294967296) (w : World) (hA : Pcs w A l) :
 Calls Tryz.prog 35 #[.slice A n c] w fun e w' => e = .returned (.int .i64 (sizeW l)) ∧ w' = w := by
 have HN := Lib.hid hn
 have SA := Lib.hid hA
 clear hn hA
 go_enter Tryz.func35, Tryz.ntmps35
 go_wp2
 go_loop [3, 4] (fun s i => ∃ k : Nat, k ≤ n ∧ i = .int .i64 k ∧ s = .int .i64 (sizeW (l.take k))) (fun _ i => n - (intOf i).toNat)
 case atStart => exact ⟨0, Nat.zero_le _, rfl, rfl⟩
 case round =>
  obtain ⟨k, hk, rfl, rfl⟩ := hrel
  by_cases hlt : k < n
  · have hkl : k < l.length := by rw [HN.out]; exact hlt
    have hg : l[k]? = some l[k] := List.getElem?_eq_getElem hkl
    obtain ⟨g, o, rfl, _, q0, q1, q2⟩ := SA.out.at_ hg
    have h3 := sizeW_take hg
    obtain ⟨s, hs1⟩ : ∃ s, sizeW (l.take k) = s := ⟨_, rfl⟩
    rw [hs1] at h3
    rw [hs1]
    obtain ⟨x, hx⟩ : ∃ x, l[k].n = x := ⟨_, rfl⟩
    rw [hx] at h3 q2
    obtain ⟨t, ht⟩ : ∃ t, wrap64 (s + x) = t := ⟨_, rfl⟩
    rw [ht] at h3
    have H3 := Lib.hid h3
    have HT := Lib.hid ht
    have kn : (k : Int) < (n : Int) := Int.ofNat_lt.2 hlt
    have k0 : (0 : Int) ≤ (k : Int) := Int.natCast_nonneg k
    clear hs1 h3 hg hx ht
    go_wp2
    go_round
    case rel => exact ⟨k + 1, by omega, by go_num, by rw [H3.out, ← HT.out]⟩
    case measure => simp [intOf]; omega
  · obtain rfl : k = n := by omega
    have he : l.take k = l := List.take_of_length_le (by rw [HN.out]; exact Nat.le_refl _)
    rw [he]
    go_wp2
    go_ret
    exact ⟨rfl, rfl⟩
theorem One_w (p q : Pc) (w : World) :
 Calls Tryz.prog 163 #[pv p, pv q] w fun e w' => e = .returned (.bool (oneW p q)) ∧ Below w.heap.size w w' := by
 obtain ⟨id, fr, n⟩ := p
 obtain ⟨id2, fr2, n2⟩ := q
 simp only [pv]
 go_enter Tryz.func163, Tryz.ntmps163
 go_wp2
 all_goals
  go_ret
  refine ⟨ret_bool ?_, by go_grown⟩
  rw [Bool.eq_iff_iff]
  simp_all [oneW]
theorem one_wc {p q : Pc} {r : Bool} (h : oneW p q = r) (W : World) : Calls Tryz.prog 163 #[.agg #[.int .i64 p.id, .int .i64 p.fr, .int .i64 p.n], .agg #[.int .i64 q.id, .int .i64 q.fr, .int .i64 q.n]] W fun e w' => e = .returned (.bool r) ∧ Below W.heap.size W w' := by
 subst h
 exact One_w p q W
theorem load_pc {ops : Array Oper} {rest : List Oper} {o : Oper} {a : Act} {w : World} {Q : Exit → Act → World → Prop} (hgd : o.guard = none) (x : Operand) (ho : o.op = .load 126 x)
 (b k : Nat) (hx : a.eval x = .pointer (some ⟨b, k, none⟩)) (i f n : Int) (hc : w.rangeAt b k [.int .i64 i, .int .i64 f, .int .i64 n]) (hr : wpList Tryz.prog ops Q rest (a.put o.dst (.agg #[.int .i64 i, .int .i64 f, .int .i64 n])) w) : wpList Tryz.prog ops Q (o :: rest) a w :=
 wpList_load_mid hgd 126 x ho b k hx [.int .i64 i, .int .i64 f, .int .i64 n] _ hc Tryz.underlying126 rfl (by kernel_rfl) hr
theorem store_pc {ops : Array Oper} {rest : List Oper} {o : Oper} {a : Act} {w : World} {Q : Exit → Act → World → Prop} (hgd : o.guard = none) (x y : Operand) (ho : o.op = .store 126 x y)
 (g : Nat) (hx : a.eval x = .pointer (some ⟨g, 0, none⟩)) (i f n : Int) (hy : a.eval y = .agg #[.int .i64 i, .int .i64 f, .int .i64 n]) (old : Array Value) (hg : w.heap[g]? = some (.cells old 126 (0, 0))) (hold : old.size = 3)
 (hr : wpList Tryz.prog ops Q rest (a.put o.dst undef) (w.setRow g #[.int .i64 i, .int .i64 f, .int .i64 n])) : wpList Tryz.prog ops Q (o :: rest) a w :=
 wpList_store_row hgd 126 x y ho g #[.int .i64 i, .int .i64 f, .int .i64 n] hx hy 126 old hg (by kernel_rfl) hold (by simp [Value.oneCell']) hr
theorem ret_pc {fn : Func} {p : Tmp} (h : fn.results = #[.cell p 126]) (tmps : Array Value) (w : World) (g : Nat) (i f n : Int) (old : Array Value)
 (hp : tmps.getD p undef = .pointer (some ⟨g, 0, none⟩)) (hg : w.heap[g]? = some (.cells old 126 (0, 0))) : (results fn tmps).run Tryz.prog (w.setRow g #[.int .i64 i, .int .i64 f, .int .i64 n]) = .ok (.agg #[.int .i64 i, .int .i64 f, .int .i64 n]) (w.setRow g #[.int .i64 i, .int .i64 f, .int .i64 n]) :=
 results_cell_row h tmps _ g 126 _ (0, 0) _ hp (setRow_heap _ _ _ _ _ _ hg) Tryz.underlying126 rfl (by kernel_rfl)
theorem moved_w (p : Pc) (skip n : Int) (w : World) :
 Calls Tryz.prog 258 #[pv p, .int .i64 skip, .int .i64 n] w fun e w' => e = .returned (pv (movW p skip n)) ∧ Below w.heap.size w w' := by
 show Calls Tryz.prog 258 #[.agg #[.int .i64 p.id, .int .i64 p.fr, .int .i64 p.n], .int .i64 skip, .int .i64 n] w _
 have hz3 : (#[.int .i64 0, .int .i64 0, .int .i64 0] : Array Value).size = 3 := rfl
 have LOW0 := Lib.hid (Below.refl w.heap.size w)
 obtain ⟨x1, hwx1, hbx1, hlx1, hxx1⟩ := box_new w #[.int .i64 p.id, .int .i64 p.fr, .int .i64 p.n] 126
 have HWx1 := Lib.hid hwx1
 have LOW1 := Lib.hid (LOW0.out.trans (hbx1.mono LOW0.out.size))
 have BP1 := Lib.hid (show x1.heap[w.heap.size]? = some (.cells #[.int .i64 p.id, .int .i64 p.fr, .int .i64 p.n] 126 (0, 0)) from hxx1)
 have hzx1 : x1.heap.size = w.heap.size + 1 := by rw [← hwx1]; simp
 obtain ⟨x2, hwx2, hbx2, hlx2, hxx2⟩ := box_new x1 #[.int .i64 0, .int .i64 0, .int .i64 0] 126
 rw [hzx1] at hlx2 hxx2
 have HWx2 := Lib.hid hwx2
 have LOW2 := Lib.hid (LOW1.out.trans (hbx2.mono LOW1.out.size))
 have BP2 := Lib.hid (keep_block BP1.out hbx2)
 have BR2 := Lib.hid (show x2.heap[w.heap.size + 1]? = some (.cells #[.int .i64 0, .int .i64 0, .int .i64 0] 126 (0, 0)) from hxx2)
 clear hwx1 hbx1 hlx1 hxx1
 clear hwx2 hbx2 hlx2 hxx2
 clear hzx1
 go_enter Tryz.func258, Tryz.ntmps258
 go_upto_region 1 with fail
 rw [HWx1.out, HWx2.out]
 have c0 : x2.cell? ⟨w.heap.size, 0, none⟩ = some (.int .i64 p.id) := cell_of_row _ _ 0 _ _ _ BP2.out
 by_cases hid : 0 < p.id
 · have c1 : x2.cell? ⟨w.heap.size, 1, none⟩ = some (.int .i64 p.fr) := cell_of_row _ _ 1 _ _ _ BP2.out
   have f1 : x2.frozen? ⟨w.heap.size, 1, none⟩ = false := frozen_of_row _ _ 1 _ _ BP2.out
   go_upto_region 3 with fail
   clear c0 c1 f1
   have BP3 := Lib.hid (show (x2.setCell ⟨w.heap.size, 1, none⟩ (.int .i64 (wrap64 (p.fr + skip)))).heap[w.heap.size]? = some (.cells #[.int .i64 p.id, .int .i64 (wrap64 (p.fr + skip)), .int .i64 p.n] 126 (0, 0)) from heap_setCell_same x2 (w.heap.size) 1 _ _ _ BP2.out)
   have BR3 := Lib.hid ((heap_setCell_other x2 ⟨w.heap.size, 1, none⟩ (w.heap.size + 1) (.int .i64 (wrap64 (p.fr + skip))) (by show w.heap.size + 1 ≠ w.heap.size; omega)).trans BR2.out)
   have LOW3 := Lib.hid (LOW2.out.setCell (p := ⟨w.heap.size, 1, none⟩) (by show w.heap.size ≤ w.heap.size; omega) (.int .i64 (wrap64 (p.fr + skip))))
   generalize x2.setCell ⟨w.heap.size, 1, none⟩ (.int .i64 (wrap64 (p.fr + skip))) = y4 at *
   have c2 : y4.cell? ⟨w.heap.size, 2, none⟩ = some (.int .i64 p.n) := cell_of_row _ _ 2 _ _ _ BP3.out
   have f2 : y4.frozen? ⟨w.heap.size, 2, none⟩ = false := frozen_of_row _ _ 2 _ _ BP3.out
   go_upto_region 4 with fail
   clear c2 f2
   have BP5 := Lib.hid (show (y4.setCell ⟨w.heap.size, 2, none⟩ (.int .i64 (min (wrap64 (p.n - skip)) n))).heap[w.heap.size]? = some (.cells #[.int .i64 p.id, .int .i64 (wrap64 (p.fr + skip)), .int .i64 (min (wrap64 (p.n - skip)) n)] 126 (0, 0)) from heap_setCell_same y4 (w.heap.size) 2 _ _ _ BP3.out)
   have BR5 := Lib.hid ((heap_setCell_other y4 ⟨w.heap.size, 2, none⟩ (w.heap.size + 1) (.int .i64 (min (wrap64 (p.n - skip)) n)) (by show w.heap.size + 1 ≠ w.heap.size; omega)).trans BR3.out)
   have LOW5 := Lib.hid (LOW3.out.setCell (p := ⟨w.heap.size, 2, none⟩) (by show w.heap.size ≤ w.heap.size; omega) (.int .i64 (min (wrap64 (p.n - skip)) n)))
   generalize y4.setCell ⟨w.heap.size, 2, none⟩ (.int .i64 (min (wrap64 (p.n - skip)) n)) = y6 at *
   go_wp2_with (first | (with_reducible refine load_pc rfl _ rfl (w.heap.size) 0 rfl p.id (wrap64 (p.fr + skip)) (min (wrap64 (p.n - skip)) n) (box_range (cs := [.int .i64 p.id, .int .i64 (wrap64 (p.fr + skip)), .int .i64 (min (wrap64 (p.n - skip)) n)]) BP5.out) ?_) | (with_reducible refine store_pc rfl _ _ rfl (w.heap.size + 1) rfl p.id (wrap64 (p.fr + skip)) (min (wrap64 (p.n - skip)) n) rfl #[.int .i64 0, .int .i64 0, .int .i64 0] BR5.out hz3 ?_))
   refine bodyPost_ret (v := .agg #[.int .i64 p.id, .int .i64 (wrap64 (p.fr + skip)), .int .i64 (min (wrap64 (p.n - skip)) n)]) (ret_pc rfl _ _ (w.heap.size + 1) p.id (wrap64 (p.fr + skip)) (min (wrap64 (p.n - skip)) n) #[.int .i64 0, .int .i64 0, .int .i64 0] rfl BR5.out) rfl ?_
   exact ⟨by simp only [pv, movW]; first | rw [if_pos hid] | rw [if_neg (Int.not_lt.2 hid)], below_setRow LOW5.out (by omega) _⟩
 · go_upto_region 3 with fail
   clear c0
   have c2 : x2.cell? ⟨w.heap.size, 2, none⟩ = some (.int .i64 p.n) := cell_of_row _ _ 2 _ _ _ BP2.out
   have f2 : x2.frozen? ⟨w.heap.size, 2, none⟩ = false := frozen_of_row _ _ 2 _ _ BP2.out
   go_upto_region 4 with fail
   clear c2 f2
   have BP3 := Lib.hid (show (x2.setCell ⟨w.heap.size, 2, none⟩ (.int .i64 (min (wrap64 (p.n - skip)) n))).heap[w.heap.size]? = some (.cells #[.int .i64 p.id, .int .i64 (p.fr), .int .i64 (min (wrap64 (p.n - skip)) n)] 126 (0, 0)) from heap_setCell_same x2 (w.heap.size) 2 _ _ _ BP2.out)
   have BR3 := Lib.hid ((heap_setCell_other x2 ⟨w.heap.size, 2, none⟩ (w.heap.size + 1) (.int .i64 (min (wrap64 (p.n - skip)) n)) (by show w.heap.size + 1 ≠ w.heap.size; omega)).trans BR2.out)
   have LOW3 := Lib.hid (LOW2.out.setCell (p := ⟨w.heap.size, 2, none⟩) (by show w.heap.size ≤ w.heap.size; omega) (.int .i64 (min (wrap64 (p.n - skip)) n)))
   generalize x2.setCell ⟨w.heap.size, 2, none⟩ (.int .i64 (min (wrap64 (p.n - skip)) n)) = y4 at *
   go_wp2_with (first | (with_reducible refine load_pc rfl _ rfl (w.heap.size) 0 rfl p.id (p.fr) (min (wrap64 (p.n - skip)) n) (box_range (cs := [.int .i64 p.id, .int .i64 (p.fr), .int .i64 (min (wrap64 (p.n - skip)) n)]) BP3.out) ?_) | (with_reducible refine store_pc rfl _ _ rfl (w.heap.size + 1) rfl p.id (p.fr) (min (wrap64 (p.n - skip)) n) rfl #[.int .i64 0, .int .i64 0, .int .i64 0] BR3.out hz3 ?_))
   refine bodyPost_ret (v := .agg #[.int .i64 p.id, .int .i64 (p.fr), .int .i64 (min (wrap64 (p.n - skip)) n)]) (ret_pc rfl _ _ (w.heap.size + 1) p.id (p.fr) (min (wrap64 (p.n - skip)) n) #[.int .i64 0, .int .i64 0, .int .i64 0] rfl BR3.out) rfl ?_
   exact ⟨by simp only [pv, movW]; first | rw [if_pos hid] | rw [if_neg (Int.not_lt.2 hid)], below_setRow LOW3.out (by omega) _⟩
set_option maxRecDepth 100000 in
set_option maxHeartbeats 8000000 in
theorem Norm_w (A : Option Addr) (n c : Nat) (l : List Pc) (hn : l.length = n) (hl : n ≤ 1048600) (w : World) (hA : Pcs w A l) :
 Calls Tryz.prog 220 #[.slice A n c] w fun e w' => ∃ A' m c', e = .returned (.slice A' m c') ∧ w'.ownsRow w.heap.size 126 3 (.slice A' m c') m (ints (flat3 (normW l))) ∧ Below w.heap.size w w' := by
 obtain ⟨i0, hi, hz0, hz1, hz2⟩ := info_parts info_piece
 have HN := Lib.hid hn
 have SA := Lib.hid hA
 clear hn hA
 go_enter Tryz.func220, Tryz.ntmps220
 go_wp2
 go_loopw [3, 4] (fun s i wr => ∃ (k m : Nat) (A' : Option Addr) (c' : Nat), k ≤ n ∧ i = .int .i64 k ∧ s = .slice A' m c' ∧ m ≤ k ∧ wr.ownsRow w.heap.size 126 3 (.slice A' m c') m (ints (flat3 (normW (l.take k)))) ∧ Below w.heap.size w wr) (fun _ i _ => n - (intOf i).toNat)
 case atStart => exact ⟨0, 0, some ⟨w.heap.size, 0, none⟩, 0, Nat.zero_le _, rfl, rfl, Nat.le_refl _, own_empty _ _ _, by go_grown⟩
 case round =>
  obtain ⟨k, m, A', c', hk, rfl, rfl, hm, hown, hbw⟩ := hrel
  have hbs := hbw.size
  by_cases hlt : k < n
  · have hkl : k < l.length := by rw [HN.out]; exact hlt
    have hg : l[k]? = some l[k] := List.getElem?_eq_getElem hkl
    obtain ⟨p, hpe⟩ : ∃ p, l[k] = p := ⟨_, rfl⟩
    rw [hpe] at hg
    have hT := normW_take hg
    have hml := own_plen hown
    obtain ⟨O, hO⟩ : ∃ O, normW (l.take k) = O := ⟨_, rfl⟩
    rw [hO] at hT hown hml
    obtain ⟨g, o, hA', hgw, q0, q1, q2⟩ := SA.out.at_ hg
    subst hA'
    replace q0 := (hbw.cell (block_lt_of_cell q0)).trans q0
    replace q1 := (hbw.cell (block_lt_of_cell q1)).trans q1
    replace q2 := (hbw.cell (block_lt_of_cell q2)).trans q2
    have HT := Lib.hid hT
    have HML := Lib.hid hml
    have HO := Lib.hid hown
    have kn : (k : Int) < (n : Int) := Int.ofNat_lt.2 hlt
    have k0 : (0 : Int) ≤ (k : Int) := Int.natCast_nonneg k
    have HBW := Lib.hid hbw
    clear hT hml hpe hO hg hbw
    by_cases hp0 : p.n ≤ 0
    · have HA := Lib.hid (show addW O p = O from by unfold addW; rw [if_pos hp0])
      go_wp2
      go_roundw
      case rel => exact ⟨k + 1, m, A', c', by omega, by go_num, rfl, by omega, by rw [HT.out, HA.out]; exact HO.out, HBW.out⟩
      case measure => simp [intOf]; omega
    · by_cases hm0 : m = 0
      · subst hm0
        have hO0 : O = [] := List.eq_nil_of_length_eq_zero HML.out
        have HA := Lib.hid (show addW O p = O ++ [p] from by rw [hO0]; unfold addW; rw [if_neg hp0]; rfl)
        clear hO0 hown
        go_wp2
        go_quiet (fail)
        go_wp2_with (at_builtin; refine wpList_append_own _ rfl _ _ 63 rfl w.heap.size 126 i0 _ 3 24 Tryz.underlying63 hi hz0 hz1 hz2 rfl (by decide) _ _ _ rfl ((own_keep HO.out (below_drewN wr nq)).alloc _) ⟨wr.heap.size, 0, none⟩ 1 1 (ints (flat3 [p])) rfl rfl (cells_new _ _ _) (ints_cells _) (by unfold maxLen; omega) (by omega) (by simp; omega) ?_; intro v' w7 hown7 hgrow7 _; obtain ⟨g7, c7, rfl⟩ := ownsRow_succ hown7)
        have hb7 : Below w.heap.size w w7 := ((HBW.out.trans ((below_drewN wr nq).mono hbs)).alloc hbs _).grown hgrow7 (by simp; omega) (fun t ht => (HO.out.lt t ht).1)
        go_roundw
        case rel => exact ⟨k + 1, 1, some ⟨g7, 0, none⟩, c7, by omega, by go_num, rfl, by omega, by rw [HT.out, HA.out, flat3_append, ints_append]; exact hown7, hb7⟩
        case measure => simp [intOf]; omega
      · obtain ⟨j, hj⟩ : ∃ j, j + 1 = m := ⟨m - 1, by omega⟩
        obtain ⟨gO, cO, hAO, hgO, hgO2⟩ := HO.out.form (by omega)
        injection hAO with hAO _ hcO
        subst hAO; subst hcO
        obtain ⟨q, hq⟩ : ∃ q, O[j]? = some q := ⟨_, List.getElem?_eq_getElem (by rw [HML.out]; omega)⟩
        have hlast : O.getLast? = some q := by rw [List.getLast?_eq_getElem?, HML.out, ← hj, Nat.add_sub_cancel]; exact hq
        obtain ⟨⟨e0, e1, e2⟩, e3⟩ := own_tri HO.out hq
        have hjm : (m : Int) - 1 = (j : Int) := by omega
        have j0 : (0 : Int) ≤ (j : Int) := Int.natCast_nonneg j
        have jm : (j : Int) < (m : Int) := by omega
        have F0 : Hid (Duo wr.drew gO (j * 3) g (o + k * 3) q p) := Lib.hid ⟨e0, e1, e2, q0, q1, q2⟩
        have HSP := Lib.hid (last_split hlast)
        have j00 : decide ((0 : Int) ≤ (j : Int)) = true := decide_eq_true j0
        clear e0 e1 hown hq
        cases hone : oneW q p
        · have OC := Lib.hid (one_wc hone)
          have HA := Lib.hid (show addW O p = O ++ [p] from by unfold addW; rw [if_neg hp0, hlast]; simp only []; rw [hone, if_neg (by decide)])
          clear hone hlast q0 q1 e2 e3 hj hm0
          go_wp2
          refine wp_region_held_drew (S := (fun W' => W'.cell? ⟨gO, j * 3, none⟩ = some (.int .i64 q.id) ∧ W'.cell? ⟨gO, j * 3 + 1, none⟩ = some (.int .i64 q.fr) ∧ W'.cell? ⟨gO, j * 3 + 2, none⟩ = some (.int .i64 q.n) ∧ W'.cell? ⟨g, o + k * 3, none⟩ = some (.int .i64 p.id) ∧ W'.cell? ⟨g, o + k * 3 + 1, none⟩ = some (.int .i64 p.fr) ∧ W'.cell? ⟨g, o + k * 3 + 2, none⟩ = some (.int .i64 p.n))) (by kernel_rfl) (by exact F0.out) (fun hHeld => ?_)
          refine takeH 0 ?_ rfl (Or.inl ⟨by rfl, ?_⟩) ?_
          rotate_left
          · ((intro w' hSw); (try dsimp only at hSw); go_simp; all_goals (with_reducible rfl))
          simp only [Act.put, puts]
          refine takeH 1 ?_ rfl (Or.inl ⟨by rfl, ?_⟩) ?_
          rotate_left
          · ((intro w' hSw); (try dsimp only at hSw); go_simp; all_goals (with_reducible rfl))
          simp only [Act.put, puts]
          refine takeH 2 ?_ rfl (Or.inl ⟨by rfl, ?_⟩) ?_
          rotate_left
          · ((intro w' hSw); (try dsimp only at hSw); go_simp; all_goals (with_reducible rfl))
          simp only [Act.put, puts]
          refine takeH 3 ?_ rfl (Or.inl ⟨by rfl, ?_⟩) ?_
          rotate_left
          · ((intro w' hSw); (try dsimp only at hSw); go_simp; all_goals (with_reducible rfl))
          simp only [Act.put, puts]
          refine takeH 4 ?_ rfl (Or.inl ⟨by rfl, ?_⟩) ?_
          rotate_left
          · ((intro w' hSw); (try dsimp only at hSw); go_simp; all_goals (with_reducible rfl))
          simp only [Act.put, puts]
          refine takeH 5 ?_ rfl (Or.inl ⟨by rfl, ?_⟩) ?_
          rotate_left
          · ((intro w' hSw); (try dsimp only at hSw); go_simp; all_goals (with_reducible rfl))
          simp only [Act.put, puts]
          refine takeH 6 ?_ rfl (Or.inl ⟨by rfl, ?_⟩) ?_
          rotate_left
          · ((intro w' hSw); (try dsimp only at hSw); go_simp; all_goals (with_reducible rfl))
          simp only [Act.put, puts]
          refine takeH 7 ?_ rfl (Or.inl ⟨by rfl, ?_⟩) ?_
          rotate_left
          · ((intro w' hSw); (try dsimp only at hSw); go_simp; all_goals (with_reducible rfl))
          simp only [Act.put, puts]
          refine takeH 8 ?_ rfl (Or.inl ⟨by rfl, ?_⟩) ?_
          rotate_left
          · ((intro w' hSw); (try dsimp only at hSw); go_simp; all_goals (with_reducible rfl))
          simp only [Act.put, puts]
          refine takeH 9 ?_ rfl (Or.inl ⟨by rfl, ?_⟩) ?_
          rotate_left
          · ((intro w' hSw); (try dsimp only at hSw); go_simp; all_goals (with_reducible rfl))
          simp only [Act.put, puts]
          refine takeH 10 ?_ rfl (Or.inl ⟨by rfl, ?_⟩) ?_
          rotate_left
          · ((intro w' hSw); (try dsimp only at hSw); go_simp; all_goals (with_reducible rfl))
          simp only [Act.put, puts]
          refine wpAnyH_ready (rs := [11]) (by kernel_rfl) (by simp) ?_
          refine AllReadyH.cons rfl (fun K hK => ?_) AllReadyH.nil
          go_simp
          go_wp2_with (go_at_call 163; (with_reducible refine (OC.out _).mono ?_); rintro e w1 ⟨rfl, hb1⟩; have F1 := Lib.hid (duo_keep F0.out hb1); have HB1 := Lib.hid ((below_drewN wr 1).trans (hb1.mono (below_drewN wr 1).size)); clear hb1)
          refine hK.out _ _ ?_ (fun hHeld => ?_)
          · exact F1.out
          clear hK K
          refine takeH 12 ?_ rfl (Or.inl ⟨by rfl, ?_⟩) ?_
          rotate_left
          · ((intro w' hSw); (try dsimp only at hSw); go_simp; all_goals (with_reducible rfl))
          simp only [Act.put, puts]
          refine wpAnyH_done (by kernel_rfl) ?_ _
          obtain ⟨_, _, _, s0, s1, s2⟩ := F1.out
          have HO1 := Lib.hid (own_keep HO.out HB1.out)
          have hbs1 := HB1.out.size
          go_wp2_with (at_builtin; refine wpList_append_own _ rfl _ _ 63 rfl w.heap.size 126 i0 _ 3 24 Tryz.underlying63 hi hz0 hz1 hz2 rfl (by decide) _ _ _ rfl (HO1.out.alloc _) ⟨w1.heap.size, 0, none⟩ 1 1 (ints (flat3 [p])) rfl rfl (cells_new _ _ _) (ints_cells _) (by unfold maxLen; omega) (by omega) (by simp; omega) ?_; intro v' w7 hown7 hgrow7 _; obtain ⟨g7, c7, rfl⟩ := ownsRow_succ hown7)
          have hb7 : Below w.heap.size w w7 := ((HBW.out.trans (HB1.out.mono hbs)).alloc (Nat.le_trans hbs hbs1) _).grown hgrow7 (by simp; omega) (fun t ht => (HO.out.lt t ht).1)
          go_roundw
          case rel => exact ⟨k + 1, m + 1, some ⟨g7, 0, none⟩, c7, by omega, by go_num, rfl, by omega, by rw [HT.out, HA.out, flat3_append, ints_append]; exact hown7, hb7⟩
          case measure => simp [intOf]; omega
        · have OC := Lib.hid (one_wc hone)
          have HA := Lib.hid (show addW O p = O.dropLast ++ [{ q with n := wrap64 (q.n + p.n) }] from by unfold addW; rw [if_neg hp0, hlast]; simp only []; rw [hone, if_pos rfl])
          have hlen : O.dropLast.length = j := by rw [List.length_dropLast, HML.out]; omega
          have HFL := Lib.hid (show flat3 (O.dropLast ++ [{ q with n := wrap64 (q.n + p.n) }]) = (flat3 O).set (j * 3 + 2) (wrap64 (q.n + p.n)) from by rw [flat3_set, hlen, ← HSP.out])
          clear hone hlast q0 q1 e2 hj hm0 hlen
          go_wp2
          refine wp_region_held_drew (S := (fun W' => W'.cell? ⟨gO, j * 3, none⟩ = some (.int .i64 q.id) ∧ W'.cell? ⟨gO, j * 3 + 1, none⟩ = some (.int .i64 q.fr) ∧ W'.cell? ⟨gO, j * 3 + 2, none⟩ = some (.int .i64 q.n) ∧ W'.cell? ⟨g, o + k * 3, none⟩ = some (.int .i64 p.id) ∧ W'.cell? ⟨g, o + k * 3 + 1, none⟩ = some (.int .i64 p.fr) ∧ W'.cell? ⟨g, o + k * 3 + 2, none⟩ = some (.int .i64 p.n))) (by kernel_rfl) (by exact F0.out) (fun hHeld => ?_)
          refine takeH 0 ?_ rfl (Or.inl ⟨by rfl, ?_⟩) ?_
          rotate_left
          · ((intro w' hSw); (try dsimp only at hSw); go_simp; all_goals (with_reducible rfl))
          simp only [Act.put, puts]
          refine takeH 1 ?_ rfl (Or.inl ⟨by rfl, ?_⟩) ?_
          rotate_left
          · ((intro w' hSw); (try dsimp only at hSw); go_simp; all_goals (with_reducible rfl))
          simp only [Act.put, puts]
          refine takeH 2 ?_ rfl (Or.inl ⟨by rfl, ?_⟩) ?_
          rotate_left
          · ((intro w' hSw); (try dsimp only at hSw); go_simp; all_goals (with_reducible rfl))
          simp only [Act.put, puts]
          refine takeH 3 ?_ rfl (Or.inl ⟨by rfl, ?_⟩) ?_
          rotate_left
          · ((intro w' hSw); (try dsimp only at hSw); go_simp; all_goals (with_reducible rfl))
          simp only [Act.put, puts]
          refine takeH 4 ?_ rfl (Or.inl ⟨by rfl, ?_⟩) ?_
          rotate_left
          · ((intro w' hSw); (try dsimp only at hSw); go_simp; all_goals (with_reducible rfl))
          simp only [Act.put, puts]
          refine takeH 5 ?_ rfl (Or.inl ⟨by rfl, ?_⟩) ?_
          rotate_left
          · ((intro w' hSw); (try dsimp only at hSw); go_simp; all_goals (with_reducible rfl))
          simp only [Act.put, puts]
          refine takeH 6 ?_ rfl (Or.inl ⟨by rfl, ?_⟩) ?_
          rotate_left
          · ((intro w' hSw); (try dsimp only at hSw); go_simp; all_goals (with_reducible rfl))
          simp only [Act.put, puts]
          refine takeH 7 ?_ rfl (Or.inl ⟨by rfl, ?_⟩) ?_
          rotate_left
          · ((intro w' hSw); (try dsimp only at hSw); go_simp; all_goals (with_reducible rfl))
          simp only [Act.put, puts]
          refine takeH 8 ?_ rfl (Or.inl ⟨by rfl, ?_⟩) ?_
          rotate_left
          · ((intro w' hSw); (try dsimp only at hSw); go_simp; all_goals (with_reducible rfl))
          simp only [Act.put, puts]
          refine takeH 9 ?_ rfl (Or.inl ⟨by rfl, ?_⟩) ?_
          rotate_left
          · ((intro w' hSw); (try dsimp only at hSw); go_simp; all_goals (with_reducible rfl))
          simp only [Act.put, puts]
          refine takeH 10 ?_ rfl (Or.inl ⟨by rfl, ?_⟩) ?_
          rotate_left
          · ((intro w' hSw); (try dsimp only at hSw); go_simp; all_goals (with_reducible rfl))
          simp only [Act.put, puts]
          refine wpAnyH_ready (rs := [11]) (by kernel_rfl) (by simp) ?_
          refine AllReadyH.cons rfl (fun K hK => ?_) AllReadyH.nil
          go_simp
          go_wp2_with (go_at_call 163; (with_reducible refine (OC.out _).mono ?_); rintro e w1 ⟨rfl, hb1⟩; have F1 := Lib.hid (duo_keep F0.out hb1); have HB1 := Lib.hid ((below_drewN wr 1).trans (hb1.mono (below_drewN wr 1).size)); clear hb1)
          refine hK.out _ _ ?_ (fun hHeld => ?_)
          · exact F1.out
          clear hK K
          refine takeH 12 ?_ rfl (Or.inl ⟨by rfl, ?_⟩) ?_
          rotate_left
          · ((intro w' hSw); (try dsimp only at hSw); go_simp; all_goals (with_reducible rfl))
          simp only [Act.put, puts]
          refine wpAnyH_done (by kernel_rfl) ?_ _
          obtain ⟨s3, s4, s5, s0, s1, s2⟩ := F1.out
          have HO1 := Lib.hid (own_keep HO.out HB1.out)
          have hbs1 := HB1.out.size
          have f5 := (HB1.out.frozen (p := ⟨gO, j * 3 + 2, none⟩) hgO2).trans e3
          have s5' : w1.drew.cell? ⟨gO, j * 3 + 2, none⟩ = some (.int .i64 q.n) := s5
          have f5' : w1.drew.frozen? ⟨gO, j * 3 + 2, none⟩ = false := f5
          go_wp2_with fail
          go_still_tail 13, (by kernel_rfl)
          change wpList _ _ _ _ _ w1.drew
          clear s3 s4 s5 s0 s1 s2 f5
          go_wp2
          go_roundw
          case rel => 
           refine ⟨k + 1, m, some ⟨gO, 0, none⟩, c', by omega, by go_num, rfl, by omega, ?_, ?_⟩
           · rw [HT.out, HA.out, HFL.out, ints_set]
             exact own_drew (own_store HO1.out _ _)
           · exact ((HBW.out.trans (HB1.out.mono hbs)).setCell (p := ⟨gO, j * 3 + 2, none⟩) hgO _).trans ((below_drewN _ 1).mono (by simpa [World.setCell] using Nat.le_trans hbs hbs1))
          case measure => simp [intOf]; omega
  · obtain rfl : k = n := by omega
    have HK := Lib.hid (show l.take k = l from List.take_of_length_le (by rw [HN.out]; exact Nat.le_refl _))
    go_wp2
    go_ret
    exact ⟨A', m, c', rfl, by rw [← HK.out]; exact hown, hbw⟩
end Go.Proofs.YtemgejblnionlaaGreatDoor.Ext
namespace Go.Proofs.YtemgejblnionlaaGreatDoor.Ext
open Go.RowKit Ex
set_option maxHeartbeats 4000000
set_option maxRecDepth 100000
def stepB (lo hi : Int) (s : List Pc × Int) (p : Pc) : List Pc × Int :=
 (if max lo s.2 < min hi (wrap64 (s.2 + p.n)) then s.1 ++ [movW p (wrap64 (max lo s.2 - s.2)) (wrap64 (min hi (wrap64 (s.2 + p.n)) - max lo s.2))] else s.1, wrap64 (s.2 + p.n))
def betF (lo hi : Int) (l : List Pc) : List Pc × Int := l.foldl (stepB lo hi) ([], 0)
theorem betF_take {lo hi : Int} {l : List Pc} {k : Nat} {p : Pc} (h : l[k]? = some p) : betF lo hi (l.take (k + 1)) = stepB lo hi (betF lo hi (l.take k)) p := by
 unfold betF
 rw [List.take_add_one, h, List.foldl_append]
 rfl
theorem betF_len (lo hi : Int) (l : List Pc) : (betF lo hi l).1.length ≤ l.length := by
 have h : ∀ (l : List Pc) (s : List Pc × Int), (l.foldl (stepB lo hi) s).1.length ≤ s.1.length + l.length := by
  intro l
  induction l with
  | nil => intro s; simp
  | cons p l ih =>
    intro s
    have h1 := ih (stepB lo hi s p)
    have h2 : (stepB lo hi s p).1.length ≤ s.1.length + 1 := by
     unfold stepB
     simp only []
     split
     · simp
     · omega
    simp only [List.foldl_cons, List.length_cons]
    omega
 have h2 := h l ([], 0)
 simp only [List.length_nil, Nat.zero_add] at h2
 exact h2
def betW (lo hi : Int) (l : List Pc) : List Pc := normW (betF lo hi l).1
theorem betW_len (lo hi : Int) (l : List Pc) : (betW lo hi l).length ≤ l.length := Nat.le_trans (normW_len _) (betF_len lo hi l)
theorem moved_c (p : Pc) (s n : Int) (W : World) : Calls Tryz.prog 258 #[.agg #[.int .i64 p.id, .int .i64 p.fr, .int .i64 p.n], .int .i64 s, .int .i64 n] W fun e w' => e = .returned (.agg #[.int .i64 (movW p s n).id, .int .i64 (movW p s n).fr, .int .i64 (movW p s n).n]) ∧ Below W.heap.size W w' := moved_w p s n W
theorem Between_w (A : Option Addr) (n c : Nat) (l : List Pc) (lo hi : Int) (hn : l.length = n) (hl : n ≤ 1048600) (w : World) (hA : Pcs w A l) :
 Calls Tryz.prog 219 #[.slice A n c, .int .i64 lo, .int .i64 hi] w fun e w' => ∃ A' m c', e = .returned (.slice A' m c') ∧ w'.ownsRow w.heap.size 126 3 (.slice A' m c') m (ints (flat3 (betW lo hi l))) ∧ Below w.heap.size w w' := by
 obtain ⟨i0, hi0, hz0, hz1, hz2⟩ := info_parts info_piece
 have HN := Lib.hid hn
 have SA := Lib.hid hA
 clear hn hA
 go_enter Tryz.func219, Tryz.ntmps219
 go_wp2
 go_loopw [7, 8, 9] (fun s a i wr => ∃ (k m : Nat) (A' : Option Addr) (c' : Nat), k ≤ n ∧ i = .int .i64 k ∧ a = .int .i64 (betF lo hi (l.take k)).2 ∧ s = .slice A' m c' ∧ m ≤ k ∧ wr.ownsRow w.heap.size 126 3 (.slice A' m c') m (ints (flat3 (betF lo hi (l.take k)).1)) ∧ Below w.heap.size w wr) (fun _ _ i _ => n - (intOf i).toNat)
 case atStart => exact ⟨0, 0, some ⟨w.heap.size, 0, none⟩, 0, Nat.zero_le _, rfl, rfl, rfl, Nat.le_refl _, own_empty _ _ _, by go_grown⟩
 case round =>
  obtain ⟨k, m, A', c', hk, rfl, rfl, rfl, hm, hown, hbw⟩ := hrel
  have hbs := hbw.size
  by_cases hlt : k < n
  · have hkl : k < l.length := by rw [HN.out]; exact hlt
    have hg : l[k]? = some l[k] := List.getElem?_eq_getElem hkl
    obtain ⟨p, hpe⟩ : ∃ p, l[k] = p := ⟨_, rfl⟩
    rw [hpe] at hg
    have hT := betF_take (lo := lo) (hi := hi) hg
    obtain ⟨O, hO⟩ : ∃ O, betF lo hi (l.take k) = O := ⟨_, rfl⟩
    rw [hO] at hT hown
    rw [hO]
    obtain ⟨O, at_⟩ := O
    simp only [stepB] at hT hown ⊢
    obtain ⟨g, o, hA', hgw, q0, q1, q2⟩ := SA.out.at_ hg
    subst hA'
    have Q2 := Lib.hid q2
    replace q0 := (hbw.cell (block_lt_of_cell q0)).trans q0
    replace q1 := (hbw.cell (block_lt_of_cell q1)).trans q1
    replace q2 := (hbw.cell (block_lt_of_cell q2)).trans q2
    obtain ⟨s, hs⟩ : ∃ s, wrap64 (at_ + p.n) = s := ⟨_, rfl⟩
    obtain ⟨F, hF⟩ : ∃ F, max lo at_ = F := ⟨_, rfl⟩
    obtain ⟨T, hT2⟩ : ∃ T, min hi s = T := ⟨_, rfl⟩
    rw [hs, hF, hT2] at hT
    have HT := Lib.hid hT
    have HS := Lib.hid hs
    have HO := Lib.hid hown
    have kn : (k : Int) < (n : Int) := Int.ofNat_lt.2 hlt
    have k0 : (0 : Int) ≤ (k : Int) := Int.natCast_nonneg k
    have HBW := Lib.hid hbw
    clear hT hpe hO hg hown
    by_cases hft : F < T
    · have HA := Lib.hid (show betF lo hi (l.take (k + 1)) = (O ++ [movW p (wrap64 (F - at_)) (wrap64 (T - F))], s) from by rw [HT.out, if_pos hft])
      go_wp2
      go_quiet (fail)
      clear hs hF hT2
      go_upto_region 7 with fail
      go_upto_region 8 with (first | (go_at_call 258; (with_reducible refine (moved_c p _ _ _).mono ?_); rintro e w1 ⟨rfl, hb1⟩; have HB1 := Lib.hid ((below_drewN wr nq).trans (hb1.mono (below_drewN wr nq).size)); have HO1 := Lib.hid (own_keep HO.out HB1.out); have hbs1 := HB1.out.size; clear hb1) | (at_builtin; refine wpList_append_own _ rfl _ _ 63 rfl w.heap.size 126 i0 _ 3 24 Tryz.underlying63 hi0 hz0 hz1 hz2 rfl (by decide) _ _ _ rfl (HO1.out.alloc _) ⟨w1.heap.size, 0, none⟩ 1 1 (ints (flat3 [movW p (wrap64 (F - at_)) (wrap64 (T - F))])) rfl rfl (cells_new _ _ _) (ints_cells _) (by unfold maxLen; omega) (by omega) (by simp; omega) ?_; intro v' w7 hown7 hgrow7 _; obtain ⟨g7, c7, rfl⟩ := ownsRow_succ hown7; have hb7 : Below w.heap.size w w7 := ((HBW.out.trans (HB1.out.mono hbs)).alloc (Nat.le_trans hbs hbs1) _).grown hgrow7 (by simp; omega) (fun t ht => (HO.out.lt t ht).1); have HO7 := Lib.hid hown7; have HB7 := Lib.hid hb7; clear hown7 hgrow7))
      have r2 := (HB7.out.cell (block_lt_of_cell Q2.out)).trans Q2.out
      go_wp2
      go_roundw
      case rel => exact ⟨k + 1, m + 1, some ⟨g7, 0, none⟩, c7, by omega, by go_num, by rw [HA.out, ← HS.out], rfl, by omega, by rw [HA.out, flat3_append, ints_append]; exact HO7.out, HB7.out⟩
      case measure => simp [intOf]; omega
    · have HA := Lib.hid (show betF lo hi (l.take (k + 1)) = (O, s) from by rw [HT.out, if_neg hft])
      go_wp2
      go_quiet (fail)
      go_wp2
      go_roundw
      case rel => exact ⟨k + 1, m, A', c', by omega, by go_num, by rw [HA.out, ← HS.out], rfl, by omega, by rw [HA.out]; exact own_keep HO.out (below_drewN _ _), HBW.out.trans ((below_drewN _ _).mono hbs)⟩
      case measure => simp [intOf]; omega
  · obtain rfl : k = n := by omega
    have HK := Lib.hid (show l.take k = l from List.take_of_length_le (by rw [HN.out]; exact Nat.le_refl _))
    have hlen := own_plen hown
    rw [HK.out] at hown hlen
    have HO := Lib.hid hown
    have HL := Lib.hid hlen
    have HBW := Lib.hid hbw
    clear hown hlen
    go_wp2_with (go_at_call 220; (with_reducible refine (Norm_w _ _ _ _ HL.out (by omega) _ (Pcs.of_own HO.out)).mono ?_); rintro e w1 ⟨A1, m1, c1, rfl, ho1, hb1⟩; have HO1 := Lib.hid ho1; have HB1 := Lib.hid hb1; clear ho1 hb1)
    go_ret
    exact ⟨A1, m1, c1, rfl, own_weak HO1.out hbs, HBW.out.trans (HB1.out.mono hbs)⟩
end Go.Proofs.YtemgejblnionlaaGreatDoor.Ext
namespace Go.Proofs.YtemgejblnionlaaGreatDoor.Ext
open Go.RowKit Ex
set_option maxHeartbeats 4000000
set_option maxRecDepth 100000
def partW (l : List Pc) (off k : Int) : List Pc := if sizeW l ≤ off ∨ k ≤ 0 then [] else betW off (wrap64 (off + min k (wrap64 (sizeW l - off)))) l
def putO (l : List Pc) (off id k : Int) : List Pc := betW 0 (min off (sizeW l)) l ++ [⟨0, 0, wrap64 (off - sizeW l)⟩, ⟨id, 0, k⟩] ++ betW (min (off + k) (sizeW l)) (sizeW l) l
def putW (l : List Pc) (off id k : Int) : List Pc × Int :=
 if validL l = false then ([], 80) else if id < 1 ∨ 4096 ≤ id ∨ off < 0 ∨ k < 1 then ([], 1) else if 1048576 < off ∨ 1048576 - off < k then ([], 2) else (normW (putO l off id k), 0)
def cutW (l : List Pc) (k : Int) : List Pc × Int :=
 if validL l = false then ([], 80) else if k < 0 then ([], 1) else if 1048576 < k then ([], 2) else (normW (betW 0 (min k (sizeW l)) l ++ [⟨0, 0, wrap64 (k - sizeW l)⟩]), 0)
theorem store_bd {ops : Array Oper} {rest : List Oper} {o : Oper} {a : Act} {w : World} {Q : Exit → Act → World → Prop} (hgd : o.guard = none) (x y : Operand) (ho : o.op = .store 219 x y)
 (g : Nat) (hx : a.eval x = .pointer (some ⟨g, 0, none⟩)) (A : Option Addr) (n c : Nat) (e : Int) (hy : a.eval y = .agg #[.slice A n c, .int .i64 e]) (old : Array Value) (hg : w.heap[g]? = some (.cells old 219 (0, 0))) (hold : old.size = 2)
 (hr : wpList Tryz.prog ops Q rest (a.put o.dst undef) (w.setRow g #[.slice A n c, .int .i64 e])) : wpList Tryz.prog ops Q (o :: rest) a w :=
 wpList_store_row hgd 219 x y ho g #[.slice A n c, .int .i64 e] hx hy 219 old hg (by kernel_rfl) hold (by simp [Value.oneCell']) hr
theorem ret_bd {fn : Func} {p : Tmp} (h : fn.results = #[.cell p 219]) (tmps : Array Value) (w : World) (g : Nat) (A : Option Addr) (n c : Nat) (e : Int) (old : Array Value)
 (hp : tmps.getD p undef = .pointer (some ⟨g, 0, none⟩)) (hg : w.heap[g]? = some (.cells old 219 (0, 0))) : (results fn tmps).run Tryz.prog (w.setRow g #[.slice A n c, .int .i64 e]) = .ok (.agg #[.slice A n c, .int .i64 e]) (w.setRow g #[.slice A n c, .int .i64 e]) :=
 results_cell_row h tmps _ g 219 _ (0, 0) _ hp (setRow_heap _ _ _ _ _ _ hg) Tryz.underlying219 rfl (by kernel_rfl)
theorem valid_c {A : Option Addr} {n c : Nat} {l : List Pc} {r : Bool} (h : validL l = r) (hn : l.length = n) (hl : n ≤ 4294967296) (w : World) (hA : Pcs w A l) :
 Calls Tryz.prog 115 #[.slice A n c] w fun e w' => e = .returned (.bool r) ∧ Below w.heap.size w w' := by
 subst h
 exact Valid_any A n c l hn hl w hA
theorem own_setRow {w : World} {base : Nat} {e : TypeId} {s : Nat} {v : Value} {n : Nat} {xs : List Value} (h : w.ownsRow base e s v n xs) {b : Nat} (hp : b < base) (cs : Array Value) : (w.setRow b cs).ownsRow base e s v n xs := own_low_row h hp cs
theorem own_app {w : World} {base : Nat} {e : TypeId} {s n : Nat} {v : Value} {l m : List Pc} (h : w.ownsRow base e s v n (ints (flat3 l) ++ ints (flat3 m))) : w.ownsRow base e s v n (ints (flat3 (l ++ m))) := by rw [flat3_append, ints_append]; exact h
theorem sv_ints {w : World} {A : Option Addr} {n c : Nat} {base : Nat} {l : List Pc} (h : w.ownsRow base 126 3 (.slice A n c) n (ints (flat3 l))) : Sv w A n c 3 (ints (flat3 l)) := Sv.own h (ints_cells _)
theorem CutIn_w (A : Option Addr) (n c : Nat) (l : List Pc) (k : Int) (hn : l.length = n) (hl : n ≤ 1000000) (w : World) (hA : Pcs w A l) :
 Calls Tryz.prog 170 #[.slice A n c, .int .i64 k] w fun e w' => ∃ A' m c', e = .returned (.agg #[.slice A' m c', .int .i64 (cutW l k).2]) ∧ w'.ownsRow w.heap.size 126 3 (.slice A' m c') m (ints (flat3 (cutW l k).1)) ∧ Below w.heap.size w w' := by
 obtain ⟨i0, hi0, hz0, hz1, hzb⟩ := info_parts info_piece
 have hz2 : (#[.slice none 0 0, .int .i64 0] : Array Value).size = 2 := rfl
 have HN := Lib.hid hn
 have SA := Lib.hid hA
 obtain ⟨s, hs⟩ : ∃ s, sizeW l = s := ⟨_, rfl⟩
 have HS := Lib.hid hs
 clear hn hA hs
 have LOW0 := Lib.hid (Below.refl w.heap.size w)
 obtain ⟨x1, hwx1, hbx1, hlx1, hxx1⟩ := box_new w #[.slice none 0 0, .int .i64 0] 219
 have HWx1 := Lib.hid hwx1
 have LOW1 := Lib.hid (LOW0.out.trans (hbx1.mono LOW0.out.size))
 have BR1 := Lib.hid (show x1.heap[w.heap.size]? = some (.cells #[.slice none 0 0, .int .i64 0] 219 (0, 0)) from hxx1)
 clear hwx1 hbx1 hlx1 hxx1
 go_enter Tryz.func170, Tryz.ntmps170
 go_upto_region 1 with fail
 rw [HWx1.out]
 cases hv : validL l
 · have HR := Lib.hid (show cutW l k = ([], 80) from by unfold cutW; rw [if_pos hv])
   go_upto_region 2 with (go_at_call 115; (with_reducible refine (valid_c hv HN.out (by omega) _ (SA.out.below LOW1.out)).mono ?_); rintro e w1 ⟨rfl, hb1⟩; have HB1 := Lib.hid hb1; clear hb1)
   have LOW2 := Lib.hid (LOW1.out.trans (HB1.out.mono LOW1.out.size))
   have BR2 := Lib.hid (keep_block BR1.out HB1.out)
   go_wp2_with (with_reducible refine store_bd rfl _ _ rfl (w.heap.size) rfl none 0 0 80 rfl #[.slice none 0 0, .int .i64 0] BR2.out hz2 ?_)
   refine bodyPost_ret (v := .agg #[.slice none 0 0, .int .i64 80]) (ret_bd rfl _ _ (w.heap.size) none 0 0 80 #[.slice none 0 0, .int .i64 0] rfl BR2.out) rfl ?_
   refine ⟨none, 0, 0, by rw [HR.out], ?_, below_setRow LOW2.out (Nat.le_refl _) _⟩
   rw [HR.out]
   exact ⟨rfl, .inl ⟨rfl, rfl⟩⟩
 · have hv' : ¬ validL l = false := by rw [hv]; decide
   go_upto_region 3 with (go_at_call 115; (with_reducible refine (valid_c hv HN.out (by omega) _ (SA.out.below LOW1.out)).mono ?_); rintro e w1 ⟨rfl, hb1⟩; have HB1 := Lib.hid hb1; clear hb1)
   have LOW2 := Lib.hid (LOW1.out.trans (HB1.out.mono LOW1.out.size))
   have BR2 := Lib.hid (keep_block BR1.out HB1.out)
   by_cases h1 : k < 0
   · have HR := Lib.hid (show cutW l k = ([], 1) from by unfold cutW; rw [if_neg hv', if_pos h1])
     go_wp2_with (with_reducible refine store_bd rfl _ _ rfl (w.heap.size) rfl none 0 0 1 rfl #[.slice none 0 0, .int .i64 0] BR2.out hz2 ?_)
     refine bodyPost_ret (v := .agg #[.slice none 0 0, .int .i64 1]) (ret_bd rfl _ _ (w.heap.size) none 0 0 1 #[.slice none 0 0, .int .i64 0] rfl BR2.out) rfl ?_
     refine ⟨none, 0, 0, by rw [HR.out], ?_, below_setRow LOW2.out (Nat.le_refl _) _⟩
     rw [HR.out]
     exact ⟨rfl, .inl ⟨rfl, rfl⟩⟩
   by_cases h2 : 1048576 < k
   · have HR := Lib.hid (show cutW l k = ([], 2) from by unfold cutW; rw [if_neg hv', if_neg h1, if_pos h2])
     go_wp2_with (with_reducible refine store_bd rfl _ _ rfl (w.heap.size) rfl none 0 0 2 rfl #[.slice none 0 0, .int .i64 0] BR2.out hz2 ?_)
     refine bodyPost_ret (v := .agg #[.slice none 0 0, .int .i64 2]) (ret_bd rfl _ _ (w.heap.size) none 0 0 2 #[.slice none 0 0, .int .i64 0] rfl BR2.out) rfl ?_
     refine ⟨none, 0, 0, by rw [HR.out], ?_, below_setRow LOW2.out (Nat.le_refl _) _⟩
     rw [HR.out]
     exact ⟨rfl, .inl ⟨rfl, rfl⟩⟩
   have HR := Lib.hid (show cutW l k = (normW (betW 0 (min k s) l ++ [⟨0, 0, wrap64 (k - s)⟩]), 0) from by unfold cutW; rw [if_neg hv', if_neg h1, if_neg h2, HS.out])
   clear hv
   go_upto_region 8 with (go_at_call 35; (with_reducible refine (Size_w _ _ _ l HN.out (by omega) _ (SA.out.below LOW2.out)).mono ?_); rintro e w2 ⟨rfl, hw1⟩; have hw2 := hw1.symm; subst hw2; rw [HS.out])
   have hm1 : (betW 0 (min k s) l).length ≤ n := by have := betW_len 0 (min k s) l; have := HN.out; omega
   go_wp2_with (first | (go_at_call 219; (with_reducible refine (Between_w _ _ _ l _ _ HN.out (by omega) _ (SA.out.below LOW2.out)).mono ?_); rintro e wb1 ⟨A1, m1, c1, rfl, ho1, hb1⟩; have HO1 := Lib.hid ho1; have HBB1 := Lib.hid hb1; have HM1 := Lib.hid (own_plen ho1); have hz1w := hb1.size; have hq1 : m1 ≤ n := (by have := own_plen ho1; omega); clear ho1 hb1) | (at_builtin; refine wpList_append_own _ rfl _ _ 63 rfl w1.heap.size 126 i0 _ 3 24 Tryz.underlying63 hi0 hz0 hz1 hzb rfl (by decide) _ _ _ rfl (HO1.out.alloc _) ⟨wb1.heap.size, 0, none⟩ 1 1 (ints (flat3 [⟨0, 0, wrap64 (k - s)⟩])) rfl rfl (cells_new _ _ _) (ints_cells _) (by unfold maxLen; omega) (by omega) (by simp; omega) ?_; intro v' wa2 hown2 hgrow2 _; obtain ⟨ga2, ca2, rfl⟩ := ownsRow_succ hown2; have HBA2 := Lib.hid ((HBB1.out.alloc HBB1.out.size _).grown hgrow2 (by have := HBB1.out.size; simp; omega) (fun t ht => (HO1.out.lt t ht).1)); have HOA2 := Lib.hid hown2; clear hown2 hgrow2) | (go_at_call 220; (with_reducible refine (Norm_w _ _ _ (betW 0 (min k s) l ++ [⟨0, 0, wrap64 (k - s)⟩]) (by rw [List.length_append]; have := HM1.out; simp only [List.length_cons, List.length_nil]; omega) (by omega) _ (Pcs.of_own (own_app HOA2.out))).mono ?_); rintro e wn ⟨An, mn, cn, rfl, hon, hbn⟩; have HON := Lib.hid hon; have HBN := Lib.hid hbn; clear hon hbn) | (have HBX := Lib.hid (HBA2.out.trans (HBN.out.mono HBA2.out.size)); have BRx := Lib.hid (keep_block BR2.out HBX.out); with_reducible refine store_bd rfl _ _ rfl (w.heap.size) rfl An mn cn 0 rfl #[.slice none 0 0, .int .i64 0] BRx.out hz2 ?_))
   have HBX := Lib.hid (HBA2.out.trans (HBN.out.mono HBA2.out.size))
   have HLE := Lib.hid (show w.heap.size ≤ wa2.heap.size from Nat.le_trans LOW2.out.size HBA2.out.size)
   have HLT := Lib.hid (show w.heap.size < wa2.heap.size from Nat.lt_of_lt_of_le (block_lt BR2.out) HBA2.out.size)
   have LOW3 := Lib.hid (LOW2.out.trans (HBX.out.mono LOW2.out.size))
   have BR3 := Lib.hid (keep_block BR2.out HBX.out)
   refine bodyPost_ret (v := .agg #[.slice An mn cn, .int .i64 0]) (ret_bd rfl _ _ (w.heap.size) An mn cn 0 #[.slice none 0 0, .int .i64 0] rfl BR3.out) rfl ?_
   refine ⟨An, mn, cn, by rw [HR.out], ?_, below_setRow LOW3.out (Nat.le_refl _) _⟩
   rw [HR.out]
   exact own_weak (own_setRow HON.out HLT.out _) HLE.out
theorem PutIn_w (A : Option Addr) (n c : Nat) (l : List Pc) (off id k : Int) (hn : l.length = n) (hl : n ≤ 400000) (w : World) (hA : Pcs w A l) :
 Calls Tryz.prog 169 #[.slice A n c, .int .i64 off, .int .i64 id, .int .i64 k] w fun e w' => ∃ A' m c', e = .returned (.agg #[.slice A' m c', .int .i64 (putW l off id k).2]) ∧ w'.ownsRow w.heap.size 126 3 (.slice A' m c') m (ints (flat3 (putW l off id k).1)) ∧ Below w.heap.size w w' := by
 obtain ⟨i0, hi0, hz0, hz1, hzb⟩ := info_parts info_piece
 have hz2 : (#[.slice none 0 0, .int .i64 0] : Array Value).size = 2 := rfl
 have HN := Lib.hid hn
 have SA := Lib.hid hA
 obtain ⟨s, hs⟩ : ∃ s, sizeW l = s := ⟨_, rfl⟩
 have HS := Lib.hid hs
 clear hn hA hs
 have LOW0 := Lib.hid (Below.refl w.heap.size w)
 obtain ⟨x1, hwx1, hbx1, hlx1, hxx1⟩ := box_new w #[.slice none 0 0, .int .i64 0] 219
 have HWx1 := Lib.hid hwx1
 have LOW1 := Lib.hid (LOW0.out.trans (hbx1.mono LOW0.out.size))
 have BR1 := Lib.hid (show x1.heap[w.heap.size]? = some (.cells #[.slice none 0 0, .int .i64 0] 219 (0, 0)) from hxx1)
 clear hwx1 hbx1 hlx1 hxx1
 go_enter Tryz.func169, Tryz.ntmps169
 go_upto_region 1 with fail
 rw [HWx1.out]
 cases hv : validL l
 · have HR := Lib.hid (show putW l off id k = ([], 80) from by unfold putW; rw [if_pos hv])
   go_upto_region 2 with (go_at_call 115; (with_reducible refine (valid_c hv HN.out (by omega) _ (SA.out.below LOW1.out)).mono ?_); rintro e w1 ⟨rfl, hb1⟩; have HB1 := Lib.hid hb1; clear hb1)
   have LOW2 := Lib.hid (LOW1.out.trans (HB1.out.mono LOW1.out.size))
   have BR2 := Lib.hid (keep_block BR1.out HB1.out)
   go_wp2_with (with_reducible refine store_bd rfl _ _ rfl (w.heap.size) rfl none 0 0 80 rfl #[.slice none 0 0, .int .i64 0] BR2.out hz2 ?_)
   refine bodyPost_ret (v := .agg #[.slice none 0 0, .int .i64 80]) (ret_bd rfl _ _ (w.heap.size) none 0 0 80 #[.slice none 0 0, .int .i64 0] rfl BR2.out) rfl ?_
   refine ⟨none, 0, 0, by rw [HR.out], ?_, below_setRow LOW2.out (Nat.le_refl _) _⟩
   rw [HR.out]
   exact ⟨rfl, .inl ⟨rfl, rfl⟩⟩
 · have hv' : ¬ validL l = false := by rw [hv]; decide
   go_upto_region 3 with (go_at_call 115; (with_reducible refine (valid_c hv HN.out (by omega) _ (SA.out.below LOW1.out)).mono ?_); rintro e w1 ⟨rfl, hb1⟩; have HB1 := Lib.hid hb1; clear hb1)
   have LOW2 := Lib.hid (LOW1.out.trans (HB1.out.mono LOW1.out.size))
   have BR2 := Lib.hid (keep_block BR1.out HB1.out)
   by_cases h1 : id < 1
   · have HR := Lib.hid (show putW l off id k = ([], 1) from by unfold putW; rw [if_neg hv', if_pos (by omega)])
     go_wp2_with (with_reducible refine store_bd rfl _ _ rfl (w.heap.size) rfl none 0 0 1 rfl #[.slice none 0 0, .int .i64 0] BR2.out hz2 ?_)
     refine bodyPost_ret (v := .agg #[.slice none 0 0, .int .i64 1]) (ret_bd rfl _ _ (w.heap.size) none 0 0 1 #[.slice none 0 0, .int .i64 0] rfl BR2.out) rfl ?_
     refine ⟨none, 0, 0, by rw [HR.out], ?_, below_setRow LOW2.out (Nat.le_refl _) _⟩
     rw [HR.out]
     exact ⟨rfl, .inl ⟨rfl, rfl⟩⟩
   by_cases h2 : 4096 ≤ id
   · have HR := Lib.hid (show putW l off id k = ([], 1) from by unfold putW; rw [if_neg hv', if_pos (by omega)])
     go_wp2_with (with_reducible refine store_bd rfl _ _ rfl (w.heap.size) rfl none 0 0 1 rfl #[.slice none 0 0, .int .i64 0] BR2.out hz2 ?_)
     refine bodyPost_ret (v := .agg #[.slice none 0 0, .int .i64 1]) (ret_bd rfl _ _ (w.heap.size) none 0 0 1 #[.slice none 0 0, .int .i64 0] rfl BR2.out) rfl ?_
     refine ⟨none, 0, 0, by rw [HR.out], ?_, below_setRow LOW2.out (Nat.le_refl _) _⟩
     rw [HR.out]
     exact ⟨rfl, .inl ⟨rfl, rfl⟩⟩
   by_cases h3 : off < 0
   · have HR := Lib.hid (show putW l off id k = ([], 1) from by unfold putW; rw [if_neg hv', if_pos (by omega)])
     go_wp2_with (with_reducible refine store_bd rfl _ _ rfl (w.heap.size) rfl none 0 0 1 rfl #[.slice none 0 0, .int .i64 0] BR2.out hz2 ?_)
     refine bodyPost_ret (v := .agg #[.slice none 0 0, .int .i64 1]) (ret_bd rfl _ _ (w.heap.size) none 0 0 1 #[.slice none 0 0, .int .i64 0] rfl BR2.out) rfl ?_
     refine ⟨none, 0, 0, by rw [HR.out], ?_, below_setRow LOW2.out (Nat.le_refl _) _⟩
     rw [HR.out]
     exact ⟨rfl, .inl ⟨rfl, rfl⟩⟩
   by_cases h4 : k < 1
   · have HR := Lib.hid (show putW l off id k = ([], 1) from by unfold putW; rw [if_neg hv', if_pos (by omega)])
     go_wp2_with (with_reducible refine store_bd rfl _ _ rfl (w.heap.size) rfl none 0 0 1 rfl #[.slice none 0 0, .int .i64 0] BR2.out hz2 ?_)
     refine bodyPost_ret (v := .agg #[.slice none 0 0, .int .i64 1]) (ret_bd rfl _ _ (w.heap.size) none 0 0 1 #[.slice none 0 0, .int .i64 0] rfl BR2.out) rfl ?_
     refine ⟨none, 0, 0, by rw [HR.out], ?_, below_setRow LOW2.out (Nat.le_refl _) _⟩
     rw [HR.out]
     exact ⟨rfl, .inl ⟨rfl, rfl⟩⟩
   by_cases h5 : 1048576 < off
   · have HR := Lib.hid (show putW l off id k = ([], 2) from by unfold putW; rw [if_neg hv', if_neg (by omega), if_pos (by omega)])
     go_wp2_with (with_reducible refine store_bd rfl _ _ rfl (w.heap.size) rfl none 0 0 2 rfl #[.slice none 0 0, .int .i64 0] BR2.out hz2 ?_)
     refine bodyPost_ret (v := .agg #[.slice none 0 0, .int .i64 2]) (ret_bd rfl _ _ (w.heap.size) none 0 0 2 #[.slice none 0 0, .int .i64 0] rfl BR2.out) rfl ?_
     refine ⟨none, 0, 0, by rw [HR.out], ?_, below_setRow LOW2.out (Nat.le_refl _) _⟩
     rw [HR.out]
     exact ⟨rfl, .inl ⟨rfl, rfl⟩⟩
   by_cases h6 : 1048576 - off < k
   · have HR := Lib.hid (show putW l off id k = ([], 2) from by unfold putW; rw [if_neg hv', if_neg (by omega), if_pos (by omega)])
     go_wp2_with (with_reducible refine store_bd rfl _ _ rfl (w.heap.size) rfl none 0 0 2 rfl #[.slice none 0 0, .int .i64 0] BR2.out hz2 ?_)
     refine bodyPost_ret (v := .agg #[.slice none 0 0, .int .i64 2]) (ret_bd rfl _ _ (w.heap.size) none 0 0 2 #[.slice none 0 0, .int .i64 0] rfl BR2.out) rfl ?_
     refine ⟨none, 0, 0, by rw [HR.out], ?_, below_setRow LOW2.out (Nat.le_refl _) _⟩
     rw [HR.out]
     exact ⟨rfl, .inl ⟨rfl, rfl⟩⟩
   have HR := Lib.hid (show putW l off id k = (normW (betW 0 (min off s) l ++ [⟨0, 0, wrap64 (off - s)⟩, ⟨id, 0, k⟩] ++ betW (min (off + k) s) s l), 0) from by unfold putW putO; rw [if_neg hv', if_neg (by omega), if_neg (by omega), HS.out])
   clear hv
   go_upto_region 8 with (go_at_call 35; (with_reducible refine (Size_w _ _ _ l HN.out (by omega) _ (SA.out.below LOW2.out)).mono ?_); rintro e w2 ⟨rfl, hw1⟩; have hw2 := hw1.symm; subst hw2; rw [HS.out])
   have hm1 : (betW 0 (min off s) l).length ≤ n := by have := betW_len 0 (min off s) l; have := HN.out; omega
   have hm2 : (betW (min (off + k) s) s l).length ≤ n := by have := betW_len (min (off + k) s) s l; have := HN.out; omega
   go_upto_region 9 with (go_at_call 219; (with_reducible refine (Between_w _ _ _ l _ _ HN.out (by omega) _ (SA.out.below LOW2.out)).mono ?_); rintro e wb1 ⟨A1, m1, c1, rfl, ho1, hb1⟩; have HO1 := Lib.hid ho1; have HBB1 := Lib.hid hb1; have HM1 := Lib.hid (own_plen ho1); have hz1w := hb1.size; have hq1 : m1 ≤ n := (by have := own_plen ho1; omega); clear ho1 hb1)
   go_upto_region 10 with (at_builtin; refine wpList_append_own _ rfl _ _ 63 rfl w1.heap.size 126 i0 _ 3 24 Tryz.underlying63 hi0 hz0 hz1 hzb rfl (by decide) _ _ _ rfl (HO1.out.alloc _) ⟨wb1.heap.size, 0, none⟩ 2 2 (ints (flat3 [⟨0, 0, wrap64 (off - s)⟩, ⟨id, 0, k⟩])) rfl rfl (cells_new _ _ _) (ints_cells _) (by unfold maxLen; omega) (by omega) (by simp; omega) ?_; intro v' wa2 hown2 hgrow2 _; obtain ⟨ga2, ca2, rfl⟩ := ownsRow_succ hown2; have HBA2 := Lib.hid ((HBB1.out.alloc HBB1.out.size _).grown hgrow2 (by have := HBB1.out.size; simp; omega) (fun t ht => (HO1.out.lt t ht).1)); have HOA2 := Lib.hid hown2; clear hown2 hgrow2)
   go_upto_region 11 with (first | (go_at_call 219; (with_reducible refine (Between_w _ _ _ l _ _ HN.out (by omega) _ (SA.out.below (LOW2.out.trans (HBA2.out.mono LOW2.out.size)))).mono ?_); rintro e wb3 ⟨A3, m3, c3, rfl, ho3, hb3⟩; have HO3 := Lib.hid ho3; have HBB3 := Lib.hid hb3; have HM3 := Lib.hid (own_plen ho3); have hz3w := hb3.size; have hq3 : m3 ≤ n := (by have := own_plen ho3; omega); clear ho3 hb3) | (at_builtin; refine wpList_append_sv rfl _ _ 63 rfl w1.heap.size 126 i0 _ 3 24 Tryz.underlying63 hi0 hz0 hz1 hzb rfl (by decide) _ _ _ rfl (own_app (own_keep HOA2.out HBB3.out)) A3 m3 c3 _ rfl (sv_ints HO3.out) (by unfold maxLen; omega) (by omega) (Nat.le_trans HBA2.out.size HBB3.out.size) ?_; intro v' wa4 hown4 hbel4; obtain ⟨ga4, ca4, rfl⟩ := own_form hown4; have HBA4 := Lib.hid (hbel4 w1 (Nat.le_refl _) (HBA2.out.trans (HBB3.out.mono HBA2.out.size))); have HOA4 := Lib.hid hown4; clear hown4 hbel4))
   go_wp2_with (first | (go_at_call 220; (with_reducible refine (Norm_w _ _ _ (betW 0 (min off s) l ++ [⟨0, 0, wrap64 (off - s)⟩, ⟨id, 0, k⟩] ++ betW (min (off + k) s) s l) (by rw [List.length_append, List.length_append]; have := HM1.out; have := HM3.out; simp only [List.length_cons, List.length_nil]; omega) (by omega) _ (Pcs.of_own (own_app HOA4.out))).mono ?_); rintro e wn ⟨An, mn, cn, rfl, hon, hbn⟩; have HON := Lib.hid hon; have HBN := Lib.hid hbn; clear hon hbn) | (have HBX := Lib.hid (HBA4.out.trans (HBN.out.mono HBA4.out.size)); have BRx := Lib.hid (keep_block BR2.out HBX.out); with_reducible refine store_bd rfl _ _ rfl (w.heap.size) rfl An mn cn 0 rfl #[.slice none 0 0, .int .i64 0] BRx.out hz2 ?_))
   have HBX := Lib.hid (HBA4.out.trans (HBN.out.mono HBA4.out.size))
   have HLE := Lib.hid (show w.heap.size ≤ wa4.heap.size from Nat.le_trans LOW2.out.size HBA4.out.size)
   have HLT := Lib.hid (show w.heap.size < wa4.heap.size from Nat.lt_of_lt_of_le (block_lt BR2.out) HBA4.out.size)
   have LOW3 := Lib.hid (LOW2.out.trans (HBX.out.mono LOW2.out.size))
   have BR3 := Lib.hid (keep_block BR2.out HBX.out)
   refine bodyPost_ret (v := .agg #[.slice An mn cn, .int .i64 0]) (ret_bd rfl _ _ (w.heap.size) An mn cn 0 #[.slice none 0 0, .int .i64 0] rfl BR3.out) rfl ?_
   refine ⟨An, mn, cn, by rw [HR.out], ?_, below_setRow LOW3.out (Nat.le_refl _) _⟩
   rw [HR.out]
   exact own_weak (own_setRow HON.out HLT.out _) HLE.out
theorem Put_w (A : Option Addr) (n c : Nat) (l : List Pc) (off id k : Int) (hn : l.length = n) (hl : n ≤ 400000) (w : World) (hA : Pcs w A l) :
 Calls Tryz.prog 126 #[.slice A n c, .int .i64 off, .int .i64 id, .int .i64 k] w fun e w' => ∃ A' m c', e = .returned (.tuple #[.slice A' m c', .int .i64 (putW l off id k).2]) ∧ w'.ownsRow w.heap.size 126 3 (.slice A' m c') m (ints (flat3 (putW l off id k).1)) ∧ Below w.heap.size w w' := by
 have HN := Lib.hid hn
 have SA := Lib.hid hA
 clear hn hA
 obtain ⟨Z, hZ⟩ : ∃ Z, putW l off id k = Z := ⟨_, rfl⟩
 rw [hZ]
 have HZ := Lib.hid hZ
 obtain ⟨zl, ze⟩ := Z
 simp only []
 clear hZ
 go_enter Tryz.func126, Tryz.ntmps126
 go_upto_region 2 with (first | (go_at_call 169; (with_reducible refine (PutIn_w _ _ _ l off id k HN.out (by omega) _ SA.out).mono ?_); rintro e w1 ⟨A1, m1, c1, rfl, ho1, hb1⟩; rw [HZ.out] at ho1 ⊢; have HO1 := Lib.hid ho1; have HB1 := Lib.hid hb1; clear ho1 hb1))
 have HXB := Lib.hid ((Below.refl w1.heap.size w1).alloc (Nat.le_refl _) (.cells #[.slice A1 m1 c1, .int .i64 ze] 219))
 go_quiet (fail)
 go_wp2
 refine bodyPost_ret (results_tmp2 rfl _ _ _) rfl ?_
 have HXC := Lib.hid (HXB.out.trans ((below_drewN _ nq).mono HXB.out.size))
 exact ⟨A1, m1, c1, rfl, own_keep HO1.out HXC.out, HB1.out.trans (HXC.out.mono HB1.out.size)⟩
theorem Cut_w (A : Option Addr) (n c : Nat) (l : List Pc) (k : Int) (hn : l.length = n) (hl : n ≤ 1000000) (w : World) (hA : Pcs w A l) :
 Calls Tryz.prog 127 #[.slice A n c, .int .i64 k] w fun e w' => ∃ A' m c', e = .returned (.tuple #[.slice A' m c', .int .i64 (cutW l k).2]) ∧ w'.ownsRow w.heap.size 126 3 (.slice A' m c') m (ints (flat3 (cutW l k).1)) ∧ Below w.heap.size w w' := by
 have HN := Lib.hid hn
 have SA := Lib.hid hA
 clear hn hA
 obtain ⟨Z, hZ⟩ : ∃ Z, cutW l k = Z := ⟨_, rfl⟩
 rw [hZ]
 have HZ := Lib.hid hZ
 obtain ⟨zl, ze⟩ := Z
 simp only []
 clear hZ
 go_enter Tryz.func127, Tryz.ntmps127
 go_upto_region 2 with (first | (go_at_call 170; (with_reducible refine (CutIn_w _ _ _ l k HN.out (by omega) _ SA.out).mono ?_); rintro e w1 ⟨A1, m1, c1, rfl, ho1, hb1⟩; rw [HZ.out] at ho1 ⊢; have HO1 := Lib.hid ho1; have HB1 := Lib.hid hb1; clear ho1 hb1))
 have HXB := Lib.hid ((Below.refl w1.heap.size w1).alloc (Nat.le_refl _) (.cells #[.slice A1 m1 c1, .int .i64 ze] 219))
 go_quiet (fail)
 go_wp2
 refine bodyPost_ret (results_tmp2 rfl _ _ _) rfl ?_
 have HXC := Lib.hid (HXB.out.trans ((below_drewN _ nq).mono HXB.out.size))
 exact ⟨A1, m1, c1, rfl, own_keep HO1.out HXC.out, HB1.out.trans (HXC.out.mono HB1.out.size)⟩
end Go.Proofs.YtemgejblnionlaaGreatDoor.Ext
