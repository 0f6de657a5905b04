/-
  Walk of name.Parts: a loop over the iterator of a text's parts that collects them, and leaves early at the first that is no name, or at the ninth. The world must hold the program's table of kinds.
-/
import Derived.Test.YtimlfdlocjfgaaaDoorD
namespace Go.Proofs.YtimlfdlocjfgaaaDoor
open Go.RowKit Go.Shelf Pl
attribute [local go_sem] Oper.semAt_some

theorem names_stops (n : Nat) (hn : 1 ≤ n) (Bn n₀ : Nat) (p : ByteArray) (hp : p.size < 4294967281) (w : World) (hBn : Bn < w.heap.size) (hn₀ : n₀ ≤ w.heap.size) (h2 : 2 < n₀) (m : Int)
    (hm : w.cell? ⟨2, 0, none⟩ = some (.int .i64 m)) (hc : w.cell? ⟨Bn, 0, none⟩ = some (.string p)) :
    SeqStopsK Fence.wide n Tryd.prog 51 #[.pointer (some ⟨Bn, 0, none⟩)] (fun x : Tx => #[Value.string x.1]) (Below n₀) (fun ys => txs ys = cut p.data.toList) (fun pre => txs pre <+: cut p.data.toList) (cut p.data.toList).length w :=
  fun l J Jx W hW hJ _ hY h0 =>
    names1_in n hn l Bn n₀ p hp J Jx hY W hJ h2 m ((hW.cell (p := ⟨2, 0, none⟩) (by show 2 < _; omega)).trans hm) ((hW.cell (p := ⟨Bn, 0, none⟩) hBn).trans hc) h0

theorem info_string : (Tryd.prog.info? 9).map (fun i => (i.zero, i.size, i.bytes)) = some (some (.string ⟨#[]⟩), 1, 16) := by kernel_rfl

/-- The cells of a list of texts. -/
def strs (l : List Bs) : List Value := l.map fun x => Value.string (mk x)
theorem strs_txs (l : List Tx) : l.map (fun x => Value.string x.1) = strs (txs l) := by simp [strs, txs]

def PartsPost (p : Bs) (w : World) (e : Ending) (w' : World) : Prop :=
  Below w.heap.size w w' ∧ ((isPath p = true ∧ ∃ A c, e = .returned (.tuple #[.slice A (cut p).length c, .int .i64 0]) ∧ w'.ownsRow w.heap.size 9 1 (.slice A (cut p).length c) (cut p).length (strs (cut p))) ∨
    (isPath p = false ∧ e = .returned (.tuple #[.slice none 0 0, .int .i64 10])))

set_option maxRecDepth 100000 in
set_option maxHeartbeats 2000000 in
theorem parts_any (p : ByteArray) (hp : p.size < 4294967281) (w : World) (hE : Env w) :
    Calls Tryd.prog 35 #[.string p] w (PartsPost p.data.toList w) := by
  refine (callsIn_wide (n := 5)).1 ?_
  obtain ⟨m, hm⟩ := hE.maxlen
  have h2 : 2 < w.heap.size := block_lt_of_cell hm
  obtain ⟨i0, hi, hz0, hz1, hz2⟩ := info_parts info_string
  have h35 : Fence.wide.fn 35 := trivial
  refine callsIn_of_wp_marks Tryd.func35 rfl h35 ?_ rfl
  simp only [Tryd.ntmps35, List.size_toArray, List.length_cons, List.length_nil, Nat.reduceAdd, Nat.reduceSub, Array.replicate_succ, Array.replicate_zero, List.push_toArray, List.append_toArray, List.nil_append, List.cons_append]
  gi_wp2_with fail
  refine ⟨trivial, ?_⟩
  gi_at_call 45
  refine (names_any Fence.wide _ trivial rfl _ _).mono ?_
  rintro e w' ⟨rfl, rfl⟩
  gi_wp2
  have b0 := Boxed.new w 29 (.slice none 0 0)
  have b1 := Boxed.new (w.alloc (.cells #[.slice none 0 0] 29)) 30 (.int .i64 0)
  have b2 := Boxed.new ((w.alloc (.cells #[.slice none 0 0] 29)).alloc (.cells #[.int .i64 0] 30)) 29 (.slice none 0 0)
  have b3 := Boxed.new (((w.alloc (.cells #[.slice none 0 0] 29)).alloc (.cells #[.int .i64 0] 30)).alloc (.cells #[.slice none 0 0] 29)) 9 (.string p)
  simp only [World.size_alloc] at b1 b2 b3
  have hB0 : Below w.heap.size w ((((w.alloc (.cells #[.slice none 0 0] 29)).alloc (.cells #[.int .i64 0] 30)).alloc (.cells #[.slice none 0 0] 29)).alloc (.cells #[.string p] 9)) :=
    ((((Below.refl _ w).alloc (Nat.le_refl _) _).alloc (by simp) _).alloc (by simp; omega) _).alloc (by simp; omega) _
  refine wpIn_rangeFunc_ownG rfl (by omega) (gf := 51) (lb := #[.pointer (some ⟨w.heap.size + 1 + 1 + 1, 0, none⟩)]) rfl trivial (enters_of Tryd.func51 (by kernel_rfl) rfl)
    (names_stops 4 (by omega) (w.heap.size + 1 + 1 + 1) w.heap.size p hp _ (by simp) (by simp; omega) h2 m (hB0.cell (p := ⟨2, 0, none⟩) h2 |>.trans hm) b3.cell) belowK_t (belowK_b (by simp; omega)) (Below.refl _ _) (fun _ => rfl)
    (fun (pre : List Tx) W => ((∃ v, Boxed W (w.heap.size + 1 + 1) 29 v ∧ W.ownsRow w.heap.size 9 1 v pre.length (pre.map fun x => Value.string x.1) ∧ (∃ A c, v = .slice A pre.length c)) ∧ (goodPre (txs pre) ∧ Boxed W w.heap.size 29 (.slice none 0 0) ∧ Boxed W (w.heap.size + 1) 30 (.int .i64 0))) ∧ Below w.heap.size w W)
    (fun c pre W => ((c = .ret ∧ badPre (txs pre)) ∧ Boxed W w.heap.size 29 (.slice none 0 0) ∧ Boxed W (w.heap.size + 1) 30 (.int .i64 10)) ∧ Below w.heap.size w W)
    (OwnFrom.and (OwnFrom.and (Own.from (holdsRow_own w.heap.size (w.heap.size + 1 + 1) 29 9 1 (fun (pre : List Tx) => pre.length) (fun pre => pre.map fun x => Value.string x.1) (fun pre v => ∃ A c, v = .slice A pre.length c)) _)
      (OwnFrom.and (ownFrom_pure _ _) (OwnFrom.and (Own.from (boxed_own _ _ _) _) (Own.from (boxed_own _ _ _) _)))) (ownFrom_below (Nat.le_refl _) (by simp; omega)))
    (fun c => OwnFrom.and (OwnFrom.and (ownFrom_pure _ _) (OwnFrom.and (Own.from (boxed_own _ _ _) _) (Own.from (boxed_own _ _ _) _))) (ownFrom_below (Nat.le_refl _) (by simp; omega)))
    ⟨⟨⟨_, b2.alloc _, World.ownsRow_nil _ _ _ _, none, 0, rfl⟩, ⟨rfl, Nat.zero_le _⟩, ((b0.alloc _).alloc _).alloc _, (b1.alloc _).alloc _⟩, hB0⟩
    (fun x => { tmps := #[.string p, undef, .pointer (some ⟨w.heap.size, 0, none⟩), .pointer (some ⟨w.heap.size + 1, 0, none⟩), .pointer (some ⟨w.heap.size + 1 + 1, 0, none⟩), .string x.1, .string p, .func (.func 51) #[] #[.pointer (some ⟨w.heap.size + 1 + 1 + 1, 0, none⟩)], .string x.1, undef, undef, undef, undef, undef, undef, undef, undef, undef, undef, undef, undef, undef], defers := [] }) ?assign ?body ?done ?stop
  case assign =>
    intro l x W K hK
    gi_wp2
    exact hK
  case body =>
    rintro l pre x W ⟨⟨⟨v, hv, hrow, A, c, rfl⟩, hgood, hr0, hr1⟩, hB⟩ hlt
    have hEW : Env W := hE.below hB
    have hsz := hB.size
    have hc := hv.cell
    have hc0 := hr0.cell
    have hf0 := hr0.frozen
    have hc1 := hr1.cell
    have hf1 := hr1.frozen
    by_cases h8 : pre.length = 8
    · have h8b : ((pre.length : Int) == 8) = true := by rw [h8]; rfl
      have H8 := Lib.hid h8
      clear h8
      gi_wp2_with fail
      refine ⟨trivial, ?_⟩
      gi_wp2
      refine ⟨((KeepsOthers.setCell _ _ _).trans (KeepsOthers.setCell _ _ _)).from _, ⟨⟨rfl, ?_⟩, ?_, ?_⟩, ?_⟩
      · rw [txs_snoc]; exact bad_long (by rw [txs, List.length_map]; exact H8.out)
      · exact (hr0.set _).other (by simp) _
      · exact (hr1.other (by simp) _).set _
      · exact (hB.setCell (p := ⟨w.heap.size, 0, none⟩) (Nat.le_refl _) _).setCell (p := ⟨w.heap.size + 1, 0, none⟩) (by simp) _
    · have h8b : ((pre.length : Int) == 8) = false := by rw [beq_eq_false_iff_ne]; omega
      have hl8 : pre.length ≤ 7 := by have := hgood.2; rw [txs, List.length_map] at this; omega
      have H8 := Lib.hid h8
      clear h8
      have cV := Valid_any x.1 x.2 W hEW
      cases hx : vld x.1.data.toList <;> rw [hx] at cV <;> have HX := Lib.hid hx <;> clear hx
      · gi_wp2_with fail
        refine ⟨trivial, ?_⟩
        gi_at_call 13
        refine (CallsIn.inRound l (callsIn_wide.2 cV)).mono ?_
        rintro e W1 ⟨rfl, hb1⟩
        have hg1 : W.grownBy W1 none := ⟨hb1.os, hb1.tape, hb1.output, hb1.size, fun i hi _ => hb1.block i hi⟩
        have hr0' := hr0.kept hg1 (by simp)
        have hr1' := hr1.kept hg1 (by simp)
        have hc0' := hr0'.cell
        have hf0' := hr0'.frozen
        have hc1' := hr1'.cell
        have hf1' := hr1'.frozen
        gi_wp2
        refine ⟨(KeepsFrom.of_grownBy hg1 (by simp)).trans (((KeepsOthers.setCell _ _ _).trans (KeepsOthers.setCell _ _ _)).from _), ⟨⟨rfl, ?_⟩, ?_, ?_⟩, ?_⟩
        · rw [txs_snoc]; exact bad_snoc HX.out
        · exact (hr0'.set _).other (by simp) _
        · exact (hr1'.other (by simp) _).set _
        · exact ((hB.trans (hb1.mono hsz)).setCell (p := ⟨w.heap.size, 0, none⟩) (Nat.le_refl _) _).setCell (p := ⟨w.heap.size + 1, 0, none⟩) (by simp) _
      · gi_wp2_with fail
        refine ⟨trivial, ?_⟩
        gi_at_call 13
        refine (CallsIn.inRound l (callsIn_wide.2 cV)).mono ?_
        rintro e W1 ⟨rfl, hb1⟩
        have hg1 : W.grownBy W1 none := ⟨hb1.os, hb1.tape, hb1.output, hb1.size, fun i hi _ => hb1.block i hi⟩
        have hr0' := hr0.kept hg1 (by simp)
        have hr1' := hr1.kept hg1 (by simp)
        have hv' := hv.kept hg1 (by simp)
        have hrow' : W1.ownsRow w.heap.size 9 1 (.slice A pre.length c) pre.length (pre.map fun x => Value.string x.1) := hrow.kept hg1 (by cases A <;> simp [Value.ownBlock])
        have hB' := hB.trans (hb1.mono hsz)
        have hc' := hv'.cell
        gi_wp2_with (gi_at_builtin; refine wpListIn_append_own _ rfl _ _ 29 rfl w.heap.size 9 i0 (.string ⟨#[]⟩) 1 16 Tryd.underlying29 hi hz0 hz1 hz2 rfl (by decide) _ _ _ rfl (hrow'.alloc _) ⟨W1.heap.size, 0, none⟩ 1 1 [.string x.1] rfl rfl (cell_one_new _ _ _) (by simp [Value.oneCell']) (by unfold maxLen; omega) (by omega) (by have := hB'.size; simp; omega) ?_; intro v' w1 hown' hgrow _; obtain ⟨g', cap', rfl⟩ := ownsRow_succ hown'; obtain ⟨hv1, hv2, hr2, hk2, hb2⟩ := hv'.appended (by decide) hrow' hB'.size (by omega) hown' hgrow; have hcc1 := hv1.cell; have hff1 := hv1.frozen)
        have hne0 := hr0'.not_row (by decide) hrow'
        have hne1 := hr1'.not_row (by decide) hrow'
        refine ⟨(KeepsFrom.of_grownBy hg1 (by simp)).trans (hk2.from _), (hb1.mono hsz).trans hb2, ⟨⟨_, hv2, ?_, some ⟨g', 0, none⟩, cap', ?_⟩, ?_, ?_, ?_⟩, hB'.trans hb2⟩
        · simpa using hr2
        · simp
        · rw [txs_snoc]; exact good_snoc hgood (by rw [txs, List.length_map]; exact H8.out) HX.out
        · exact ((hr0'.alloc _).kept hgrow hne0).other (by simp; omega) _
        · exact ((hr1'.alloc _).kept hgrow hne1).other (by simp) _
  case done =>
    rintro D ys W hD hys ⟨⟨⟨v, hv, hrow, A, c, rfl⟩, hgood, hr0, hr1⟩, hB⟩ hK
    have HYS := Lib.hid hys
    clear hys
    have hc := hv.cell
    have hc0 := hr0.cell
    have hf0 := hr0.frozen
    have hc1 := hr1.cell
    have hf1 := hr1.frozen
    gi_wp2
    have hK' := ((KeepsOthers.setCell W ⟨w.heap.size, 0, none⟩ (.slice A ys.length c)).trans (KeepsOthers.setCell _ ⟨w.heap.size + 1, 0, none⟩ (.int .i64 0))).same D _ hK rfl
    refine ⟨by simp, .inl ⟨_, _, rfl, run_takeDeferred hK', ?_⟩⟩
    have hDs : w.heap.size + 1 + 1 + 1 + 1 ≤ D := by simpa using hD
    have g0 := ((hr0.set (.slice A ys.length c)).other (B' := w.heap.size + 1) (by simp) (.int .i64 0)).kept (grownBy_putObj' _ D (.deferred none)) (by simp; omega)
    have g1 := ((hr1.other (B' := w.heap.size) (by simp) (.slice A ys.length c)).set (.int .i64 0)).kept (grownBy_putObj' _ D (.deferred none)) (by simp; omega)
    have hc5 := g0.cell
    have hc6 := g1.cell
    have hrow2 := ((hrow.kept (grownBy_setCell' W w.heap.size (.slice A ys.length c)) (.inr (hr0.not_row (by decide) hrow).symm)).kept (grownBy_setCell' _ (w.heap.size + 1) (.int .i64 0)) (.inr ((hr1.not_row (by decide) hrow).symm)))
    have hrow3 := ownsRow_putObj hrow2 (.deferred none) hK' rfl
    have hl : ys.length = (cut p.data.toList).length := by rw [← HYS.out, txs, List.length_map]
    have hBf := ((hB.setCell (p := ⟨w.heap.size, 0, none⟩) (Nat.le_refl _) (.slice A ys.length c)).setCell (p := ⟨w.heap.size + 1, 0, none⟩) (by simp) (.int .i64 0)).trans (belowK_b (w := w) (Nat.le_refl _) _ D _ (.deferred none) (by omega) hK' rfl rfl)
    refine ⟨.tuple #[.slice A ys.length c, .int .i64 0], ?_, hBf, .inl ⟨good_path (by rw [← HYS.out]; exact hgood), A, c, ?_, ?_⟩⟩
    · simp [results, Tryd.f35, go_sem, hc5, hc6]
    · rw [hl]
    · rw [← hl, ← HYS.out, ← strs_txs]
      exact hrow3
  case stop =>
    rintro D cc pre W hD hpre ⟨⟨⟨rfl, hbad⟩, hr0, hr1⟩, hB⟩ hK
    have HB := Lib.hid hbad
    have HP := Lib.hid hpre
    clear hbad hpre
    gi_wp2
    refine ⟨by simp, .inl ⟨_, _, rfl, run_takeDeferred hK, ?_⟩⟩
    have hDs : w.heap.size + 1 + 1 + 1 + 1 ≤ D := by simpa using hD
    have g0 := hr0.kept (grownBy_putObj' _ D (.deferred none)) (by simp; omega)
    have g1 := hr1.kept (grownBy_putObj' _ D (.deferred none)) (by simp; omega)
    have hc5 := g0.cell
    have hc6 := g1.cell
    refine ⟨.tuple #[.slice none 0 0, .int .i64 10], ?_, hB.trans (belowK_b (w := w) (Nat.le_refl _) _ D _ (.deferred none) (by omega) hK rfl rfl), .inr ⟨bad_path HB.out HP.out, rfl⟩⟩
    simp [results, Tryd.f35, go_sem, hc5, hc6]
end Go.Proofs.YtimlfdlocjfgaaaDoor
