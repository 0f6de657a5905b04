/-
  Contracts of the landed package: join.
-/
import Derived.Test.YtggnklcjhbahhaaFb
import Derived.RangeFuncNested
namespace Go.Proofs.Ytggnklcjhbahhaa
open Go.RowKit Ex
set_option maxHeartbeats 400000
set_option maxRecDepth 100000

/-- A piece of which no sum is too great. -/
def Big (q : Pc) : Prop := (1 ≤ q.id → q.id < 4096) ∧ 0 ≤ q.fr ∧ q.fr ≤ 1048576 ∧ 1 ≤ q.n ∧ q.n ≤ 4503599627370496
theorem canBeOne_b {p q : Pc} {r : Bool} (h : oneB p q = r) (hp : Big p) (W : World) : Calls Try.prog 48 #[.agg #[.int .i64 p.id, .int .i64 p.fr, .int .i64 p.n], .agg #[.int .i64 q.id, .int .i64 q.fr, .int .i64 q.n]] W fun e w' => e = .returned (.bool r) ∧ Below W.heap.size W w' := by
  subst h
  obtain ⟨h1, h2, h3, h4, h5⟩ := hp
  exact canBeOne_any p q h1 (by omega) W
theorem ko_below {w w' : World} (h : Below w.heap.size w w') : KeepsOthers w w' := ⟨h.size, fun k _ hk _ => (h.block k (Array.getElem?_eq_some_iff.1 hk).1).trans hk⟩
theorem own_cellsB {w : World} {base : Nat} {e : TypeId} {s : Nat} {v : Value} {n : Nat} {xs : List Value} (h : w.ownsRow base e s v n xs) : ∀ (j : Nat) (o : Obj), v.ownBlock = some j → w.heap[j]? = some o → o.isCells = true := by
  intro j _ ej hj
  rcases h.2 with ⟨rfl, _⟩ | ⟨g, cap, cur, rfl, _, hgb, _⟩
  · simp [Value.ownBlock] at ej
  · obtain rfl : g = j := by simpa [Value.ownBlock] using ej
    rw [hgb] at hj; cases hj; rfl
theorem grown_trans {a b c : World} {r : Option Nat} (h : a.grownBy b r) (k : b.grownBy c r) : a.grownBy c r :=
  ⟨k.os.trans h.os, k.tape.trans h.tape, k.output.trans h.output, Nat.le_trans h.size k.size, fun i hi hr => (k.block i (Nat.lt_of_lt_of_le hi h.size) hr).trans (h.block i hi hr)⟩
theorem grown_below {a b : World} (h : Below a.heap.size a b) (r : Option Nat) : a.grownBy b r := ⟨h.os, h.tape, h.output, h.size, fun i hi _ => h.block i hi⟩
theorem grown_set (w : World) (g j : Nat) (v : Value) : w.grownBy (w.setCell ⟨g, j, none⟩ v) (some g) :=
  ⟨rfl, rfl, rfl, by simp [World.setCell], fun k _ hk => Below.heap_setCell _ _ _ k (fun e => hk (by rw [e]))⟩

set_option maxHeartbeats 8000000 in
theorem join_any (base : Nat) (A : Option Addr) (m c : Nat) (O : List Pc) (p : Pc) (hpr : rightB p = true) (hO : ∀ q ∈ O, Big q) (hm : m ≤ 1099511627776) (w : World) (hbs : base ≤ w.heap.size)
    (hown : w.ownsRow base 66 3 (.slice A m c) m (ints (flat3 O))) :
    Calls Try.prog 50 #[.slice A m c, .agg #[.int .i64 p.id, .int .i64 p.fr, .int .i64 p.n]] w fun e w' => ∃ A' m' c', e = .returned (.slice A' m' c') ∧ w'.ownsRow base 66 3 (.slice A' m' c') m' (ints (flat3 (addP O p))) ∧ Below base w w' ∧ KeepsOthers w w' ∧ w.grownBy w' (Value.slice A m c).ownBlock := by
  obtain ⟨i0, hi, hz0, hz1, hz2⟩ := info_parts info_piece
  have HML := Lib.hid (own_plen hown)
  have HO := Lib.hid hown
  have hpb := right_iff.1 hpr
  have hp1 : 1 ≤ p.n := hpb.1
  have hp2 : p.n ≤ 1048576 := hpb.2.1
  have hp0 : ¬ p.n ≤ 0 := by omega
  have HBW := Lib.hid (box_below3 w p)
  clear hpb hown
  go_enter Try.func50, Try.ntmps50
  by_cases hm0 : m = 0
  · subst hm0
    have hO0 : O = [] := List.eq_nil_of_length_eq_zero HML.out
    have HA := Lib.hid (show addP O p = O ++ [p] from by rw [hO0]; unfold addP; rw [if_neg hp0]; rfl)
    have T0 := Lib.hid (fun k => show Tri ((w.alloc (.cells #[.int .i64 p.id, .int .i64 p.fr, .int .i64 p.n] 66)).drewN k) w.heap.size 0 p from box_tri w p)
    have B0 := Lib.hid (fun k => show Below w.heap.size w ((w.alloc (.cells #[.int .i64 p.id, .int .i64 p.fr, .int .i64 p.n] 66)).drewN k) from ((Below.refl _ w).alloc (Nat.le_refl _) _).trans ((below_drewN _ k).mono (by simp)))
    clear hO0
    go_wp2
    go_quiet (fail)
    have t0 := T0.out nq
    have HB1 := Lib.hid (B0.out nq)
    obtain ⟨wq, hwq⟩ : ∃ W, (w.alloc (.cells #[.int .i64 p.id, .int .i64 p.fr, .int .i64 p.n] 66)).drewN nq = W := ⟨_, rfl⟩
    rw [hwq] at t0 HB1 ⊢
    obtain ⟨s0, s1, s2⟩ := t0
    have HO1 := Lib.hid (own_keep HO.out HB1.out)
    have hbs1 := HB1.out.size
    clear hwq
    go_wp2_with (at_builtin; refine wpList_append_own _ rfl _ _ 24 rfl base 66 i0 _ 3 24 Try.underlying24 hi hz0 hz1 hz2 rfl (by decide) _ _ _ rfl (HO1.out.alloc _) ⟨wq.heap.size, 0, none⟩ 1 1 (ints (flat3 [p])) rfl rfl (cells_new _ _ _) (ints_cells _) (by unfold maxLen; omega) (by omega) (by simp; omega) ?_; intro v' w7 hown7 hgrow7 _; obtain ⟨g7, c7, rfl⟩ := ownsRow_succ hown7)
    have hb7 : Below base w w7 := ((HB1.out.mono hbs).alloc (Nat.le_trans hbs hbs1) _).grown hgrow7 (by simp; omega) (fun t ht => (HO.out.lt t ht).1)
    have hg7 : w.grownBy w7 (Value.slice A 0 c).ownBlock := grown_trans (grown_trans (grown_below HB1.out _) (World.grownBy_alloc _ _ _)) hgrow7
    have hk7 : KeepsOthers w w7 := ((ko_below HB1.out).trans (KeepsOthers.alloc _ _)).trans (KeepsOthers.of_grownBy hgrow7 (own_cellsB (HO1.out.alloc _)))
    go_ret
    exact ⟨_, _, _, rfl, by rw [HA.out, flat3_append, ints_append]; exact hown7, hb7, hk7, hg7⟩
  · obtain ⟨j, hj⟩ : ∃ j, j + 1 = m := ⟨m - 1, by omega⟩
    obtain ⟨gO, cO, hAO, hgO, hgO2⟩ := HO.out.form (by omega)
    injection hAO with hAO _ hcO
    subst hAO; subst hcO
    obtain ⟨q, hq⟩ : ∃ q, O[j]? = some q := ⟨_, List.getElem?_eq_getElem (by rw [HML.out]; omega)⟩
    have hlast : O.getLast? = some q := by rw [List.getLast?_eq_getElem?, HML.out, ← hj, Nat.add_sub_cancel]; exact hq
    obtain ⟨⟨e0, e1, e2⟩, e3⟩ := own_tri HO.out hq
    have hqr := hO q (List.mem_of_getElem? hq)
    have hq1 : 1 ≤ q.n := hqr.2.2.2.1
    have hq2 : q.n ≤ 4503599627370496 := hqr.2.2.2.2
    have hjm : (m : Int) - 1 = (j : Int) := by omega
    have hjw : IntKind.i64.wrap (j : Int) = (j : Int) := IntWalk.i64_in _ (by omega)
    have j0 : (0 : Int) ≤ (j : Int) := Int.natCast_nonneg j
    have jm : (j : Int) < (m : Int) := by omega
    have F0 : Hid (Duo (w.alloc (.cells #[.int .i64 p.id, .int .i64 p.fr, .int .i64 p.n] 66)).drew gO (j * 3) w.heap.size 0 q p) := Lib.hid
      ⟨(HBW.out.cell (block_lt_of_cell e0)).trans e0, (HBW.out.cell (block_lt_of_cell e1)).trans e1, (HBW.out.cell (block_lt_of_cell e2)).trans e2, box_tri w p⟩
    have HSP := Lib.hid (last_split hlast)
    have j00 : decide ((0 : Int) ≤ (j : Int)) = true := decide_eq_true j0
    clear e0 e1 hq
    cases hone : oneB q p
    · have OC := Lib.hid (canBeOne_b hone hqr)
      have HA := Lib.hid (show addP O p = O ++ [p] from by unfold addP; rw [if_neg hp0, hlast]; simp only []; rw [hone, if_neg (by decide)])
      clear hone hqr hlast e2 e3 hj hm0 hO
      go_wp2
      refine wp_region_held_drew (S := (fun W' => W'.cell? ⟨gO, j * 3, none⟩ = some (.int .i64 q.id) ∧ W'.cell? ⟨gO, j * 3 + 1, none⟩ = some (.int .i64 q.fr) ∧ W'.cell? ⟨gO, j * 3 + 2, none⟩ = some (.int .i64 q.n) ∧ W'.cell? ⟨w.heap.size, 0, none⟩ = some (.int .i64 p.id) ∧ W'.cell? ⟨w.heap.size, 1, none⟩ = some (.int .i64 p.fr) ∧ W'.cell? ⟨w.heap.size, 2, none⟩ = some (.int .i64 p.n))) (by kernel_rfl) (by exact F0.out) (fun hHeld => ?_)
      refine wpAnyH_take (i := 0) (v := ?_) rfl (by kernel_rfl) (by kernel_rfl) (by kernel_rfl) (fun _ _ _ h => h) (Or.inl ⟨by rfl, ?_⟩) (by assumption) ?_
      rotate_left
      · ((intro w' hSw); (try dsimp only at hSw); go_simp; all_goals (with_reducible rfl))
      simp only [Act.put, List.getElem_toArray, List.getElem_cons_zero, List.setIfInBounds_toArray, List.set_cons_zero, List.set_cons_succ]
      refine wpAnyH_take (i := 1) (v := ?_) rfl (by kernel_rfl) (by kernel_rfl) (by kernel_rfl) (fun _ _ _ h => h) (Or.inl ⟨by rfl, ?_⟩) (by assumption) ?_
      rotate_left
      · ((intro w' hSw); (try dsimp only at hSw); go_simp; all_goals (with_reducible rfl))
      simp only [Act.put, List.getElem_toArray, List.getElem_cons_succ, List.getElem_cons_zero, List.setIfInBounds_toArray, List.set_cons_zero, List.set_cons_succ]
      refine wpAnyH_take (i := 2) (v := ?_) rfl (by kernel_rfl) (by kernel_rfl) (by kernel_rfl) (fun _ _ _ h => h) (Or.inl ⟨by rfl, ?_⟩) (by assumption) ?_
      rotate_left
      · ((intro w' hSw); (try dsimp only at hSw); go_simp; all_goals (with_reducible rfl))
      simp only [Act.put, List.getElem_toArray, List.getElem_cons_succ, List.getElem_cons_zero, List.setIfInBounds_toArray, List.set_cons_zero, List.set_cons_succ]
      refine wpAnyH_take (i := 3) (v := ?_) rfl (by kernel_rfl) (by kernel_rfl) (by kernel_rfl) (fun _ _ _ h => h) (Or.inl ⟨by rfl, ?_⟩) (by assumption) ?_
      rotate_left
      · ((intro w' hSw); (try dsimp only at hSw); go_simp; all_goals (with_reducible rfl))
      simp only [Act.put, List.getElem_toArray, List.getElem_cons_succ, List.getElem_cons_zero, List.setIfInBounds_toArray, List.set_cons_zero, List.set_cons_succ]
      refine wpAnyH_take (i := 4) (v := ?_) rfl (by kernel_rfl) (by kernel_rfl) (by kernel_rfl) (fun _ _ _ h => h) (Or.inl ⟨by rfl, ?_⟩) (by assumption) ?_
      rotate_left
      · ((intro w' hSw); (try dsimp only at hSw); go_simp; all_goals (with_reducible rfl))
      simp only [Act.put, List.getElem_toArray, List.getElem_cons_succ, List.getElem_cons_zero, List.setIfInBounds_toArray, List.set_cons_zero, List.set_cons_succ]
      refine wpAnyH_take (i := 5) (v := ?_) rfl (by kernel_rfl) (by kernel_rfl) (by kernel_rfl) (fun _ _ _ h => h) (Or.inl ⟨by rfl, ?_⟩) (by assumption) ?_
      rotate_left
      · ((intro w' hSw); (try dsimp only at hSw); go_simp; all_goals (with_reducible rfl))
      simp only [Act.put, List.getElem_toArray, List.getElem_cons_succ, List.getElem_cons_zero, List.setIfInBounds_toArray, List.set_cons_zero, List.set_cons_succ]
      refine wpAnyH_take (i := 6) (v := ?_) rfl (by kernel_rfl) (by kernel_rfl) (by kernel_rfl) (fun _ _ _ h => h) (Or.inl ⟨by rfl, ?_⟩) (by assumption) ?_
      rotate_left
      · ((intro w' hSw); (try dsimp only at hSw); go_simp; all_goals (with_reducible rfl))
      simp only [Act.put, List.getElem_toArray, List.getElem_cons_succ, List.getElem_cons_zero, List.setIfInBounds_toArray, List.set_cons_zero, List.set_cons_succ]
      refine wpAnyH_take (i := 7) (v := ?_) rfl (by kernel_rfl) (by kernel_rfl) (by kernel_rfl) (fun _ _ _ h => h) (Or.inl ⟨by rfl, ?_⟩) (by assumption) ?_
      rotate_left
      · ((intro w' hSw); (try dsimp only at hSw); go_simp; all_goals (with_reducible rfl))
      simp only [Act.put, List.getElem_toArray, List.getElem_cons_succ, List.getElem_cons_zero, List.setIfInBounds_toArray, List.set_cons_zero, List.set_cons_succ]
      refine wpAnyH_ready (rs := [8]) (by kernel_rfl) (by simp) ?_
      refine AllReadyH.cons rfl (fun K hK => ?_) AllReadyH.nil
      go_simp
      go_wp2_with (go_at_call 48; (with_reducible refine (OC.out _).mono ?_); rintro e w1 ⟨rfl, hb1⟩; have F1 := Lib.hid (duo_keep F0.out hb1); have HB1 := Lib.hid (box_dn w p hb1); clear hb1)
      refine hK.out _ _ ?_ (fun hHeld => ?_)
      · exact F1.out
      clear hK K
      refine wpAnyH_take (i := 9) (v := ?_) rfl (by kernel_rfl) (by kernel_rfl) (by kernel_rfl) (fun _ _ _ h => h) (Or.inl ⟨by rfl, ?_⟩) (by assumption) ?_
      rotate_left
      · ((intro w' hSw); (try dsimp only at hSw); go_simp; all_goals (with_reducible rfl))
      simp only [Act.put, List.getElem_toArray, List.getElem_cons_succ, List.getElem_cons_zero, List.setIfInBounds_toArray, List.set_cons_zero, List.set_cons_succ]
      refine wpAnyH_done (by kernel_rfl) ?_ _
      obtain ⟨_, _, _, s0, s1, s2⟩ := F1.out
      have HO1 := Lib.hid (own_keep HO.out HB1.out)
      have hbs1 := HB1.out.size
      go_wp2_with (at_builtin; refine wpList_append_own _ rfl _ _ 24 rfl base 66 i0 _ 3 24 Try.underlying24 hi hz0 hz1 hz2 rfl (by decide) _ _ _ rfl (HO1.out.alloc _) ⟨w1.heap.size, 0, none⟩ 1 1 (ints (flat3 [p])) rfl rfl (cells_new _ _ _) (ints_cells _) (by unfold maxLen; omega) (by omega) (by simp; omega) ?_; intro v' w7 hown7 hgrow7 _; obtain ⟨g7, c7, rfl⟩ := ownsRow_succ hown7)
      have hb7 : Below base w w7 := ((HB1.out.mono hbs).alloc (Nat.le_trans hbs hbs1) _).grown hgrow7 (by simp; omega) (fun t ht => (HO.out.lt t ht).1)
      have hg7 : w.grownBy w7 (Value.slice (some ⟨gO, 0, none⟩) m c).ownBlock := grown_trans (grown_trans (grown_below HB1.out _) (World.grownBy_alloc _ _ _)) hgrow7
      have hk7 : KeepsOthers w w7 := ((ko_below HB1.out).trans (KeepsOthers.alloc _ _)).trans (KeepsOthers.of_grownBy hgrow7 (own_cellsB (HO1.out.alloc _)))
      go_ret
      exact ⟨_, _, _, rfl, by rw [HA.out, flat3_append, ints_append]; exact hown7, hb7, hk7, hg7⟩
    · have OC := Lib.hid (canBeOne_b hone hqr)
      have HA := Lib.hid (show addP O p = O.dropLast ++ [{ q with n := q.n + p.n }] from by unfold addP; rw [if_neg hp0, hlast]; simp only []; rw [hone, if_pos rfl])
      have hlen : O.dropLast.length = j := by rw [List.length_dropLast, HML.out]; omega
      have HFL := Lib.hid (show flat3 (O.dropLast ++ [{ q with n := q.n + p.n }]) = (flat3 O).set (j * 3 + 2) (q.n + p.n) from by rw [flat3_set, hlen, ← HSP.out])
      clear hone hqr hlast e2 hj hm0 hlen hO
      go_wp2
      refine wp_region_held_drew (S := (fun W' => W'.cell? ⟨gO, j * 3, none⟩ = some (.int .i64 q.id) ∧ W'.cell? ⟨gO, j * 3 + 1, none⟩ = some (.int .i64 q.fr) ∧ W'.cell? ⟨gO, j * 3 + 2, none⟩ = some (.int .i64 q.n) ∧ W'.cell? ⟨w.heap.size, 0, none⟩ = some (.int .i64 p.id) ∧ W'.cell? ⟨w.heap.size, 1, none⟩ = some (.int .i64 p.fr) ∧ W'.cell? ⟨w.heap.size, 2, none⟩ = some (.int .i64 p.n))) (by kernel_rfl) (by exact F0.out) (fun hHeld => ?_)
      refine wpAnyH_take (i := 0) (v := ?_) rfl (by kernel_rfl) (by kernel_rfl) (by kernel_rfl) (fun _ _ _ h => h) (Or.inl ⟨by rfl, ?_⟩) (by assumption) ?_
      rotate_left
      · ((intro w' hSw); (try dsimp only at hSw); go_simp; all_goals (with_reducible rfl))
      simp only [Act.put, List.getElem_toArray, List.getElem_cons_zero, List.setIfInBounds_toArray, List.set_cons_zero, List.set_cons_succ]
      refine wpAnyH_take (i := 1) (v := ?_) rfl (by kernel_rfl) (by kernel_rfl) (by kernel_rfl) (fun _ _ _ h => h) (Or.inl ⟨by rfl, ?_⟩) (by assumption) ?_
      rotate_left
      · ((intro w' hSw); (try dsimp only at hSw); go_simp; all_goals (with_reducible rfl))
      simp only [Act.put, List.getElem_toArray, List.getElem_cons_succ, List.getElem_cons_zero, List.setIfInBounds_toArray, List.set_cons_zero, List.set_cons_succ]
      refine wpAnyH_take (i := 2) (v := ?_) rfl (by kernel_rfl) (by kernel_rfl) (by kernel_rfl) (fun _ _ _ h => h) (Or.inl ⟨by rfl, ?_⟩) (by assumption) ?_
      rotate_left
      · ((intro w' hSw); (try dsimp only at hSw); go_simp; all_goals (with_reducible rfl))
      simp only [Act.put, List.getElem_toArray, List.getElem_cons_succ, List.getElem_cons_zero, List.setIfInBounds_toArray, List.set_cons_zero, List.set_cons_succ]
      refine wpAnyH_take (i := 3) (v := ?_) rfl (by kernel_rfl) (by kernel_rfl) (by kernel_rfl) (fun _ _ _ h => h) (Or.inl ⟨by rfl, ?_⟩) (by assumption) ?_
      rotate_left
      · ((intro w' hSw); (try dsimp only at hSw); go_simp; all_goals (with_reducible rfl))
      simp only [Act.put, List.getElem_toArray, List.getElem_cons_succ, List.getElem_cons_zero, List.setIfInBounds_toArray, List.set_cons_zero, List.set_cons_succ]
      refine wpAnyH_take (i := 4) (v := ?_) rfl (by kernel_rfl) (by kernel_rfl) (by kernel_rfl) (fun _ _ _ h => h) (Or.inl ⟨by rfl, ?_⟩) (by assumption) ?_
      rotate_left
      · ((intro w' hSw); (try dsimp only at hSw); go_simp; all_goals (with_reducible rfl))
      simp only [Act.put, List.getElem_toArray, List.getElem_cons_succ, List.getElem_cons_zero, List.setIfInBounds_toArray, List.set_cons_zero, List.set_cons_succ]
      refine wpAnyH_take (i := 5) (v := ?_) rfl (by kernel_rfl) (by kernel_rfl) (by kernel_rfl) (fun _ _ _ h => h) (Or.inl ⟨by rfl, ?_⟩) (by assumption) ?_
      rotate_left
      · ((intro w' hSw); (try dsimp only at hSw); go_simp; all_goals (with_reducible rfl))
      simp only [Act.put, List.getElem_toArray, List.getElem_cons_succ, List.getElem_cons_zero, List.setIfInBounds_toArray, List.set_cons_zero, List.set_cons_succ]
      refine wpAnyH_take (i := 6) (v := ?_) rfl (by kernel_rfl) (by kernel_rfl) (by kernel_rfl) (fun _ _ _ h => h) (Or.inl ⟨by rfl, ?_⟩) (by assumption) ?_
      rotate_left
      · ((intro w' hSw); (try dsimp only at hSw); go_simp; all_goals (with_reducible rfl))
      simp only [Act.put, List.getElem_toArray, List.getElem_cons_succ, List.getElem_cons_zero, List.setIfInBounds_toArray, List.set_cons_zero, List.set_cons_succ]
      refine wpAnyH_take (i := 7) (v := ?_) rfl (by kernel_rfl) (by kernel_rfl) (by kernel_rfl) (fun _ _ _ h => h) (Or.inl ⟨by rfl, ?_⟩) (by assumption) ?_
      rotate_left
      · ((intro w' hSw); (try dsimp only at hSw); go_simp; all_goals (with_reducible rfl))
      simp only [Act.put, List.getElem_toArray, List.getElem_cons_succ, List.getElem_cons_zero, List.setIfInBounds_toArray, List.set_cons_zero, List.set_cons_succ]
      refine wpAnyH_ready (rs := [8]) (by kernel_rfl) (by simp) ?_
      refine AllReadyH.cons rfl (fun K hK => ?_) AllReadyH.nil
      go_simp
      go_wp2_with (go_at_call 48; (with_reducible refine (OC.out _).mono ?_); rintro e w1 ⟨rfl, hb1⟩; have F1 := Lib.hid (duo_keep F0.out hb1); have HB1 := Lib.hid (box_dn w p hb1); clear hb1)
      refine hK.out _ _ ?_ (fun hHeld => ?_)
      · exact F1.out
      clear hK K
      refine wpAnyH_take (i := 9) (v := ?_) rfl (by kernel_rfl) (by kernel_rfl) (by kernel_rfl) (fun _ _ _ h => h) (Or.inl ⟨by rfl, ?_⟩) (by assumption) ?_
      rotate_left
      · ((intro w' hSw); (try dsimp only at hSw); go_simp; all_goals (with_reducible rfl))
      simp only [Act.put, List.getElem_toArray, List.getElem_cons_succ, List.getElem_cons_zero, List.setIfInBounds_toArray, List.set_cons_zero, List.set_cons_succ]
      refine wpAnyH_done (by kernel_rfl) ?_ _
      obtain ⟨s3, s4, s5, s0, s1, s2⟩ := F1.out
      have HO1 := Lib.hid (own_keep HO.out HB1.out)
      have hbs1 := HB1.out.size
      have f5 := (HB1.out.frozen (p := ⟨gO, j * 3 + 2, none⟩) hgO2).trans e3
      have s5' : w1.drew.cell? ⟨gO, j * 3 + 2, none⟩ = some (.int .i64 q.n) := s5
      have f5' : w1.drew.frozen? ⟨gO, j * 3 + 2, none⟩ = false := f5
      have s2' : w1.drew.cell? ⟨w.heap.size, 2, none⟩ = some (.int .i64 p.n) := s2
      have hsum : IntKind.i64.wrap (q.n + p.n) = q.n + p.n := IntWalk.i64_in _ (by omega)
      go_wp2_with fail
      go_still_tail 10, (by kernel_rfl)
      change wpList _ _ _ _ _ w1.drew
      clear s3 s4 s5 s0 s1 s2 f5
      go_wp2
      go_ret
      refine ⟨_, _, _, rfl, ?_, ?_, ?_, ?_⟩
      · rw [HA.out, HFL.out, ints_set]
        exact own_store (own_drew HO1.out) _ _
      · exact ((HB1.out.mono hbs).trans ((below_drewN w1 1).mono (Nat.le_trans hbs hbs1))).setCell (p := ⟨gO, j * 3 + 2, none⟩) hgO _
      · exact ((ko_below HB1.out).trans (KeepsOthers.drew w1)).trans (KeepsOthers.setCell _ _ _)
      · exact grown_trans (grown_trans (grown_below HB1.out _) (grown_below (below_drewN w1 1) _)) (grown_set _ _ _ _)
end Go.Proofs.Ytggnklcjhbahhaa
