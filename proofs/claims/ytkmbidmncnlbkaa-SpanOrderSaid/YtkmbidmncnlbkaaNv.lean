/-
  The law SpanOrder.
-/
import Derived.Test.YtkmbidmncnlbkaaNu
namespace Go.Proofs.Ytkmbidmncnlbkaa
open Go.RowKit Sn
set_option maxHeartbeats 4000000
set_option maxRecDepth 100000
/-- Two cells of an owned row of ranges are written. -/
theorem flat2_put : ∀ (l : List Sn.S) (i : Nat) (s : Sn.S), ((flat2 l).set (i * 2) s.lo).set (i * 2 + 1) s.hi = flat2 (l.set i s)
  | [], i, s => by simp [flat2]
  | a :: l, 0, s => by simp [flat2]
  | a :: l, i + 1, s => by
    rw [show (i + 1) * 2 = (i * 2) + 2 from by omega, show (i * 2 + 2) + 1 = (i * 2 + 1) + 2 from by omega]
    show a.lo :: a.hi :: ((flat2 l).set (i * 2) s.lo).set (i * 2 + 1) s.hi = _
    rw [flat2_put l i s]
    rfl
theorem own_put {w : World} {base : Nat} {e : TypeId} {n g c : Nat} {l : List Sn.S} (h : w.ownsRow base e 2 (.slice (some ⟨g, 0, none⟩) n c) n (ints (flat2 l))) (i : Nat) (s : Sn.S) :
    ((w.setCell ⟨g, i * 2, none⟩ (.int .i64 s.lo)).setCell ⟨g, i * 2 + 1, none⟩ (.int .i64 s.hi)).ownsRow base e 2 (.slice (some ⟨g, 0, none⟩) n c) n (ints (flat2 (l.set i s))) := by
  rw [← flat2_put, ints_set, ints_set]
  exact own_store (own_store h _ _) _ _
theorem own_two {w : World} {base : Nat} {e : TypeId} {n g c : Nat} {l : List Sn.S} (h : w.ownsRow base e 2 (.slice (some ⟨g, 0, none⟩) n c) n (ints (flat2 l))) {i : Nat} {s : Sn.S} (hs : l[i]? = some s) (v : Value) :
    (w.cell? ⟨g, i * 2, none⟩ = some (.int .i64 s.lo) ∧ w.frozen? ⟨g, i * 2, none⟩ = false) ∧ (w.setCell ⟨g, i * 2, none⟩ v).cell? ⟨g, i * 2 + 1, none⟩ = some (.int .i64 s.hi) ∧ (w.setCell ⟨g, i * 2, none⟩ v).frozen? ⟨g, i * 2 + 1, none⟩ = false :=
  ⟨own_at h (ints_get (flat2_get hs).1), own_at (own_store h (i * 2) v) (by rw [List.getElem?_set_ne (by omega)]; exact ints_get (flat2_get hs).2)⟩
/-- A block with one range. -/
def Sg (Z : World) (b : Nat) (s : Sn.S) : Prop := b < Z.heap.size ∧ Z.heap[b]? = some (.cells #[.int .i64 s.lo, .int .i64 s.hi] 24 (0, 0))
theorem Sg.new (Z : World) (s : Sn.S) : Sg (Z.alloc (.cells #[.int .i64 s.lo, .int .i64 s.hi] 24)) Z.heap.size s := ⟨by simp, heap_alloc_new Z _⟩
theorem Sg.alloc {Z : World} {b : Nat} {s : Sn.S} (h : Sg Z b s) (ob : Obj) : Sg (Z.alloc ob) b s := ⟨by have := h.1; simp; omega, (((Below.refl Z.heap.size Z).alloc (Nat.le_refl _) ob).block b h.1).trans h.2⟩
theorem Sg.grown {Z Z' : World} {b : Nat} {s : Sn.S} {row : Option Nat} (h : Sg Z b s) (hg : Z.grownBy Z' row) (hn : row ≠ some b) : Sg Z' b s := by
  have e := (hg.block b h.1 (fun e => hn e.symm)).trans h.2
  exact ⟨(Array.getElem?_eq_some_iff.1 e).1, e⟩
theorem add0 (b j : Nat) : (⟨b, 0, none⟩ : Addr).add j = ⟨b, j, none⟩ := by unfold Addr.add; split <;> simp_all
theorem addo (b o j : Nat) : (⟨b, o, none⟩ : Addr).add j = ⟨b, o + j, none⟩ := by unfold Addr.add; split <;> simp_all
theorem Sg.at_ {Z : World} {b : Nat} {s : Sn.S} (h : Sg Z b s) : ∀ j u, (ints (flat2 [s]))[j]? = some u → Z.cell? ((⟨b, 0, none⟩ : Addr).add j) = some u := fun j u hu => by
  rw [add0, cell_of_row Z b j _ _ _ h.2]
  rw [ints2] at hu
  simpa using hu
theorem Sl.at_ {Z : World} {g o n c : Nat} {l : List Sn.S} (h : Sl 0 Z (some ⟨g, o, none⟩) n c l) : ∀ j u, (ints (flat2 l))[j]? = some u → Z.cell? ((⟨g, o, none⟩ : Addr).add j) = some u := fun j u hu => by
  unfold ints at hu
  rw [List.getElem?_map] at hu
  obtain ⟨y, hy, rfl⟩ := Option.map_eq_some_iff.1 hu
  obtain ⟨g', o', e, _, hc⟩ := h.cells.cells (fun e => by rw [e] at hy; simp at hy)
  injection e with e
  injection e with e1 e2
  subst e1
  subst e2
  rw [addo]
  exact hc j y hy
theorem bnds_set {l : List Sn.S} {i : Nat} {t : Sn.S} {Q : Int → Prop} (h : ∀ x ∈ bnds l, Q x) (h1 : Q t.lo) (h2 : Q t.hi) : ∀ x ∈ bnds (l.set i t), Q x := fun x hx => by
  obtain ⟨s, hs, he⟩ := bnds_mem.1 hx
  rcases List.mem_or_eq_of_mem_set hs with hm | rfl
  · exact h x (bnds_mem.2 ⟨s, hm, he⟩)
  · rcases he with rfl | rfl
    · exact h1
    · exact h2
theorem bnds_snoc {l : List Sn.S} {t : Sn.S} {Q : Int → Prop} (h : ∀ x ∈ bnds l, Q x) (h1 : Q t.lo) (h2 : Q t.hi) : ∀ x ∈ bnds (l ++ [t]), Q x := fun x hx => by
  obtain ⟨s, hs, he⟩ := bnds_mem.1 hx
  rcases List.mem_append.1 hs with hm | hm
  · exact h x (bnds_mem.2 ⟨s, hm, he⟩)
  · obtain rfl := List.mem_singleton.1 hm
    rcases he with rfl | rfl
    · exact h1
    · exact h2
variable {Env : World → Prop} (P : PrgS Env) (S : SanOkS Env)
include P S

theorem lawOrder_any (A : Option Addr) (n c : Nat) (x : List Sn.S) (p q : UInt8) (cut : Int) (hcut : In64 cut) (hox : OkB x) (w : World) (he : Env w) (hA : Sl 0 w A n c x) :
    Calls Try.prog 9 #[.slice A n c, .agg #[.int .u8 p.toNat, .int .u8 q.toNat], .int .i64 cut] w fun e w' => e = .returned (.bool true) ∧ Below w.heap.size w w' := by
  obtain ⟨i2, hj, hj0, hj1, hj2⟩ := info_parts info_span
  have hb0 : Below w.heap.size w (w.alloc (.cells #[.int .u8 p.toNat, .int .u8 q.toNat] 41)) := (Below.refl _ w).alloc (Nat.le_refl _) _
  have hbx := heap_alloc_new w (.cells #[.int .u8 p.toNat, .int .u8 q.toNat] 41)
  obtain ⟨w0, hw0⟩ : ∃ w0, w.alloc (.cells #[.int .u8 p.toNat, .int .u8 q.toNat] 41) = w0 := ⟨_, rfl⟩
  rw [hw0] at hb0 hbx
  have hlt : w.heap.size < w0.heap.size := (Array.getElem?_eq_some_iff.1 hbx).1
  have BX : Hid (∀ W, Below w0.heap.size w0 W → W.cell? ⟨w.heap.size, 0, none⟩ = some (.int .u8 p.toNat) ∧ W.cell? ⟨w.heap.size, 1, none⟩ = some (.int .u8 q.toNat)) := Lib.hid fun W h =>
    ⟨(h.cell hlt).trans (cell_of_row w0 _ 0 _ _ _ hbx), (h.cell hlt).trans (cell_of_row w0 _ 1 _ _ _ hbx)⟩
  have k := Lib.hid ((Held.start (P.env he hb0)).add (e := ⟨none, 0, 0, [], fun _ => false, true, true, 0⟩) ⟨sl_nil _, Nat.le_refl _, fun _ => rfl, fun _ => rfl, (fun x hx => by cases hx), fun _ => (fun x hx => by cases hx)⟩)
  have X := Lib.hid (And.intro (hA.below hb0) hox)
  have N := Lib.hid hcut
  have B0 := Lib.hid hb0
  have HW0 := Lib.hid hw0
  have ST := Lib.hid (fun (L : List Ent) (W : World) (h : Held Env w0 W L) => (show W.cell? ⟨w.heap.size, 0, none⟩ = some (.int .u8 p.toNat) ∧ W.cell? ⟨w.heap.size, 1, none⟩ = some (.int .u8 q.toNat) ∧ Held Env w0 W L from ⟨(BX.out W h.low).1, (BX.out W h.low).2, h⟩))
  clear hcut hox hA hb0 hbx hlt hw0
  go_enter Try.func9, Try.ntmps9
  (try rw [HW0.out])
  go_upto_region 3 with (first | (go_at_call 10; refine (S (by first | with_reducible exact k.out | (rw [HW0.out]; exact k.out))).mono ?_; rintro e w1 ⟨rfl, k'⟩; replace k := Lib.hid k'; clear k') | (go_at_call 11; with_reducible refine (l_short P (by first | with_reducible exact k.out | with_reducible exact k.out.step P (below_drewN _ _) | exact k.out.step P (by go_grown)) X.out.1 X.out.2).mono ?_; rintro e w1 ⟨A', m, c', rfl, hm, k'⟩; replace k := Lib.hid k'; clear k') | fail)
  have HM := Lib.hid hm
  clear hm
  by_cases hm0 : m = 0
  · subst hm0
    go_upto_region 4 with fail
    go_wp2_with (first | (go_at_call 15; refine (p_norm P (by first | with_reducible exact k.out | with_reducible exact k.out.step P (below_drewN _ _) | exact k.out.step P (by go_grown)) (by repeat (first | exact List.Mem.head _ | refine List.Mem.tail _ ?_)) (by rfl)).mono ?_; rintro e w1 ⟨A', m, c', out, rfl, hm, k'⟩; (obtain rfl : m = 0 := by omega); clear hm; replace k := Lib.hid k'; clear k') | fail)
    go_ret
    exact ⟨rfl, B0.out.trans (k.out.low.mono B0.out.size)⟩
  obtain ⟨i, hi⟩ : ∃ i, p.toNat % m = i := ⟨_, rfl⟩
  obtain ⟨j, hjj⟩ : ∃ j, q.toNat % m = j := ⟨_, rfl⟩
  have hmz : ¬ (m : Int) = 0 := by omega
  have hpi : (p.toNat : Int).tmod (m : Int) = (i : Int) := by rw [Int.tmod_eq_emod_of_nonneg (Int.natCast_nonneg _), ← hi]; simp
  have hqj : (q.toNat : Int).tmod (m : Int) = (j : Int) := by rw [Int.tmod_eq_emod_of_nonneg (Int.natCast_nonneg _), ← hjj]; simp
  have him : i < m := by rw [← hi]; exact Nat.mod_lt _ (by omega)
  have hjm : j < m := by rw [← hjj]; exact Nat.mod_lt _ (by omega)
  have hwi : IntKind.i64.wrap (i : Int) = (i : Int) := IntWalk.i64_in _ (by have := HM.out; omega)
  have hwj : IntKind.i64.wrap (j : Int) = (j : Int) := IntWalk.i64_in _ (by have := HM.out; omega)
  clear hi hjj
  go_upto_region 5 with fail
  obtain ⟨L, hL, kL⟩ := k.out.pack
  have HL := Lib.hid hL
  rw [← hL] at k
  refine wp_region_held_drew (S := (fun W' => W'.cell? ⟨w.heap.size, 0, none⟩ = some (.int .u8 p.toNat) ∧ W'.cell? ⟨w.heap.size, 1, none⟩ = some (.int .u8 q.toNat) ∧ Held Env w0 W' L)) (by kernel_rfl) (by exact ST.out L _ (k.out.step P (below_drewN _ _))) (fun hHeld => ?_)
  refine wpAnyH_take (i := 0) (v := ?_) rfl (by kernel_rfl) (by kernel_rfl) (by kernel_rfl) (fun _ _ _ h => h) (Or.inl ⟨by rfl, ?_⟩) (by assumption) ?_
  rotate_left
  · ((intro w' hSw); (try dsimp only at hSw); go_simp; all_goals (with_reducible rfl))
  simp only [Act.put, List.getElem_toArray, List.getElem_cons_zero, List.setIfInBounds_toArray, List.set_cons_zero, List.set_cons_succ]
  refine wpAnyH_take (i := 2) (v := ?_) rfl (by kernel_rfl) (by kernel_rfl) (by kernel_rfl) (fun _ _ _ h => h) (Or.inl ⟨by rfl, ?_⟩) (by assumption) ?_
  rotate_left
  · ((intro w' hSw); (try dsimp only at hSw); go_simp; all_goals (with_reducible rfl))
  simp only [Act.put, List.getElem_toArray, List.getElem_cons_succ, List.getElem_cons_zero, List.setIfInBounds_toArray, List.set_cons_zero, List.set_cons_succ]
  refine wpAnyH_take (i := 3) (v := ?_) rfl (by kernel_rfl) (by kernel_rfl) (by kernel_rfl) (fun _ _ _ h => h) (Or.inl ⟨by rfl, ?_⟩) (by assumption) ?_
  rotate_left
  · ((intro w' hSw); (try dsimp only at hSw); go_simp; all_goals (with_reducible rfl))
  simp only [Act.put, List.getElem_toArray, List.getElem_cons_succ, List.getElem_cons_zero, List.setIfInBounds_toArray, List.set_cons_zero, List.set_cons_succ]
  refine wpAnyH_take (i := 4) (v := ?_) rfl (by kernel_rfl) (by kernel_rfl) (by kernel_rfl) (fun _ _ _ h => h) (Or.inl ⟨by rfl, ?_⟩) (by assumption) ?_
  rotate_left
  · ((intro w' hSw); (try dsimp only at hSw); go_simp; all_goals (with_reducible rfl))
  simp only [Act.put, List.getElem_toArray, List.getElem_cons_succ, List.getElem_cons_zero, List.setIfInBounds_toArray, List.set_cons_zero, List.set_cons_succ]
  refine wpAnyH_take (i := 5) (v := ?_) rfl (by kernel_rfl) (by kernel_rfl) (by kernel_rfl) (fun _ _ _ h => h) (Or.inl ⟨by rfl, ?_⟩) (by assumption) ?_
  rotate_left
  · ((intro w' hSw); (try dsimp only at hSw); go_simp; all_goals (with_reducible rfl))
  simp only [Act.put, List.getElem_toArray, List.getElem_cons_succ, List.getElem_cons_zero, List.setIfInBounds_toArray, List.set_cons_zero, List.set_cons_succ]
  refine wpAnyH_take (i := 6) (v := ?_) rfl (by kernel_rfl) (by kernel_rfl) (by kernel_rfl) (fun _ _ _ h => h) (Or.inl ⟨by rfl, ?_⟩) (by assumption) ?_
  rotate_left
  · ((intro w' hSw); (try dsimp only at hSw); go_simp; all_goals (with_reducible rfl))
  simp only [Act.put, List.getElem_toArray, List.getElem_cons_succ, List.getElem_cons_zero, List.setIfInBounds_toArray, List.set_cons_zero, List.set_cons_succ]
  refine wpAnyH_take (i := 7) (v := ?_) rfl (by kernel_rfl) (by kernel_rfl) (by kernel_rfl) (fun _ _ _ h => h) (Or.inl ⟨by rfl, ?_⟩) (by assumption) ?_
  rotate_left
  · ((intro w' hSw); (try dsimp only at hSw); go_simp; all_goals (with_reducible rfl))
  simp only [Act.put, List.getElem_toArray, List.getElem_cons_succ, List.getElem_cons_zero, List.setIfInBounds_toArray, List.set_cons_zero, List.set_cons_succ]
  refine wpAnyH_take (i := 8) (v := ?_) rfl (by kernel_rfl) (by kernel_rfl) (by kernel_rfl) (fun _ _ _ h => h) (Or.inl ⟨by rfl, ?_⟩) (by assumption) ?_
  rotate_left
  · ((intro w' hSw); (try dsimp only at hSw); go_simp; all_goals (with_reducible rfl))
  simp only [Act.put, List.getElem_toArray, List.getElem_cons_succ, List.getElem_cons_zero, List.setIfInBounds_toArray, List.set_cons_zero, List.set_cons_succ]
  refine wpAnyH_take (i := 9) (v := ?_) rfl (by kernel_rfl) (by kernel_rfl) (by kernel_rfl) (fun _ _ _ h => h) (Or.inl ⟨by rfl, ?_⟩) (by assumption) ?_
  rotate_left
  · ((intro w' hSw); (try dsimp only at hSw); go_simp; all_goals (with_reducible rfl))
  simp only [Act.put, List.getElem_toArray, List.getElem_cons_succ, List.getElem_cons_zero, List.setIfInBounds_toArray, List.set_cons_zero, List.set_cons_succ]
  refine wpAnyH_take (i := 10) (v := ?_) rfl (by kernel_rfl) (by kernel_rfl) (by kernel_rfl) (fun _ _ _ h => h) (Or.inl ⟨by rfl, ?_⟩) (by assumption) ?_
  rotate_left
  · ((intro w' hSw); (try dsimp only at hSw); go_simp; all_goals (with_reducible rfl))
  simp only [Act.put, List.getElem_toArray, List.getElem_cons_succ, List.getElem_cons_zero, List.setIfInBounds_toArray, List.set_cons_zero, List.set_cons_succ]
  refine wpAnyH_take (i := 11) (v := ?_) rfl (by kernel_rfl) (by kernel_rfl) (by kernel_rfl) (fun _ _ _ h => h) (Or.inl ⟨by rfl, ?_⟩) (by assumption) ?_
  rotate_left
  · ((intro w' hSw); (try dsimp only at hSw); go_simp; all_goals (with_reducible rfl))
  simp only [Act.put, List.getElem_toArray, List.getElem_cons_succ, List.getElem_cons_zero, List.setIfInBounds_toArray, List.set_cons_zero, List.set_cons_succ]
  refine wpAnyH_take (i := 12) (v := ?_) rfl (by kernel_rfl) (by kernel_rfl) (by kernel_rfl) (fun _ _ _ h => h) (Or.inl ⟨by rfl, ?_⟩) (by assumption) ?_
  rotate_left
  · ((intro w' hSw); (try dsimp only at hSw); go_simp; all_goals (with_reducible rfl))
  simp only [Act.put, List.getElem_toArray, List.getElem_cons_succ, List.getElem_cons_zero, List.setIfInBounds_toArray, List.set_cons_zero, List.set_cons_succ]
  refine wpAnyH_take (i := 13) (v := ?_) rfl (by kernel_rfl) (by kernel_rfl) (by kernel_rfl) (fun _ _ _ h => h) (Or.inl ⟨by rfl, ?_⟩) (by assumption) ?_
  rotate_left
  · ((intro w' hSw); (try dsimp only at hSw); go_simp; all_goals (with_reducible rfl))
  simp only [Act.put, List.getElem_toArray, List.getElem_cons_succ, List.getElem_cons_zero, List.setIfInBounds_toArray, List.set_cons_zero, List.set_cons_succ]
  refine wpAnyH_ready (rs := [1]) (by kernel_rfl) (by simp) ?_
  refine AllReadyH.cons rfl (fun K hK => ?_) AllReadyH.nil
  go_simp
  go_wp2_with (go_at_call 15; refine (p_norm P (by with_reducible exact hHeld.2.2) (by rw [HL.out]; repeat (first | exact List.Mem.head _ | refine List.Mem.tail _ ?_)) (by rfl)).mono ?_; rintro e w1 ⟨A2, m2, c2, out, rfl, hm, k'⟩; )
  refine hK.out _ _ ?_ (fun hHeld => ?_)
  · exact ST.out L _ ⟨k'.env, k'.low, fun e he => k'.ok e (List.Mem.tail _ he)⟩
  clear hK K
  refine wpAnyH_take (i := 14) (v := ?_) rfl (by kernel_rfl) (by kernel_rfl) (by kernel_rfl) (fun _ _ _ h => h) (Or.inl ⟨by rfl, ?_⟩) (by assumption) ?_
  rotate_left
  · ((intro w' hSw); (try dsimp only at hSw); go_simp; all_goals (with_reducible rfl))
  simp only [Act.put, List.getElem_toArray, List.getElem_cons_succ, List.getElem_cons_zero, List.setIfInBounds_toArray, List.set_cons_zero, List.set_cons_succ]
  refine wpAnyH_take (i := 15) (v := ?_) rfl (by kernel_rfl) (by kernel_rfl) (by kernel_rfl) (fun _ _ _ h => h) (Or.inl ⟨by rfl, ?_⟩) (by assumption) ?_
  rotate_left
  · ((intro w' hSw); (try dsimp only at hSw); go_simp; all_goals (with_reducible rfl))
  simp only [Act.put, List.getElem_toArray, List.getElem_cons_succ, List.getElem_cons_zero, List.setIfInBounds_toArray, List.set_cons_zero, List.set_cons_succ]
  refine wpAnyH_take (i := 16) (v := ?_) rfl (by kernel_rfl) (by kernel_rfl) (by kernel_rfl) (fun _ _ _ h => h) (Or.inl ⟨by rfl, ?_⟩) (by assumption) ?_
  rotate_left
  · ((intro w' hSw); (try dsimp only at hSw); go_simp; all_goals (with_reducible rfl))
  simp only [Act.put, List.getElem_toArray, List.getElem_cons_succ, List.getElem_cons_zero, List.setIfInBounds_toArray, List.set_cons_zero, List.set_cons_succ]
  refine wpAnyH_done (by kernel_rfl) ?_ _
  have hwp : IntKind.i64.wrap (p.toNat : Int) = (p.toNat : Int) := IntWalk.i64_in _ (by have := p.toNat_lt; omega)
  have hwq : IntKind.i64.wrap (q.toNat : Int) = (q.toNat : Int) := IntWalk.i64_in _ (by have := q.toNat_lt; omega)
  rw [hwp, hwq, hpi, hqj]
  rw [HL.out] at k'
  clear hwp hwq hpi hqj hHeld hmz ST BX kL HL k
  try clear hL
  have K1 := Lib.hid k'
  have k := Lib.hid k'.rebase
  have HM2 := Lib.hid hm
  have hok := k'.ok _ (List.Mem.tail _ (List.Mem.head _))
  have hl0 : (x.take 12).length = m := hok.sl.plen
  obtain ⟨s, hs⟩ : ∃ s, (x.take 12)[i]? = some s := ⟨_, List.getElem?_eq_getElem (by omega)⟩
  obtain ⟨t, ht⟩ : ∃ t, (x.take 12)[j]? = some t := ⟨_, List.getElem?_eq_getElem (by omega)⟩
  obtain ⟨g, o, hA', hgw, cs0, cs1⟩ := hok.sl.sps.at_ hs
  obtain ⟨g', o', hA2, _, ct0, ct1⟩ := hok.sl.sps.at_ ht
  have hA'' : A' = some ⟨g, o, none⟩ := hA'
  clear hA'
  subst hA''
  injection hA2 with hA2
  injection hA2 with e1 e2
  subst e1
  subst e2
  have HSrc := Lib.hid hok.sl
  have OKL := Lib.hid hok.bnd
  have HST := Lib.hid (And.intro hs ht)
  clear hok hs ht hl0 hm k'
  have HE := Lib.hid (own_empty w1 24 2)
  have HB1 := Lib.hid (show Below w1.heap.size w1 (w1.alloc (.cells #[] 24)) from (Below.refl _ w1).alloc (Nat.le_refl _) _)
  go_upto_region 7 with (at_builtin; refine wpList_append_si rfl _ _ 22 rfl w1.heap.size 24 i2 _ 2 16 Try.underlying22 hj hj0 hj1 hj2 rfl (by decide) _ _ _ rfl HE.out (some ⟨g, o, none⟩) m c' (flat2 (x.take 12)) rfl (HSrc.out.below HB1.out) (by unfold maxLen; have := HM.out; omega) (by have := HM.out; omega) HB1.out.size ?_; intro v' w2 hown2 hB2; rw [Nat.zero_add, List.nil_append] at hown2; obtain ⟨AT, cT, rfl⟩ := own_form hown2; have HO2 := Lib.hid hown2; have HB2 := Lib.hid (hB2 w1 (Nat.le_refl _) HB1.out); clear hown2 hB2)
  clear HE HB1
  obtain ⟨gT, capT, hvT, hgT, hgT2⟩ := HO2.out.form (show 0 < m by omega)
  injection hvT with hvT _ hcT
  subst hvT
  subst hcT
  have hgne : g ≠ gT := by omega
  have SC : Hid (∀ W, Below w1.heap.size w1 W → W.cell? ⟨g, o + i * 2, none⟩ = some (.int .i64 s.lo) ∧ W.cell? ⟨g, o + i * 2 + 1, none⟩ = some (.int .i64 s.hi) ∧ W.cell? ⟨g, o + j * 2, none⟩ = some (.int .i64 t.lo) ∧ W.cell? ⟨g, o + j * 2 + 1, none⟩ = some (.int .i64 t.hi)) := Lib.hid fun W h => ⟨(h.cell hgw).trans cs0, (h.cell hgw).trans cs1, (h.cell hgw).trans ct0, (h.cell hgw).trans ct1⟩
  have HBd := Lib.hid (show Below w1.heap.size w1 w2.drew from HB2.out.trans ((below_drewN w2 1).mono HB2.out.size))
  have hin : (i : Int) < (m : Int) := Int.ofNat_lt.2 him
  have hjn : (j : Int) < (m : Int) := Int.ofNat_lt.2 hjm
  have hi0 : (0 : Int) ≤ (i : Int) := Int.natCast_nonneg i
  have hj0' : (0 : Int) ≤ (j : Int) := Int.natCast_nonneg j
  clear cs0 cs1 ct0 ct1
  refine wp_region_held_drew (S := (fun W' => W'.cell? ⟨g, o + i * 2, none⟩ = some (.int .i64 s.lo) ∧ W'.cell? ⟨g, o + i * 2 + 1, none⟩ = some (.int .i64 s.hi) ∧ W'.cell? ⟨g, o + j * 2, none⟩ = some (.int .i64 t.lo) ∧ W'.cell? ⟨g, o + j * 2 + 1, none⟩ = some (.int .i64 t.hi))) (by kernel_rfl) (by exact SC.out _ HBd.out) (fun hHeld => ?_)
  have HOd := Lib.hid (own_drew HO2.out)
  generalize w2.drew = v2 at *
  refine wpAnyH_take (i := 0) (v := ?_) rfl (by kernel_rfl) (by kernel_rfl) (by kernel_rfl) (fun _ _ _ h => h) (Or.inl ⟨by rfl, ?_⟩) (by assumption) ?_
  rotate_left
  · ((intro w' hSw); (try dsimp only at hSw); go_simp; all_goals (with_reducible rfl))
  simp only [Act.put, List.getElem_toArray, List.getElem_cons_zero, List.setIfInBounds_toArray, List.set_cons_zero, List.set_cons_succ]
  refine wpAnyH_take (i := 1) (v := ?_) rfl (by kernel_rfl) (by kernel_rfl) (by kernel_rfl) (fun _ _ _ h => h) (Or.inl ⟨by rfl, ?_⟩) (by assumption) ?_
  rotate_left
  · ((intro w' hSw); (try dsimp only at hSw); go_simp; all_goals (with_reducible rfl))
  simp only [Act.put, List.getElem_toArray, List.getElem_cons_succ, List.getElem_cons_zero, List.setIfInBounds_toArray, List.set_cons_zero, List.set_cons_succ]
  refine wpAnyH_take (i := 2) (v := ?_) rfl (by kernel_rfl) (by kernel_rfl) (by kernel_rfl) (fun _ _ _ h => h) (Or.inl ⟨by rfl, ?_⟩) (by assumption) ?_
  rotate_left
  · ((intro w' hSw); (try dsimp only at hSw); go_simp; all_goals (with_reducible rfl))
  simp only [Act.put, List.getElem_toArray, List.getElem_cons_succ, List.getElem_cons_zero, List.setIfInBounds_toArray, List.set_cons_zero, List.set_cons_succ]
  refine wpAnyH_take (i := 3) (v := ?_) rfl (by kernel_rfl) (by kernel_rfl) (by kernel_rfl) (fun _ _ _ h => h) (Or.inl ⟨by rfl, ?_⟩) (by assumption) ?_
  rotate_left
  · ((intro w' hSw); (try dsimp only at hSw); go_simp; all_goals (with_reducible rfl))
  simp only [Act.put, List.getElem_toArray, List.getElem_cons_succ, List.getElem_cons_zero, List.setIfInBounds_toArray, List.set_cons_zero, List.set_cons_succ]
  refine wpAnyH_take (i := 4) (v := ?_) rfl (by kernel_rfl) (by kernel_rfl) (by kernel_rfl) (fun _ _ _ h => h) (Or.inl ⟨by rfl, ?_⟩) (by assumption) ?_
  rotate_left
  · ((intro w' hSw); (try dsimp only at hSw); go_simp; all_goals (with_reducible rfl))
  simp only [Act.put, List.getElem_toArray, List.getElem_cons_succ, List.getElem_cons_zero, List.setIfInBounds_toArray, List.set_cons_zero, List.set_cons_succ]
  refine wpAnyH_take (i := 5) (v := ?_) rfl (by kernel_rfl) (by kernel_rfl) (by kernel_rfl) (fun _ _ _ h => h) (Or.inl ⟨by rfl, ?_⟩) (by assumption) ?_
  rotate_left
  · ((intro w' hSw); (try dsimp only at hSw); go_simp; all_goals (with_reducible rfl))
  simp only [Act.put, List.getElem_toArray, List.getElem_cons_succ, List.getElem_cons_zero, List.setIfInBounds_toArray, List.set_cons_zero, List.set_cons_succ]
  refine wpAnyH_take (i := 6) (v := ?_) rfl (by kernel_rfl) (by kernel_rfl) (by kernel_rfl) (fun _ _ _ h => h) (Or.inl ⟨by rfl, ?_⟩) (by assumption) ?_
  rotate_left
  · ((intro w' hSw); (try dsimp only at hSw); go_simp; all_goals (with_reducible rfl))
  simp only [Act.put, List.getElem_toArray, List.getElem_cons_succ, List.getElem_cons_zero, List.setIfInBounds_toArray, List.set_cons_zero, List.set_cons_succ]
  refine wpAnyH_take (i := 7) (v := ?_) rfl (by kernel_rfl) (by kernel_rfl) (by kernel_rfl) (fun _ _ _ h => h) (Or.inl ⟨by rfl, ?_⟩) (by assumption) ?_
  rotate_left
  · ((intro w' hSw); (try dsimp only at hSw); go_simp; all_goals (with_reducible rfl))
  simp only [Act.put, List.getElem_toArray, List.getElem_cons_succ, List.getElem_cons_zero, List.setIfInBounds_toArray, List.set_cons_zero, List.set_cons_succ]
  refine wpAnyH_take (i := 8) (v := ?_) rfl (by kernel_rfl) (by kernel_rfl) (by kernel_rfl) (fun _ _ _ h => h) (Or.inl ⟨by rfl, ?_⟩) (by assumption) ?_
  rotate_left
  · ((intro w' hSw); (try dsimp only at hSw); go_simp; all_goals (with_reducible rfl))
  simp only [Act.put, List.getElem_toArray, List.getElem_cons_succ, List.getElem_cons_zero, List.setIfInBounds_toArray, List.set_cons_zero, List.set_cons_succ]
  refine wpAnyH_take (i := 9) (v := ?_) rfl (by kernel_rfl) (by kernel_rfl) (by kernel_rfl) (fun _ _ _ h => h) (Or.inl ⟨by rfl, ?_⟩) (by assumption) ?_
  rotate_left
  · ((intro w' hSw); (try dsimp only at hSw); go_simp; all_goals (with_reducible rfl))
  simp only [Act.put, List.getElem_toArray, List.getElem_cons_succ, List.getElem_cons_zero, List.setIfInBounds_toArray, List.set_cons_zero, List.set_cons_succ]
  refine wpAnyH_take (i := 10) (v := ?_) rfl (by kernel_rfl) (by kernel_rfl) (by kernel_rfl) (fun _ _ _ h => h) (Or.inl ⟨by rfl, ?_⟩) (by assumption) ?_
  rotate_left
  · ((intro w' hSw); (try dsimp only at hSw); go_simp; all_goals (with_reducible rfl))
  simp only [Act.put, List.getElem_toArray, List.getElem_cons_succ, List.getElem_cons_zero, List.setIfInBounds_toArray, List.set_cons_zero, List.set_cons_succ]
  refine wpAnyH_take (i := 11) (v := ?_) rfl (by kernel_rfl) (by kernel_rfl) (by kernel_rfl) (fun _ _ _ h => h) (Or.inl ⟨by rfl, ?_⟩) (by assumption) ?_
  rotate_left
  · ((intro w' hSw); (try dsimp only at hSw); go_simp; all_goals (with_reducible rfl))
  simp only [Act.put, List.getElem_toArray, List.getElem_cons_succ, List.getElem_cons_zero, List.setIfInBounds_toArray, List.set_cons_zero, List.set_cons_succ]
  refine wpAnyH_take (i := 12) (v := ?_) rfl (by kernel_rfl) (by kernel_rfl) (by kernel_rfl) (fun _ _ _ h => h) (Or.inl ⟨by rfl, ?_⟩) (by assumption) ?_
  rotate_left
  · ((intro w' hSw); (try dsimp only at hSw); go_simp; all_goals (with_reducible rfl))
  simp only [Act.put, List.getElem_toArray, List.getElem_cons_succ, List.getElem_cons_zero, List.setIfInBounds_toArray, List.set_cons_zero, List.set_cons_succ]
  have ht1 : ((x.take 12).set i t)[j]? = some (if i = j then t else t) := by
    rw [ite_self, List.getElem?_set]
    have := (List.getElem?_eq_some_iff.1 HST.out.2).1
    split
    · subst_vars
      rw [if_pos (by omega)]
    · exact HST.out.2
  rw [ite_self] at ht1
  obtain ⟨⟨a0, a1⟩, a2, a3⟩ := own_two HOd.out HST.out.1 (.int .i64 t.lo)
  refine wpAnyH_ready (rs := [13]) (by kernel_rfl) (by simp) ?_
  refine AllReadyH.cons rfl (fun K hK => ?_) AllReadyH.nil
  go_simp
  have HO13 := Lib.hid (own_put HOd.out i t)
  have HBn := Lib.hid ((HBd.out.setCell (p := ⟨gT, i * 2, none⟩) hgT (.int .i64 t.lo)).setCell (p := ⟨gT, i * 2 + 1, none⟩) hgT (.int .i64 t.hi))
  clear a0 a1 a2 a3 HOd HBd
  refine hK.out _ _ ?_ (fun hHeld => ?_)
  · exact SC.out _ HBn.out
  clear hK K
  generalize (v2.setCell ⟨gT, i * 2, none⟩ (.int .i64 t.lo)).setCell ⟨gT, i * 2 + 1, none⟩ (.int .i64 t.hi) = v13 at *
  have HB13 := HBn
  clear HBn
  refine wpAnyH_take (i := 14) (v := ?_) rfl (by kernel_rfl) (by kernel_rfl) (by kernel_rfl) (fun _ _ _ h => h) (Or.inl ⟨by rfl, ?_⟩) (by assumption) ?_
  rotate_left
  · ((intro w' hSw); (try dsimp only at hSw); go_simp; all_goals (with_reducible rfl))
  simp only [Act.put, List.getElem_toArray, List.getElem_cons_succ, List.getElem_cons_zero, List.setIfInBounds_toArray, List.set_cons_zero, List.set_cons_succ]
  obtain ⟨⟨a0, a1⟩, a2, a3⟩ := own_two HO13.out ht1 (.int .i64 s.lo)
  refine wpAnyH_ready (rs := [15]) (by kernel_rfl) (by simp) ?_
  refine AllReadyH.cons rfl (fun K hK => ?_) AllReadyH.nil
  go_simp
  have HO15 := Lib.hid (own_put HO13.out j s)
  have HBn := Lib.hid ((HB13.out.setCell (p := ⟨gT, j * 2, none⟩) hgT (.int .i64 s.lo)).setCell (p := ⟨gT, j * 2 + 1, none⟩) hgT (.int .i64 s.hi))
  clear a0 a1 a2 a3 HO13 HB13
  refine hK.out _ _ ?_ (fun hHeld => ?_)
  · exact SC.out _ HBn.out
  clear hK K
  generalize (v13.setCell ⟨gT, j * 2, none⟩ (.int .i64 s.lo)).setCell ⟨gT, j * 2 + 1, none⟩ (.int .i64 s.hi) = v15 at *
  have HB15 := HBn
  clear HBn
  refine wpAnyH_done (by kernel_rfl) ?_ _
  go_wp2
  have HBI := Lib.hid (And.intro (OKL.out s.lo (bnds_mem.2 ⟨s, List.mem_of_getElem? HST.out.1, .inl rfl⟩)) (OKL.out s.hi (bnds_mem.2 ⟨s, List.mem_of_getElem? HST.out.1, .inr rfl⟩)))
  have HBJ := Lib.hid (And.intro (OKL.out t.lo (bnds_mem.2 ⟨t, List.mem_of_getElem? HST.out.2, .inl rfl⟩)) (OKL.out t.hi (bnds_mem.2 ⟨t, List.mem_of_getElem? HST.out.2, .inr rfl⟩)))
  have k15 := Lib.hid ((k.out.step P HB15.out).add (e := ⟨some ⟨gT, 0, none⟩, m, cT, ((x.take 12).set i t).set j s, fun u => hasB (x.take 12) u, false, false, 12⟩)
    ⟨sl_own HO15.out, HM.out, (fun h => by cases h), has_swap HST.out.1 HST.out.2, bnds_set (bnds_set OKL.out HBJ.out.1 HBJ.out.2) HBI.out.1 HBI.out.2, (fun h => by cases h)⟩)
  clear k ht1 HO15 HO2 hHeld HBJ hgT hgT2 hgne
  go_cut [13] from 59 to 67 (fun s13 wx => ∃ A c, s13 = .slice A (m + 1) c ∧ wx.ownsRow v15.heap.size 24 2 (.slice A (m + 1) c) (m + 1) (ints (flat2 (x.take 12 ++ [s]))) ∧ Below v15.heap.size v15 wx)
  case first =>
    have HWA := Lib.hid (show Below w1.heap.size w1 v15 from HB15.out)
    have HU := Lib.hid (show Below v15.heap.size v15 v15.drew from below_drewN v15 1)
    have HV := Lib.hid (HB15.out.trans (HU.out.mono HB15.out.size))
    have XL := Lib.hid (show (x.take 12).length = m from HSrc.out.plen)
    refine wp_region_held_drew (S := (fun W' => W'.cell? ⟨g, o + i * 2, none⟩ = some (.int .i64 s.lo) ∧ W'.cell? ⟨g, o + i * 2 + 1, none⟩ = some (.int .i64 s.hi) ∧ W'.cell? ⟨g, o + j * 2, none⟩ = some (.int .i64 t.lo) ∧ W'.cell? ⟨g, o + j * 2 + 1, none⟩ = some (.int .i64 t.hi))) (by kernel_rfl) (by exact SC.out _ HV.out) (fun hHeld => ?_)
    generalize v15.drew = u0 at *
    have HU0 := Lib.hid (Below.refl u0.heap.size u0)
    refine wpAnyH_take (i := 1) (v := ?_) rfl (by kernel_rfl) (by kernel_rfl) (by kernel_rfl) (fun _ _ _ h => h) (Or.inl ⟨by rfl, ?_⟩) (by assumption) ?_
    rotate_left
    · ((intro w' hSw); (try dsimp only at hSw); go_simp; all_goals (with_reducible rfl))
    simp only [Act.put, List.getElem_toArray, List.getElem_cons_succ, List.getElem_cons_zero, List.setIfInBounds_toArray, List.set_cons_zero, List.set_cons_succ]
    refine wpAnyH_take (i := 3) (v := ?_) rfl (by kernel_rfl) (by kernel_rfl) (by kernel_rfl) (fun _ _ _ h => h) (Or.inl ⟨by rfl, ?_⟩) (by assumption) ?_
    rotate_left
    · ((intro w' hSw); (try dsimp only at hSw); go_simp; all_goals (with_reducible rfl))
    simp only [Act.put, List.getElem_toArray, List.getElem_cons_succ, List.getElem_cons_zero, List.setIfInBounds_toArray, List.set_cons_zero, List.set_cons_succ]
    refine wpAnyH_take (i := 4) (v := ?_) rfl (by kernel_rfl) (by kernel_rfl) (by kernel_rfl) (fun _ _ _ h => h) (Or.inl ⟨by rfl, ?_⟩) (by assumption) ?_
    rotate_left
    · ((intro w' hSw); (try dsimp only at hSw); go_simp; all_goals (with_reducible rfl))
    simp only [Act.put, List.getElem_toArray, List.getElem_cons_succ, List.getElem_cons_zero, List.setIfInBounds_toArray, List.set_cons_zero, List.set_cons_succ]
    refine wpAnyH_take (i := 5) (v := ?_) rfl (by kernel_rfl) (by kernel_rfl) (by kernel_rfl) (fun _ _ _ h => h) (Or.inl ⟨by rfl, ?_⟩) (by assumption) ?_
    rotate_left
    · ((intro w' hSw); (try dsimp only at hSw); go_simp; all_goals (with_reducible rfl))
    simp only [Act.put, List.getElem_toArray, List.getElem_cons_succ, List.getElem_cons_zero, List.setIfInBounds_toArray, List.set_cons_zero, List.set_cons_succ]
    refine wpAnyH_take (i := 6) (v := ?_) rfl (by kernel_rfl) (by kernel_rfl) (by kernel_rfl) (fun _ _ _ h => h) (Or.inl ⟨by rfl, ?_⟩) (by assumption) ?_
    rotate_left
    · ((intro w' hSw); (try dsimp only at hSw); go_simp; all_goals (with_reducible rfl))
    simp only [Act.put, List.getElem_toArray, List.getElem_cons_succ, List.getElem_cons_zero, List.setIfInBounds_toArray, List.set_cons_zero, List.set_cons_succ]
    refine wpAnyH_ready (rs := [0, 7]) (by kernel_rfl) (by simp) ?_
    refine AllReadyH.cons rfl (fun K hK => ?_) (AllReadyH.cons rfl (fun K hK => ?_) AllReadyH.nil)
    · go_simp
      have HOz1a0 := Lib.hid (own_weak (own_empty u0 24 2) HU0.out.size)
      have HBz1a0 := Lib.hid (HU0.out.alloc HU0.out.size (.cells #[] 24))
      refine hK.out _ _ ?_ (fun hHeld => ?_)
      · exact SC.out _ (HV.out.trans (HBz1a0.out.mono HV.out.size))
      clear hK K
      generalize u0.alloc (.cells #[] 24) = z1a0 at *
      refine wpAnyH_ready (rs := [2, 7]) (by kernel_rfl) (by simp) ?_
      refine AllReadyH.cons rfl (fun K hK => ?_) (AllReadyH.cons rfl (fun K hK => ?_) AllReadyH.nil)
      · refine step_append rfl (.tmp 59) (.tmp 60) 22 rfl u0.heap.size 24 i2 _ 2 16 Try.underlying22 hj hj0 hj1 hj2 rfl (by decide) (.slice (some ⟨u0.heap.size, 0, none⟩) 0 0) 0 _ rfl HOz1a0.out ⟨g, o, none⟩ m c' (ints (flat2 (x.take 12))) rfl (by rw [ints_length, flat2_len, XL.out]) (Sl.at_ (HSrc.out.below (HWA.out.trans ((HU.out.trans (HBz1a0.out.mono HU.out.size)).mono HWA.out.size)))) (ints_cells _) (by unfold maxLen; have := HM.out; omega) (by have := HM.out; omega) HBz1a0.out.size 61 rfl ?_
        intro v7 z2b2 hown7 hg7
        rw [Nat.zero_add, List.nil_append] at hown7
        obtain ⟨Az2b2, cz2b2, rfl⟩ := own_form hown7
        have HOz2b2 := Lib.hid hown7
        have HBz2b2 := Lib.hid (HBz1a0.out.grown hg7 HBz1a0.out.size (fun t ht => (HOz1a0.out.lt t ht).1))
        clear hown7 hg7
        refine hK.out _ _ ?_ (fun hHeld => ?_)
        · exact SC.out _ (HV.out.trans (HBz2b2.out.mono HV.out.size))
        clear hK K
        simp only [Act.put, List.setIfInBounds_toArray, List.set_cons_zero, List.set_cons_succ]
        refine wpAnyH_ready (rs := [7]) (by kernel_rfl) (by simp) ?_
        refine AllReadyH.cons rfl (fun K hK => ?_) AllReadyH.nil
        go_simp
        have HSz3c7 := Lib.hid (Sg.new z2b2 s)
        have HOz3c7 := Lib.hid (own_keep HOz2b2.out ((Below.refl z2b2.heap.size z2b2).alloc (Nat.le_refl _) (.cells #[.int .i64 s.lo, .int .i64 s.hi] 24)))
        have HBz3c7 := Lib.hid (HBz2b2.out.alloc HBz2b2.out.size (.cells #[.int .i64 s.lo, .int .i64 s.hi] 24))
        refine hK.out _ _ ?_ (fun hHeld => ?_)
        · exact SC.out _ (HV.out.trans (HBz3c7.out.mono HV.out.size))
        clear hK K
        generalize z2b2.alloc (.cells #[.int .i64 s.lo, .int .i64 s.hi] 24) = z3c7 at *
        refine wpAnyH_ready (rs := [8]) (by kernel_rfl) (by simp) ?_
        refine AllReadyH.cons rfl (fun K hK => ?_) AllReadyH.nil
        refine step_append rfl (.tmp 61) (.tmp 66) 22 rfl u0.heap.size 24 i2 _ 2 16 Try.underlying22 hj hj0 hj1 hj2 rfl (by decide) (.slice Az2b2 m cz2b2) m _ rfl HOz3c7.out ⟨z2b2.heap.size, 0, none⟩ 1 1 (ints (flat2 [s])) rfl rfl (Sg.at_ HSz3c7.out) (ints_cells _) (by unfold maxLen; have := HM.out; omega) (by have := HM.out; omega) HBz3c7.out.size 67 rfl ?_
        intro v7 z4d8 hown7 hg7
        rw [← ints_append, ← flat2_append] at hown7
        obtain ⟨Az4d8, cz4d8, rfl⟩ := own_form hown7
        have HOz4d8 := Lib.hid hown7
        have HBz4d8 := Lib.hid (HBz3c7.out.grown hg7 HBz3c7.out.size (fun t ht => (HOz3c7.out.lt t ht).1))
        clear hown7 hg7
        refine hK.out _ _ ?_ (fun hHeld => ?_)
        · exact SC.out _ (HV.out.trans (HBz4d8.out.mono HV.out.size))
        clear hK K
        refine wpAnyH_take (i := 9) (v := ?_) rfl (by kernel_rfl) (by kernel_rfl) (by kernel_rfl) (fun _ _ _ h => h) (Or.inl ⟨by rfl, ?_⟩) (by assumption) ?_
        rotate_left
        · ((intro w' hSw); (try dsimp only at hSw); go_simp; all_goals (with_reducible rfl))
        simp only [Act.put, List.getElem_toArray, List.getElem_cons_succ, List.getElem_cons_zero, List.setIfInBounds_toArray, List.set_cons_zero, List.set_cons_succ]
        refine wpAnyH_done (by kernel_rfl) ?_ _
        go_wp2
        go_meet
        case rel => exact ⟨_, _, rfl, own_weak HOz4d8.out HU.out.size, HU.out.trans (HBz4d8.out.mono HU.out.size)⟩
      · go_simp
        have HSz2b7 := Lib.hid (Sg.new z1a0 s)
        have HOz2b7 := Lib.hid (own_keep HOz1a0.out ((Below.refl z1a0.heap.size z1a0).alloc (Nat.le_refl _) (.cells #[.int .i64 s.lo, .int .i64 s.hi] 24)))
        have HNz2b7 := Lib.hid (show u0.heap.size ≠ z1a0.heap.size from Nat.ne_of_lt (HOz1a0.out.lt _ rfl).2)
        have HBz2b7 := Lib.hid (HBz1a0.out.alloc HBz1a0.out.size (.cells #[.int .i64 s.lo, .int .i64 s.hi] 24))
        refine hK.out _ _ ?_ (fun hHeld => ?_)
        · exact SC.out _ (HV.out.trans (HBz2b7.out.mono HV.out.size))
        clear hK K
        generalize z1a0.alloc (.cells #[.int .i64 s.lo, .int .i64 s.hi] 24) = z2b7 at *
        refine wpAnyH_ready (rs := [2]) (by kernel_rfl) (by simp) ?_
        refine AllReadyH.cons rfl (fun K hK => ?_) AllReadyH.nil
        refine step_append rfl (.tmp 59) (.tmp 60) 22 rfl u0.heap.size 24 i2 _ 2 16 Try.underlying22 hj hj0 hj1 hj2 rfl (by decide) (.slice (some ⟨u0.heap.size, 0, none⟩) 0 0) 0 _ rfl HOz2b7.out ⟨g, o, none⟩ m c' (ints (flat2 (x.take 12))) rfl (by rw [ints_length, flat2_len, XL.out]) (Sl.at_ (HSrc.out.below (HWA.out.trans ((HU.out.trans (HBz2b7.out.mono HU.out.size)).mono HWA.out.size)))) (ints_cells _) (by unfold maxLen; have := HM.out; omega) (by have := HM.out; omega) HBz2b7.out.size 61 rfl ?_
        intro v7 z3c2 hown7 hg7
        rw [Nat.zero_add, List.nil_append] at hown7
        obtain ⟨Az3c2, cz3c2, rfl⟩ := own_form hown7
        have HSz3c2 := Lib.hid (HSz2b7.out.grown hg7 (fun e => HNz2b7.out (by simpa [Value.ownBlock] using e)))
        have HOz3c2 := Lib.hid hown7
        have HBz3c2 := Lib.hid (HBz2b7.out.grown hg7 HBz2b7.out.size (fun t ht => (HOz2b7.out.lt t ht).1))
        clear hown7 hg7
        refine hK.out _ _ ?_ (fun hHeld => ?_)
        · exact SC.out _ (HV.out.trans (HBz3c2.out.mono HV.out.size))
        clear hK K
        simp only [Act.put, List.setIfInBounds_toArray, List.set_cons_zero, List.set_cons_succ]
        refine wpAnyH_ready (rs := [8]) (by kernel_rfl) (by simp) ?_
        refine AllReadyH.cons rfl (fun K hK => ?_) AllReadyH.nil
        refine step_append rfl (.tmp 61) (.tmp 66) 22 rfl u0.heap.size 24 i2 _ 2 16 Try.underlying22 hj hj0 hj1 hj2 rfl (by decide) (.slice Az3c2 m cz3c2) m _ rfl HOz3c2.out ⟨z1a0.heap.size, 0, none⟩ 1 1 (ints (flat2 [s])) rfl rfl (Sg.at_ HSz3c2.out) (ints_cells _) (by unfold maxLen; have := HM.out; omega) (by have := HM.out; omega) HBz3c2.out.size 67 rfl ?_
        intro v7 z4d8 hown7 hg7
        rw [← ints_append, ← flat2_append] at hown7
        obtain ⟨Az4d8, cz4d8, rfl⟩ := own_form hown7
        have HOz4d8 := Lib.hid hown7
        have HBz4d8 := Lib.hid (HBz3c2.out.grown hg7 HBz3c2.out.size (fun t ht => (HOz3c2.out.lt t ht).1))
        clear hown7 hg7
        refine hK.out _ _ ?_ (fun hHeld => ?_)
        · exact SC.out _ (HV.out.trans (HBz4d8.out.mono HV.out.size))
        clear hK K
        refine wpAnyH_take (i := 9) (v := ?_) rfl (by kernel_rfl) (by kernel_rfl) (by kernel_rfl) (fun _ _ _ h => h) (Or.inl ⟨by rfl, ?_⟩) (by assumption) ?_
        rotate_left
        · ((intro w' hSw); (try dsimp only at hSw); go_simp; all_goals (with_reducible rfl))
        simp only [Act.put, List.getElem_toArray, List.getElem_cons_succ, List.getElem_cons_zero, List.setIfInBounds_toArray, List.set_cons_zero, List.set_cons_succ]
        refine wpAnyH_done (by kernel_rfl) ?_ _
        go_wp2
        go_meet
        case rel => exact ⟨_, _, rfl, own_weak HOz4d8.out HU.out.size, HU.out.trans (HBz4d8.out.mono HU.out.size)⟩
    · go_simp
      have HSz1a7 := Lib.hid (Sg.new u0 s)
      have HBz1a7 := Lib.hid (HU0.out.alloc HU0.out.size (.cells #[.int .i64 s.lo, .int .i64 s.hi] 24))
      refine hK.out _ _ ?_ (fun hHeld => ?_)
      · exact SC.out _ (HV.out.trans (HBz1a7.out.mono HV.out.size))
      clear hK K
      generalize u0.alloc (.cells #[.int .i64 s.lo, .int .i64 s.hi] 24) = z1a7 at *
      refine wpAnyH_ready (rs := [0]) (by kernel_rfl) (by simp) ?_
      refine AllReadyH.cons rfl (fun K hK => ?_) AllReadyH.nil
      go_simp
      have HOz2b0 := Lib.hid (own_weak (own_empty z1a7 24 2) HBz1a7.out.size)
      have HSz2b0 := Lib.hid (HSz1a7.out.alloc (.cells #[] 24))
      have HNz2b0 := Lib.hid (show (z1a7.heap.size) ≠ u0.heap.size from Nat.ne_of_gt HSz1a7.out.1)
      have HBz2b0 := Lib.hid (HBz1a7.out.alloc HBz1a7.out.size (.cells #[] 24))
      refine hK.out _ _ ?_ (fun hHeld => ?_)
      · exact SC.out _ (HV.out.trans (HBz2b0.out.mono HV.out.size))
      clear hK K
      generalize z1a7.alloc (.cells #[] 24) = z2b0 at *
      refine wpAnyH_ready (rs := [2]) (by kernel_rfl) (by simp) ?_
      refine AllReadyH.cons rfl (fun K hK => ?_) AllReadyH.nil
      refine step_append rfl (.tmp 59) (.tmp 60) 22 rfl u0.heap.size 24 i2 _ 2 16 Try.underlying22 hj hj0 hj1 hj2 rfl (by decide) (.slice (some ⟨z1a7.heap.size, 0, none⟩) 0 0) 0 _ rfl HOz2b0.out ⟨g, o, none⟩ m c' (ints (flat2 (x.take 12))) rfl (by rw [ints_length, flat2_len, XL.out]) (Sl.at_ (HSrc.out.below (HWA.out.trans ((HU.out.trans (HBz2b0.out.mono HU.out.size)).mono HWA.out.size)))) (ints_cells _) (by unfold maxLen; have := HM.out; omega) (by have := HM.out; omega) HBz2b0.out.size 61 rfl ?_
      intro v7 z3c2 hown7 hg7
      rw [Nat.zero_add, List.nil_append] at hown7
      obtain ⟨Az3c2, cz3c2, rfl⟩ := own_form hown7
      have HSz3c2 := Lib.hid (HSz2b0.out.grown hg7 (fun e => HNz2b0.out (by simpa [Value.ownBlock] using e)))
      have HOz3c2 := Lib.hid hown7
      have HBz3c2 := Lib.hid (HBz2b0.out.grown hg7 HBz2b0.out.size (fun t ht => (HOz2b0.out.lt t ht).1))
      clear hown7 hg7
      refine hK.out _ _ ?_ (fun hHeld => ?_)
      · exact SC.out _ (HV.out.trans (HBz3c2.out.mono HV.out.size))
      clear hK K
      simp only [Act.put, List.setIfInBounds_toArray, List.set_cons_zero, List.set_cons_succ]
      refine wpAnyH_ready (rs := [8]) (by kernel_rfl) (by simp) ?_
      refine AllReadyH.cons rfl (fun K hK => ?_) AllReadyH.nil
      refine step_append rfl (.tmp 61) (.tmp 66) 22 rfl u0.heap.size 24 i2 _ 2 16 Try.underlying22 hj hj0 hj1 hj2 rfl (by decide) (.slice Az3c2 m cz3c2) m _ rfl HOz3c2.out ⟨u0.heap.size, 0, none⟩ 1 1 (ints (flat2 [s])) rfl rfl (Sg.at_ HSz3c2.out) (ints_cells _) (by unfold maxLen; have := HM.out; omega) (by have := HM.out; omega) HBz3c2.out.size 67 rfl ?_
      intro v7 z4d8 hown7 hg7
      rw [← ints_append, ← flat2_append] at hown7
      obtain ⟨Az4d8, cz4d8, rfl⟩ := own_form hown7
      have HOz4d8 := Lib.hid hown7
      have HBz4d8 := Lib.hid (HBz3c2.out.grown hg7 HBz3c2.out.size (fun t ht => (HOz3c2.out.lt t ht).1))
      clear hown7 hg7
      refine hK.out _ _ ?_ (fun hHeld => ?_)
      · exact SC.out _ (HV.out.trans (HBz4d8.out.mono HV.out.size))
      clear hK K
      refine wpAnyH_take (i := 9) (v := ?_) rfl (by kernel_rfl) (by kernel_rfl) (by kernel_rfl) (fun _ _ _ h => h) (Or.inl ⟨by rfl, ?_⟩) (by assumption) ?_
      rotate_left
      · ((intro w' hSw); (try dsimp only at hSw); go_simp; all_goals (with_reducible rfl))
      simp only [Act.put, List.getElem_toArray, List.getElem_cons_succ, List.getElem_cons_zero, List.setIfInBounds_toArray, List.set_cons_zero, List.set_cons_succ]
      refine wpAnyH_done (by kernel_rfl) ?_ _
      go_wp2
      go_meet
      case rel => exact ⟨_, _, rfl, own_weak HOz4d8.out HU.out.size, HU.out.trans (HBz4d8.out.mono HU.out.size)⟩
  case rest =>
    obtain ⟨A9, c9, rfl, hown9, hb9⟩ := hcut
    obtain ⟨wB, hwB⟩ : ∃ W, W = wc := ⟨_, rfl⟩
    subst hwB
    have k := Lib.hid ((k15.out.step P hb9).add (e := ⟨A9, m + 1, c9, x.take 12 ++ [s], fun u => hasB (x.take 12) u, false, false, 13⟩)
      ⟨sl_own hown9, (by show m + 1 ≤ 13; have := HM.out; omega), (fun h => by cases h), has_again HST.out.1, bnds_snoc OKL.out HBI.out.1 HBI.out.2, (fun h => by cases h)⟩)
    clear hown9 hb9 k15 HB15
    obtain ⟨wA, hwA⟩ : ∃ W, W = w1 := ⟨_, rfl⟩
    subst hwA
    go_upto_region 11 with (first | (go_at_call 15; refine (p_norm P (by first | with_reducible exact k.out | with_reducible exact k.out.step P (below_drewN _ _) | exact k.out.step P (by go_grown)) (by repeat (first | exact List.Mem.head _ | refine List.Mem.tail _ ?_)) (by rfl)).mono ?_; rintro e w1 ⟨Aq, mq, cq, outq, rfl, hm, k'⟩; clear hm; replace k := Lib.hid k'; clear k') | (go_at_call 14; refine (r_same P (by first | with_reducible exact k.out | with_reducible exact k.out.step P (below_drewN _ _) | exact k.out.step P (by go_grown)) (by repeat (first | exact List.Mem.head _ | refine List.Mem.tail _ ?_)) (by rfl) (by repeat (first | exact List.Mem.head _ | refine List.Mem.tail _ ?_)) (by rfl) (by rfl) (by rfl) (by first | with_reducible exact fun _ => rfl | (intro t; (try dsimp only); cases hasB (x.take 12) t <;> rfl) | fail)).mono ?_; rintro e w1 ⟨rfl, k'⟩; replace k := Lib.hid k'; clear k') | (go_at_call 17; refine (p_union P (by first | with_reducible exact k.out | with_reducible exact k.out.step P (below_drewN _ _) | exact k.out.step P (by go_grown)) (by repeat (first | exact List.Mem.head _ | refine List.Mem.tail _ ?_)) (by rfl) (by repeat (first | exact List.Mem.head _ | refine List.Mem.tail _ ?_)) (by rfl)).mono ?_; rintro e w1 ⟨Aq, mq, cq, outq, rfl, hm, k'⟩; clear hm; replace k := Lib.hid k'; clear k') | fail)
    obtain ⟨q0, q1, _, _⟩ := SC.out _ k.out.low
    by_cases hc1 : cut < s.lo
    · go_wp2
      go_ret
      exact ⟨rfl, B0.out.trans ((K1.out.low.trans (k.out.low.mono K1.out.low.size)).mono B0.out.size)⟩
    by_cases hc2 : cut > s.hi
    · go_wp2
      go_ret
      exact ⟨rfl, B0.out.trans ((K1.out.low.trans (k.out.low.mono K1.out.low.size)).mono B0.out.size)⟩
    have HCUT := Lib.hid (And.intro (Int.not_lt.1 hc1) (Int.not_lt.1 hc2))
    go_upto_region 13 with fail
    clear hc1 hc2
    obtain ⟨wC, hwC⟩ : ∃ W, W = w1 := ⟨_, rfl⟩
    subst hwC
    clear q0 q1
    have HE := Lib.hid (own_empty wC 24 2)
    have HB1 := Lib.hid (show Below wC.heap.size wC (wC.alloc (.cells #[] 24)) from (Below.refl _ wC).alloc (Nat.le_refl _) _)
    have HSC := Lib.hid ((HSrc.out.below k.out.low).below HB1.out)
    go_upto_region 14 with (at_builtin; refine wpList_append_si rfl _ _ 22 rfl wC.heap.size 24 i2 _ 2 16 Try.underlying22 hj hj0 hj1 hj2 rfl (by decide) _ _ _ rfl HE.out (some ⟨g, o, none⟩) m c' (flat2 (x.take 12)) rfl HSC.out (by unfold maxLen; have := HM.out; omega) (by have := HM.out; omega) HB1.out.size ?_; intro v' w2 hown2 hB2; rw [Nat.zero_add, List.nil_append] at hown2; obtain ⟨AP, cP, rfl⟩ := own_form hown2; have HOP := Lib.hid hown2; have HB2 := Lib.hid (hB2 wC (Nat.le_refl _) HB1.out); clear hown2 hB2)
    clear HE HB1 HSC
    obtain ⟨gP, capP, hvP, hgP, hgP2⟩ := HOP.out.form (show 0 < m by omega)
    injection hvP with hvP _ hcP
    subst hvP
    subst hcP
    obtain ⟨q0, q1, _, _⟩ := SC.out _ (k.out.low.trans (HB2.out.mono k.out.low.size))
    obtain ⟨⟨a0, a1⟩, a2, a3⟩ := own_two HOP.out HST.out.1 (.int .i64 s.lo)
    go_upto_region 15 with fail
    clear a0 a1 a2 a3 q0 q1
    have HOQ := Lib.hid (own_put HOP.out i ⟨s.lo, cut⟩)
    have HBQ := Lib.hid ((HB2.out.setCell (p := ⟨gP, i * 2, none⟩) hgP (.int .i64 s.lo)).setCell (p := ⟨gP, i * 2 + 1, none⟩) hgP (.int .i64 cut))
    clear HOP HB2

    generalize (w2.setCell ⟨gP, i * 2, none⟩ (.int .i64 s.lo)).setCell ⟨gP, i * 2 + 1, none⟩ (.int .i64 cut) = wD at *
    have HBD := Lib.hid (k.out.low.trans (HBQ.out.mono k.out.low.size))
    obtain ⟨q0, q1, _, _⟩ := SC.out _ HBD.out
    have HNew := Lib.hid (si_new wD [cut, s.hi] 1 2 24 rfl (by decide))
    have HBN := Lib.hid (show Below wD.heap.size wD (wD.alloc (.cells #[.int .i64 cut, .int .i64 s.hi] 24)) from (Below.refl _ wD).alloc (Nat.le_refl _) _)
    have HOR := Lib.hid (own_keep HOQ.out HBN.out)
    go_upto_region 16 with (at_builtin; refine wpList_append_si rfl _ _ 22 rfl wC.heap.size 24 i2 _ 2 16 Try.underlying22 hj hj0 hj1 hj2 rfl (by decide) _ _ _ rfl HOR.out (some ⟨wD.heap.size, 0, none⟩) 1 1 [cut, s.hi] rfl HNew.out (by unfold maxLen; have := HM.out; omega) (by have := HM.out; omega) (Nat.le_trans HBQ.out.size HBN.out.size) ?_; intro v' w4 hown4 hB4; obtain ⟨AF, cF, rfl⟩ := own_form hown4; have HOF := Lib.hid hown4; have HBF := Lib.hid (hB4 wC (Nat.le_refl _) (HBQ.out.trans (HBN.out.mono HBQ.out.size))); clear hown4 hB4)
    clear q0 q1
    replace k := Lib.hid ((k.out.step P HBF.out).add (e := ⟨AF, m + 1, cF, (x.take 12).set i ⟨s.lo, cut⟩ ++ [⟨cut, s.hi⟩], fun u => hasB (x.take 12) u, false, false, 13⟩)
      ⟨sl_own (by have h := HOF.out; rw [show ([cut, s.hi] : List Int) = flat2 [⟨cut, s.hi⟩] from rfl, ← ints_append, ← flat2_append] at h; exact h), (by show m + 1 ≤ 13; have := HM.out; omega), (fun h => by cases h), has_cut (lo := s.lo) (hi := s.hi) HST.out.1 HCUT.out.1 HCUT.out.2, bnds_snoc (bnds_set OKL.out HBI.out.1 N.out) N.out HBI.out.2, (fun h => by cases h)⟩)
    go_wp2_with (first | (go_at_call 15; refine (p_norm P (by first | with_reducible exact k.out | with_reducible exact k.out.step P (below_drewN _ _) | exact k.out.step P (by go_grown)) (by repeat (first | exact List.Mem.head _ | refine List.Mem.tail _ ?_)) (by rfl)).mono ?_; rintro e w1 ⟨Aq, mq, cq, outq, rfl, hm, k'⟩; clear hm; replace k := Lib.hid k'; clear k') | (go_at_call 14; refine (r_same P (by first | with_reducible exact k.out | with_reducible exact k.out.step P (below_drewN _ _) | exact k.out.step P (by go_grown)) (by repeat (first | exact List.Mem.head _ | refine List.Mem.tail _ ?_)) (by rfl) (by repeat (first | exact List.Mem.head _ | refine List.Mem.tail _ ?_)) (by rfl) (by rfl) (by rfl) (by first | with_reducible exact fun _ => rfl | (intro t; (try dsimp only); cases hasB (x.take 12) t <;> rfl) | fail)).mono ?_; rintro e w1 ⟨rfl, k'⟩; replace k := Lib.hid k'; clear k') | fail)
    go_ret
    exact ⟨rfl, B0.out.trans ((K1.out.low.trans (k.out.low.mono K1.out.low.size)).mono B0.out.size)⟩
end Go.Proofs.Ytkmbidmncnlbkaa
