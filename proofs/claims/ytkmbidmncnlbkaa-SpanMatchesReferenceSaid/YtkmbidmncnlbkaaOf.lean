/-
  Contracts of the landed package: the sweep over the bounds of two lists.
-/
import Derived.Test.YtkmbidmncnlbkaaOe
namespace Go.Proofs.Ytkmbidmncnlbkaa
open Go.RowKit Go.Shelf Go.Lib Go.Sort Sn
attribute [local go_sem] Oper.semAt_some
set_option maxHeartbeats 400000
set_option maxRecDepth 100000

abbrev four (w : World) (ft : Nat) : World :=
  (((w.alloc (.cells #[.func (.func ft) #[] #[]] 45)).alloc (.cells #[.slice none 0 0] 22)).alloc (.cells #[.int .i64 0, .int .i64 0] 55)).alloc (.cells #[.bool false] 4)
theorem four_size (w : World) (ft : Nat) : (four w ft).heap.size = w.heap.size + 4 := by simp [four]
theorem four_low (w : World) (ft : Nat) : Below w.heap.size w (four w ft) :=
  ((((Below.refl _ w).alloc (Nat.le_refl _) _).alloc (by simp) _).alloc (by simp; omega) _).alloc (by simp; omega) _
theorem four_blocks (w : World) (ft : Nat) : (four w ft).heap[w.heap.size]? = some (.cells #[.func (.func ft) #[] #[]] 45 (0, 0)) ∧ (four w ft).heap[w.heap.size + 1]? = some (.cells #[.slice none 0 0] 22 (0, 0)) ∧
    (four w ft).heap[w.heap.size + 2]? = some (.cells #[.int .i64 0, .int .i64 0] 55 (0, 0)) ∧ (four w ft).heap[w.heap.size + 3]? = some (.cells #[.bool false] 4 (0, 0)) := by
  have a1 := heap_alloc_new w (.cells #[.func (.func ft) #[] #[]] 45)
  obtain ⟨w1, h1⟩ : ∃ X, w.alloc (.cells #[.func (.func ft) #[] #[]] 45) = X := ⟨_, rfl⟩
  have s1 : w1.heap.size = w.heap.size + 1 := by rw [← h1]; simp
  have a2 := heap_alloc_new w1 (.cells #[.slice none 0 0] 22)
  obtain ⟨w2, h2⟩ : ∃ X, w1.alloc (.cells #[.slice none 0 0] 22) = X := ⟨_, rfl⟩
  have s2 : w2.heap.size = w.heap.size + 2 := by rw [← h2]; simp [s1]
  have a3 := heap_alloc_new w2 (.cells #[.int .i64 0, .int .i64 0] 55)
  obtain ⟨w3, h3⟩ : ∃ X, w2.alloc (.cells #[.int .i64 0, .int .i64 0] 55) = X := ⟨_, rfl⟩
  have s3 : w3.heap.size = w.heap.size + 3 := by rw [← h3]; simp [s2]
  have a4 := heap_alloc_new w3 (.cells #[.bool false] 4)
  have l2 : Below w1.heap.size w1 w2 := by rw [← h2]; exact (Below.refl _ _).alloc (Nat.le_refl _) _
  have l3 : Below w2.heap.size w2 w3 := by rw [← h3]; exact (Below.refl _ _).alloc (Nat.le_refl _) _
  have l4 : Below w3.heap.size w3 (w3.alloc (.cells #[.bool false] 4)) := (Below.refl _ _).alloc (Nat.le_refl _) _
  rw [h1] at a1
  rw [h2, s1] at a2
  rw [h3, s2] at a3
  rw [s3] at a4
  unfold four
  rw [h1, h2, h3]
  exact ⟨(l4.block _ (by omega)).trans ((l3.block _ (by omega)).trans ((l2.block _ (by omega)).trans a1)), (l4.block _ (by omega)).trans ((l3.block _ (by omega)).trans a2), (l4.block _ (by omega)).trans a3, a4⟩
theorem flat3_at {w w' : World} {base g m c k : Nat} {L : List Bd} {b : Bd} {ob : Obj} (h : Bds w base (some ⟨g, 0, none⟩) m c L) (hw : w.heap[g]? = some ob) (hw' : w'.heap[g]? = some ob) (hk : L[k]? = some b) :
    w'.cell? ⟨g, k * 3, none⟩ = some (.int .i64 b.x) ∧ w'.cell? ⟨g, k * 3 + 1, none⟩ = some (.int .i64 (bi b.j)) ∧ w'.cell? ⟨g, k * 3 + 2, none⟩ = some (.int .i64 (stp b.u)) := by
  obtain ⟨h0, h1, h2⟩ := flat3_get hk
  have e : ∀ o : Nat, w'.cell? ⟨g, o, none⟩ = w.cell? ⟨g, o, none⟩ := fun o => World.cell?_of_block (a := ⟨g, o, none⟩) (hw'.trans hw.symm)
  exact ⟨(e _).trans (own_at h (ints_get h0)).1, (e _).trans (own_at h (ints_get h1)).1, (e _).trans (own_at h (ints_get h2)).1⟩

/-- A goal that is not laid open by its own reckoning. -/
structure Boxd (p : Prop) : Prop where
  out : p
theorem wpStill_unwanted {P : Program} {ops : Array Oper} {w : World} {Q : Act → Prop} {o : Oper} {rest : List Oper} {a : Act} (hw : Region.wanted o (yielded ops a.tmps) = false) (h : Boxd (wpStill P ops w Q rest (a.put o.dst undef))) : Boxd (wpStill P ops w Q (o :: rest) a) := by
  refine ⟨?_⟩
  unfold wpStill
  rw [hw]
  exact h.out
theorem wpStill_last {P : Program} {ops : Array Oper} {w : World} {Q : Act → Prop} {o : Oper} {rest : List Oper} {a : Act}
    (h : ∀ K : Act → Prop, (∀ a, Boxd (wpStill P ops w Q rest a) → K a) → if Region.wanted o (yielded ops a.tmps) then o.still P a w K else K (a.put o.dst undef)) : wpStill P ops w Q (o :: rest) a :=
  wpStill_step fun K hK => h K fun a ha => hK a ha.out

set_option maxHeartbeats 4000000 in
theorem swept_any {op : Bool → Bool → Bool} (hop : op false false = false) (ft : Nat) (eg : ∀ args w, (callFunc ft args).run Try.prog w = .ok (.enter ft args) w)
    (CT : ∀ (x y : Bool) W, Calls Try.prog ft #[.bool x, .bool y] W fun e w' => e = .returned (.bool (op x y)) ∧ w' = W)
    (A A2 : Option Addr) (n n2 c c2 : Nat) (a b : List S) (hl : n ≤ 100) (hl2 : n2 ≤ 100) (w : World) (hA : Sl 0 w A n c a) (hA2 : Sl 0 w A2 n2 c2 b) :
    Calls Try.prog 32 #[.slice A n c, .slice A2 n2 c2, .func (.func ft) #[] #[]] w fun e w' => ∃ A' m c' out, e = .returned (.slice A' m c') ∧ Sl 0 w' A' m c' out ∧ IsOp op a b out ∧ Below w.heap.size w w' := by
  have CE := Lib.hid (ends_any A A2 n n2 c c2 a b (by omega) (by omega) (four w ft) (hA.below (four_low w ft)) (hA2.below (four_low w ft)))
  have hal := hA.plen
  have hbl := hA2.plen
  have H4 := Lib.hid (And.intro (four_blocks w ft) (And.intro (four_size w ft) (four_low w ft)))
  clear hA hA2
  go_enter Try.func32, Try.ntmps32
  go_wp2_with (go_at_call 38; refine CE.out.mono ?_; rintro e w1 ⟨A1, m1, c1, L, rfl, hB, hP, hS, hb⟩; have HBD := Lib.hid hB; have HP := Lib.hid hP; have HS := Lib.hid hS; have HB := Lib.hid hb; clear hB hP hS hb)
  simp only [show w.heap.size + 1 + 1 + 1 = w.heap.size + 3 from rfl, show w.heap.size + 1 + 1 = w.heap.size + 2 from rfl]
  have HLOW := Lib.hid (H4.out.2.2.trans (HB.out.mono (H4.out.2.2).size))
  have hm1 := bds_len HBD.out
  have hlen : L.length ≤ 400 := by
    have e1 := HP.out.length_eq
    have e2 := raw_len false a
    have e3 := raw_len true b
    rw [List.length_append] at e1
    omega
  have HR := Lib.hid (run_all hop HS.out HP.out)
  have HM := Lib.hid hm1
  by_cases h0 : m1 = 0
  · subst h0
    have hL : L = [] := List.eq_nil_of_length_eq_zero hm1
    have hset : IsOp op a b [] := by have h := HR.out.1; rw [hL] at h; exact h
    have HSET := Lib.hid hset
    have q1 : w1.cell? ⟨w.heap.size + 1, 0, none⟩ = some (.slice none 0 0) := by
      have hs4 := H4.out.2.1
      exact cell_of_row w1 (w.heap.size + 1) 0 _ _ (0, 0) ((HB.out.block _ (by omega)).trans H4.out.1.2.1)
    clear hL hset hm1
    refine wp_loop_rounds 1 ?_
    rw [rounds_succ]
    go_wp2
    go_ret
    exact ⟨none, 0, 0, [], rfl, sl_nil w1, HSET.out, HLOW.out⟩
  · obtain ⟨K, cap, hv, hKg, hKw⟩ := HBD.out.form (Nat.pos_of_ne_zero h0)
    injection hv with hA1 _ hc1
    subst hA1 hc1
    obtain ⟨ob, hob⟩ : ∃ ob, w1.heap[K]? = some ob := ⟨_, Array.getElem?_eq_getElem hKw⟩
    have hs4 := H4.out.2.1
    have H0 : Swp w1 w.heap.size ft K ob ⟨0, 0, false, []⟩ none 0 0 :=
      ⟨(HB.out.block _ (by omega)).trans H4.out.1.1, (HB.out.block _ (by omega)).trans H4.out.1.2.1, (HB.out.block _ (by omega)).trans H4.out.1.2.2.1, (HB.out.block _ (by omega)).trans H4.out.1.2.2.2, World.ownsRow_nil _ _ _ _, hob, by omega, fun _ h => (by cases h)⟩
    have H0 := Lib.hid H0
    have HOB := Lib.hid hob
    clear hob hs4 hKg hKw HB H4 CE h0
    go_loopw [20] (fun i wr => ∃ (k : Nat) (A' : Option Addr) (m c' : Nat), k ≤ m1 ∧ i = .int .i64 k ∧ Swp wr w.heap.size ft K ob (run op L k) A' m c' ∧ Below w.heap.size w wr) (fun i _ => m1 - (intOf i).toNat)
    case atStart => exact ⟨0, none, 0, 0, Nat.zero_le _, rfl, H0.out, HLOW.out⟩
    case round =>
      clear H0 HLOW
      obtain ⟨k, A', m, c', hk, rfl, hS, hbw⟩ := hrel
      by_cases hlt : k < m1
      · have hkl : k < L.length := by omega
        have hg : L[k]? = some L[k] := List.getElem?_eq_getElem hkl
        obtain ⟨b, hb⟩ : ∃ b, L[k] = b := ⟨_, rfl⟩
        rw [hb] at hg
        have hm400 : m ≤ 400 := by
          have e1 := own_plen hS.row
          have e2 := run_len op L k
          omega
        have hbnd := run_bound op L (i := k) (by omega)
        have hne := HR.out.2 k hkl
        have hlast : isLast L k = (decide (k + 1 = m1) || decide ((L[k + 1]?.getD default).x ≠ b.x)) := by
          unfold isLast
          rw [hg, hm1]
          rfl
        obtain ⟨q0, q1, q2⟩ := flat3_at HBD.out HOB.out hS.obj hg
        have hyy : ∀ y, L[k + 1]? = some y → wr.cell? ⟨K, (k + 1) * 3, none⟩ = some (.int .i64 y.x) := fun y hy => (flat3_at HBD.out HOB.out hS.obj hy).1
        obtain ⟨jj, hjj⟩ : ∃ j, bi b.j = j := ⟨_, rfl⟩
        obtain ⟨uu, huu⟩ : ∃ u, stp b.u = u := ⟨_, rfl⟩
        have hrun : ∀ v, isLast L k = v → run op L (k + 1) = pass op (run op L k) b v := fun v hv => by
          show pass op (run op L k) (L[k]?.getD default) (isLast L k) = _
          rw [hg, hv]; rfl
        have HRUN := Lib.hid hrun
        obtain ⟨WB, hWB⟩ : ∃ X, wr.alloc (.cells #[.int .i64 b.x, .int .i64 jj, .int .i64 uu] 57) = X := ⟨_, rfl⟩
        obtain ⟨b0, b1, b2⟩ := box_three wr b.x jj uu
        have hlow := box_low3 wr b.x jj uu
        rw [show bx3 wr b.x jj uu = WB from hWB] at b0 b1 b2 hlow
        have hKr := hS.ltK
        have hSD := (hS.below hlow).below (below_drewN WB 1)
        have HC := fun v => step_any ft eg CT (WB.drewN 1) w.heap.size K ob (run op L k) A' m c' hSD b v (by omega) (by omega) hne (by omega)
        rw [hjj, huu] at HC
        have HC := Lib.hid HC
        have HBW := Lib.hid ((hbw.trans (hlow.mono hbw.size)).trans ((below_drewN WB 1).mono (Nat.le_trans hbw.size hlow.size)))
        rw [hjj] at q1
        rw [huu] at q2
        have kn : (k : Int) < (m1 : Int) := Int.ofNat_lt.2 hlt
        have k00 : (0 : Int) ≤ (k : Int) := Int.natCast_nonneg k
        have HY := Lib.hid (fun y hy => (hlow.cell (p := ⟨K, (k + 1) * 3, none⟩) hKr).trans (hyy y hy))
        clear hS hbw hkl hbnd hne hSD hrun hyy hjj huu hb hg hKr
        by_cases hl1 : k + 1 = m1
        · have HLA := Lib.hid (HRUN.out true (by rw [hlast, decide_eq_true hl1]; rfl))
          have z1 : IntKind.i64.wrap ((m1 : Int) - 1) = (m1 : Int) - 1 := IntWalk.i64_in _ (by omega)
          have z2 : ((k : Int) == (m1 : Int) - 1) = true := by simp; omega
          clear hlast hl1
          go_wp2
          refine wp_region_still_tail 18 (by kernel_rfl) (by kernel_rfl) ?_
          simp only [List.take_succ_cons, List.take_zero, List.drop_succ_cons, List.drop_zero]
          iterate 7 still_step
          refine wpStill_last (fun K hK => ?_)
          go_simp
          refine hK _ ?_
          clear hK K
          iterate 9 (refine wpStill_unwanted (by kernel_rfl) ?_; simp only [Act.put, List.setIfInBounds_toArray, List.set_cons_zero, List.set_cons_succ])
          refine ⟨?_⟩
          still_step
          refine wpStill_nil ?_
          change wpList _ _ _ _ _ WB.drew
          go_wp2_with (go_at_call 37; refine (HC.out true).mono ?_; rintro e w2 ⟨rfl, A2', m2, c2', hS2, hl2'⟩; have HS2 := Lib.hid hS2; have HL2 := Lib.hid (hl2' w (Nat.le_refl _) HBW.out); clear hS2 hl2')
          go_roundw
          case rel => exact ⟨k + 1, A2', m2, c2', by omega, by go_num, by rw [HLA.out]; exact HS2.out, HL2.out⟩
          case measure => simp [intOf]; omega
        · have hk1 : k + 1 < m1 := by omega
          have hy : L[k + 1]? = some L[k + 1] := List.getElem?_eq_getElem (by omega)
          obtain ⟨y, hye⟩ : ∃ y, L[k + 1] = y := ⟨_, rfl⟩
          rw [hye] at hy
          have p0 := HY.out y hy
          obtain ⟨r, hr⟩ : ∃ r, (y.x != b.x) = r := ⟨_, rfl⟩
          have HLA := Lib.hid (HRUN.out r (by
            rw [hlast, decide_eq_false hl1, hy, ← hr, Bool.false_or]
            show decide (y.x ≠ b.x) = (y.x != b.x)
            by_cases h : y.x = b.x <;> simp [h]))
          have z1 : IntKind.i64.wrap ((m1 : Int) - 1) = (m1 : Int) - 1 := IntWalk.i64_in _ (by omega)
          have z2 : ((k : Int) == (m1 : Int) - 1) = false := by simp; omega
          have z3 : IntKind.i64.wrap ((k : Int) + 1) = (k : Int) + 1 := IntWalk.i64_in _ (by omega)
          have z4 : (0 : Int) ≤ (k : Int) + 1 := by omega
          have z5 : (k : Int) + 1 < (m1 : Int) := by omega
          have z6 : ((k : Int) + 1).toNat = k + 1 := by omega
          clear hlast hl1 hye hy hk1
          go_wp2
          go_still_tail 18, (by kernel_rfl)
          change wpList _ _ _ _ _ WB.drew
          go_wp2_with (go_at_call 37; refine (HC.out r).mono ?_; rintro e w2 ⟨rfl, A2', m2, c2', hS2, hl2'⟩; have HS2 := Lib.hid hS2; have HL2 := Lib.hid (hl2' w (Nat.le_refl _) HBW.out); clear hS2 hl2')
          go_roundw
          case rel => exact ⟨k + 1, A2', m2, c2', by omega, by go_num, by rw [HLA.out]; exact HS2.out, HL2.out⟩
          case measure => simp [intOf]; omega
      · obtain rfl : k = m1 := by omega
        have HBW := Lib.hid hbw
        have HSW := Lib.hid hS
        have HRR := Lib.hid (show IsOp op a b (run op L k).set by have h := HR.out.1; rw [hm1] at h; exact h)
        obtain ⟨c0, c1', c2', c3, c4⟩ := hS.cells
        clear hS hbw c0 c2' c3 c4
        go_wp2
        go_ret
        exact ⟨A', m, c', rfl, _, sl_own HSW.out.row, HRR.out, HBW.out⟩
end Go.Proofs.Ytkmbidmncnlbkaa
