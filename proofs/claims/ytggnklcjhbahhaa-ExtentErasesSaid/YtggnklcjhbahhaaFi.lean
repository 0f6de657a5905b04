/-
  Contracts of the landed package: the fold that adds up, Size.
-/
import Derived.Test.YtggnklcjhbahhaaFh
namespace Go.Proofs.Ytggnklcjhbahhaa
open Go.RowKit Go.Shelf Ex
attribute [local go_sem] Oper.semAt_some
set_option maxHeartbeats 400000
set_option maxRecDepth 100000

theorem size1_any (n : Int) (p : Pc) (hs : -9223372036854775808 ≤ n + p.n ∧ n + p.n ≤ 9223372036854775807) (w : World) :
    Calls Try.prog 37 #[.int .i64 n, .agg #[.int .i64 p.id, .int .i64 p.fr, .int .i64 p.n]] w fun e w' => e = .returned (.int .i64 (n + p.n)) ∧ Below w.heap.size w w' := by
  have hw : IntKind.i64.wrap (n + p.n) = n + p.n := IntWalk.i64_in _ hs
  go_enter Try.func37, Try.ntmps37
  go_wp2
  go_ret
  exact ⟨rfl, by go_grown⟩
theorem size1_c (n r : Int) (x : Rp) (hr : n + x.1.n = r) (hs : -9223372036854775808 ≤ r ∧ r ≤ 9223372036854775807) (w : World) :
    Calls Try.prog 37 #[.int .i64 n, .agg #[.int .i64 x.1.id, .int .i64 x.1.fr, .int .i64 x.1.n]] w fun e w' => e = .returned (.int .i64 r) ∧ Below w.heap.size w w' := by
  subst hr
  exact size1_any n x.1 hs w
theorem sizeL_lim : ∀ {l : List Pc}, (∀ p ∈ l, rightB p = true) → 0 ≤ sizeL l ∧ sizeL l ≤ l.length * 1048576
  | [], _ => by simp [sizeL]
  | p :: l, h => by
    have h1 := sizeL_lim (l := l) (fun q hq => h q (by simp [hq]))
    have h2 := right_iff.1 (h p (by simp))
    simp only [sizeL, List.length_cons]
    push_cast
    omega

set_option maxHeartbeats 8000000 in
theorem foldI_any (w : World) (A : Option Addr) (k0 c : Nat) (rs : List (Value × List Pc)) (hlen : rs.length = k0) (hk0 : k0 ≤ 100) (hV : Vals w A (rs.map (·.1))) (hG : ∀ r ∈ rs, Gives w r.1 r.2) (hN : (flatR rs).length ≤ 4294967295) :
    Calls Try.prog 36 #[.int .i64 0, .func (.func 37) #[] #[], .slice A k0 c] w fun e w' => e = .returned (.int .i64 (sizeL (flatR rs))) ∧ Below w.heap.size w w' := by
  have HV := Lib.hid hV
  have HG := Lib.hid hG
  clear hV hG
  refine (callsIn_wide (n := 9)).1 ?_
  have h53 : Fence.wide.fn 36 := trivial
  refine callsIn_of_wp_marks Try.func36 rfl h53 ?_ rfl
  simp only [Try.ntmps36, List.size_toArray, List.length_cons, List.length_nil, Nat.reduceAdd, Nat.reduceSub, Array.replicate_succ, Array.replicate_zero, List.push_toArray, List.append_toArray, List.nil_append, List.cons_append]
  gi_wp2
  have bM := (Boxed.new w 3 (.int .i64 0)).alloc (.cells #[.func (.func 37) #[] #[]] 77)
  have bF := Boxed.new (w.alloc (.cells #[.int .i64 0] 3)) 77 (.func (.func 37) #[] #[])
  simp only [World.size_alloc] at bF
  have hB0 : Below w.heap.size w ((w.alloc (.cells #[.int .i64 0] 3)).alloc (.cells #[.func (.func 37) #[] #[]] 77)) := ((Below.refl _ w).alloc (Nat.le_refl _) _).alloc (by simp) _
  obtain ⟨W0, hW0⟩ : ∃ X, (w.alloc (.cells #[.int .i64 0] 3)).alloc (.cells #[.func (.func 37) #[] #[]] 77) = X := ⟨_, rfl⟩
  rw [hW0] at bM bF hB0 ⊢
  clear hW0
  refine wpIn_loop_ghost_k (fun gk a W => ∃ (j : Nat) (Ds : List Nat) (u8 u13 u14 u15 u16 u22 : Value), gk + j = k0 + 1 ∧ j ≤ k0 ∧
      a = { tmps := #[.int .i64 0, .func (.func 37) #[] #[], .slice A k0 c, .pointer (some ⟨w.heap.size, 0, none⟩), .pointer (some ⟨w.heap.size + 1, 0, none⟩), undef, .int .i64 0, undef, u8, undef, .slice A k0 c, .int .i64 k0, .int .i64 j, u13, u14, u15, u16, undef, undef, undef, undef, undef, u22, undef], defers := Ds.map markOf } ∧
      Boxed W (w.heap.size + 1) 77 (.func (.func 37) #[] #[]) ∧ Boxed W w.heap.size 3 (.int .i64 (sizeL (flatR (rs.take j)))) ∧ Below w.heap.size w W ∧ Marked w.heap.size W Ds) (k0 + 1) ?start ?round
  case start => exact ⟨0, [], undef, undef, undef, undef, undef, undef, rfl, Nat.zero_le _, rfl, bF, bM, hB0, Marked.nil _ _⟩
  case round =>
    rintro gk a W ⟨j, Ds, u8, u13, u14, u15, u16, u22, hgk, hj, rfl, bF1, bM1, hB1, hM⟩ J K hJ hK
    have HJ := Lib.hid hJ
    have HK := Lib.hid hK
    clear hJ hK
    by_cases hlt : j < k0
    · have hjl : j < rs.length := by rw [hlen]; exact hlt
      have hg : rs[j]? = some rs[j] := List.getElem?_eq_getElem hjl
      obtain ⟨⟨v, ps⟩, hr⟩ : ∃ r, rs[j] = r := ⟨_, rfl⟩
      rw [hr] at hg
      obtain ⟨gf, lb, ys, hv, heg, hys, hseq⟩ := HG.out _ (List.mem_of_getElem? hg)
      simp only [] at hv hys
      obtain ⟨g, o, hA, hcell⟩ := HV.out j v (by rw [List.getElem?_map, hg]; rfl)
      subst hv
      subst hA
      have hcj := (hB1.cell (block_lt_of_cell hcell)).trans hcell
      have hft := flatR_take hg
      have hle := flatR_len rs (j + 1)
      rw [hft, List.length_append] at hle
      have jn : (j : Int) < (k0 : Int) := Int.ofNat_lt.2 hlt
      have j0 : (0 : Int) ≤ (j : Int) := Int.natCast_nonneg j
      have hlen2 : (flatR (rs.take j)).length + ys.length ≤ 4294967295 := by rw [← vals_len ys, hys]; omega
      obtain ⟨done, hdone⟩ : ∃ d, flatR (rs.take j) = d := ⟨_, rfl⟩
      rw [hdone] at bM1 hft hlen2
      have HFT := Lib.hid hft
      have HYS := Lib.hid hys
      have hrd : ∀ p ∈ done, rightB p = true := by
        rw [← hdone]
        intro p hp
        unfold flatR at hp
        obtain ⟨l, hl, hpl⟩ := List.mem_flatten.1 hp
        obtain ⟨r, hr', rfl⟩ := List.mem_map.1 hl
        obtain ⟨_, _, zs, _, _, hzs, _⟩ := HG.out r (List.mem_of_mem_take hr')
        rw [← hzs] at hpl
        obtain ⟨y, _, rfl⟩ := List.mem_map.1 hpl
        exact y.2
      have HLIM := Lib.hid (fun (pre : List Rp) (h : pre.length < ys.length) (x : Rp) => show -9223372036854775808 ≤ sizeL (done ++ vals (pre ++ [x])) ∧ sizeL (done ++ vals (pre ++ [x])) ≤ 9223372036854775807 from by
        have := sizeL_lim (l := done ++ vals (pre ++ [x])) (fun p hp => by
          rcases List.mem_append.1 hp with h1 | h1
          · exact hrd p h1
          · obtain ⟨y, _, rfl⟩ := List.mem_map.1 h1
            exact y.2)
        rw [List.length_append, vals_len, List.length_append] at this
        simp only [List.length_cons, List.length_nil] at this
        omega)
      have HNS := Lib.hid (fun (pre : List Rp) (x : Rp) => show sizeL (done ++ vals pre) + x.1.n = sizeL (done ++ vals (pre ++ [x])) from by
        rw [vals_snoc, ← List.append_assoc, sizeL_append (done ++ vals pre)]
        simp [sizeL])
      have hsz := hB1.size
      have hsz1 : w.heap.size + 1 < W.heap.size := bF1.lt
      have HML := Lib.hid hM.lt
      have HSEQ := Lib.hid (hseq W 8 (by decide) hB1)
      have HEG := Lib.hid heg
      clear hr hg hcell hft hys hdone hrd hle hseq heg hlen2
      gi_wp2
      refine wpIn_rangeFunc_ownH rfl (by decide) (gf := gf) (lb := lb) rfl trivial HEG.out HSEQ.out belowK_t (belowK_b hsz) (Below.refl _ _) (fun _ => rfl)
        (fun pre W' => ((Boxed W' (w.heap.size + 1) 77 (.func (.func 37) #[] #[]) ∧ Boxed W' w.heap.size 3 (.int .i64 (sizeL (done ++ vals pre)))) ∧ Below w.heap.size w W') ∧ Marked w.heap.size W' Ds)
        (fun _ _ _ => False)
        (OwnFrom.and (OwnFrom.and (OwnFrom.and (Own.from (boxed_own _ _ _) _) (Own.from (boxed_own _ _ _) _)) (ownFrom_below (Nat.le_refl _) hsz)) (marked_own HML.out))
        (fun _ _ _ _ _ hs _ _ => hs)
        ⟨⟨⟨bF1, by simpa [vals] using bM1⟩, hB1⟩, hM⟩
        (fun x a' W' => ∃ Bx, w.heap.size + 1 < Bx ∧ W'.heap[Bx]? = some (.cells #[.int .i64 x.1.id, .int .i64 x.1.fr, .int .i64 x.1.n] 66 (0, 0)) ∧ a' = { tmps := #[.int .i64 0, .func (.func 37) #[] #[], .slice (some ⟨g, o, none⟩) k0 c, .pointer (some ⟨w.heap.size, 0, none⟩), .pointer (some ⟨w.heap.size + 1, 0, none⟩), undef, .int .i64 0, undef, .func (.func gf) #[] lb, .pointer (some ⟨Bx, 0, none⟩), .slice (some ⟨g, o, none⟩) k0 c, .int .i64 k0, .int .i64 j, .bool true, .pointer (some ⟨g, o + j, none⟩), .func (.func gf) #[] lb, .func (.func gf) #[] lb, .agg #[.int .i64 x.1.id, .int .i64 x.1.fr, .int .i64 x.1.n], undef, undef, undef, undef, u22, undef], defers := [] })
        (fun x a' _ X Y row hs hg hr => by
          obtain ⟨Bx, h1, h2, h3⟩ := hs
          refine ⟨Bx, h1, (hg.block Bx (Array.getElem?_eq_some_iff.1 h2).1 (fun e => ?_)).trans h2, h3⟩
          obtain ⟨_, o', ho, hc⟩ := hr Bx e.symm
          rw [h2] at ho; cases ho; cases hc)
        ?assign ?body ?done ?stop
      case assign =>
        rintro l pre x W' K' ⟨⟨⟨bF2, bM2⟩, hB2⟩, hM2⟩ hK'
        have HK' := Lib.hid hK'
        clear hK'
        gi_wp2
        exact HK'.out _ _ ((KeepsOthers.alloc _ _).from _) ((Below.refl _ W').alloc hB2.size _) ⟨⟨⟨bF2.alloc _, bM2.alloc _⟩, hB2.alloc hB2.size _⟩, hM2.keeps (KeepsOthers.alloc _ _)⟩ ⟨W'.heap.size, bF2.lt, World.alloc_heap_new W' _, rfl⟩
      case body =>
        rintro l pre x a' W' hl ⟨r, hr⟩ ⟨⟨⟨bF2, bM2⟩, hB2⟩, hM2⟩ ⟨Bx, hBx, bX, rfl⟩ hpl
        have cF := bF2.cell
        have cM := bM2.cell
        have fM := bM2.frozen
        have x0 := cell_of_row W' Bx 0 _ _ _ bX
        have x1 := cell_of_row W' Bx 1 _ _ _ bX
        have x2 := cell_of_row W' Bx 2 _ _ _ bX
        replace x0 : W'.cell? ⟨Bx, 0, none⟩ = some (.int .i64 x.1.id) := x0
        replace x1 : W'.cell? ⟨Bx, 1, none⟩ = some (.int .i64 x.1.fr) := x1
        replace x2 : W'.cell? ⟨Bx, 2, none⟩ = some (.int .i64 x.1.n) := x2
        have CJ := Lib.hid (size1_c _ _ x (HNS.out pre x) (HLIM.out pre hpl x) W')
        have HB2 := Lib.hid hB2
        have HM2 := Lib.hid hM2
        have HM := Lib.hid (fun (w1 : World) (hb : Below W'.heap.size W' w1) => show Boxed w1 w.heap.size 3 (.int .i64 (sizeL (done ++ vals pre))) ∧ Boxed w1 (w.heap.size + 1) 77 (.func (.func 37) #[] #[]) from ⟨bM2.kept (grown_below hb none) (by simp), bF2.kept (grown_below hb none) (by simp)⟩)
        have hbw2 := hB2.size
        clear hB2 hM2 bX
        gi_wp2_with ((refine ⟨trivial, ?_⟩); gi_at_call 37; refine (CallsIn.inRound l (callsIn_wide.2 CJ.out)).mono ?_; rintro e w1 ⟨rfl, hb3⟩; obtain ⟨hbm, hbf⟩ := HM.out w1 hb3; have cM1 := hbm.cell; have fM1 := hbm.frozen; clear cM fM)
        have hk3 := ko_below hb3
        replace hb3 := hb3.mono hbw2
        exact ⟨(hk3.trans (KeepsOthers.setCell _ _ _)).from _, hb3.setCell (p := ⟨w.heap.size, 0, none⟩) (Nat.le_refl _) _, ⟨⟨hbf.other (by omega) _, hbm.set _⟩, (HB2.out.trans hb3).setCell (p := ⟨w.heap.size, 0, none⟩) (Nat.le_refl _) _⟩, HM2.out.keeps (hk3.trans (KeepsOthers.setCell _ _ _))⟩
      case done =>
        rintro D xs W' hD rfl ⟨⟨⟨bF2, bM2⟩, hB2⟩, hM2⟩ hKD
        have HD := Lib.hid hD
        have HKD := Lib.hid hKD
        have HB2 := Lib.hid hB2
        have HM2 := Lib.hid hM2
        clear hD hKD hB2 hM2
        gi_wp2
        exact HK.out _ _ (Handed.intro (gk - 1) (by omega) (HJ.out _ _ _ ⟨j + 1, D :: Ds, _, _, _, _, _, _, by omega, by omega, rfl, bF2, by rw [HFT.out, ← HYS.out]; exact bM2, HB2.out, HM2.out.cons HML.out HD.out hsz HKD.out⟩))
      case stop =>
        rintro D c pre W' _ _ h _
        exact h.elim
    · obtain rfl : j = k0 := by omega
      have hfull : rs.take j = rs := List.take_of_length_le (by omega)
      rw [hfull] at bM1
      have HM := Lib.hid hM
      have HB := Lib.hid hB1
      have cM := bM1.cell
      clear hM hB1 hfull
      gi_wp2
      refine leaves_marked (base := w.heap.size) (fun X => Below w.heap.size w X)
        (fun X D hX hb hk => hX.trans (belowK_b (w := w) (Nat.le_refl _) X D _ _ hb hk rfl rfl))
        (fun X hX => ⟨_, results_tmp rfl _ _ _, rfl, hX⟩) Ds W HM.out HB.out
theorem cells_new1 (w : World) (v : Value) (t : TypeId) : Vals (w.alloc (.cells #[v] t)) (some ⟨w.heap.size, 0, none⟩) [v] := fun j u hj => by
  refine ⟨_, _, rfl, ?_⟩
  rw [cell_of_row _ _ (0 + j) _ _ _ (heap_alloc_new w _)]
  cases j with
  | zero => simpa using hj
  | succ j => simp at hj
theorem exSize_any (A : Option Addr) (n c : Nat) (l : List Pc) (hn : l.length = n) (hl : n ≤ 4294967295) (hr : ∀ p ∈ l, rightB p = true) (w : World) (hA : Pcs w A l) :
    Calls Try.prog 19 #[.slice A n c] w fun e w' => e = .returned (.int .i64 (sizeL l)) ∧ Below w.heap.size w w' := by
  have hV : Calls Try.prog 38 #[.slice A n c] w fun e w' => e = .returned (.func (.func 52) #[] #[.pointer (some ⟨w.heap.size, 0, none⟩)]) ∧ w' = w.alloc (.cells #[.slice A n c] 24) := by
    go_enter Try.func38, Try.ntmps38
    go_wp2
    go_ret
    exact ⟨rfl, rfl⟩
  have CV := Lib.hid hV
  have hB := (Below.refl w.heap.size w).alloc (Nat.le_refl _) (.cells #[.slice A n c] 24)
  have hg := values_gives (w.alloc (.cells #[.slice A n c] 24)) w.heap.size A n c l hr hn (by omega) (cell_of_row _ _ 0 _ _ _ (heap_alloc_new w _)) (Pcs.below hA hB)
  obtain ⟨W1, hW1⟩ : ∃ W, w.alloc (.cells #[.slice A n c] 24) = W := ⟨_, rfl⟩
  rw [hW1] at hg
  rw [hW1] at hB
  have hB2 : Below W1.heap.size W1 (W1.alloc (.cells #[.func (.func 52) #[] #[.pointer (some ⟨w.heap.size, 0, none⟩)]] 72)) := (Below.refl _ W1).alloc (Nat.le_refl _) _
  have C := Lib.hid (foldI_any (W1.alloc (.cells #[.func (.func 52) #[] #[.pointer (some ⟨w.heap.size, 0, none⟩)]] 72)) (some ⟨W1.heap.size, 0, none⟩) 1 1 [(.func (.func 52) #[] #[.pointer (some ⟨w.heap.size, 0, none⟩)], l)] rfl (by decide) (cells_new1 W1 _ _)
    (fun r hr => by rw [List.mem_singleton.1 hr]; exact hg.below hB2) (by simp [flatR]; omega))
  have HB := Lib.hid hB
  have HB2 := Lib.hid hB2
  have HW1 := Lib.hid hW1
  clear hV hA hB hB2 hg hW1 hr hn
  go_enter Try.func19, Try.ntmps19
  go_wp2_with (first | (go_at_call 38; refine CV.out.mono ?_; rintro e w1 ⟨rfl, rfl⟩; rw [HW1.out]) | (go_at_call 36; refine C.out.mono ?_; rintro e w2 ⟨rfl, hb⟩))
  go_ret
  refine ⟨by simp [flatR], HB.out.trans ((HB2.out.trans (hb.mono HB2.out.size)).mono HB.out.size)⟩
end Go.Proofs.Ytggnklcjhbahhaa
