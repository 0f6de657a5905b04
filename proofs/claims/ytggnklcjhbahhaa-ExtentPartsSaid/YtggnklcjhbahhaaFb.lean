/-
  Contracts of the landed package: Valid, Same.
-/
import Derived.Test.YtggnklcjhbahhaaFa
import Derived.Test.YtggnklcjhbahhaaEg
namespace Go.Proofs.Ytggnklcjhbahhaa
open Go.RowKit Ex
set_option maxHeartbeats 400000
set_option maxRecDepth 100000

theorem isRight_c {p : Pc} {r : Bool} (hp : Pc.ok p) (h : rightB p = r) (W : World) : Calls Try.prog 47 #[.agg #[.int .i64 p.id, .int .i64 p.fr, .int .i64 p.n]] W fun e w' => e = .returned (.bool r) ∧ Below W.heap.size W w' := by
  subst h
  exact isRight_any p hp W
theorem canBeOne_c {p q : Pc} {r : Bool} (h : oneB p q = r) (hp : rightB p = true) (W : World) : Calls Try.prog 48 #[.agg #[.int .i64 p.id, .int .i64 p.fr, .int .i64 p.n], .agg #[.int .i64 q.id, .int .i64 q.fr, .int .i64 q.n]] W fun e w' => e = .returned (.bool r) ∧ Below W.heap.size W w' := by
  subst h
  have := right_iff.1 hp
  exact canBeOne_any p q (by omega) (by omega) W
theorem box_tri (w : World) (p : Pc) : Tri (w.alloc (.cells #[.int .i64 p.id, .int .i64 p.fr, .int .i64 p.n] 66)) w.heap.size 0 p := by
  have h := fun j => cell_of_row (w.alloc (.cells #[.int .i64 p.id, .int .i64 p.fr, .int .i64 p.n] 66)) w.heap.size j _ _ (0, 0) (heap_alloc_new w _)
  exact ⟨h 0, h 1, h 2⟩
theorem box_tri_drew (w : World) (p : Pc) : Tri (w.alloc (.cells #[.int .i64 p.id, .int .i64 p.fr, .int .i64 p.n] 66)).drew w.heap.size 0 p := box_tri w p
theorem box_below3 (w : World) (p : Pc) : Below w.heap.size w (w.alloc (.cells #[.int .i64 p.id, .int .i64 p.fr, .int .i64 p.n] 66)).drew :=
  ((Below.refl _ w).alloc (Nat.le_refl _) _).trans ((below_drewN _ 1).mono (by simp))
theorem box_dn (w : World) (p : Pc) {w1 : World} (hb : Below (w.alloc (.cells #[.int .i64 p.id, .int .i64 p.fr, .int .i64 p.n] 66)).drew.heap.size (w.alloc (.cells #[.int .i64 p.id, .int .i64 p.fr, .int .i64 p.n] 66)).drew w1) : Below w.heap.size w w1 :=
  (box_below3 w p).trans (hb.mono (by have := (box_below3 w p).size; exact this))

set_option maxHeartbeats 4000000 in
theorem exValid_any (A : Option Addr) (n c : Nat) (l : List Pc) (hn : l.length = n) (hl : n ≤ 4294967296) (hok : ∀ p ∈ l, Pc.ok p) (w : World) (hA : Pcs w A l) :
    Calls Try.prog 31 #[.slice A n c] w fun e w' => e = .returned (.bool (validL l)) ∧ Below w.heap.size w w' := by
  have HN := Lib.hid hn
  have SA := Lib.hid hA
  have HOK := Lib.hid hok
  clear hn hA hok
  go_enter Try.func31, Try.ntmps31
  go_wp2
  go_loopw [3, 8] (fun s i wr => ∃ k : Nat, k ≤ n ∧ i = .int .i64 k ∧ s = .int .i64 (sizeL (l.take k)) ∧ validL (l.take k) = true ∧ Below w.heap.size w wr) (fun _ i _ => n - (intOf i).toNat)
  case atStart => exact ⟨0, Nat.zero_le _, rfl, rfl, rfl, Below.refl _ _⟩
  case round =>
    obtain ⟨k, hk, rfl, rfl, hv, hbw⟩ := hrel
    have hbs := hbw.size
    by_cases hlt : k < n
    · have hkl : k < l.length := by rw [HN.out]; exact hlt
      have hg : l[k]? = some l[k] := List.getElem?_eq_getElem hkl
      obtain ⟨p, hp⟩ : ∃ p, l[k] = p := ⟨_, rfl⟩
      rw [hp] at hg
      have hst := valid_take hg
      have hmono := valid_mono (l := l) (k + 1)
      have hsz := (valid_iff.1 hv).2
      have hsz0 := sizeL_pos (l := l.take k) (fun q hq => by have := (right_iff.1 ((valid_iff.1 hv).1.right q hq)).1; omega)
      have hsn := sizeL_take hg
      have hpk := HOK.out p (List.mem_of_getElem? hg)
      obtain ⟨g, o, hA', hgw, q0, q1, q2⟩ := (SA.out.below hbw).at_ hg
      obtain ⟨s, hs1⟩ : ∃ s, sizeL (l.take k) = s := ⟨_, rfl⟩
      rw [hs1] at hst hsz hsz0 hsn
      rw [hs1]
      have HST := Lib.hid hst
      have HMO := Lib.hid hmono
      have HSN := Lib.hid hsn
      have HV := Lib.hid hv
      have kn : (k : Int) < (n : Int) := Int.ofNat_lt.2 hlt
      have k0 : (0 : Int) ≤ (k : Int) := Int.natCast_nonneg k
      have HBW := Lib.hid hbw
      subst hA'
      have F0 := Lib.hid (box_tri_drew wr p)
      clear hst hmono hsn hv hs1 hp
      cases hR : rightB p
      · have HF := Lib.hid (show validL l = false from bool_ne fun h => by
          have := (HST.out.1 (HMO.out h)).2.1
          rw [hR] at this
          cases this)
        have RC := Lib.hid (isRight_c hpk hR)
        clear hg hR hpk
        go_wp2
        refine wp_region_held_drew (S := (fun W' => W'.cell? ⟨wr.heap.size, 0, none⟩ = some (.int .i64 p.id) ∧ W'.cell? ⟨wr.heap.size, 1, none⟩ = some (.int .i64 p.fr) ∧ W'.cell? ⟨wr.heap.size, 2, none⟩ = some (.int .i64 p.n))) (by kernel_rfl) (by exact F0.out) (fun hHeld => ?_)
        refine wpAnyH_take (i := 0) (v := ?_) rfl (by kernel_rfl) (by kernel_rfl) (by kernel_rfl) (fun _ _ _ h => h) (Or.inl ⟨by rfl, ?_⟩) (by assumption) ?_
        rotate_left
        · ((intro w' hSw); (try dsimp only at hSw); go_simp; all_goals (with_reducible rfl))
        simp only [Act.put, List.getElem_toArray, List.getElem_cons_zero, List.setIfInBounds_toArray, List.set_cons_zero, List.set_cons_succ]
        refine wpAnyH_ready (rs := [1]) (by kernel_rfl) (by simp) ?_
        refine AllReadyH.cons rfl (fun K hK => ?_) AllReadyH.nil
        go_simp
        go_wp2_with (go_at_call 47; (with_reducible refine (RC.out _).mono ?_); rintro e w1 ⟨rfl, hb1⟩; have F1 := Lib.hid (Tri.below F0.out hb1); have HB1 := Lib.hid hb1; clear hb1)
        refine hK.out _ _ ?_ (fun hHeld => ?_)
        · exact F1.out
        clear hK K
        refine wpAnyH_take (i := 2) (v := ?_) rfl (by kernel_rfl) (by kernel_rfl) (by kernel_rfl) (fun _ _ _ h => h) (Or.inl ⟨by rfl, ?_⟩) (by assumption) ?_
        rotate_left
        · ((intro w' hSw); (try dsimp only at hSw); go_simp; all_goals (with_reducible rfl))
        simp only [Act.put, List.getElem_toArray, List.getElem_cons_succ, List.getElem_cons_zero, List.setIfInBounds_toArray, List.set_cons_zero, List.set_cons_succ]
        refine wpAnyH_take (i := 3) (v := ?_) rfl (by kernel_rfl) (by kernel_rfl) (by kernel_rfl) (fun _ _ _ h => h) (Or.inl ⟨by rfl, ?_⟩) (by assumption) ?_
        rotate_left
        · ((intro w' hSw); (try dsimp only at hSw); go_simp; all_goals (with_reducible rfl))
        simp only [Act.put, List.getElem_toArray, List.getElem_cons_succ, List.getElem_cons_zero, List.setIfInBounds_toArray, List.set_cons_zero, List.set_cons_succ]
        refine wpAnyH_take (i := 4) (v := ?_) rfl (by kernel_rfl) (by kernel_rfl) (by kernel_rfl) (fun _ _ _ h => h) (Or.inr ⟨by rfl, by rfl⟩) (by assumption) ?_
        simp only [Act.put, List.getElem_toArray, List.getElem_cons_succ, List.getElem_cons_zero, List.setIfInBounds_toArray, List.set_cons_zero, List.set_cons_succ]
        refine wpAnyH_take (i := 5) (v := ?_) rfl (by kernel_rfl) (by kernel_rfl) (by kernel_rfl) (fun _ _ _ h => h) (Or.inr ⟨by rfl, by rfl⟩) (by assumption) ?_
        simp only [Act.put, List.getElem_toArray, List.getElem_cons_succ, List.getElem_cons_zero, List.setIfInBounds_toArray, List.set_cons_zero, List.set_cons_succ]
        refine wpAnyH_take (i := 6) (v := ?_) rfl (by kernel_rfl) (by kernel_rfl) (by kernel_rfl) (fun _ _ _ h => h) (Or.inr ⟨by rfl, by rfl⟩) (by assumption) ?_
        simp only [Act.put, List.getElem_toArray, List.getElem_cons_succ, List.getElem_cons_zero, List.setIfInBounds_toArray, List.set_cons_zero, List.set_cons_succ]
        refine wpAnyH_take (i := 7) (v := ?_) rfl (by kernel_rfl) (by kernel_rfl) (by kernel_rfl) (fun _ _ _ h => h) (Or.inr ⟨by rfl, by rfl⟩) (by assumption) ?_
        simp only [Act.put, List.getElem_toArray, List.getElem_cons_succ, List.getElem_cons_zero, List.setIfInBounds_toArray, List.set_cons_zero, List.set_cons_succ]
        refine wpAnyH_take (i := 8) (v := ?_) rfl (by kernel_rfl) (by kernel_rfl) (by kernel_rfl) (fun _ _ _ h => h) (Or.inr ⟨by rfl, by rfl⟩) (by assumption) ?_
        simp only [Act.put, List.getElem_toArray, List.getElem_cons_succ, List.getElem_cons_zero, List.setIfInBounds_toArray, List.set_cons_zero, List.set_cons_succ]
        refine wpAnyH_take (i := 9) (v := ?_) rfl (by kernel_rfl) (by kernel_rfl) (by kernel_rfl) (fun _ _ _ h => h) (Or.inr ⟨by rfl, by rfl⟩) (by assumption) ?_
        simp only [Act.put, List.getElem_toArray, List.getElem_cons_succ, List.getElem_cons_zero, List.setIfInBounds_toArray, List.set_cons_zero, List.set_cons_succ]
        refine wpAnyH_take (i := 10) (v := ?_) rfl (by kernel_rfl) (by kernel_rfl) (by kernel_rfl) (fun _ _ _ h => h) (Or.inr ⟨by rfl, by rfl⟩) (by assumption) ?_
        simp only [Act.put, List.getElem_toArray, List.getElem_cons_succ, List.getElem_cons_zero, List.setIfInBounds_toArray, List.set_cons_zero, List.set_cons_succ]
        refine wpAnyH_take (i := 11) (v := ?_) rfl (by kernel_rfl) (by kernel_rfl) (by kernel_rfl) (fun _ _ _ h => h) (Or.inr ⟨by rfl, by rfl⟩) (by assumption) ?_
        simp only [Act.put, List.getElem_toArray, List.getElem_cons_succ, List.getElem_cons_zero, List.setIfInBounds_toArray, List.set_cons_zero, List.set_cons_succ]
        refine wpAnyH_take (i := 12) (v := ?_) rfl (by kernel_rfl) (by kernel_rfl) (by kernel_rfl) (fun _ _ _ h => h) (Or.inr ⟨by rfl, by rfl⟩) (by assumption) ?_
        simp only [Act.put, List.getElem_toArray, List.getElem_cons_succ, List.getElem_cons_zero, List.setIfInBounds_toArray, List.set_cons_zero, List.set_cons_succ]
        refine wpAnyH_take (i := 13) (v := ?_) rfl (by kernel_rfl) (by kernel_rfl) (by kernel_rfl) (fun _ _ _ h => h) (Or.inr ⟨by rfl, by rfl⟩) (by assumption) ?_
        simp only [Act.put, List.getElem_toArray, List.getElem_cons_succ, List.getElem_cons_zero, List.setIfInBounds_toArray, List.set_cons_zero, List.set_cons_succ]
        refine wpAnyH_take (i := 14) (v := ?_) rfl (by kernel_rfl) (by kernel_rfl) (by kernel_rfl) (fun _ _ _ h => h) (Or.inr ⟨by rfl, by rfl⟩) (by assumption) ?_
        simp only [Act.put, List.getElem_toArray, List.getElem_cons_succ, List.getElem_cons_zero, List.setIfInBounds_toArray, List.set_cons_zero, List.set_cons_succ]
        refine wpAnyH_take (i := 15) (v := ?_) rfl (by kernel_rfl) (by kernel_rfl) (by kernel_rfl) (fun _ _ _ h => h) (Or.inl ⟨by rfl, ?_⟩) (by assumption) ?_
        rotate_left
        · ((intro w' hSw); (try dsimp only at hSw); go_simp; all_goals (with_reducible rfl))
        simp only [Act.put, List.getElem_toArray, List.getElem_cons_succ, List.getElem_cons_zero, List.setIfInBounds_toArray, List.set_cons_zero, List.set_cons_succ]
        refine wpAnyH_done (by kernel_rfl) ?_ _
        go_wp2
        go_ret
        exact ⟨ret_bool HF.out.symm, HBW.out.trans ((box_dn wr p HB1.out).mono HBW.out.size)⟩
      · have hpr := right_iff.1 hR
        have RC := Lib.hid (isRight_c hpk hR)
        have HR := Lib.hid hR
        have hp1 : 1 ≤ p.n := hpr.1
        have hp2 : p.n ≤ 1048576 := hpr.2.1
        clear hpr hpk
        by_cases hk0 : k = 0
        · have HNO : Hid (∀ q, 0 < k → l[k - 1]? = some q → oneB q p = false) := Lib.hid (fun q h0 _ => absurd h0 (by omega))
          have k00 : decide ((0 : Int) < (k : Int)) = false := decide_eq_false (by omega)
          have k01 : decide (0 < k) = false := decide_eq_false (by omega)
          clear hg hR hk0
          go_wp2
          refine wp_region_held_drew (S := (fun W' => W'.cell? ⟨wr.heap.size, 0, none⟩ = some (.int .i64 p.id) ∧ W'.cell? ⟨wr.heap.size, 1, none⟩ = some (.int .i64 p.fr) ∧ W'.cell? ⟨wr.heap.size, 2, none⟩ = some (.int .i64 p.n))) (by kernel_rfl) (by exact F0.out) (fun hHeld => ?_)
          refine wpAnyH_take (i := 0) (v := ?_) rfl (by kernel_rfl) (by kernel_rfl) (by kernel_rfl) (fun _ _ _ h => h) (Or.inl ⟨by rfl, ?_⟩) (by assumption) ?_
          rotate_left
          · ((intro w' hSw); (try dsimp only at hSw); go_simp; all_goals (with_reducible rfl))
          simp only [Act.put, List.getElem_toArray, List.getElem_cons_zero, List.setIfInBounds_toArray, List.set_cons_zero, List.set_cons_succ]
          refine wpAnyH_ready (rs := [1]) (by kernel_rfl) (by simp) ?_
          refine AllReadyH.cons rfl (fun K hK => ?_) AllReadyH.nil
          go_simp
          go_wp2_with (go_at_call 47; (with_reducible refine (RC.out _).mono ?_); rintro e w1 ⟨rfl, hb1⟩; have F1 := Lib.hid (Tri.below F0.out hb1); have HB1 := Lib.hid hb1; clear hb1)
          refine hK.out _ _ ?_ (fun hHeld => ?_)
          · exact F1.out
          clear hK K
          refine wpAnyH_take (i := 2) (v := ?_) rfl (by kernel_rfl) (by kernel_rfl) (by kernel_rfl) (fun _ _ _ h => h) (Or.inl ⟨by rfl, ?_⟩) (by assumption) ?_
          rotate_left
          · ((intro w' hSw); (try dsimp only at hSw); go_simp; all_goals (with_reducible rfl))
          simp only [Act.put, List.getElem_toArray, List.getElem_cons_succ, List.getElem_cons_zero, List.setIfInBounds_toArray, List.set_cons_zero, List.set_cons_succ]
          refine wpAnyH_take (i := 3) (v := ?_) rfl (by kernel_rfl) (by kernel_rfl) (by kernel_rfl) (fun _ _ _ h => h) (Or.inl ⟨by rfl, ?_⟩) (by assumption) ?_
          rotate_left
          · ((intro w' hSw); (try dsimp only at hSw); go_simp; all_goals (with_reducible rfl))
          simp only [Act.put, List.getElem_toArray, List.getElem_cons_succ, List.getElem_cons_zero, List.setIfInBounds_toArray, List.set_cons_zero, List.set_cons_succ]
          refine wpAnyH_take (i := 4) (v := ?_) rfl (by kernel_rfl) (by kernel_rfl) (by kernel_rfl) (fun _ _ _ h => h) (Or.inl ⟨by rfl, ?_⟩) (by assumption) ?_
          rotate_left
          · ((intro w' hSw); (try dsimp only at hSw); go_simp; all_goals (with_reducible rfl))
          simp only [Act.put, List.getElem_toArray, List.getElem_cons_succ, List.getElem_cons_zero, List.setIfInBounds_toArray, List.set_cons_zero, List.set_cons_succ]
          refine wpAnyH_take (i := 5) (v := ?_) rfl (by kernel_rfl) (by kernel_rfl) (by kernel_rfl) (fun _ _ _ h => h) (Or.inl ⟨by rfl, ?_⟩) (by assumption) ?_
          rotate_left
          · ((intro w' hSw); (try dsimp only at hSw); go_simp; all_goals (with_reducible rfl))
          simp only [Act.put, List.getElem_toArray, List.getElem_cons_succ, List.getElem_cons_zero, List.setIfInBounds_toArray, List.set_cons_zero, List.set_cons_succ]
          refine wpAnyH_take (i := 6) (v := ?_) rfl (by kernel_rfl) (by kernel_rfl) (by kernel_rfl) (fun _ _ _ h => h) (Or.inl ⟨by rfl, ?_⟩) (by assumption) ?_
          rotate_left
          · ((intro w' hSw); (try dsimp only at hSw); go_simp; all_goals (with_reducible rfl))
          simp only [Act.put, List.getElem_toArray, List.getElem_cons_succ, List.getElem_cons_zero, List.setIfInBounds_toArray, List.set_cons_zero, List.set_cons_succ]
          refine wpAnyH_take (i := 7) (v := ?_) rfl (by kernel_rfl) (by kernel_rfl) (by kernel_rfl) (fun _ _ _ h => h) (Or.inr ⟨by rfl, by rfl⟩) (by assumption) ?_
          simp only [Act.put, List.getElem_toArray, List.getElem_cons_succ, List.getElem_cons_zero, List.setIfInBounds_toArray, List.set_cons_zero, List.set_cons_succ]
          refine wpAnyH_take (i := 8) (v := ?_) rfl (by kernel_rfl) (by kernel_rfl) (by kernel_rfl) (fun _ _ _ h => h) (Or.inr ⟨by rfl, by rfl⟩) (by assumption) ?_
          simp only [Act.put, List.getElem_toArray, List.getElem_cons_succ, List.getElem_cons_zero, List.setIfInBounds_toArray, List.set_cons_zero, List.set_cons_succ]
          refine wpAnyH_take (i := 9) (v := ?_) rfl (by kernel_rfl) (by kernel_rfl) (by kernel_rfl) (fun _ _ _ h => h) (Or.inr ⟨by rfl, by rfl⟩) (by assumption) ?_
          simp only [Act.put, List.getElem_toArray, List.getElem_cons_succ, List.getElem_cons_zero, List.setIfInBounds_toArray, List.set_cons_zero, List.set_cons_succ]
          refine wpAnyH_take (i := 10) (v := ?_) rfl (by kernel_rfl) (by kernel_rfl) (by kernel_rfl) (fun _ _ _ h => h) (Or.inr ⟨by rfl, by rfl⟩) (by assumption) ?_
          simp only [Act.put, List.getElem_toArray, List.getElem_cons_succ, List.getElem_cons_zero, List.setIfInBounds_toArray, List.set_cons_zero, List.set_cons_succ]
          refine wpAnyH_take (i := 11) (v := ?_) rfl (by kernel_rfl) (by kernel_rfl) (by kernel_rfl) (fun _ _ _ h => h) (Or.inr ⟨by rfl, by rfl⟩) (by assumption) ?_
          simp only [Act.put, List.getElem_toArray, List.getElem_cons_succ, List.getElem_cons_zero, List.setIfInBounds_toArray, List.set_cons_zero, List.set_cons_succ]
          refine wpAnyH_take (i := 12) (v := ?_) rfl (by kernel_rfl) (by kernel_rfl) (by kernel_rfl) (fun _ _ _ h => h) (Or.inr ⟨by rfl, by rfl⟩) (by assumption) ?_
          simp only [Act.put, List.getElem_toArray, List.getElem_cons_succ, List.getElem_cons_zero, List.setIfInBounds_toArray, List.set_cons_zero, List.set_cons_succ]
          refine wpAnyH_take (i := 13) (v := ?_) rfl (by kernel_rfl) (by kernel_rfl) (by kernel_rfl) (fun _ _ _ h => h) (Or.inr ⟨by rfl, by rfl⟩) (by assumption) ?_
          simp only [Act.put, List.getElem_toArray, List.getElem_cons_succ, List.getElem_cons_zero, List.setIfInBounds_toArray, List.set_cons_zero, List.set_cons_succ]
          refine wpAnyH_take (i := 14) (v := ?_) rfl (by kernel_rfl) (by kernel_rfl) (by kernel_rfl) (fun _ _ _ h => h) (Or.inl ⟨by rfl, ?_⟩) (by assumption) ?_
          rotate_left
          · ((intro w' hSw); (try dsimp only at hSw); go_simp; all_goals (with_reducible rfl))
          simp only [Act.put, List.getElem_toArray, List.getElem_cons_succ, List.getElem_cons_zero, List.setIfInBounds_toArray, List.set_cons_zero, List.set_cons_succ]
          refine wpAnyH_take (i := 15) (v := ?_) rfl (by kernel_rfl) (by kernel_rfl) (by kernel_rfl) (fun _ _ _ h => h) (Or.inl ⟨by rfl, ?_⟩) (by assumption) ?_
          rotate_left
          · ((intro w' hSw); (try dsimp only at hSw); go_simp; all_goals (with_reducible rfl))
          simp only [Act.put, List.getElem_toArray, List.getElem_cons_succ, List.getElem_cons_zero, List.setIfInBounds_toArray, List.set_cons_zero, List.set_cons_succ]
          refine wpAnyH_done (by kernel_rfl) ?_ _
          have HD := Lib.hid (box_dn wr p HB1.out)
          obtain ⟨_, _, q3⟩ := F1.out
          clear q0 q1 q2
          by_cases hbig : 1048576 < s + p.n
          · have HF := Lib.hid (show validL l = false from bool_ne fun h => by
              have := (HST.out.1 (HMO.out h)).2.2.2
              omega)
            go_wp2
            go_ret
            exact ⟨ret_bool HF.out.symm, HBW.out.trans (HD.out.mono HBW.out.size)⟩
          · have hbig' : s + p.n ≤ 1048576 := by omega
            have HV2 := Lib.hid (HST.out.2 ⟨HV.out, HR.out, HNO.out, hbig'⟩)
            go_wp2
            go_roundw
            case rel => exact ⟨k + 1, by omega, by go_num, by rw [HSN.out], HV2.out, HBW.out.trans (HD.out.mono HBW.out.size)⟩
            case measure => simp [intOf]; omega
        · obtain ⟨m, hm⟩ : ∃ m, m + 1 = k := ⟨k - 1, by omega⟩
          obtain ⟨q, hq⟩ : ∃ q, l[m]? = some q := ⟨_, List.getElem?_eq_getElem (by omega)⟩
          obtain ⟨g', o', hA', _, e0, e1, e2⟩ := (SA.out.below HBW.out).at_ hq
          injection hA' with hA'
          injection hA' with x1 x2 _
          subst x1; subst x2
          have hqr := (valid_iff.1 HV.out).1.right q (by
            have : (l.take k)[m]? = some q := by rw [List.getElem?_take, if_pos (by omega)]; exact hq
            exact List.mem_of_getElem? this)
          have k00 : decide ((0 : Int) < (k : Int)) = true := decide_eq_true (by omega)
          have k01 : decide (0 < k) = true := decide_eq_true (by omega)
          have hkm : (k : Int) - 1 = (m : Int) := by omega
          have hmw : IntKind.i64.wrap (m : Int) = (m : Int) := IntWalk.i64_in _ (by omega)
          have m0 : (0 : Int) ≤ (m : Int) := Int.natCast_nonneg m
          have mn : (m : Int) < (n : Int) := by omega
          have D0 := Lib.hid (show Duo (wr.alloc (.cells #[.int .i64 p.id, .int .i64 p.fr, .int .i64 p.n] 66)).drew wr.heap.size 0 g (o + m * 3) p q from
            ⟨F0.out.1, F0.out.2.1, F0.out.2.2, ((box_below3 wr p).cell (block_lt_of_cell e0)).trans e0, ((box_below3 wr p).cell (block_lt_of_cell e1)).trans e1, ((box_below3 wr p).cell (block_lt_of_cell e2)).trans e2⟩)
          clear F0
          have F0 := D0
          clear D0
          cases hO : oneB q p
          · have HNO : Hid (∀ q, 0 < k → l[k - 1]? = some q → oneB q p = false) := Lib.hid (fun q' _ hq' => by
              rw [← hm, Nat.add_sub_cancel, hq] at hq'
              rw [← Option.some.inj hq']; exact hO)
            have OC := Lib.hid (canBeOne_c hO hqr)
            clear hg hR hk0 e0 e1 e2 hO hqr hq hm
            go_wp2
            refine wp_region_held_drew (S := (fun W' => W'.cell? ⟨wr.heap.size, 0, none⟩ = some (.int .i64 p.id) ∧ W'.cell? ⟨wr.heap.size, 1, none⟩ = some (.int .i64 p.fr) ∧ W'.cell? ⟨wr.heap.size, 2, none⟩ = some (.int .i64 p.n) ∧ W'.cell? ⟨g, o + m * 3, none⟩ = some (.int .i64 q.id) ∧ W'.cell? ⟨g, o + m * 3 + 1, none⟩ = some (.int .i64 q.fr) ∧ W'.cell? ⟨g, o + m * 3 + 2, none⟩ = some (.int .i64 q.n))) (by kernel_rfl) (by exact F0.out) (fun hHeld => ?_)
            refine wpAnyH_take (i := 0) (v := ?_) rfl (by kernel_rfl) (by kernel_rfl) (by kernel_rfl) (fun _ _ _ h => h) (Or.inl ⟨by rfl, ?_⟩) (by assumption) ?_
            rotate_left
            · ((intro w' hSw); (try dsimp only at hSw); go_simp; all_goals (with_reducible rfl))
            simp only [Act.put, List.getElem_toArray, List.getElem_cons_zero, List.setIfInBounds_toArray, List.set_cons_zero, List.set_cons_succ]
            refine wpAnyH_ready (rs := [1]) (by kernel_rfl) (by simp) ?_
            refine AllReadyH.cons rfl (fun K hK => ?_) AllReadyH.nil
            go_simp
            go_wp2_with (go_at_call 47; (with_reducible refine (RC.out _).mono ?_); rintro e w1 ⟨rfl, hb1⟩; have F1 := Lib.hid (duo_keep F0.out hb1); have HB1 := Lib.hid hb1; clear hb1)
            refine hK.out _ _ ?_ (fun hHeld => ?_)
            · exact F1.out
            clear hK K
            refine wpAnyH_take (i := 2) (v := ?_) rfl (by kernel_rfl) (by kernel_rfl) (by kernel_rfl) (fun _ _ _ h => h) (Or.inl ⟨by rfl, ?_⟩) (by assumption) ?_
            rotate_left
            · ((intro w' hSw); (try dsimp only at hSw); go_simp; all_goals (with_reducible rfl))
            simp only [Act.put, List.getElem_toArray, List.getElem_cons_succ, List.getElem_cons_zero, List.setIfInBounds_toArray, List.set_cons_zero, List.set_cons_succ]
            refine wpAnyH_take (i := 3) (v := ?_) rfl (by kernel_rfl) (by kernel_rfl) (by kernel_rfl) (fun _ _ _ h => h) (Or.inl ⟨by rfl, ?_⟩) (by assumption) ?_
            rotate_left
            · ((intro w' hSw); (try dsimp only at hSw); go_simp; all_goals (with_reducible rfl))
            simp only [Act.put, List.getElem_toArray, List.getElem_cons_succ, List.getElem_cons_zero, List.setIfInBounds_toArray, List.set_cons_zero, List.set_cons_succ]
            refine wpAnyH_take (i := 4) (v := ?_) rfl (by kernel_rfl) (by kernel_rfl) (by kernel_rfl) (fun _ _ _ h => h) (Or.inl ⟨by rfl, ?_⟩) (by assumption) ?_
            rotate_left
            · ((intro w' hSw); (try dsimp only at hSw); go_simp; all_goals (with_reducible rfl))
            simp only [Act.put, List.getElem_toArray, List.getElem_cons_succ, List.getElem_cons_zero, List.setIfInBounds_toArray, List.set_cons_zero, List.set_cons_succ]
            refine wpAnyH_take (i := 5) (v := ?_) rfl (by kernel_rfl) (by kernel_rfl) (by kernel_rfl) (fun _ _ _ h => h) (Or.inl ⟨by rfl, ?_⟩) (by assumption) ?_
            rotate_left
            · ((intro w' hSw); (try dsimp only at hSw); go_simp; all_goals (with_reducible rfl))
            simp only [Act.put, List.getElem_toArray, List.getElem_cons_succ, List.getElem_cons_zero, List.setIfInBounds_toArray, List.set_cons_zero, List.set_cons_succ]
            refine wpAnyH_take (i := 6) (v := ?_) rfl (by kernel_rfl) (by kernel_rfl) (by kernel_rfl) (fun _ _ _ h => h) (Or.inl ⟨by rfl, ?_⟩) (by assumption) ?_
            rotate_left
            · ((intro w' hSw); (try dsimp only at hSw); go_simp; all_goals (with_reducible rfl))
            simp only [Act.put, List.getElem_toArray, List.getElem_cons_succ, List.getElem_cons_zero, List.setIfInBounds_toArray, List.set_cons_zero, List.set_cons_succ]
            refine wpAnyH_take (i := 7) (v := ?_) rfl (by kernel_rfl) (by kernel_rfl) (by kernel_rfl) (fun _ _ _ h => h) (Or.inl ⟨by rfl, ?_⟩) (by assumption) ?_
            rotate_left
            · ((intro w' hSw); (try dsimp only at hSw); go_simp; all_goals (with_reducible rfl))
            simp only [Act.put, List.getElem_toArray, List.getElem_cons_succ, List.getElem_cons_zero, List.setIfInBounds_toArray, List.set_cons_zero, List.set_cons_succ]
            refine wpAnyH_take (i := 8) (v := ?_) rfl (by kernel_rfl) (by kernel_rfl) (by kernel_rfl) (fun _ _ _ h => h) (Or.inl ⟨by rfl, ?_⟩) (by assumption) ?_
            rotate_left
            · ((intro w' hSw); (try dsimp only at hSw); go_simp; all_goals (with_reducible rfl))
            simp only [Act.put, List.getElem_toArray, List.getElem_cons_succ, List.getElem_cons_zero, List.setIfInBounds_toArray, List.set_cons_zero, List.set_cons_succ]
            refine wpAnyH_take (i := 9) (v := ?_) rfl (by kernel_rfl) (by kernel_rfl) (by kernel_rfl) (fun _ _ _ h => h) (Or.inl ⟨by rfl, ?_⟩) (by assumption) ?_
            rotate_left
            · ((intro w' hSw); (try dsimp only at hSw); go_simp; all_goals (with_reducible rfl))
            simp only [Act.put, List.getElem_toArray, List.getElem_cons_succ, List.getElem_cons_zero, List.setIfInBounds_toArray, List.set_cons_zero, List.set_cons_succ]
            refine wpAnyH_take (i := 10) (v := ?_) rfl (by kernel_rfl) (by kernel_rfl) (by kernel_rfl) (fun _ _ _ h => h) (Or.inl ⟨by rfl, ?_⟩) (by assumption) ?_
            rotate_left
            · ((intro w' hSw); (try dsimp only at hSw); go_simp; all_goals (with_reducible rfl))
            simp only [Act.put, List.getElem_toArray, List.getElem_cons_succ, List.getElem_cons_zero, List.setIfInBounds_toArray, List.set_cons_zero, List.set_cons_succ]
            refine wpAnyH_take (i := 11) (v := ?_) rfl (by kernel_rfl) (by kernel_rfl) (by kernel_rfl) (fun _ _ _ h => h) (Or.inl ⟨by rfl, ?_⟩) (by assumption) ?_
            rotate_left
            · ((intro w' hSw); (try dsimp only at hSw); go_simp; all_goals (with_reducible rfl))
            simp only [Act.put, List.getElem_toArray, List.getElem_cons_succ, List.getElem_cons_zero, List.setIfInBounds_toArray, List.set_cons_zero, List.set_cons_succ]
            refine wpAnyH_take (i := 12) (v := ?_) rfl (by kernel_rfl) (by kernel_rfl) (by kernel_rfl) (fun _ _ _ h => h) (Or.inl ⟨by rfl, ?_⟩) (by assumption) ?_
            rotate_left
            · ((intro w' hSw); (try dsimp only at hSw); go_simp; all_goals (with_reducible rfl))
            simp only [Act.put, List.getElem_toArray, List.getElem_cons_succ, List.getElem_cons_zero, List.setIfInBounds_toArray, List.set_cons_zero, List.set_cons_succ]
            refine wpAnyH_ready (rs := [13]) (by kernel_rfl) (by simp) ?_
            refine AllReadyH.cons rfl (fun K hK => ?_) AllReadyH.nil
            go_simp
            go_wp2_with (go_at_call 48; (with_reducible refine (OC.out _).mono ?_); rintro e w2 ⟨rfl, hb2⟩; have F2 := Lib.hid (duo_keep F1.out hb2); have HB2 := Lib.hid (HB1.out.trans (hb2.mono HB1.out.size)); clear hb2)
            refine hK.out _ _ ?_ (fun hHeld => ?_)
            · exact F2.out
            clear hK K
            refine wpAnyH_take (i := 14) (v := ?_) rfl (by kernel_rfl) (by kernel_rfl) (by kernel_rfl) (fun _ _ _ h => h) (Or.inl ⟨by rfl, ?_⟩) (by assumption) ?_
            rotate_left
            · ((intro w' hSw); (try dsimp only at hSw); go_simp; all_goals (with_reducible rfl))
            simp only [Act.put, List.getElem_toArray, List.getElem_cons_succ, List.getElem_cons_zero, List.setIfInBounds_toArray, List.set_cons_zero, List.set_cons_succ]
            refine wpAnyH_take (i := 15) (v := ?_) rfl (by kernel_rfl) (by kernel_rfl) (by kernel_rfl) (fun _ _ _ h => h) (Or.inl ⟨by rfl, ?_⟩) (by assumption) ?_
            rotate_left
            · ((intro w' hSw); (try dsimp only at hSw); go_simp; all_goals (with_reducible rfl))
            simp only [Act.put, List.getElem_toArray, List.getElem_cons_succ, List.getElem_cons_zero, List.setIfInBounds_toArray, List.set_cons_zero, List.set_cons_succ]
            refine wpAnyH_done (by kernel_rfl) ?_ _
            have HD := Lib.hid (box_dn wr p HB2.out)
            have q3 := F2.out.2.2.1
            clear q0 q1 q2 hkm
            by_cases hbig : 1048576 < s + p.n
            · have HF := Lib.hid (show validL l = false from bool_ne fun h => by
                have := (HST.out.1 (HMO.out h)).2.2.2
                omega)
              go_wp2
              go_ret
              exact ⟨ret_bool HF.out.symm, HBW.out.trans (HD.out.mono HBW.out.size)⟩
            · have hbig' : s + p.n ≤ 1048576 := by omega
              have HV2 := Lib.hid (HST.out.2 ⟨HV.out, HR.out, HNO.out, hbig'⟩)
              go_wp2
              go_roundw
              case rel => exact ⟨k + 1, by omega, by go_num, by rw [HSN.out], HV2.out, HBW.out.trans (HD.out.mono HBW.out.size)⟩
              case measure => simp [intOf]; omega
          · have HF := Lib.hid (show validL l = false from bool_ne fun h => by
              have := (HST.out.1 (HMO.out h)).2.2.1 q (by omega) (by rw [← hm, Nat.add_sub_cancel]; exact hq)
              rw [hO] at this
              cases this)
            have OC := Lib.hid (canBeOne_c hO hqr)
            clear hg hR hk0 e0 e1 e2 hO hqr hq hm
            go_wp2
            refine wp_region_held_drew (S := (fun W' => W'.cell? ⟨wr.heap.size, 0, none⟩ = some (.int .i64 p.id) ∧ W'.cell? ⟨wr.heap.size, 1, none⟩ = some (.int .i64 p.fr) ∧ W'.cell? ⟨wr.heap.size, 2, none⟩ = some (.int .i64 p.n) ∧ W'.cell? ⟨g, o + m * 3, none⟩ = some (.int .i64 q.id) ∧ W'.cell? ⟨g, o + m * 3 + 1, none⟩ = some (.int .i64 q.fr) ∧ W'.cell? ⟨g, o + m * 3 + 2, none⟩ = some (.int .i64 q.n))) (by kernel_rfl) (by exact F0.out) (fun hHeld => ?_)
            refine wpAnyH_take (i := 0) (v := ?_) rfl (by kernel_rfl) (by kernel_rfl) (by kernel_rfl) (fun _ _ _ h => h) (Or.inl ⟨by rfl, ?_⟩) (by assumption) ?_
            rotate_left
            · ((intro w' hSw); (try dsimp only at hSw); go_simp; all_goals (with_reducible rfl))
            simp only [Act.put, List.getElem_toArray, List.getElem_cons_zero, List.setIfInBounds_toArray, List.set_cons_zero, List.set_cons_succ]
            refine wpAnyH_ready (rs := [1]) (by kernel_rfl) (by simp) ?_
            refine AllReadyH.cons rfl (fun K hK => ?_) AllReadyH.nil
            go_simp
            go_wp2_with (go_at_call 47; (with_reducible refine (RC.out _).mono ?_); rintro e w1 ⟨rfl, hb1⟩; have F1 := Lib.hid (duo_keep F0.out hb1); have HB1 := Lib.hid hb1; clear hb1)
            refine hK.out _ _ ?_ (fun hHeld => ?_)
            · exact F1.out
            clear hK K
            refine wpAnyH_take (i := 2) (v := ?_) rfl (by kernel_rfl) (by kernel_rfl) (by kernel_rfl) (fun _ _ _ h => h) (Or.inl ⟨by rfl, ?_⟩) (by assumption) ?_
            rotate_left
            · ((intro w' hSw); (try dsimp only at hSw); go_simp; all_goals (with_reducible rfl))
            simp only [Act.put, List.getElem_toArray, List.getElem_cons_succ, List.getElem_cons_zero, List.setIfInBounds_toArray, List.set_cons_zero, List.set_cons_succ]
            refine wpAnyH_take (i := 3) (v := ?_) rfl (by kernel_rfl) (by kernel_rfl) (by kernel_rfl) (fun _ _ _ h => h) (Or.inl ⟨by rfl, ?_⟩) (by assumption) ?_
            rotate_left
            · ((intro w' hSw); (try dsimp only at hSw); go_simp; all_goals (with_reducible rfl))
            simp only [Act.put, List.getElem_toArray, List.getElem_cons_succ, List.getElem_cons_zero, List.setIfInBounds_toArray, List.set_cons_zero, List.set_cons_succ]
            refine wpAnyH_take (i := 4) (v := ?_) rfl (by kernel_rfl) (by kernel_rfl) (by kernel_rfl) (fun _ _ _ h => h) (Or.inl ⟨by rfl, ?_⟩) (by assumption) ?_
            rotate_left
            · ((intro w' hSw); (try dsimp only at hSw); go_simp; all_goals (with_reducible rfl))
            simp only [Act.put, List.getElem_toArray, List.getElem_cons_succ, List.getElem_cons_zero, List.setIfInBounds_toArray, List.set_cons_zero, List.set_cons_succ]
            refine wpAnyH_take (i := 5) (v := ?_) rfl (by kernel_rfl) (by kernel_rfl) (by kernel_rfl) (fun _ _ _ h => h) (Or.inl ⟨by rfl, ?_⟩) (by assumption) ?_
            rotate_left
            · ((intro w' hSw); (try dsimp only at hSw); go_simp; all_goals (with_reducible rfl))
            simp only [Act.put, List.getElem_toArray, List.getElem_cons_succ, List.getElem_cons_zero, List.setIfInBounds_toArray, List.set_cons_zero, List.set_cons_succ]
            refine wpAnyH_take (i := 6) (v := ?_) rfl (by kernel_rfl) (by kernel_rfl) (by kernel_rfl) (fun _ _ _ h => h) (Or.inl ⟨by rfl, ?_⟩) (by assumption) ?_
            rotate_left
            · ((intro w' hSw); (try dsimp only at hSw); go_simp; all_goals (with_reducible rfl))
            simp only [Act.put, List.getElem_toArray, List.getElem_cons_succ, List.getElem_cons_zero, List.setIfInBounds_toArray, List.set_cons_zero, List.set_cons_succ]
            refine wpAnyH_take (i := 7) (v := ?_) rfl (by kernel_rfl) (by kernel_rfl) (by kernel_rfl) (fun _ _ _ h => h) (Or.inl ⟨by rfl, ?_⟩) (by assumption) ?_
            rotate_left
            · ((intro w' hSw); (try dsimp only at hSw); go_simp; all_goals (with_reducible rfl))
            simp only [Act.put, List.getElem_toArray, List.getElem_cons_succ, List.getElem_cons_zero, List.setIfInBounds_toArray, List.set_cons_zero, List.set_cons_succ]
            refine wpAnyH_take (i := 8) (v := ?_) rfl (by kernel_rfl) (by kernel_rfl) (by kernel_rfl) (fun _ _ _ h => h) (Or.inl ⟨by rfl, ?_⟩) (by assumption) ?_
            rotate_left
            · ((intro w' hSw); (try dsimp only at hSw); go_simp; all_goals (with_reducible rfl))
            simp only [Act.put, List.getElem_toArray, List.getElem_cons_succ, List.getElem_cons_zero, List.setIfInBounds_toArray, List.set_cons_zero, List.set_cons_succ]
            refine wpAnyH_take (i := 9) (v := ?_) rfl (by kernel_rfl) (by kernel_rfl) (by kernel_rfl) (fun _ _ _ h => h) (Or.inl ⟨by rfl, ?_⟩) (by assumption) ?_
            rotate_left
            · ((intro w' hSw); (try dsimp only at hSw); go_simp; all_goals (with_reducible rfl))
            simp only [Act.put, List.getElem_toArray, List.getElem_cons_succ, List.getElem_cons_zero, List.setIfInBounds_toArray, List.set_cons_zero, List.set_cons_succ]
            refine wpAnyH_take (i := 10) (v := ?_) rfl (by kernel_rfl) (by kernel_rfl) (by kernel_rfl) (fun _ _ _ h => h) (Or.inl ⟨by rfl, ?_⟩) (by assumption) ?_
            rotate_left
            · ((intro w' hSw); (try dsimp only at hSw); go_simp; all_goals (with_reducible rfl))
            simp only [Act.put, List.getElem_toArray, List.getElem_cons_succ, List.getElem_cons_zero, List.setIfInBounds_toArray, List.set_cons_zero, List.set_cons_succ]
            refine wpAnyH_take (i := 11) (v := ?_) rfl (by kernel_rfl) (by kernel_rfl) (by kernel_rfl) (fun _ _ _ h => h) (Or.inl ⟨by rfl, ?_⟩) (by assumption) ?_
            rotate_left
            · ((intro w' hSw); (try dsimp only at hSw); go_simp; all_goals (with_reducible rfl))
            simp only [Act.put, List.getElem_toArray, List.getElem_cons_succ, List.getElem_cons_zero, List.setIfInBounds_toArray, List.set_cons_zero, List.set_cons_succ]
            refine wpAnyH_take (i := 12) (v := ?_) rfl (by kernel_rfl) (by kernel_rfl) (by kernel_rfl) (fun _ _ _ h => h) (Or.inl ⟨by rfl, ?_⟩) (by assumption) ?_
            rotate_left
            · ((intro w' hSw); (try dsimp only at hSw); go_simp; all_goals (with_reducible rfl))
            simp only [Act.put, List.getElem_toArray, List.getElem_cons_succ, List.getElem_cons_zero, List.setIfInBounds_toArray, List.set_cons_zero, List.set_cons_succ]
            refine wpAnyH_ready (rs := [13]) (by kernel_rfl) (by simp) ?_
            refine AllReadyH.cons rfl (fun K hK => ?_) AllReadyH.nil
            go_simp
            go_wp2_with (go_at_call 48; (with_reducible refine (OC.out _).mono ?_); rintro e w2 ⟨rfl, hb2⟩; have F2 := Lib.hid (duo_keep F1.out hb2); have HB2 := Lib.hid (HB1.out.trans (hb2.mono HB1.out.size)); clear hb2)
            refine hK.out _ _ ?_ (fun hHeld => ?_)
            · exact F2.out
            clear hK K
            refine wpAnyH_take (i := 14) (v := ?_) rfl (by kernel_rfl) (by kernel_rfl) (by kernel_rfl) (fun _ _ _ h => h) (Or.inl ⟨by rfl, ?_⟩) (by assumption) ?_
            rotate_left
            · ((intro w' hSw); (try dsimp only at hSw); go_simp; all_goals (with_reducible rfl))
            simp only [Act.put, List.getElem_toArray, List.getElem_cons_succ, List.getElem_cons_zero, List.setIfInBounds_toArray, List.set_cons_zero, List.set_cons_succ]
            refine wpAnyH_take (i := 15) (v := ?_) rfl (by kernel_rfl) (by kernel_rfl) (by kernel_rfl) (fun _ _ _ h => h) (Or.inl ⟨by rfl, ?_⟩) (by assumption) ?_
            rotate_left
            · ((intro w' hSw); (try dsimp only at hSw); go_simp; all_goals (with_reducible rfl))
            simp only [Act.put, List.getElem_toArray, List.getElem_cons_succ, List.getElem_cons_zero, List.setIfInBounds_toArray, List.set_cons_zero, List.set_cons_succ]
            refine wpAnyH_done (by kernel_rfl) ?_ _
            have HD := Lib.hid (box_dn wr p HB2.out)
            clear q0 q1 q2
            go_wp2
            go_ret
            exact ⟨ret_bool HF.out.symm, HBW.out.trans (HD.out.mono HBW.out.size)⟩
    · obtain rfl : k = n := by omega
      have HK := Lib.hid (show l.take k = l from List.take_of_length_le (by rw [HN.out]; exact Nat.le_refl _))
      have HV := Lib.hid hv
      clear hv
      go_wp2
      go_ret
      exact ⟨ret_bool (by rw [← HK.out]; exact HV.out.symm), hbw⟩

set_option maxHeartbeats 2000000 in
theorem exEqual_any (A A2 : Option Addr) (n n2 c c2 : Nat) (l l2 : List Pc) (hn : l.length = n) (hn2 : l2.length = n2) (hl : n ≤ 9223372036854775807) (hl2 : n2 ≤ 9223372036854775807) (w : World) (hA : Pcs w A l) (hA2 : Pcs w A2 l2) :
    Calls Try.prog 46 #[.slice A n c, .slice A2 n2 c2] w fun e w' => e = .returned (.bool (decide (l = l2))) ∧ Below w.heap.size w w' := by
  by_cases hnn : n = n2
  · subst hnn
    have HN := Lib.hid hn
    have HN2 := Lib.hid hn2
    have SA := Lib.hid hA
    have SB := Lib.hid hA2
    clear hn hn2 hA hA2
    go_enter Try.func46, Try.ntmps46
    go_wp2
    go_loopw [13] (fun i wr => ∃ k m : Nat, k ≤ n ∧ i = .int .i64 k ∧ l.take k = l2.take k ∧ wr = w.drewN m) (fun i _ => n - (intOf i).toNat)
    case atStart => exact ⟨0, 0, Nat.zero_le _, rfl, rfl, rfl⟩
    case round =>
      obtain ⟨k, m, hk, rfl, hlk, rfl⟩ := hrel
      have HLK := Lib.hid hlk
      clear hlk
      by_cases hlt : k < n
      · have hkl : k < l.length := by rw [HN.out]; exact hlt
        have hkl2 : k < l2.length := by rw [HN2.out]; exact hlt
        obtain ⟨g, o, rfl, _, q0, q1, q2⟩ := SA.out.at_ (List.getElem?_eq_getElem hkl)
        obtain ⟨g2, o2, rfl, _, r0, r1, r2⟩ := SB.out.at_ (List.getElem?_eq_getElem hkl2)
        have hst := take_next hkl hkl2
        obtain ⟨x, hx⟩ : ∃ a, l[k] = a := ⟨_, rfl⟩
        obtain ⟨y, hy⟩ : ∃ a, l2[k] = a := ⟨_, rfl⟩
        rw [hx] at q0 q1 q2
        rw [hy] at r0 r1 r2
        rw [hx, hy] at hst
        have HST := Lib.hid hst
        have hne := neqSame x y
        unfold pv at hne
        have gA := guardSame
        have k0 : (0 : Int) ≤ (k : Int) := Int.natCast_nonneg k
        have kn : (k : Int) < (n : Int) := Int.ofNat_lt.2 hlt
        clear hx hy hst SA SB
        by_cases hxy : x = y
        · have e1 : decide (x = y) = true := decide_eq_true hxy
          have HXY := Lib.hid hxy
          clear hxy
          rw [e1] at hne
          clear e1
          go_wp2
          go_quiet (fail)
          go_wp2
          go_roundw
          case rel => exact ⟨k + 1, _, by omega, by go_num, HST.out.2 ⟨HLK.out, HXY.out⟩, rfl⟩
          case measure => simp [intOf]; omega
        · have e1 : decide (x = y) = false := decide_eq_false hxy
          have HXY := Lib.hid hxy
          clear hxy
          rw [e1] at hne
          clear e1
          go_wp2
          go_quiet (fail)
          go_wp2
          go_ret
          refine ⟨ret_bool (decide_eq_false fun e => ?_).symm, ?_⟩
          · exact HXY.out (HST.out.1 (by rw [e])).2
          · exact (below_drewN w m).trans ((below_drewN _ nq).mono (Nat.le_refl _))
      · obtain rfl : k = n := by omega
        go_wp2
        go_ret
        refine ⟨ret_bool (decide_eq_true ?_).symm, below_drewN w m⟩
        have := HLK.out
        rwa [List.take_of_length_le (by rw [HN.out]; exact Nat.le_refl _), List.take_of_length_le (by rw [HN2.out]; exact Nat.le_refl _)] at this
  · have e1 : ((n : Int) != (n2 : Int)) = true := by simp; omega
    have HV := Lib.hid (show decide (l = l2) = false from decide_eq_false fun e => hnn (by rw [← hn, ← hn2, e]))
    clear hn hn2 hnn hA hA2
    go_enter Try.func46, Try.ntmps46
    go_wp2
    go_ret
    exact ⟨ret_bool HV.out.symm, Below.refl _ _⟩
theorem exSame_any (A A2 : Option Addr) (n n2 c c2 : Nat) (l l2 : List Pc) (hn : l.length = n) (hn2 : l2.length = n2) (hl : n ≤ 9223372036854775807) (hl2 : n2 ≤ 9223372036854775807) (w : World) (hA : Pcs w A l) (hA2 : Pcs w A2 l2) :
    Calls Try.prog 30 #[.slice A n c, .slice A2 n2 c2] w fun e w' => e = .returned (.bool (decide (l = l2))) ∧ Below w.heap.size w w' := by
  have C := Lib.hid (exEqual_any A A2 n n2 c c2 l l2 hn hn2 hl hl2 w hA hA2)
  clear hn hn2 hA hA2
  go_enter Try.func30, Try.ntmps30
  go_wp2_with (go_at_call 46; refine C.out.mono ?_; rintro e w1 ⟨rfl, hb⟩)
  go_ret
  exact ⟨rfl, hb⟩
end Go.Proofs.Ytggnklcjhbahhaa
