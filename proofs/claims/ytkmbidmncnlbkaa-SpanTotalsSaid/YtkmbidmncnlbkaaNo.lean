/-
  The law SpanTotals.
-/
import Derived.Test.YtkmbidmncnlbkaaNl
namespace Go.Proofs.Ytkmbidmncnlbkaa
open Go.RowKit Sn
set_option maxHeartbeats 4000000
set_option maxRecDepth 100000
theorem cnt_lim {P : Int → Bool} : ∀ k : Nat, 0 ≤ cnt P k ∧ cnt P k ≤ k
  | 0 => ⟨Int.le_refl _, Int.le_refl _⟩
  | k + 1 => by
    have := cnt_lim (P := P) k
    simp only [cnt]
    have h2 : 0 ≤ b2i (P ((k : Int) - 22)) ∧ b2i (P ((k : Int) - 22)) ≤ 1 := by unfold b2i; split <;> omega
    omega
variable {Env : World → Prop} (P : PrgS Env) (S : SanOkS Env)
include P S

theorem lawTotals_any (A A2 : Option Addr) (n n2 c c2 : Nat) (x y : List T2) (hx : x.length = n) (hy : y.length = n2) (hox : ∀ t ∈ x, ok2 t) (hoy : ∀ t ∈ y, ok2 t) (w : World) (he : Env w) (hA : Tws w A x) (hA2 : Tws w A2 y) :
    Calls Try.prog 8 #[.slice A n c, .slice A2 n2 c2] w fun e w' => e = .returned (.bool true) ∧ Below w.heap.size w w' := by
  have k := Lib.hid (Held.start he)
  have X := Lib.hid (And.intro hx (And.intro hox hA))
  have Y := Lib.hid (And.intro hy (And.intro hoy hA2))
  clear hx hy hox hoy hA hA2
  have e1 := cnt_or (P := hasB (madeL x)) (Q := hasB (madeL y)) 45
  have e2 := cnt_sub (P := hasB (madeL x)) (Q := hasB (madeL y)) 45
  have l1 := cnt_lim (P := hasB (madeL x)) 45
  have l2 := cnt_lim (P := hasB (madeL y)) 45
  have l3 := cnt_lim (P := fun t => hasB (madeL x) t || hasB (madeL y) t) 45
  have l4 := cnt_lim (P := fun t => hasB (madeL x) t && hasB (madeL y) t) 45
  have l5 := cnt_lim (P := fun t => hasB (madeL x) t && !hasB (madeL y) t) 45
  obtain ⟨ca, ha⟩ : ∃ q, cnt (hasB (madeL x)) 45 = q := ⟨_, rfl⟩
  obtain ⟨cb, hb⟩ : ∃ q, cnt (hasB (madeL y)) 45 = q := ⟨_, rfl⟩
  obtain ⟨cu, hu⟩ : ∃ q, cnt (fun t => hasB (madeL x) t || hasB (madeL y) t) 45 = q := ⟨_, rfl⟩
  obtain ⟨cm, hm⟩ : ∃ q, cnt (fun t => hasB (madeL x) t && hasB (madeL y) t) 45 = q := ⟨_, rfl⟩
  obtain ⟨cd, hd⟩ : ∃ q, cnt (fun t => hasB (madeL x) t && !hasB (madeL y) t) 45 = q := ⟨_, rfl⟩
  rw [hu, hm, ha, hb] at e1
  rw [hd, hm, ha] at e2
  rw [ha] at l1
  rw [hb] at l2
  rw [hu] at l3
  rw [hm] at l4
  rw [hd] at l5
  have w1 : IntKind.i64.wrap (cu + cm) = ca + cb := by rw [← e1]; exact IntWalk.i64_in _ (by omega)
  have w2 : IntKind.i64.wrap (ca + cb) = ca + cb := IntWalk.i64_in _ (by omega)
  have w3 : IntKind.i64.wrap (cd + cm) = ca := by rw [← e2]; exact IntWalk.i64_in _ (by omega)
  have HA := Lib.hid ha
  have HBB := Lib.hid hb
  have HU := Lib.hid hu
  have HM := Lib.hid hm
  have HD := Lib.hid hd
  have W := Lib.hid (And.intro w1 (And.intro w2 w3))
  clear ha hb hu hm hd e1 e2 l1 l2 l3 l4 l5 w1 w2 w3
  go_enter Try.func8, Try.ntmps8
  go_wp2_with (first | (go_at_call 10; refine (S (by first | with_reducible exact k.out | with_reducible exact k.out.step P (below_drewN _ _) | exact k.out.step P (by go_grown))).mono ?_; rintro e w1 ⟨rfl, k'⟩; replace k := Lib.hid k'; clear k') | (go_at_call 23; with_reducible refine (l_made P (by first | with_reducible exact k.out | with_reducible exact k.out.step P (below_drewN _ _) | exact k.out.step P (by go_grown)) X.out.1 X.out.2.1 X.out.2.2).mono ?_; rintro e w1 ⟨A', m, c', rfl, hm, k'⟩; clear hm; replace k := Lib.hid k'; clear k') | (go_at_call 23; with_reducible refine (l_made P (by first | with_reducible exact k.out | with_reducible exact k.out.step P (below_drewN _ _) | exact k.out.step P (by go_grown)) Y.out.1 Y.out.2.1 Y.out.2.2).mono ?_; rintro e w1 ⟨A', m, c', rfl, hm, k'⟩; clear hm; replace k := Lib.hid k'; clear k') | fail)
  obtain ⟨L, hL, kL⟩ := k.out.pack
  have HL := Lib.hid hL
  have KL := Lib.hid kL
  clear hL kL k
  go_loopw [8, 9] (fun s i wr => ∃ q : Nat, q ≤ 45 ∧ i = .int .i64 ((q : Int) - 22) ∧ s = .int .i64 (cnt (hasB (madeL x)) q) ∧ Held Env w wr L) (fun _ i _ => (23 - intOf i).toNat)
  case atStart => exact ⟨0, by omega, rfl, rfl, KL.out⟩
  case round =>
    obtain ⟨q, hq, rfl, rfl, kr⟩ := hrel
    rw [HL.out] at kr
    have k := Lib.hid kr
    clear kr KL
    by_cases hlt : q < 45
    · obtain ⟨j, hj⟩ : ∃ j : Int, (q : Int) - 22 = j := ⟨_, rfl⟩
      have hs : cnt (hasB (madeL x)) (q + 1) = cnt (hasB (madeL x)) q + b2i (hasB (madeL x) j) := by rw [← hj]; rfl
      have hl := cnt_lim (P := hasB (madeL x)) q
      obtain ⟨s, hs0⟩ : ∃ s, cnt (hasB (madeL x)) q = s := ⟨_, rfl⟩
      rw [hs0] at hs hl ⊢
      rw [hj]
      have hj22 : j ≤ 22 := by omega
      have hw : IntKind.i64.wrap (j + 1) = j + 1 := IntWalk.i64_in _ (by omega)
      have hw2 : IntKind.i64.wrap (s + 1) = s + 1 := IntWalk.i64_in _ (by omega)
      have HS := Lib.hid hs
      have HJ := Lib.hid (show (((q + 1 : Nat) : Int) - 22) = j + 1 by omega)
      clear hs hs0 hj
      cases hp : hasB (madeL x) j
      all_goals
        have HP := Lib.hid hp
        rw [hp] at HS
        clear hp
        go_wp2_with (first | (go_at_call 25; refine (r_has (by first | with_reducible exact k.out | with_reducible exact k.out.step P (below_drewN _ _) | exact k.out.step P (by go_grown)) (by repeat (first | exact List.Mem.head _ | refine List.Mem.tail _ ?_)) (by rfl) _ true (by first | (simp [HP.out]; done) | fail)).mono ?_; rintro e w1 ⟨rfl, k'⟩; replace k := Lib.hid k'; clear k') | (go_at_call 25; refine (r_has (by first | with_reducible exact k.out | with_reducible exact k.out.step P (below_drewN _ _) | exact k.out.step P (by go_grown)) (by repeat (first | exact List.Mem.head _ | refine List.Mem.tail _ ?_)) (by rfl) _ false (by first | (simp [HP.out]; done) | fail)).mono ?_; rintro e w1 ⟨rfl, k'⟩; replace k := Lib.hid k'; clear k') | fail)
        go_roundw
        case rel => exact ⟨q + 1, by omega, by rw [HJ.out], by rw [HS.out]; simp [b2i], by rw [HL.out]; exact k.out⟩
        case measure => simp [intOf]; omega
    · obtain rfl : q = 45 := by omega
      rw [HA.out]
      have hj : ¬ ((45 : Nat) : Int) - 22 ≤ 22 := by decide
      obtain ⟨w1, w2, w3⟩ := W.out
      go_wp2_with (first | (go_at_call 17; refine (p_union P (by first | with_reducible exact k.out | with_reducible exact k.out.step P (below_drewN _ _) | exact k.out.step P (by go_grown)) (by repeat (first | exact List.Mem.head _ | refine List.Mem.tail _ ?_)) (by rfl) (by repeat (first | exact List.Mem.head _ | refine List.Mem.tail _ ?_)) (by rfl)).mono ?_; rintro e w1 ⟨A', m, c', out, rfl, hm, k'⟩; clear hm; replace k := Lib.hid k'; clear k') | (go_at_call 19; refine (p_meet P (by first | with_reducible exact k.out | with_reducible exact k.out.step P (below_drewN _ _) | exact k.out.step P (by go_grown)) (by repeat (first | exact List.Mem.head _ | refine List.Mem.tail _ ?_)) (by rfl) (by repeat (first | exact List.Mem.head _ | refine List.Mem.tail _ ?_)) (by rfl)).mono ?_; rintro e w1 ⟨A', m, c', out, rfl, hm, k'⟩; clear hm; replace k := Lib.hid k'; clear k') | (go_at_call 21; refine (p_minus P (by first | with_reducible exact k.out | with_reducible exact k.out.step P (below_drewN _ _) | exact k.out.step P (by go_grown)) (by repeat (first | exact List.Mem.head _ | refine List.Mem.tail _ ?_)) (by rfl) (by repeat (first | exact List.Mem.head _ | refine List.Mem.tail _ ?_)) (by rfl)).mono ?_; rintro e w1 ⟨A', m, c', out, rfl, hm, k'⟩; clear hm; replace k := Lib.hid k'; clear k') | (go_at_call 30; refine (l_small P (by first | with_reducible exact k.out | with_reducible exact k.out.step P (below_drewN _ _) | exact k.out.step P (by go_grown)) (by repeat (first | exact List.Mem.head _ | refine List.Mem.tail _ ?_)) (by rfl) (by rfl)).mono ?_; rintro e w1 ⟨rfl, k'⟩; replace k := Lib.hid k'; clear k') | (go_at_call 28; refine (p_total P (by first | with_reducible exact k.out | with_reducible exact k.out.step P (below_drewN _ _) | exact k.out.step P (by go_grown)) (by repeat (first | exact List.Mem.head _ | refine List.Mem.tail _ ?_)) (by rfl) (by rfl) _ (by first | (with_reducible exact HA.out) | fail)).mono ?_; rintro e w1 ⟨rfl, k'⟩; replace k := Lib.hid k'; clear k') | (go_at_call 28; refine (p_total P (by first | with_reducible exact k.out | with_reducible exact k.out.step P (below_drewN _ _) | exact k.out.step P (by go_grown)) (by repeat (first | exact List.Mem.head _ | refine List.Mem.tail _ ?_)) (by rfl) (by rfl) _ (by first | (with_reducible exact HBB.out) | fail)).mono ?_; rintro e w1 ⟨rfl, k'⟩; replace k := Lib.hid k'; clear k') | (go_at_call 28; refine (p_total P (by first | with_reducible exact k.out | with_reducible exact k.out.step P (below_drewN _ _) | exact k.out.step P (by go_grown)) (by repeat (first | exact List.Mem.head _ | refine List.Mem.tail _ ?_)) (by rfl) (by rfl) _ (by first | (with_reducible exact HU.out) | fail)).mono ?_; rintro e w1 ⟨rfl, k'⟩; replace k := Lib.hid k'; clear k') | (go_at_call 28; refine (p_total P (by first | with_reducible exact k.out | with_reducible exact k.out.step P (below_drewN _ _) | exact k.out.step P (by go_grown)) (by repeat (first | exact List.Mem.head _ | refine List.Mem.tail _ ?_)) (by rfl) (by rfl) _ (by first | (with_reducible exact HM.out) | fail)).mono ?_; rintro e w1 ⟨rfl, k'⟩; replace k := Lib.hid k'; clear k') | (go_at_call 28; refine (p_total P (by first | with_reducible exact k.out | with_reducible exact k.out.step P (below_drewN _ _) | exact k.out.step P (by go_grown)) (by repeat (first | exact List.Mem.head _ | refine List.Mem.tail _ ?_)) (by rfl) (by rfl) _ (by first | (with_reducible exact HD.out) | fail)).mono ?_; rintro e w1 ⟨rfl, k'⟩; replace k := Lib.hid k'; clear k') | fail)
      go_ret
      exact ⟨rfl, k.out.low⟩
end Go.Proofs.Ytkmbidmncnlbkaa
