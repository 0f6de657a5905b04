/-
  The law SpanSets.
-/
import Derived.Test.YtkmbidmncnlbkaaNl
namespace Go.Proofs.Ytkmbidmncnlbkaa
open Go.RowKit Sn
set_option maxHeartbeats 4000000
set_option maxRecDepth 100000
variable {Env : World → Prop} (P : PrgS Env) (S : SanOkS Env)
include P S

theorem lawSets_any (A A2 : Option Addr) (n n2 c c2 : Nat) (x y : List T2) (hx : x.length = n) (hy : y.length = n2) (hox : ∀ t ∈ x, ok2 t) (hoy : ∀ t ∈ y, ok2 t) (w : World) (he : Env w) (hA : Tws w A x) (hA2 : Tws w A2 y) :
    Calls Try.prog 5 #[.slice A n c, .slice A2 n2 c2] w fun e w' => e = .returned (.bool true) ∧ Below w.heap.size w w' := by
  have k := Lib.hid (Held.start he)
  have X := Lib.hid (And.intro hx (And.intro hox hA))
  have Y := Lib.hid (And.intro hy (And.intro hoy hA2))
  clear hx hy hox hoy hA hA2
  go_enter Try.func5, Try.ntmps5
  go_wp2_with (first | (go_at_call 10; refine (S (by first | with_reducible exact k.out | with_reducible exact k.out.step P (below_drewN _ _) | exact k.out.step P (by go_grown))).mono ?_; rintro e w1 ⟨rfl, k'⟩; replace k := Lib.hid k'; clear k') | (go_at_call 23; with_reducible refine (l_made P (by first | with_reducible exact k.out | with_reducible exact k.out.step P (below_drewN _ _) | exact k.out.step P (by go_grown)) X.out.1 X.out.2.1 X.out.2.2).mono ?_; rintro e w1 ⟨A', m, c', rfl, hm, k'⟩; clear hm; replace k := Lib.hid k'; clear k') | (go_at_call 23; with_reducible refine (l_made P (by first | with_reducible exact k.out | with_reducible exact k.out.step P (below_drewN _ _) | exact k.out.step P (by go_grown)) Y.out.1 Y.out.2.1 Y.out.2.2).mono ?_; rintro e w1 ⟨A', m, c', rfl, hm, k'⟩; clear hm; replace k := Lib.hid k'; clear k') | (go_at_call 17; refine (p_union P (by first | with_reducible exact k.out | with_reducible exact k.out.step P (below_drewN _ _) | exact k.out.step P (by go_grown)) (by repeat (first | exact List.Mem.head _ | refine List.Mem.tail _ ?_)) (by rfl) (by repeat (first | exact List.Mem.head _ | refine List.Mem.tail _ ?_)) (by rfl)).mono ?_; rintro e w1 ⟨A', m, c', out, rfl, hm, k'⟩; have hm1 : ¬ (16 : Int) < (m : Int) := (by omega); clear hm; replace k := Lib.hid k'; clear k') | (go_at_call 19; refine (p_meet P (by first | with_reducible exact k.out | with_reducible exact k.out.step P (below_drewN _ _) | exact k.out.step P (by go_grown)) (by repeat (first | exact List.Mem.head _ | refine List.Mem.tail _ ?_)) (by rfl) (by repeat (first | exact List.Mem.head _ | refine List.Mem.tail _ ?_)) (by rfl)).mono ?_; rintro e w1 ⟨A', m, c', out, rfl, hm, k'⟩; have hm1 : ¬ (16 : Int) < (m : Int) := (by omega); clear hm; replace k := Lib.hid k'; clear k') | (go_at_call 21; refine (p_minus P (by first | with_reducible exact k.out | with_reducible exact k.out.step P (below_drewN _ _) | exact k.out.step P (by go_grown)) (by repeat (first | exact List.Mem.head _ | refine List.Mem.tail _ ?_)) (by rfl) (by repeat (first | exact List.Mem.head _ | refine List.Mem.tail _ ?_)) (by rfl)).mono ?_; rintro e w1 ⟨A', m, c', out, rfl, hm, k'⟩; have hm1 : ¬ (16 : Int) < (m : Int) := (by omega); clear hm; replace k := Lib.hid k'; clear k') | (go_at_call 13; refine (r_set P (by first | with_reducible exact k.out | with_reducible exact k.out.step P (below_drewN _ _) | exact k.out.step P (by go_grown)) (by repeat (first | exact List.Mem.head _ | refine List.Mem.tail _ ?_)) (by rfl) (by rfl)).mono ?_; rintro e w1 ⟨rfl, k'⟩; replace k := Lib.hid k'; clear k') | fail)
  obtain ⟨L, hL, kL⟩ := k.out.pack
  have HL := Lib.hid hL
  have KL := Lib.hid kL
  clear hL kL k
  go_loopw [11] (fun i wr => ∃ j : Int, i = .int .i64 j ∧ -22 ≤ j ∧ j ≤ 23 ∧ Held Env w wr L) (fun i _ => (23 - intOf i).toNat)
  case atStart => exact ⟨-22, rfl, by omega, by omega, KL.out⟩
  case round =>
    obtain ⟨j, rfl, h1, h2, kr⟩ := hrel
    rw [HL.out] at kr
    have k := Lib.hid kr
    clear kr KL
    by_cases hlt : j ≤ 22
    · have hw : IntKind.i64.wrap (j + 1) = j + 1 := IntWalk.i64_in _ (by omega)
      cases hp : hasB (madeL x) j <;> cases hq : hasB (madeL y) j
      all_goals
        have HP := Lib.hid hp
        have HQ := Lib.hid hq
        clear hp hq
        go_wp2_with (first | (go_at_call 25; refine (r_has (by first | with_reducible exact k.out | with_reducible exact k.out.step P (below_drewN _ _) | exact k.out.step P (by go_grown)) (by repeat (first | exact List.Mem.head _ | refine List.Mem.tail _ ?_)) (by rfl) _ true (by first | (simp [HP.out, HQ.out]; done) | fail)).mono ?_; rintro e w1 ⟨rfl, k'⟩; replace k := Lib.hid k'; clear k') | (go_at_call 25; refine (r_has (by first | with_reducible exact k.out | with_reducible exact k.out.step P (below_drewN _ _) | exact k.out.step P (by go_grown)) (by repeat (first | exact List.Mem.head _ | refine List.Mem.tail _ ?_)) (by rfl) _ false (by first | (simp [HP.out, HQ.out]; done) | fail)).mono ?_; rintro e w1 ⟨rfl, k'⟩; replace k := Lib.hid k'; clear k') | fail)
        go_roundw
        case rel => exact ⟨j + 1, by go_num, by omega, by omega, by rw [HL.out]; exact k.out⟩
        case measure => simp [intOf]; omega
    · go_wp2
      go_ret
      exact ⟨rfl, k.out.low⟩
end Go.Proofs.Ytkmbidmncnlbkaa
