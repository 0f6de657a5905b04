/-
  Walk of the law ShardRefuses.
-/
import Derived.Test.YtoodeoglpdapiaaSz
namespace Go.Proofs.Ytoodeoglpdapiaa
open Go.RowKit Gf
set_option maxHeartbeats 400000

/-- One byte in a block. -/
theorem one_byts {W : World} {g : Nat} (h0 : W.cell? ⟨g, 0, none⟩ = some (.int .u8 1)) : Slb (fun _ => True) W (some ⟨g, 0, none⟩) 1 1 [1] :=
  ⟨rfl, Nat.le_refl _, by decide, (by intro h; cases h), fun _ => ⟨g, 0, rfl, trivial, block_lt_of_cell h0, fun j x hx => by
    match j with
    | 0 => simp at hx; subst hx; simpa using h0
    | j + 1 => simp at hx⟩⟩
def oneW (W : World) : World := W.alloc (.cells #[.int .u8 1] 5)
theorem one_at (W : World) : Slb (fun _ => True) (oneW W) (some ⟨W.heap.size, 0, none⟩) 1 1 [1] := by
  unfold oneW
  exact one_byts (by simp [go_sem])
theorem one_enc {Env : World → Prop} (P : Prg Env) (W : World) (hE : Env W) (k n : Int) (hk : (Lit.int .i64 k).wf = true) (hn : (Lit.int .i64 n).wf = true) :
    Calls Try.prog 11 #[.slice (some ⟨W.heap.size, 0, none⟩) 1 1, .int .i64 k, .int .i64 n] (W.alloc (.cells #[.int .u8 1] 5)) fun e w' => ∃ A' c', e = .returned (.agg #[.slice A' (EncR [1] k n).1.length c', .int .i64 (EncR [1] k n).2]) ∧ Below W.heap.size W w' := by
  have hb : Below W.heap.size W (oneW W) := (Below.refl _ W).alloc (Nat.le_refl _) _
  refine (encU P (fun _ => True) _ 1 1 [1] k n (oneW W) (P.env hE hb) (one_at W) (by decide) hk hn).mono ?_
  rintro e w' ⟨A', c', rfl, _, hb'⟩
  exact ⟨A', c', rfl, hb.trans (hb'.mono hb.size)⟩

theorem same_arg (A A2 : Option Addr) (c c2 : Nat) (w : World) :
    Calls Try.prog 14 #[.agg #[.slice A 0 c, .int .i64 1], .agg #[.slice A2 0 c2, .int .i64 1]] w fun d w' => d = .returned (.bool true) ∧ Below w.heap.size w w' := by
  have := Same_any A A2 0 c 0 c2 [] [] rfl rfl 1 1 w (Byts.nil _ _) (Byts.nil _ _)
  simpa using this
theorem one_yes {Env : World → Prop} (P : Prg Env) (W : World) (hE : Env W) (k n : Int) (hk : (Lit.int .i64 k).wf = true) (hn : (Lit.int .i64 n).wf = true) (h : 1 ≤ k ∧ k ≤ n ∧ n ≤ 12) :
    Calls Try.prog 11 #[.slice (some ⟨W.heap.size, 0, none⟩) 1 1, .int .i64 k, .int .i64 n] (W.alloc (.cells #[.int .u8 1] 5)) fun e w' => ∃ A' m c', e = .returned (.agg #[.slice A' m c', .int .i64 0]) ∧ Below W.heap.size W w' := by
  refine (one_enc P W hE k n hk hn).mono ?_
  rintro e w' ⟨A', c', rfl, hb⟩
  have hq : (EncR [1] k n).2 = 0 := by unfold EncR; rw [if_pos h]
  rw [hq]
  exact ⟨A', _, c', rfl, hb⟩
theorem one_no {Env : World → Prop} (P : Prg Env) (W : World) (hE : Env W) (k n : Int) (hk : (Lit.int .i64 k).wf = true) (hn : (Lit.int .i64 n).wf = true) (h : ¬ (1 ≤ k ∧ k ≤ n ∧ n ≤ 12)) :
    Calls Try.prog 11 #[.slice (some ⟨W.heap.size, 0, none⟩) 1 1, .int .i64 k, .int .i64 n] (W.alloc (.cells #[.int .u8 1] 5)) fun e w' => ∃ A' c', e = .returned (.agg #[.slice A' 0 c', .int .i64 1]) ∧ Below W.heap.size W w' := by
  refine (one_enc P W hE k n hk hn).mono ?_
  rintro e w' ⟨A', c', rfl, hb⟩
  have hq : EncR [1] k n = ([], 1) := by unfold EncR; rw [if_neg h]
  rw [hq]
  exact ⟨A', c', rfl, hb⟩
theorem field_byR (A : Option Addr) (n c : Nat) (e : Int) (W : World) : (Instr.field 34 (.agg #[.slice A n c, .int .i64 e]) 1).run Try.prog W = .ok (.int .i64 e) W := by kernel_rfl
theorem refuses_ways (k n : Int) (m : Nat) :
    (¬ 1 ≤ k) ∨ (1 ≤ k ∧ (¬ k ≤ n ∨ (k ≤ n ∧ ¬ n ≤ 12) ∨ (k ≤ n ∧ n ≤ 12)) ∧ ((¬ k ≤ (m : Int)) ∨ (k ≤ (m : Int) ∧ ¬ (m : Int) ≤ 12) ∨ (k ≤ (m : Int) ∧ (m : Int) ≤ 12 ∧ ((¬ 0 ≤ n) ∨ (0 ≤ n ∧ n < (m : Int)) ∨ (0 ≤ n ∧ ¬ n < (m : Int)))))) := by
  omega

set_option maxHeartbeats 8000000 in
set_option maxRecDepth 20000 in
theorem lawRefuses_any {Env : World → Prop} (P : Prg Env) (S : SanOk Env) (A2 : Option Addr) (n2 c2 : Nat) (ls : List (List UInt8)) (k n : Int) (hk : (Lit.int .i64 k).wf = true) (hn : (Lit.int .i64 n).wf = true) (w : World) (hE : Env w)
    (hA2 : Sll (· < w.heap.size) (· < w.heap.size) w A2 n2 c2 ls) :
    Calls Try.prog 9 #[.slice A2 n2 c2, .int .i64 k, .int .i64 n] w fun e w' => e = .returned (.bool true) ∧ Below w.heap.size w w' := by
  have HS := Lib.hid (show ∀ W, Env W → Calls Try.prog 10 #[] W fun e w' => e = .returned (.bool true) ∧ Below W.heap.size W w' from S)
  have HP := Lib.hid P
  have HE := Lib.hid hE
  have hB : Below w.heap.size w w := Below.refl _ _
  by_cases h14 : 14 < n2
  · have h14' : (14 : Int) < (n2 : Int) := by omega
    clear S P hA2
    go_enter Try.func9, Try.ntmps9
    go_wp2_with (go_at_call 10; with_reducible refine (HS.out _ hE).mono ?_; rintro e w2 ⟨rfl, hb2⟩)
    go_ret
    exact ⟨rfl, hb2⟩
  · have h14' : ¬ (14 : Int) < (n2 : Int) := by omega
    have KE := Lib.hid (fun (h : 1 ≤ k ∧ k ≤ n ∧ n ≤ 12) W (hb : Below w.heap.size w W) => one_yes P W (P.env hE hb) k n hk hn h)
    have KF := Lib.hid (fun (h : ¬ (1 ≤ k ∧ k ≤ n ∧ n ≤ 12)) W (hb : Below w.heap.size w W) => one_no P W (P.env hE hb) k n hk hn h)
    have KDk := Lib.hid (fun (h : properB n2 k = false ∨ n < 0) W (hb : Below w.heap.size w W) => dec_arg P _ _ A2 n2 c2 ls k n W (P.env hE hb) (hA2.below hb) h hk hn)
    have KRk := Lib.hid (fun (h : properB n2 k = false ∨ n < 0 ∨ (n2 : Int) ≤ n) W (hb : Below w.heap.size w W) => reb_arg P _ _ A2 n2 c2 ls k n W (P.env hE hb) (hA2.below hb) h hk hn)
    have KD0 := Lib.hid (fun (h : properB n2 k = false) W (hb : Below w.heap.size w W) => dec_arg P _ _ A2 n2 c2 ls k 0 W (P.env hE hb) (hA2.below hb) (.inl h) hk (by decide))
    have KR0 := Lib.hid (fun (h : properB n2 k = false) W (hb : Below w.heap.size w W) => reb_arg P _ _ A2 n2 c2 ls k 0 W (P.env hE hb) (hA2.below hb) (.inl h) hk (by decide))
    have KC := Lib.hid (fun (h : properB n2 k = false) W (hb : Below w.heap.size w W) => P.chkArg _ _ A2 n2 c2 ls k W (P.env hE hb) (hA2.below hb) h hk)
    have HW := Lib.hid (refuses_ways k n n2)
    have HN := Lib.hid (fun (h : ¬ (1 ≤ k ∧ k ≤ (n2 : Int) ∧ (n2 : Int) ≤ 12)) => show properB n2 k = false from by
      cases hp : properB n2 k
      · rfl
      · exfalso
        obtain ⟨q1, q2, q3⟩ := properB_iff.1 hp
        omega)
    clear S P hA2 hk hn
    go_enter Try.func9, Try.ntmps9
    go_wp2_with (go_at_call 10; with_reducible refine (HS.out _ hE).mono ?_; rintro e w2 ⟨rfl, hb2⟩; have hB := hb2)
    have kf := field_byR
    rcases HW.out with g0 | ⟨g0, ga, gb⟩
    case' inl => have hp := HN.out (by omega)
    case' inr => rcases ga with g1 | ⟨g1, g2⟩ | ⟨g1, g2⟩
    all_goals try (rcases gb with g3 | ⟨g3, g4⟩ | ⟨g3, g4, g5⟩)
    all_goals try (rcases g5 with g5 | ⟨g5, g6⟩ | ⟨g5, g6⟩)
    all_goals try (exfalso; omega)
    all_goals try (have hp := HN.out (by omega))
    all_goals try (have hd := Lib.hid (KDk.out (.inr (by omega))))
    all_goals try (have hr := Lib.hid (KRk.out (by omega)))
    all_goals first | (have hx := Lib.hid (KE.out (by omega)); clear KE KF) | (have hx := Lib.hid (KF.out (by omega)); clear KE KF)
    all_goals
      go_wp2_with (first
        | (go_at_call 11; with_reducible refine (hx.out _ hB).mono ?_; first | (rintro e w3 ⟨A3, m3, c3, rfl, hb⟩; have hB := hB.trans (hb.mono hB.size); have hB := hB.trans ((Below.refl _ w3).alloc hB.size (.cells #[.slice A3 m3 c3, .int .i64 0] 29))) | (rintro e w3 ⟨A3, c3, rfl, hb⟩; have hB := hB.trans (hb.mono hB.size); have hB := hB.trans ((Below.refl _ w3).alloc hB.size (.cells #[.slice A3 0 c3, .int .i64 1] 29))))
        | (go_at_call 15; with_reducible refine (hd.out _ hB).mono ?_; rintro e w4 ⟨A4, c4, rfl, hb⟩; have hB := hB.trans (hb.mono hB.size))
        | (go_at_call 17; with_reducible refine (hr.out _ hB).mono ?_; rintro e w5 ⟨A5, c5, rfl, hb⟩; have hB := hB.trans (hb.mono hB.size))
        | (go_at_call 15; with_reducible refine (KD0.out hp _ hB).mono ?_; rintro e w4 ⟨A4, c4, rfl, hb⟩; have hB := hB.trans (hb.mono hB.size))
        | (go_at_call 17; with_reducible refine (KR0.out hp _ hB).mono ?_; rintro e w5 ⟨A5, c5, rfl, hb⟩; have hB := hB.trans (hb.mono hB.size))
        | (go_at_call 14; with_reducible refine (same_arg _ _ _ _ _).mono ?_; rintro e w6 ⟨rfl, hb⟩; have hB := hB.trans (hb.mono hB.size))
        | (go_at_call 19; with_reducible refine (KC.out hp _ hB).mono ?_; rintro e w7 ⟨rfl, hb⟩; have hB := hB.trans (hb.mono hB.size)))
      go_ret
      exact ⟨rfl, hB⟩
end Go.Proofs.Ytoodeoglpdapiaa
