/-
  A region that draws its order with three calls, three new variables and three stores: one predicate on the state and the world, for whatever order.
-/
import Derived.Test.YtoodeoglpdapiaaTb
import Derived.Deep.RegionHeldLaw
namespace Go.Proofs.Ytoodeoglpdapiaa
open Go.RowKit Gf
set_option maxHeartbeats 400000

section
variable {P : Program} {ops : Array Oper} {Q : Exit → Act → World → Prop} {md : Region.Mode} {S : World → Prop} {i : Nat} {o : Oper} {a : Act} {w w' : World} {K : Act → World → Prop}
theorem wpOp_val {v : Value} (ho : ops[i]? = some o) (hg : o.guard = none) (hr : (execOp a.eval o).run P w = .ok (.value v) w') (h : K (a.put o.dst v) w') : wpOp P ops Q i K a w := by
  have hw : Region.wanted o (yielded ops a.tmps) = true := by simp [Region.wanted, hg]
  unfold wpOp
  simp only [ho, hw, if_true]
  left
  unfold Oper.wp
  rw [hr]
  exact h
theorem wpOp_skip (ho : ops[i]? = some o) (hg : o.guard = none) (hr : (execOp a.eval o).run P w = .ok .skip w') (h : K (a.put o.dst undef) w') : wpOp P ops Q i K a w := by
  have hw : Region.wanted o (yielded ops a.tmps) = true := by simp [Region.wanted, hg]
  unfold wpOp
  simp only [ho, hw, if_true]
  left
  unfold Oper.wp
  rw [hr]
  exact h
theorem wpOp_call {f : FuncId} {args : Array Value} (ho : ops[i]? = some o) (hg : o.guard = none) (hr : (execOp a.eval o).run P w = .ok (.enter f args) w) (hc : Calls P f args w fun e w'' => ∃ v, e = .returned v ∧ K (a.put o.dst v) w'') : wpOp P ops Q i K a w := by
  have hw : Region.wanted o (yielded ops a.tmps) = true := by simp [Region.wanted, hg]
  unfold wpOp
  simp only [ho, hw, if_true]
  left
  unfold Oper.wp
  rw [hr]
  refine hc.mono ?_
  rintro e w'' ⟨v, rfl, h⟩
  exact h
/-- One predicate for all that may have come up: each operation that may come up next leads from one state to another. -/
theorem wpAnyH_inv {σ : Type} (L : σ → Array Bool) (m : σ → Nat) (R : σ → Act → World → Prop) (f : Nat)
    (step : ∀ s a w, R s a w → m s ≠ 0 → Region.ready md ops (L s) ≠ [] ∧ ∀ i ∈ Region.ready md ops (L s), ∃ s', (L s).setIfInBounds i true = L s' ∧ m s = m s' + 1 ∧ wpOp P ops Q i (fun a' w' => S w' ∧ R s' a' w') a w)
    (done : ∀ s a w, R s a w → m s = 0 → wpAnyH P md ops Q S f (L s) a w) :
    ∀ n s a w, m s = n → R s a w → wpAnyH P md ops Q S (f + n) (L s) a w := by
  intro n
  induction n with
  | zero => exact fun s a w hm hR => done s a w hR hm
  | succ n ih =>
    intro s a w hm hR
    obtain ⟨h0, h1⟩ := step s a w hR (by omega)
    refine ⟨fun h => absurd h h0, fun i hi => ?_⟩
    obtain ⟨s', e, hm', h⟩ := h1 i hi
    rw [e]
    exact wpOp_mono (fun a' w' hh => ⟨hh.1, ih s' a' w' (by omega) hh.2⟩) h
end

/-- A frame in which six slots hold what they hold. -/
def Six (a0 : Act) (v1 v2 v3 u1 u2 u3 : Value) : Act :=
  { a0 with tmps := (((((a0.tmps.setIfInBounds 50 v1).setIfInBounds 58 v2).setIfInBounds 64 v3).setIfInBounds 12 u1).setIfInBounds 13 u2).setIfInBounds 14 u3 }
section
variable (a0 : Act) (v1 v2 v3 u1 u2 u3 v : Value)
theorem six1 : (Six a0 v1 v2 v3 u1 u2 u3).put (some 50) v = Six a0 v v2 v3 u1 u2 u3 := by
  unfold Six Act.put
  simp only []
  rw [Array.setIfInBounds_comm _ _ (show (14 : Nat) ≠ 50 by decide), Array.setIfInBounds_comm _ _ (show (13 : Nat) ≠ 50 by decide), Array.setIfInBounds_comm _ _ (show (12 : Nat) ≠ 50 by decide), Array.setIfInBounds_comm _ _ (show (64 : Nat) ≠ 50 by decide), Array.setIfInBounds_comm _ _ (show (58 : Nat) ≠ 50 by decide), Array.setIfInBounds_setIfInBounds]
theorem six2 : (Six a0 v1 v2 v3 u1 u2 u3).put (some 58) v = Six a0 v1 v v3 u1 u2 u3 := by
  unfold Six Act.put
  simp only []
  rw [Array.setIfInBounds_comm _ _ (show (14 : Nat) ≠ 58 by decide), Array.setIfInBounds_comm _ _ (show (13 : Nat) ≠ 58 by decide), Array.setIfInBounds_comm _ _ (show (12 : Nat) ≠ 58 by decide), Array.setIfInBounds_comm _ _ (show (64 : Nat) ≠ 58 by decide), Array.setIfInBounds_setIfInBounds]
theorem six3 : (Six a0 v1 v2 v3 u1 u2 u3).put (some 64) v = Six a0 v1 v2 v u1 u2 u3 := by
  unfold Six Act.put
  simp only []
  rw [Array.setIfInBounds_comm _ _ (show (14 : Nat) ≠ 64 by decide), Array.setIfInBounds_comm _ _ (show (13 : Nat) ≠ 64 by decide), Array.setIfInBounds_comm _ _ (show (12 : Nat) ≠ 64 by decide), Array.setIfInBounds_setIfInBounds]
theorem six4 : (Six a0 v1 v2 v3 u1 u2 u3).put (some 12) v = Six a0 v1 v2 v3 v u2 u3 := by
  unfold Six Act.put
  simp only []
  rw [Array.setIfInBounds_comm _ _ (show (14 : Nat) ≠ 12 by decide), Array.setIfInBounds_comm _ _ (show (13 : Nat) ≠ 12 by decide), Array.setIfInBounds_setIfInBounds]
theorem six5 : (Six a0 v1 v2 v3 u1 u2 u3).put (some 13) v = Six a0 v1 v2 v3 u1 v u3 := by
  unfold Six Act.put
  simp only []
  rw [Array.setIfInBounds_comm _ _ (show (14 : Nat) ≠ 13 by decide), Array.setIfInBounds_setIfInBounds]
theorem six6 : (Six a0 v1 v2 v3 u1 u2 u3).put (some 14) v = Six a0 v1 v2 v3 u1 u2 v := by
  unfold Six Act.put
  simp only []
  rw [Array.setIfInBounds_setIfInBounds]
theorem six_get {t : Nat} (h : t ∉ [50, 58, 64, 12, 13, 14]) : (Six a0 v1 v2 v3 u1 u2 u3).tmps[t]? = a0.tmps[t]? := by
  simp only [List.mem_cons, List.not_mem_nil, or_false, not_or] at h
  obtain ⟨h1, h2, h3, h4, h5, h6⟩ := h
  unfold Six
  simp only []
  rw [Array.getElem?_setIfInBounds_ne (fun e => h6 e.symm), Array.getElem?_setIfInBounds_ne (fun e => h5 e.symm), Array.getElem?_setIfInBounds_ne (fun e => h4 e.symm), Array.getElem?_setIfInBounds_ne (fun e => h3 e.symm), Array.getElem?_setIfInBounds_ne (fun e => h2 e.symm), Array.getElem?_setIfInBounds_ne (fun e => h1 e.symm)]
theorem six_own (hz : 64 < a0.tmps.size) : (Six a0 v1 v2 v3 u1 u2 u3).tmps[50]? = some v1 ∧ (Six a0 v1 v2 v3 u1 u2 u3).tmps[58]? = some v2 ∧ (Six a0 v1 v2 v3 u1 u2 u3).tmps[64]? = some v3 ∧ (Six a0 v1 v2 v3 u1 u2 u3).tmps[12]? = some u1 ∧ (Six a0 v1 v2 v3 u1 u2 u3).tmps[13]? = some u2 ∧ (Six a0 v1 v2 v3 u1 u2 u3).tmps[14]? = some u3 := by
  unfold Six
  simp only [Array.getElem?_setIfInBounds]
  refine ⟨?_, ?_, ?_, ?_, ?_, ?_⟩ <;> simp <;> omega
end
theorem eval_at {a : Act} {t : Nat} {v : Value} (h : a.tmps[t]? = some v) : a.eval (.tmp t) = v := by
  simp [Act.eval, h]
theorem run_alloc_op (a : Act) {o : Oper} (ho : o.op = .alloc 29) (w : World) : (execOp a.eval o).run Try.prog w = .ok (.value (.pointer (some ⟨w.heap.size, 0, none⟩))) (w.alloc (.cells #[.slice none 0 0, .int .i64 0] 29)) := by
  simp only [execOp, ho]
  go_simp
theorem run_call_op (a : Act) {o : Oper} {x y z : Nat} {T : Array TypeId} {vx vy vz : Value} (ho : o.op = .call { callee := .value (.func 11), args := #[.tmp x, .tmp y, .tmp z], argTypes := T }) (hx : a.tmps[x]? = some vx) (hy : a.tmps[y]? = some vy) (hz : a.tmps[z]? = some vz) (w : World) : (execOp a.eval o).run Try.prog w = .ok (.enter 11 #[vx, vy, vz]) w := by
  simp only [execOp, ho]
  go_simp
theorem run_store_op (a : Act) {o : Oper} {x y : Nat} {p : Nat} {A : Option Addr} {n c : Nat} {e : Int} {v0 u0 : Value} {w : World} (ho : o.op = .store 29 (.tmp x) (.tmp y)) (hx : a.tmps[x]? = some (.pointer (some ⟨p, 0, none⟩))) (hy : a.tmps[y]? = some (.agg #[.slice A n c, .int .i64 e])) (h : w.heap[p]? = some (.cells #[v0, u0] 29 (0, 0))) : (execOp a.eval o).run Try.prog w = .ok .skip ((w.setCell ⟨p, 0, none⟩ (.slice A n c)).setCell ⟨p, 1, none⟩ (.int .i64 e)) := by
  have c0 : w.cell? ⟨p, 0, none⟩ = some v0 := cell_of_row w p 0 _ _ _ h
  have c1 : w.cell? ⟨p, 1, none⟩ = some u0 := cell_of_row w p 1 _ _ _ h
  have f0 := frozen_of_row w p 0 _ _ h
  have f1 := frozen_of_row w p 1 _ _ h
  simp only [execOp, ho]
  go_simp
/-- The variable that a block is: two cells. -/
def Box (lo : Nat) (p : Nat) (W : World) : Prop := lo ≤ p ∧ ∃ v u, W.heap[p]? = some (.cells #[v, u] 29 (0, 0))
theorem Box.lt {lo p : Nat} {W : World} (h : Box lo p W) : p < W.heap.size := by
  obtain ⟨_, v, u, h⟩ := h
  exact (Array.getElem?_eq_some_iff.1 h).1
theorem Box.below {lo p : Nat} {W W' : World} (h : Box lo p W) (hb : Below W.heap.size W W') : Box lo p W' := by
  have := h.lt
  obtain ⟨h0, v, u, h⟩ := h
  exact ⟨h0, v, u, (hb.block p this).trans h⟩
theorem Box.new {lo : Nat} (W : World) (h : lo ≤ W.heap.size) : Box lo W.heap.size (W.alloc (.cells #[.slice none 0 0, .int .i64 0] 29)) := ⟨h, _, _, heap_alloc_new W _⟩
/-- The shards that a call gave lie in none of these blocks. -/
def Apart3 (x y z : Bool) (p q r : Nat) (b : Nat) : Prop := (x = true → b ≠ p) ∧ (y = true → b ≠ q) ∧ (z = true → b ≠ r)
def Gave (ok : Nat → Prop) (n : Nat) (E : List (List UInt8)) (v : Value) (W : World) : Prop := ∃ A c, v = .agg #[.slice A n c, .int .i64 0] ∧ Sll ok ok W A n c E
theorem Gave.below {ok : Nat → Prop} {n : Nat} {E : List (List UInt8)} {v : Value} {W W' : World} (h : Gave ok n E v W) (hb : Below W.heap.size W W') : Gave ok n E v W' := by
  obtain ⟨A, c, h1, h2⟩ := h
  exact ⟨A, c, h1, h2.below hb⟩
theorem Gave.mono {ok ok' : Nat → Prop} {n : Nat} {E : List (List UInt8)} {v : Value} {W : World} (h : Gave ok n E v W) (hk : ∀ b, b < W.heap.size → ok b → ok' b) : Gave ok' n E v W := by
  obtain ⟨A, c, h1, h2⟩ := h
  exact ⟨A, c, h1, h2.mono hk hk⟩
/-- What a call of encode gives, from the world w9 on. -/
abbrev Enc9 (w9 : World) (va : Value) (k n : Nat) (E : List (List UInt8)) : Prop := ∀ W, Below w9.heap.size w9 W → Calls Try.prog 11 #[va, .int .i64 k, .int .i64 n] W fun e w' => ∃ v, e = .returned v ∧ Gave (Or' (· < w9.heap.size) W) n E v w' ∧ Below W.heap.size W w'
structure St9 where
  c : Nat
  x : Bool
  y : Bool
  z : Bool
def St9.L (s : St9) : Array Bool := #[true, true, true, true, true, true, true, decide (1 ≤ s.c), true, true, true, true, true, true, true, decide (2 ≤ s.c), true, true, true, true, true, decide (3 ≤ s.c), s.x, s.y, s.z, false, false, false]
def St9.m (s : St9) : Nat := (3 - s.c) + (if s.x then 0 else 1) + (if s.y then 0 else 1) + (if s.z then 0 else 1)
structure Good9 (w9 : World) (n : Nat) (E1 E2 E3 : List (List UInt8)) (s : St9) (p q r : Nat) (v1 v2 v3 u1 u2 u3 : Value) (w : World) : Prop where
  le : s.c ≤ 3
  bel : Below w9.heap.size w9 w
  g1 : 1 ≤ s.c → Gave (Apart3 s.x s.y s.z p q r) n E1 v1 w
  g2 : 2 ≤ s.c → Gave (Apart3 s.x s.y s.z p q r) n E2 v2 w
  g3 : 3 ≤ s.c → Gave (Apart3 s.x s.y s.z p q r) n E3 v3 w
  bx : s.x = true → u1 = .pointer (some ⟨p, 0, none⟩) ∧ Box w9.heap.size p w
  by_ : s.y = true → u2 = .pointer (some ⟨q, 0, none⟩) ∧ Box w9.heap.size q w
  bz : s.z = true → u3 = .pointer (some ⟨r, 0, none⟩) ∧ Box w9.heap.size r w
  nxy : s.x = true → s.y = true → p ≠ q
  nxz : s.x = true → s.z = true → p ≠ r
  nyz : s.y = true → s.z = true → q ≠ r
def R9 (w9 : World) (n : Nat) (E1 E2 E3 : List (List UInt8)) (a0 : Act) (s : St9) (a : Act) (w : World) : Prop := ∃ v1 v2 v3 u1 u2 u3 p q r, a = Six a0 v1 v2 v3 u1 u2 u3 ∧ Good9 w9 n E1 E2 E3 s p q r v1 v2 v3 u1 u2 u3 w
section
variable {w9 : World} {n : Nat} {E1 E2 E3 : List (List UInt8)} {s : St9} {p q r : Nat} {v1 v2 v3 u1 u2 u3 v : Value} {w w' : World}
/-- Behind a call. -/
theorem or_apart (h : Good9 w9 n E1 E2 E3 s p q r v1 v2 v3 u1 u2 u3 w) {b : Nat} (hb : Or' (· < w9.heap.size) w b) : Apart3 s.x s.y s.z p q r b := by
  have key : ∀ t, Box w9.heap.size t w → b ≠ t := fun t ht e => by
    subst e
    rcases hb with hb | hb
    · exact Nat.lt_irrefl _ (Nat.lt_of_lt_of_le hb ht.1)
    · exact Nat.lt_irrefl _ (Nat.lt_of_lt_of_le ht.lt hb)
  exact ⟨fun e => key p (h.bx e).2, fun e => key q (h.by_ e).2, fun e => key r (h.bz e).2⟩
theorem Good9.call1 (h : Good9 w9 n E1 E2 E3 s p q r v1 v2 v3 u1 u2 u3 w) (hg : Gave (Or' (· < w9.heap.size) w) n E1 v w') (hb : Below w.heap.size w w') : Good9 w9 n E1 E2 E3 { s with c := 1 } p q r v v2 v3 u1 u2 u3 w' :=
  ⟨(show (1 : Nat) ≤ 3 by decide), h.bel.trans (hb.mono h.bel.size), fun _ => hg.mono fun b _ hb' => or_apart h hb', fun h2 => absurd (show (2 : Nat) ≤ 1 from h2) (by decide), fun h2 => absurd (show (3 : Nat) ≤ 1 from h2) (by decide), fun e => ⟨(h.bx e).1, (h.bx e).2.below hb⟩, fun e => ⟨(h.by_ e).1, (h.by_ e).2.below hb⟩, fun e => ⟨(h.bz e).1, (h.bz e).2.below hb⟩, h.nxy, h.nxz, h.nyz⟩
theorem Good9.call2 (h : Good9 w9 n E1 E2 E3 s p q r v1 v2 v3 u1 u2 u3 w) (hc : s.c = 1) (hg : Gave (Or' (· < w9.heap.size) w) n E2 v w') (hb : Below w.heap.size w w') : Good9 w9 n E1 E2 E3 { s with c := 2 } p q r v1 v v3 u1 u2 u3 w' :=
  ⟨(show (2 : Nat) ≤ 3 by decide), h.bel.trans (hb.mono h.bel.size), fun _ => (h.g1 (by omega)).below hb, fun _ => hg.mono fun b _ hb' => or_apart h hb', fun h2 => absurd (show (3 : Nat) ≤ 2 from h2) (by decide), fun e => ⟨(h.bx e).1, (h.bx e).2.below hb⟩, fun e => ⟨(h.by_ e).1, (h.by_ e).2.below hb⟩, fun e => ⟨(h.bz e).1, (h.bz e).2.below hb⟩, h.nxy, h.nxz, h.nyz⟩
theorem Good9.call3 (h : Good9 w9 n E1 E2 E3 s p q r v1 v2 v3 u1 u2 u3 w) (hc : s.c = 2) (hg : Gave (Or' (· < w9.heap.size) w) n E3 v w') (hb : Below w.heap.size w w') : Good9 w9 n E1 E2 E3 { s with c := 3 } p q r v1 v2 v u1 u2 u3 w' :=
  ⟨(show (3 : Nat) ≤ 3 by decide), h.bel.trans (hb.mono h.bel.size), fun _ => (h.g1 (by omega)).below hb, fun _ => (h.g2 (by omega)).below hb, fun _ => hg.mono fun b _ hb' => or_apart h hb', fun e => ⟨(h.bx e).1, (h.bx e).2.below hb⟩, fun e => ⟨(h.by_ e).1, (h.by_ e).2.below hb⟩, fun e => ⟨(h.bz e).1, (h.bz e).2.below hb⟩, h.nxy, h.nxz, h.nyz⟩
def newW (w : World) : World := w.alloc (.cells #[.slice none 0 0, .int .i64 0] 29)
theorem new_below (w : World) : Below w.heap.size w (newW w) := (Below.refl _ w).alloc (Nat.le_refl _) _
theorem Good9.new1 (h : Good9 w9 n E1 E2 E3 s p q r v1 v2 v3 u1 u2 u3 w) : Good9 w9 n E1 E2 E3 { s with x := true } w.heap.size q r v1 v2 v3 (.pointer (some ⟨w.heap.size, 0, none⟩)) u2 u3 (newW w) := by
  have ap : ∀ b, b < w.heap.size → Apart3 s.x s.y s.z p q r b → Apart3 true s.y s.z w.heap.size q r b := fun b hb h' => ⟨fun _ => Nat.ne_of_lt hb, h'.2.1, h'.2.2⟩
  exact ⟨h.le, h.bel.trans ((new_below w).mono h.bel.size), fun e => ((h.g1 e).mono ap).below (new_below w), fun e => ((h.g2 e).mono ap).below (new_below w), fun e => ((h.g3 e).mono ap).below (new_below w), fun _ => ⟨rfl, Box.new w h.bel.size⟩, fun e => ⟨(h.by_ e).1, (h.by_ e).2.below (new_below w)⟩, fun e => ⟨(h.bz e).1, (h.bz e).2.below (new_below w)⟩, fun _ e => Nat.ne_of_gt (h.by_ e).2.lt, fun _ e => Nat.ne_of_gt (h.bz e).2.lt, h.nyz⟩
theorem Good9.new2 (h : Good9 w9 n E1 E2 E3 s p q r v1 v2 v3 u1 u2 u3 w) : Good9 w9 n E1 E2 E3 { s with y := true } p w.heap.size r v1 v2 v3 u1 (.pointer (some ⟨w.heap.size, 0, none⟩)) u3 (newW w) := by
  have ap : ∀ b, b < w.heap.size → Apart3 s.x s.y s.z p q r b → Apart3 s.x true s.z p w.heap.size r b := fun b hb h' => ⟨h'.1, fun _ => Nat.ne_of_lt hb, h'.2.2⟩
  exact ⟨h.le, h.bel.trans ((new_below w).mono h.bel.size), fun e => ((h.g1 e).mono ap).below (new_below w), fun e => ((h.g2 e).mono ap).below (new_below w), fun e => ((h.g3 e).mono ap).below (new_below w), fun e => ⟨(h.bx e).1, (h.bx e).2.below (new_below w)⟩, fun _ => ⟨rfl, Box.new w h.bel.size⟩, fun e => ⟨(h.bz e).1, (h.bz e).2.below (new_below w)⟩, fun e _ => Nat.ne_of_lt (h.bx e).2.lt, h.nxz, fun _ e => Nat.ne_of_gt (h.bz e).2.lt⟩
theorem Good9.new3 (h : Good9 w9 n E1 E2 E3 s p q r v1 v2 v3 u1 u2 u3 w) : Good9 w9 n E1 E2 E3 { s with z := true } p q w.heap.size v1 v2 v3 u1 u2 (.pointer (some ⟨w.heap.size, 0, none⟩)) (newW w) := by
  have ap : ∀ b, b < w.heap.size → Apart3 s.x s.y s.z p q r b → Apart3 s.x s.y true p q w.heap.size b := fun b hb h' => ⟨h'.1, h'.2.1, fun _ => Nat.ne_of_lt hb⟩
  exact ⟨h.le, h.bel.trans ((new_below w).mono h.bel.size), fun e => ((h.g1 e).mono ap).below (new_below w), fun e => ((h.g2 e).mono ap).below (new_below w), fun e => ((h.g3 e).mono ap).below (new_below w), fun e => ⟨(h.bx e).1, (h.bx e).2.below (new_below w)⟩, fun e => ⟨(h.by_ e).1, (h.by_ e).2.below (new_below w)⟩, fun _ => ⟨rfl, Box.new w h.bel.size⟩, h.nxy, fun e _ => Nat.ne_of_lt (h.bx e).2.lt, fun e _ => Nat.ne_of_lt (h.by_ e).2.lt⟩
end
def St9.rd (s : St9) : List Nat := (if s.c = 0 then [7] else if s.c = 1 then [15] else if s.c = 2 then [21] else []) ++ (if s.x = true then [] else [22]) ++ (if s.y = true then [] else [23]) ++ (if s.z = true then [] else [24])
def Full (p : Nat) (v u : Value) (W : World) : Prop := W.heap[p]? = some (.cells #[v, u] 29 (0, 0))
theorem Box.store {lo p : Nat} {W : World} (h : Box lo p W) (v u : Value) : Full p v u ((W.setCell ⟨p, 0, none⟩ v).setCell ⟨p, 1, none⟩ u) := by
  obtain ⟨_, v0, u0, h⟩ := h
  have h1 := heap_setCell_same W p 0 _ _ v h
  exact heap_setCell_same _ p 1 _ _ u h1
theorem Box.far {lo p q : Nat} {W : World} (h : Box lo q W) (hne : q ≠ p) (v u : Value) : Box lo q ((W.setCell ⟨p, 0, none⟩ v).setCell ⟨p, 1, none⟩ u) := by
  obtain ⟨h0, v0, u0, h⟩ := h
  exact ⟨h0, v0, u0, (heap_setCell_other _ ⟨p, 1, none⟩ q u hne).trans ((heap_setCell_other _ ⟨p, 0, none⟩ q v hne).trans h)⟩
theorem Full.far {p q : Nat} {v1 u1 : Value} {W : World} (h : Full q v1 u1 W) (hne : q ≠ p) (v u : Value) : Full q v1 u1 ((W.setCell ⟨p, 0, none⟩ v).setCell ⟨p, 1, none⟩ u) :=
  (heap_setCell_other _ ⟨p, 1, none⟩ q u hne).trans ((heap_setCell_other _ ⟨p, 0, none⟩ q v hne).trans h)
theorem Full.cells {p : Nat} {v u : Value} {W : World} (h : Full p v u W) : W.cell? ⟨p, 0, none⟩ = some v ∧ W.cell? ⟨p, 1, none⟩ = some u := ⟨cell_of_row W p 0 _ _ _ h, cell_of_row W p 1 _ _ _ h⟩
structure Post9 (w9 : World) (n : Nat) (E1 E2 E3 : List (List UInt8)) (A1 A2 A3 : Option Addr) (c1 c2 c3 p q r : Nat) (W : World) : Prop where
  bel : Below w9.heap.size w9 W
  f1 : Full p (.slice A1 n c1) (.int .i64 0) W
  f2 : Full q (.slice A2 n c2) (.int .i64 0) W
  f3 : Full r (.slice A3 n c3) (.int .i64 0) W
  s1 : Sll (fun _ => True) (fun _ => True) W A1 n c1 E1
  s2 : Sll (fun _ => True) (fun _ => True) W A2 n c2 E2
  s3 : Sll (fun _ => True) (fun _ => True) W A3 n c3 E3
/-- What an operation of the region is. -/
abbrev OpIs (ops : Array Oper) (i : Nat) (d : Option Nat) (x : Op) : Prop := (ops[i]?).map (fun o => (o.guard, o.dst, o.op)) = some (none, d, x)
theorem OpIs.out {ops : Array Oper} {i : Nat} {d : Option Nat} {x : Op} (h : OpIs ops i d x) : ∃ o, ops[i]? = some o ∧ o.guard = none ∧ o.dst = d ∧ o.op = x := by
  cases ho : ops[i]? with
  | none => simp [OpIs, ho] at h
  | some o =>
    simp only [OpIs, ho, Option.map_some, Option.some.injEq, Prod.mk.injEq] at h
    exact ⟨o, rfl, h.1, h.2.1, h.2.2⟩
abbrev IsCall (ops : Array Oper) (i d x y z : Nat) : Prop := OpIs ops i (some d) (.call { callee := .value (.func 11), args := #[.tmp x, .tmp y, .tmp z], argTypes := #[22, 3, 3] })
abbrev IsNew (ops : Array Oper) (i d : Nat) : Prop := OpIs ops i (some d) (.alloc 29)
abbrev IsPut (ops : Array Oper) (i x y : Nat) : Prop := OpIs ops i none (.store 29 (.tmp x) (.tmp y))
theorem Sll.put2 {ok : Nat → Prop} {W : World} {A : Option Addr} {n c p : Nat} {ls : List (List UInt8)} (h : Sll ok ok W A n c ls) (hp : ¬ ok p) (v u : Value) : Sll ok ok ((W.setCell ⟨p, 0, none⟩ v).setCell ⟨p, 1, none⟩ u) A n c ls :=
  (h.set (p := ⟨p, 0, none⟩) hp hp v).set (p := ⟨p, 1, none⟩) hp hp u
theorem bel_put2 {w W : World} {p : Nat} (h : Below w.heap.size w W) (hp : w.heap.size ≤ p) (v u : Value) : Below w.heap.size w ((W.setCell ⟨p, 0, none⟩ v).setCell ⟨p, 1, none⟩ u) :=
  (h.setCell (p := ⟨p, 0, none⟩) hp v).setCell (p := ⟨p, 1, none⟩) hp u
set_option maxHeartbeats 2000000 in
theorem region9 {listed : Array Bool} (hl : listed = St9.L ⟨0, false, false, false⟩) {ops : Array Oper} {Q : Exit → Act → World → Prop} {S : World → Prop} {w9 w : World} {a0 : Act} {k n : Nat} {E1 E2 E3 : List (List UInt8)} {va vb vs : Value} (hS : ∀ W, Below w9.heap.size w9 W → S W)
    (hE1 : Enc9 w9 va k n E1) (hE2 : Enc9 w9 vb k n E2) (hE3 : Enc9 w9 vs k n E3) (hz0 : a0.tmps.size = 173)
    (o7 : IsCall ops 7 50 45 47 49) (o15 : IsCall ops 15 58 53 55 57) (o21 : IsCall ops 21 64 59 61 63) (o22 : IsNew ops 22 12) (o23 : IsNew ops 23 13) (o24 : IsNew ops 24 14) (o25 : IsPut ops 25 12 50) (o26 : IsPut ops 26 13 58) (o27 : IsPut ops 27 14 64)
    (e45 : a0.tmps[45]? = some va) (e47 : a0.tmps[47]? = some (.int .i64 k)) (e49 : a0.tmps[49]? = some (.int .i64 n)) (e53 : a0.tmps[53]? = some vb) (e55 : a0.tmps[55]? = some (.int .i64 k)) (e57 : a0.tmps[57]? = some (.int .i64 n)) (e59 : a0.tmps[59]? = some vs) (e61 : a0.tmps[61]? = some (.int .i64 k)) (e63 : a0.tmps[63]? = some (.int .i64 n))
    (hr : ∀ s : St9, s.c ≤ 3 → s.m ≠ 0 → Region.ready .any ops s.L = s.rd)
    (h25 : Region.ready .any ops (St9.L ⟨3, true, true, true⟩) = [25]) (h26 : Region.ready .any ops ((St9.L ⟨3, true, true, true⟩).setIfInBounds 25 true) = [26]) (h27 : Region.ready .any ops (((St9.L ⟨3, true, true, true⟩).setIfInBounds 25 true).setIfInBounds 26 true) = [27]) (h28 : Region.ready .any ops ((((St9.L ⟨3, true, true, true⟩).setIfInBounds 25 true).setIfInBounds 26 true).setIfInBounds 27 true) = [])
    (h0 : Six a0 undef undef undef undef undef undef = a0) (hw : Below w9.heap.size w9 w)
    (hQ : ∀ A1 c1 A2 c2 A3 c3 p q r W, Post9 w9 n E1 E2 E3 A1 A2 A3 c1 c2 c3 p q r W → Q .normal (Six a0 (.agg #[.slice A1 n c1, .int .i64 0]) (.agg #[.slice A2 n c2, .int .i64 0]) (.agg #[.slice A3 n c3, .int .i64 0]) (.pointer (some ⟨p, 0, none⟩)) (.pointer (some ⟨q, 0, none⟩)) (.pointer (some ⟨r, 0, none⟩))) W) :
    wpAnyH Try.prog .any ops Q S 9 listed a0 w := by
  subst hl
  have hz : 64 < a0.tmps.size := by omega
  refine wpAnyH_inv (σ := St9) St9.L St9.m (R9 w9 n E1 E2 E3 a0) 3 ?_ ?_ 6 ⟨0, false, false, false⟩ a0 w rfl ⟨undef, undef, undef, undef, undef, undef, 0, 0, 0, h0.symm, Nat.zero_le _, hw, fun h => absurd h (by decide), fun h => absurd h (by decide), fun h => absurd h (by decide), fun h => absurd h (by decide), fun h => absurd h (by decide), fun h => absurd h (by decide), fun h => absurd h (by decide), fun h => absurd h (by decide), fun h => absurd h (by decide)⟩
  · rintro s a w ⟨v1, v2, v3, u1, u2, u3, p, q, r, rfl, h⟩ hm
    rw [hr s h.le hm]
    have hle := h.le
    obtain ⟨c, x, y, z⟩ := s
    refine ⟨?_, fun i hi => ?_⟩
    · intro e
      unfold St9.rd at e
      simp only [List.append_eq_nil_iff] at e
      obtain ⟨⟨⟨ec, ex⟩, ey⟩, ez⟩ := e
      refine hm ?_
      have hx : x = true := by cases x <;> simp_all
      have hy : y = true := by cases y <;> simp_all
      have hz : z = true := by cases z <;> simp_all
      have hc : c = 3 := by
        simp only [] at hle ec
        rcases (show c = 0 ∨ c = 1 ∨ c = 2 ∨ c = 3 by omega) with e | e | e | e <;> subst e <;> simp_all
      subst hx hy hz hc
      rfl
    · unfold St9.rd at hi
      simp only [List.mem_append] at hi
      rcases hi with ((hi | hi) | hi) | hi
      · simp only [] at hle
        rcases (show c = 0 ∨ c = 1 ∨ c = 2 ∨ c = 3 by omega) with e | e | e | e
        · subst e
          obtain rfl : i = 7 := by simpa using hi
          refine ⟨⟨1, x, y, z⟩, rfl, by cases x <;> cases y <;> cases z <;> rfl, ?_⟩
          obtain ⟨o, ho, hg, hd, hop⟩ := OpIs.out o7
          refine wpOp_call ho hg (run_call_op _ hop ((six_get _ _ _ _ _ _ _ (by decide)).trans e45) ((six_get _ _ _ _ _ _ _ (by decide)).trans e47) ((six_get _ _ _ _ _ _ _ (by decide)).trans e49) w) ((hE1 w h.bel).mono ?_)
          rintro e w' ⟨v, rfl, hgv, hb⟩
          refine ⟨v, rfl, hS _ (h.bel.trans (hb.mono h.bel.size)), ?_⟩
          rw [hd, six1]
          exact ⟨_, _, _, _, _, _, _, _, _, rfl, h.call1 hgv hb⟩
        · subst e
          obtain rfl : i = 15 := by simpa using hi
          refine ⟨⟨2, x, y, z⟩, rfl, by cases x <;> cases y <;> cases z <;> rfl, ?_⟩
          obtain ⟨o, ho, hg, hd, hop⟩ := OpIs.out o15
          refine wpOp_call ho hg (run_call_op _ hop ((six_get _ _ _ _ _ _ _ (by decide)).trans e53) ((six_get _ _ _ _ _ _ _ (by decide)).trans e55) ((six_get _ _ _ _ _ _ _ (by decide)).trans e57) w) ((hE2 w h.bel).mono ?_)
          rintro e w' ⟨v, rfl, hgv, hb⟩
          refine ⟨v, rfl, hS _ (h.bel.trans (hb.mono h.bel.size)), ?_⟩
          rw [hd, six2]
          exact ⟨_, _, _, _, _, _, _, _, _, rfl, h.call2 rfl hgv hb⟩
        · subst e
          obtain rfl : i = 21 := by simpa using hi
          refine ⟨⟨3, x, y, z⟩, rfl, by cases x <;> cases y <;> cases z <;> rfl, ?_⟩
          obtain ⟨o, ho, hg, hd, hop⟩ := OpIs.out o21
          refine wpOp_call ho hg (run_call_op _ hop ((six_get _ _ _ _ _ _ _ (by decide)).trans e59) ((six_get _ _ _ _ _ _ _ (by decide)).trans e61) ((six_get _ _ _ _ _ _ _ (by decide)).trans e63) w) ((hE3 w h.bel).mono ?_)
          rintro e w' ⟨v, rfl, hgv, hb⟩
          refine ⟨v, rfl, hS _ (h.bel.trans (hb.mono h.bel.size)), ?_⟩
          rw [hd, six3]
          exact ⟨_, _, _, _, _, _, _, _, _, rfl, h.call3 rfl hgv hb⟩
        · subst e
          simp at hi
      · cases x with
        | true => simp at hi
        | false =>
          obtain rfl : i = 22 := by simpa using hi
          refine ⟨⟨c, true, y, z⟩, by rfl, by unfold St9.m; simp only []; cases y <;> cases z <;> simp <;> omega, ?_⟩
          obtain ⟨o, ho, hg, hd, hop⟩ := OpIs.out o22
          have hn := h.new1
          refine wpOp_val ho hg (run_alloc_op _ hop w) ⟨hS _ hn.bel, ?_⟩
          rw [hd, six4]
          exact ⟨_, _, _, _, _, _, _, _, _, rfl, hn⟩
      · cases y with
        | true => simp at hi
        | false =>
          obtain rfl : i = 23 := by simpa using hi
          refine ⟨⟨c, x, true, z⟩, by rfl, by unfold St9.m; simp only []; cases x <;> cases z <;> simp <;> omega, ?_⟩
          obtain ⟨o, ho, hg, hd, hop⟩ := OpIs.out o23
          have hn := h.new2
          refine wpOp_val ho hg (run_alloc_op _ hop w) ⟨hS _ hn.bel, ?_⟩
          rw [hd, six5]
          exact ⟨_, _, _, _, _, _, _, _, _, rfl, hn⟩
      · cases z with
        | true => simp at hi
        | false =>
          obtain rfl : i = 24 := by simpa using hi
          refine ⟨⟨c, x, y, true⟩, by rfl, by unfold St9.m; simp only []; cases x <;> cases y <;> simp <;> omega, ?_⟩
          obtain ⟨o, ho, hg, hd, hop⟩ := OpIs.out o24
          have hn := h.new3
          refine wpOp_val ho hg (run_alloc_op _ hop w) ⟨hS _ hn.bel, ?_⟩
          rw [hd, six6]
          exact ⟨_, _, _, _, _, _, _, _, _, rfl, hn⟩
  · rintro ⟨c, x, y, z⟩ a w ⟨v1, v2, v3, u1, u2, u3, p, q, r, rfl, h⟩ hm
    have hle := h.le
    unfold St9.m at hm
    simp only [] at hm hle
    have hx : x = true := by cases x <;> simp_all
    have hy : y = true := by cases y <;> simp_all
    have hzz : z = true := by cases z <;> simp_all
    subst hx hy hzz
    obtain rfl : c = 3 := by simp at hm; omega
    obtain ⟨A1, c1, rfl, S1⟩ := h.g1 (by decide)
    obtain ⟨A2, c2, rfl, S2⟩ := h.g2 (by decide)
    obtain ⟨A3, c3, rfl, S3⟩ := h.g3 (by decide)
    obtain ⟨rfl, B1⟩ := h.bx rfl
    obtain ⟨rfl, B2⟩ := h.by_ rfl
    obtain ⟨rfl, B3⟩ := h.bz rfl
    have n12 := h.nxy rfl rfl
    have n13 := h.nxz rfl rfl
    have n23 := h.nyz rfl rfl
    have hb := h.bel
    obtain ⟨k1, k2, k3, k4, k5, k6⟩ := six_own a0 (.agg #[.slice A1 n c1, .int .i64 0]) (.agg #[.slice A2 n c2, .int .i64 0]) (.agg #[.slice A3 n c3, .int .i64 0]) (.pointer (some ⟨p, 0, none⟩)) (.pointer (some ⟨q, 0, none⟩)) (.pointer (some ⟨r, 0, none⟩)) hz
    have ap1 : ¬ Apart3 true true true p q r p := fun e => e.1 rfl rfl
    have ap2 : ¬ Apart3 true true true p q r q := fun e => e.2.1 rfl rfl
    have ap3 : ¬ Apart3 true true true p q r r := fun e => e.2.2 rfl rfl
    refine wpAnyH_all h25 (by simp) (fun i hi => ?_)
    obtain rfl : i = 25 := by simpa using hi
    obtain ⟨o, ho, hg, hd, hop⟩ := OpIs.out o25
    obtain ⟨_, va0, ua0, hB1⟩ := id B1
    refine wpOp_skip ho hg (run_store_op _ hop k4 k1 hB1) ⟨hS _ (bel_put2 hb B1.1 _ _), ?_⟩
    rw [hd]
    show wpAnyH _ _ _ _ _ 2 _ (Six _ _ _ _ _ _ _) _
    have hb' := bel_put2 hb B1.1 (.slice A1 n c1) (.int .i64 0)
    have F1 := B1.store (.slice A1 n c1) (.int .i64 0)
    have B2' := B2.far (fun e => n12 e.symm) (.slice A1 n c1) (.int .i64 0)
    have B3' := B3.far (fun e => n13 e.symm) (.slice A1 n c1) (.int .i64 0)
    have S1' := S1.put2 ap1 (.slice A1 n c1) (.int .i64 0)
    have S2' := S2.put2 ap1 (.slice A1 n c1) (.int .i64 0)
    have S3' := S3.put2 ap1 (.slice A1 n c1) (.int .i64 0)
    generalize (w.setCell ⟨p, 0, none⟩ (.slice A1 n c1)).setCell ⟨p, 1, none⟩ (.int .i64 0) = wA at hb' F1 B2' B3' S1' S2' S3' ⊢
    clear hb B1 B2 B3 S1 S2 S3 hB1 h
    refine wpAnyH_all h26 (by simp) (fun i hi => ?_)
    obtain rfl : i = 26 := by simpa using hi
    obtain ⟨o, ho, hg, hd, hop⟩ := OpIs.out o26
    obtain ⟨_, va0, ua0, hB2⟩ := id B2'
    refine wpOp_skip ho hg (run_store_op _ hop k5 k2 hB2) ⟨hS _ (bel_put2 hb' B2'.1 _ _), ?_⟩
    rw [hd]
    show wpAnyH _ _ _ _ _ 1 _ (Six _ _ _ _ _ _ _) _
    have hb := bel_put2 hb' B2'.1 (.slice A2 n c2) (.int .i64 0)
    have G1 := F1.far n12 (.slice A2 n c2) (.int .i64 0)
    have G2 := B2'.store (.slice A2 n c2) (.int .i64 0)
    have B3 := B3'.far (fun e => n23 e.symm) (.slice A2 n c2) (.int .i64 0)
    have S1 := S1'.put2 ap2 (.slice A2 n c2) (.int .i64 0)
    have S2 := S2'.put2 ap2 (.slice A2 n c2) (.int .i64 0)
    have S3 := S3'.put2 ap2 (.slice A2 n c2) (.int .i64 0)
    generalize (wA.setCell ⟨q, 0, none⟩ (.slice A2 n c2)).setCell ⟨q, 1, none⟩ (.int .i64 0) = wB at hb G1 G2 B3 S1 S2 S3 ⊢
    clear hb' B2' B3' S1' S2' S3' hB2 F1
    refine wpAnyH_all h27 (by simp) (fun i hi => ?_)
    obtain rfl : i = 27 := by simpa using hi
    obtain ⟨o, ho, hg, hd, hop⟩ := OpIs.out o27
    obtain ⟨_, va0, ua0, hB3⟩ := id B3
    refine wpOp_skip ho hg (run_store_op _ hop k6 k3 hB3) ⟨hS _ (bel_put2 hb B3.1 _ _), ?_⟩
    rw [hd]
    show wpAnyH _ _ _ _ _ 0 _ (Six _ _ _ _ _ _ _) _
    refine wpAnyH_done h28 (hQ _ _ _ _ _ _ _ _ _ _ ⟨bel_put2 hb B3.1 _ _, G1.far n13 _ _, G2.far n23 _ _, B3.store _ _, ?_, ?_, ?_⟩) 0
    · exact ⟨S1.len, S1.cap, S1.max, S1.nil, (S1.put2 ap3 _ _).lists.mono (fun _ _ _ => trivial) (fun _ _ _ => trivial)⟩
    · exact ⟨S2.len, S2.cap, S2.max, S2.nil, (S2.put2 ap3 _ _).lists.mono (fun _ _ _ => trivial) (fun _ _ _ => trivial)⟩
    · exact ⟨S3.len, S3.cap, S3.max, S3.nil, (S3.put2 ap3 _ _).lists.mono (fun _ _ _ => trivial) (fun _ _ _ => trivial)⟩
theorem enc9 {Env : World → Prop} (P : Prg Env) {w9 : World} (hE : Env w9) {A : Option Addr} {nb cb k n : Nat} {b : List UInt8} (hA : Slb (· < w9.heap.size) w9 A nb cb b) (hl : nb ≤ 100) (h1 : 1 ≤ k) (h2 : k ≤ n) (h3 : n ≤ 12) : Enc9 w9 (.slice A nb cb) k n (encL b k n) := fun W hW =>
  (enc_yes P (· < w9.heap.size) A nb cb b k n W (P.env hE hW) (hA.below hW) hl h1 h2 h3).mono (by
    rintro e w' ⟨A', c', rfl, hS, hb⟩
    exact ⟨_, rfl, ⟨A', c', rfl, hS⟩, hb⟩)
end Go.Proofs.Ytoodeoglpdapiaa
