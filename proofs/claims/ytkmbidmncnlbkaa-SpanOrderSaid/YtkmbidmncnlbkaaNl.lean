/-
  What the laws ask of package span; the lists that a law holds in hand, and the contracts of all functions over them.
-/
import Derived.Test.YtkmbidmncnlbkaaNk
namespace Go.Proofs.Ytkmbidmncnlbkaa
open Go.RowKit Sn
set_option maxHeartbeats 400000
set_option maxRecDepth 100000

abbrev In64 (x : Int) : Prop := -9223372036854775808 ≤ x ∧ x ≤ 9223372036854775807
abbrev OkB (l : List S) : Prop := ∀ x ∈ bnds l, In64 x
abbrev In20 (l : List S) : Prop := ∀ x ∈ bnds l, -20 ≤ x ∧ x ≤ 20
/-- What the laws ask of the program. -/
structure PrgS (Env : World → Prop) : Prop where
  env : ∀ {W W' : World}, Env W → Below W.heap.size W W' → Env W'
  valid : ∀ (A : Option Addr) (n c : Nat) (l : List S) (W : World), Env W → Sl 0 W A n c l → n ≤ 100 → OkB l →
    Calls Try.prog 12 #[.slice A n c] W fun e w' => e = .returned (.bool (setB l)) ∧ Below W.heap.size W w'
  has : ∀ (A : Option Addr) (n c : Nat) (l : List S) (x : Int) (W : World), Env W → Sl 0 W A n c l → n ≤ 100 → OkB l → In64 x →
    Calls Try.prog 24 #[.slice A n c, .int .i64 x] W fun e w' => e = .returned (.bool (hasB l x)) ∧ Below W.heap.size W w'
  norm : ∀ (A : Option Addr) (n c : Nat) (l : List S) (W : World), Env W → Sl 0 W A n c l → n ≤ 100 → OkB l →
    Calls Try.prog 15 #[.slice A n c] W fun e w' => ∃ A' m c' out, e = .returned (.slice A' m c') ∧ Sl 0 w' A' m c' out ∧ IsNorm l out ∧ Below W.heap.size W w'
  union : ∀ (A A2 : Option Addr) (n n2 c c2 : Nat) (a b : List S) (W : World), Env W → Sl 0 W A n c a → Sl 0 W A2 n2 c2 b → n ≤ 100 → n2 ≤ 100 → OkB a → OkB b →
    Calls Try.prog 17 #[.slice A n c, .slice A2 n2 c2] W fun e w' => ∃ A' m c' out, e = .returned (.slice A' m c') ∧ Sl 0 w' A' m c' out ∧ IsOp (· || ·) a b out ∧ Below W.heap.size W w'
  meet : ∀ (A A2 : Option Addr) (n n2 c c2 : Nat) (a b : List S) (W : World), Env W → Sl 0 W A n c a → Sl 0 W A2 n2 c2 b → n ≤ 100 → n2 ≤ 100 → OkB a → OkB b →
    Calls Try.prog 19 #[.slice A n c, .slice A2 n2 c2] W fun e w' => ∃ A' m c' out, e = .returned (.slice A' m c') ∧ Sl 0 w' A' m c' out ∧ IsOp (· && ·) a b out ∧ Below W.heap.size W w'
  minus : ∀ (A A2 : Option Addr) (n n2 c c2 : Nat) (a b : List S) (W : World), Env W → Sl 0 W A n c a → Sl 0 W A2 n2 c2 b → n ≤ 100 → n2 ≤ 100 → OkB a → OkB b →
    Calls Try.prog 21 #[.slice A n c, .slice A2 n2 c2] W fun e w' => ∃ A' m c' out, e = .returned (.slice A' m c') ∧ Sl 0 w' A' m c' out ∧ IsOp (fun x y => x && !y) a b out ∧ Below W.heap.size W w'
  covers : ∀ (A : Option Addr) (n c : Nat) (l : List S) (s : S) (W : World), Env W → Sl 0 W A n c l → n ≤ 100 → OkB l → In64 s.lo → In64 s.hi →
    Calls Try.prog 26 #[.slice A n c, .agg #[.int .i64 s.lo, .int .i64 s.hi]] W fun e w' => e = .returned (.bool (coversB l s)) ∧ Below W.heap.size W w'
  total : ∀ (A : Option Addr) (n c : Nat) (l : List S) (W : World), Env W → Sl 0 W A n c l → n ≤ 100 → In20 l →
    Calls Try.prog 28 #[.slice A n c] W fun e w' => ∃ out, e = .returned (.int .i64 (totalS out)) ∧ IsNorm l out ∧ Below W.heap.size W w'
/-- A list that a law holds: where it lies, what it has, whether it is a set, whether its bounds are small, how long it may be. -/
structure Ent where
  A : Option Addr
  n : Nat
  c : Nat
  l : List S
  f : Int → Bool
  set : Bool
  lim : Bool
  b : Nat
structure Ent.ok (W : World) (e : Ent) : Prop where
  sl : Sl 0 W e.A e.n e.c e.l
  len : e.n ≤ e.b
  isset : e.set = true → setB e.l = true
  has : ∀ x, hasB e.l x = e.f x
  bnd : OkB e.l
  small : e.lim = true → In20 e.l
/-- What a law holds in hand. -/
structure Held (Env : World → Prop) (w0 W : World) (L : List Ent) : Prop where
  env : Env W
  low : Below w0.heap.size w0 W
  ok : ∀ e ∈ L, e.ok W
section
variable {Env : World → Prop} (P : PrgS Env) {w0 W W' : World} {L : List Ent}
include P
omit P in
theorem Held.start (h : Env w0) : Held Env w0 w0 [] := ⟨h, Below.refl _ _, fun _ h => by cases h⟩
theorem Held.step (K : Held Env w0 W L) (hb : Below W.heap.size W W') : Held Env w0 W' L :=
  ⟨P.env K.env hb, K.low.trans (hb.mono K.low.size), fun e he => { K.ok e he with sl := (K.ok e he).sl.below hb }⟩
omit P in
theorem Held.add (K : Held Env w0 W L) {e : Ent} (he : e.ok W) : Held Env w0 W (e :: L) :=
  ⟨K.env, K.low, fun x hx => by rcases List.mem_cons.1 hx with rfl | h; exact he; exact K.ok x h⟩
omit P in
theorem Held.pack (K : Held Env w0 W L) : ∃ L', L' = L ∧ Held Env w0 W L' := ⟨L, rfl, K⟩
omit P in
theorem op_bound {op : Bool → Bool → Bool} {a b out : List S} {Q : Int → Prop} (h : IsOp op a b out) (ha : ∀ x ∈ bnds a, Q x) (hb : ∀ x ∈ bnds b, Q x) : ∀ x ∈ bnds out, Q x := fun x hx => by
  have := h.bound hx
  rw [bnds_append] at this
  rcases List.mem_append.1 this with h | h
  · exact ha x h
  · exact hb x h
theorem held_op {F : FuncId} {args : Array Value} {op : Bool → Bool → Bool} (K : Held Env w0 W L) {x y : Ent} (hx : x ∈ L) (hy : y ∈ L) (hlen : ∀ out, IsOp op x.l y.l out → out.length ≤ x.l.length + y.l.length)
    (h : Calls Try.prog F args W fun e w' => ∃ A' m c' out, e = .returned (.slice A' m c') ∧ Sl 0 w' A' m c' out ∧ IsOp op x.l y.l out ∧ Below W.heap.size W w') :
    Calls Try.prog F args W fun e w' => ∃ A' m c' out, e = .returned (.slice A' m c') ∧ m ≤ x.b + y.b ∧ Held Env w0 w' (⟨A', m, c', out, fun t => op (x.f t) (y.f t), true, x.lim && y.lim, x.b + y.b⟩ :: L) :=
  h.mono fun e w' ⟨A', m, c', out, he, h1, h2, h3⟩ => by
    have l1 := h1.plen
    have l2 := (K.ok x hx).sl.plen
    have l3 := (K.ok y hy).sl.plen
    have l4 := (K.ok x hx).len
    have l5 := (K.ok y hy).len
    have l6 := hlen out h2
    have hm : m ≤ x.b + y.b := by omega
    refine ⟨A', m, c', out, he, hm, (K.step P h3).add ⟨h1, hm, fun _ => h2.1, fun t => ?_, op_bound h2 (K.ok x hx).bnd (K.ok y hy).bnd, fun hl => ?_⟩⟩
    · show hasB out t = op (x.f t) (y.f t)
      rw [h2.2, (K.ok x hx).has, (K.ok y hy).has]
    · have hl' : (x.lim && y.lim) = true := hl
      rw [Bool.and_eq_true] at hl'
      exact op_bound h2 ((K.ok x hx).small hl'.1) ((K.ok y hy).small hl'.2)
theorem held_norm {F : FuncId} {args : Array Value} (K : Held Env w0 W L) {x : Ent} (hx : x ∈ L)
    (h : Calls Try.prog F args W fun e w' => ∃ A' m c' out, e = .returned (.slice A' m c') ∧ Sl 0 w' A' m c' out ∧ IsNorm x.l out ∧ Below W.heap.size W w') :
    Calls Try.prog F args W fun e w' => ∃ A' m c' out, e = .returned (.slice A' m c') ∧ m ≤ x.n ∧ Held Env w0 w' (⟨A', m, c', out, x.f, true, x.lim, x.b⟩ :: L) :=
  h.mono fun e w' ⟨A', m, c', out, he, h1, h2, h3⟩ => by
    have l1 := h1.plen
    have l2 := (K.ok x hx).sl.plen
    have l4 := (K.ok x hx).len
    have l6 := norm_len h2
    have hm : m ≤ x.n := by omega
    refine ⟨A', m, c', out, he, hm, (K.step P h3).add ⟨h1, Nat.le_trans hm l4, fun _ => h2.1, fun t => ?_, op_bound h2.op (K.ok x hx).bnd (fun x hx => by cases hx), fun hl => op_bound h2.op ((K.ok x hx).small hl) (fun x hx => by cases hx)⟩⟩
    show hasB out t = x.f t
    rw [h2.2, (K.ok x hx).has]
end
section
variable {Env : World → Prop} (P : PrgS Env) {w0 W : World} {L : List Ent} {A A2 : Option Addr} {n n2 c c2 b b2 : Nat} {l l2 : List S} {f g : Int → Bool} {st st2 lim lim2 : Bool}
  (K : Held Env w0 W L) (hx : Ent.mk A n c l f st lim b ∈ L) (hb : decide (b ≤ 100) = true)
include P K hx hb
theorem p_union (hy : Ent.mk A2 n2 c2 l2 g st2 lim2 b2 ∈ L) (hb2 : decide (b2 ≤ 100) = true) :
    Calls Try.prog 17 #[.slice A n c, .slice A2 n2 c2] W fun e w' => ∃ A' m c' out, e = .returned (.slice A' m c') ∧ m ≤ b + b2 ∧ Held Env w0 w' (⟨A', m, c', out, fun t => f t || g t, true, lim && lim2, b + b2⟩ :: L) :=
  held_op P K hx hy (fun _ h => or_len h) (P.union A A2 n n2 c c2 l l2 W K.env (K.ok _ hx).sl (K.ok _ hy).sl (by have := (K.ok _ hx).len; have := of_decide_eq_true hb; simp only at *; omega) (by have := (K.ok _ hy).len; have := of_decide_eq_true hb2; simp only at *; omega) (K.ok _ hx).bnd (K.ok _ hy).bnd)
theorem r_union (hy : Ent.mk A2 n2 c2 l2 g st2 lim2 b2 ∈ L) (hb2 : decide (b2 ≤ 100) = true) :
    Calls Try.prog 18 #[.slice A n c, .slice A2 n2 c2] W fun e w' => ∃ A' m c' out, e = .returned (.slice A' m c') ∧ m ≤ b + b2 ∧ Held Env w0 w' (⟨A', m, c', out, fun t => f t || g t, true, lim && lim2, b + b2⟩ :: L) :=
  held_op P K hx hy (fun _ h => or_len h) (rUnion_any A A2 n n2 c c2 l l2 (by have := (K.ok _ hx).len; have := of_decide_eq_true hb; simp only at *; omega) (by have := (K.ok _ hy).len; have := of_decide_eq_true hb2; simp only at *; omega) W (K.ok _ hx).sl (K.ok _ hy).sl)
theorem p_meet (hy : Ent.mk A2 n2 c2 l2 g st2 lim2 b2 ∈ L) (hb2 : decide (b2 ≤ 100) = true) :
    Calls Try.prog 19 #[.slice A n c, .slice A2 n2 c2] W fun e w' => ∃ A' m c' out, e = .returned (.slice A' m c') ∧ m ≤ b + b2 ∧ Held Env w0 w' (⟨A', m, c', out, fun t => f t && g t, true, lim && lim2, b + b2⟩ :: L) :=
  held_op P K hx hy (fun _ h => and_len h) (P.meet A A2 n n2 c c2 l l2 W K.env (K.ok _ hx).sl (K.ok _ hy).sl (by have := (K.ok _ hx).len; have := of_decide_eq_true hb; simp only at *; omega) (by have := (K.ok _ hy).len; have := of_decide_eq_true hb2; simp only at *; omega) (K.ok _ hx).bnd (K.ok _ hy).bnd)
theorem r_meet (hy : Ent.mk A2 n2 c2 l2 g st2 lim2 b2 ∈ L) (hb2 : decide (b2 ≤ 100) = true) :
    Calls Try.prog 20 #[.slice A n c, .slice A2 n2 c2] W fun e w' => ∃ A' m c' out, e = .returned (.slice A' m c') ∧ m ≤ b + b2 ∧ Held Env w0 w' (⟨A', m, c', out, fun t => f t && g t, true, lim && lim2, b + b2⟩ :: L) :=
  held_op P K hx hy (fun _ h => and_len h) (rMeet_any A A2 n n2 c c2 l l2 (by have := (K.ok _ hx).len; have := of_decide_eq_true hb; simp only at *; omega) (by have := (K.ok _ hy).len; have := of_decide_eq_true hb2; simp only at *; omega) W (K.ok _ hx).sl (K.ok _ hy).sl)
theorem p_minus (hy : Ent.mk A2 n2 c2 l2 g st2 lim2 b2 ∈ L) (hb2 : decide (b2 ≤ 100) = true) :
    Calls Try.prog 21 #[.slice A n c, .slice A2 n2 c2] W fun e w' => ∃ A' m c' out, e = .returned (.slice A' m c') ∧ m ≤ b + b2 ∧ Held Env w0 w' (⟨A', m, c', out, fun t => f t && !g t, true, lim && lim2, b + b2⟩ :: L) :=
  held_op P K hx hy (fun _ h => sub_len h) (P.minus A A2 n n2 c c2 l l2 W K.env (K.ok _ hx).sl (K.ok _ hy).sl (by have := (K.ok _ hx).len; have := of_decide_eq_true hb; simp only at *; omega) (by have := (K.ok _ hy).len; have := of_decide_eq_true hb2; simp only at *; omega) (K.ok _ hx).bnd (K.ok _ hy).bnd)
theorem r_minus (hy : Ent.mk A2 n2 c2 l2 g st2 lim2 b2 ∈ L) (hb2 : decide (b2 ≤ 100) = true) :
    Calls Try.prog 22 #[.slice A n c, .slice A2 n2 c2] W fun e w' => ∃ A' m c' out, e = .returned (.slice A' m c') ∧ m ≤ b + b2 ∧ Held Env w0 w' (⟨A', m, c', out, fun t => f t && !g t, true, lim && lim2, b + b2⟩ :: L) :=
  held_op P K hx hy (fun _ h => sub_len h) (rMinus_any A A2 n n2 c c2 l l2 (by have := (K.ok _ hx).len; have := of_decide_eq_true hb; simp only at *; omega) (by have := (K.ok _ hy).len; have := of_decide_eq_true hb2; simp only at *; omega) W (K.ok _ hx).sl (K.ok _ hy).sl)
theorem p_norm : Calls Try.prog 15 #[.slice A n c] W fun e w' => ∃ A' m c' out, e = .returned (.slice A' m c') ∧ m ≤ n ∧ Held Env w0 w' (⟨A', m, c', out, f, true, lim, b⟩ :: L) :=
  held_norm P K hx (P.norm A n c l W K.env (K.ok _ hx).sl (by have := (K.ok _ hx).len; have := of_decide_eq_true hb; simp only at *; omega) (K.ok _ hx).bnd)
theorem p_valid (r : Bool) (hr : setB l = r) : Calls Try.prog 12 #[.slice A n c] W fun e w' => e = .returned (.bool r) ∧ Held Env w0 w' L :=
  (P.valid A n c l W K.env (K.ok _ hx).sl (by have := (K.ok _ hx).len; have := of_decide_eq_true hb; simp only at *; omega) (K.ok _ hx).bnd).mono fun e w' ⟨he, hb⟩ => ⟨he.trans (ret_bool hr), K.step P hb⟩
theorem p_set (hst : st = true) : Calls Try.prog 12 #[.slice A n c] W fun e w' => e = .returned (.bool true) ∧ Held Env w0 w' L :=
  p_valid P K hx hb true ((K.ok _ hx).isset hst)
theorem p_has (x : Int) (hx64 : In64 x) (r : Bool) (hr : f x = r) : Calls Try.prog 24 #[.slice A n c, .int .i64 x] W fun e w' => e = .returned (.bool r) ∧ Held Env w0 w' L :=
  ((P.has A n c l x W K.env (K.ok _ hx).sl (by have := (K.ok _ hx).len; have := of_decide_eq_true hb; simp only at *; omega) (K.ok _ hx).bnd hx64).mono fun e w' ⟨he, hb⟩ => ⟨he.trans (ret_bool (((K.ok _ hx).has x).trans hr)), K.step P hb⟩)
theorem p_covers (s : S) (h0 : In64 s.lo) (h1 : In64 s.hi) (r : Bool) (hr : coversB l s = r) : Calls Try.prog 26 #[.slice A n c, .agg #[.int .i64 s.lo, .int .i64 s.hi]] W fun e w' => e = .returned (.bool r) ∧ Held Env w0 w' L :=
  (P.covers A n c l s W K.env (K.ok _ hx).sl (by have := (K.ok _ hx).len; have := of_decide_eq_true hb; simp only at *; omega) (K.ok _ hx).bnd h0 h1).mono fun e w' ⟨he, hb⟩ => ⟨he.trans (ret_bool hr), K.step P hb⟩
theorem p_total (hlim : lim = true) (r : Int) (hr : cnt f 45 = r) : Calls Try.prog 28 #[.slice A n c] W fun e w' => e = .returned (.int .i64 r) ∧ Held Env w0 w' L :=
  (P.total A n c l W K.env (K.ok _ hx).sl (by have := (K.ok _ hx).len; have := of_decide_eq_true hb; simp only at *; omega) ((K.ok _ hx).small hlim)).mono fun e w' ⟨out, he, h1, hb⟩ => ⟨he.trans (ret_int (by
    rw [total_cnt h1.1 (fun s hs => by
      have b1 := op_bound h1.op ((K.ok _ hx).small hlim) (fun x hx => by cases hx) s.lo (bnds_mem.2 ⟨s, hs, .inl rfl⟩)
      have b2 := op_bound h1.op ((K.ok _ hx).small hlim) (fun x hx => by cases hx) s.hi (bnds_mem.2 ⟨s, hs, .inr rfl⟩)
      omega), ← hr]
    exact cnt_congr (fun x => by rw [h1.2, (K.ok _ hx).has]) 45)), K.step P hb⟩
theorem r_norm : Calls Try.prog 16 #[.slice A n c] W fun e w' => ∃ A' m c' out, e = .returned (.slice A' m c') ∧ m ≤ n ∧ Held Env w0 w' (⟨A', m, c', out, f, true, lim, b⟩ :: L) :=
  held_norm P K hx (rNorm_any A n c l (by have := (K.ok _ hx).len; have := of_decide_eq_true hb; simp only at *; omega) W (K.ok _ hx).sl)
theorem r_valid (r : Bool) (hr : setB l = r) : Calls Try.prog 13 #[.slice A n c] W fun e w' => e = .returned (.bool r) ∧ Held Env w0 w' L :=
  (Valid_any A n c l (K.ok _ hx).sl.plen (by have := (K.ok _ hx).len; have := of_decide_eq_true hb; simp only at *; omega) W (K.ok _ hx).sl.sps).mono fun e w' ⟨he, hb⟩ => ⟨he.trans (ret_bool hr), K.step P hb⟩
theorem r_set (hst : st = true) : Calls Try.prog 13 #[.slice A n c] W fun e w' => e = .returned (.bool true) ∧ Held Env w0 w' L :=
  r_valid P K hx hb true ((K.ok _ hx).isset hst)
omit P in
theorem r_has (x : Int) (r : Bool) (hr : f x = r) : Calls Try.prog 25 #[.slice A n c, .int .i64 x] W fun e w' => e = .returned (.bool r) ∧ Held Env w0 w' L :=
  ((Has_any A n c l x (K.ok _ hx).sl.plen (by have := (K.ok _ hx).len; have := of_decide_eq_true hb; simp only at *; omega) W (K.ok _ hx).sl.sps).mono fun e w' ⟨he, hw⟩ => ⟨he.trans (ret_bool (((K.ok _ hx).has x).trans hr)), by rw [hw]; exact K⟩)
theorem r_covers (s : S) (r : Bool) (hr : coversB l s = r) : Calls Try.prog 27 #[.slice A n c, .agg #[.int .i64 s.lo, .int .i64 s.hi]] W fun e w' => e = .returned (.bool r) ∧ Held Env w0 w' L :=
  (rCovers_any A n c l s (by have := (K.ok _ hx).len; have := of_decide_eq_true hb; simp only at *; omega) W (K.ok _ hx).sl).mono fun e w' ⟨he, hb⟩ => ⟨he.trans (ret_bool hr), K.step P hb⟩
theorem r_total (hlim : lim = true) (r : Int) (hr : cnt f 45 = r) : Calls Try.prog 29 #[.slice A n c] W fun e w' => e = .returned (.int .i64 r) ∧ Held Env w0 w' L :=
  (rTotal_any A n c l (by have := (K.ok _ hx).len; have := of_decide_eq_true hb; simp only at *; omega) (fun x hm => by have := (K.ok _ hx).small hlim x hm; omega) W (K.ok _ hx).sl).mono fun e w' ⟨out, he, h1, hb⟩ => ⟨he.trans (ret_int (by
    rw [total_cnt h1.1 (fun s hs => by
      have b1 := op_bound h1.op ((K.ok _ hx).small hlim) (fun x hx => by cases hx) s.lo (bnds_mem.2 ⟨s, hs, .inl rfl⟩)
      have b2 := op_bound h1.op ((K.ok _ hx).small hlim) (fun x hx => by cases hx) s.hi (bnds_mem.2 ⟨s, hs, .inr rfl⟩)
      omega), ← hr]
    exact cnt_congr (fun x => by rw [h1.2, (K.ok _ hx).has]) 45)), K.step P hb⟩
theorem r_same (hy : Ent.mk A2 n2 c2 l2 g st2 lim2 b2 ∈ L) (hb2 : decide (b2 ≤ 100) = true) (h1 : st = true) (h2 : st2 = true) (h : ∀ t, f t = g t) :
    Calls Try.prog 14 #[.slice A n c, .slice A2 n2 c2] W fun e w' => e = .returned (.bool true) ∧ Held Env w0 w' L :=
  (Same_any A A2 n n2 c c2 l l2 (K.ok _ hx).sl.plen (K.ok _ hy).sl.plen (by have := (K.ok _ hx).len; have := of_decide_eq_true hb; simp only at *; omega) (by have := (K.ok _ hy).len; have := of_decide_eq_true hb2; simp only at *; omega) W (K.ok _ hx).sl.sps (K.ok _ hy).sl.sps).mono fun e w' ⟨he, hb⟩ =>
    ⟨he.trans (ret_bool (decide_eq_true (set_same ((K.ok _ hx).isset h1) ((K.ok _ hy).isset h2) fun t => by rw [(K.ok _ hx).has, (K.ok _ hy).has]; exact h t))), K.step P hb⟩
omit hb in
theorem l_small (h16 : decide (b ≤ 16) = true) (h1 : lim = true) :
    Calls Try.prog 30 #[.slice A n c] W fun e w' => e = .returned (.bool true) ∧ Held Env w0 w' L :=
  (small_any A n c l (by have := (K.ok _ hx).len; have := of_decide_eq_true h16; simp only at *; omega) ((K.ok _ hx).small h1) W (K.ok _ hx).sl).mono fun e w' ⟨he, hb⟩ => ⟨he, K.step P hb⟩
end
section
variable {Env : World → Prop} (P : PrgS Env) {w0 W : World} {L : List Ent} (K : Held Env w0 W L)
include P K
theorem l_short {A : Option Addr} {n c : Nat} {l : List S} (hA : Sl 0 w0 A n c l) (hok : OkB l) :
    Calls Try.prog 11 #[.slice A n c] W fun e w' => ∃ A' m c', e = .returned (.slice A' m c') ∧ m ≤ 12 ∧ Held Env w0 w' (⟨A', m, c', l.take 12, fun t => hasB (l.take 12) t, false, false, 12⟩ :: L) :=
  (short_any A n c l W (hA.below K.low)).mono fun e w' ⟨A', m, c', he, h1, h2⟩ => by
    have hm : m ≤ 12 := by have := own_plen h1; rw [List.length_take] at this; omega
    exact ⟨A', m, c', he, hm, (K.step P h2).add ⟨sl_own h1, hm, (fun h => by cases h), fun _ => rfl, fun x hx => by
      obtain ⟨s, hs, h⟩ := bnds_mem.1 hx
      exact hok x (bnds_mem.2 ⟨s, List.mem_of_mem_take hs, h⟩), (fun h => by cases h)⟩⟩
theorem l_made {A : Option Addr} {n c : Nat} {l : List T2} (hn : l.length = n) (hok : ∀ t ∈ l, ok2 t) (hA : Tws w0 A l) :
    Calls Try.prog 23 #[.slice A n c] W fun e w' => ∃ A' m c', e = .returned (.slice A' m c') ∧ m ≤ 8 ∧ Held Env w0 w' (⟨A', m, c', madeL l, fun t => hasB (madeL l) t, false, true, 8⟩ :: L) :=
  (Made_any A n c l hn hok W (hA.below K.low)).mono fun e w' ⟨A', m, c', he, h1, h2⟩ => by
    have hm : m ≤ 8 := by have := own_plen h1; have := made_len l; omega
    exact ⟨A', m, c', he, hm, (K.step P h2).add ⟨sl_own h1, hm, (fun h => by cases h), fun _ => rfl, fun x hx => by have := made_lim l x hx; show In64 x; omega, fun _ => made_lim l⟩⟩
end
theorem set_none {l : List S} (h : setB l = true) (hf : ∀ t, hasB l t = false) : l = [] := by
  cases l with
  | nil => rfl
  | cons s l =>
    have := (set_ends h (s := s) (by simp)).2.1
    rw [hf] at this
    cases this
section
variable {Env : World → Prop} (P : PrgS Env) {w0 W : World} {L : List Ent} {A A2 : Option Addr} {n n2 c c2 b b2 : Nat} {l l2 : List S} {f g : Int → Bool} {st st2 lim lim2 : Bool}
  (K : Held Env w0 W L) (hx : Ent.mk A n c l f st lim b ∈ L) (hb : decide (b ≤ 100) = true)
include P K hx hb
theorem p_meet_none (hy : Ent.mk A2 n2 c2 l2 g st2 lim2 b2 ∈ L) (hb2 : decide (b2 ≤ 100) = true) (h0 : ∀ t, (f t && g t) = false) :
    Calls Try.prog 19 #[.slice A n c, .slice A2 n2 c2] W fun e w' => ∃ A' c', e = .returned (.slice A' 0 c') ∧ Held Env w0 w' L :=
  (p_meet P K hx hb hy hb2).mono fun e w' ⟨A', m, c', out, he, _, k⟩ => by
    have ho := k.ok _ (List.Mem.head _)
    have hn : out = [] := set_none (ho.isset rfl) fun t => (ho.has t).trans (h0 t)
    have hm : out.length = m := ho.sl.plen
    rw [hn] at hm
    have hm' : m = 0 := hm.symm
    subst hm'
    exact ⟨A', c', he, k.env, k.low, fun e he => k.ok e (List.Mem.tail _ he)⟩
theorem p_minus_none (hy : Ent.mk A2 n2 c2 l2 g st2 lim2 b2 ∈ L) (hb2 : decide (b2 ≤ 100) = true) :
    Calls Try.prog 21 #[.slice A n c, .slice A2 n2 c2] W fun e w' => ∃ A' m c', e = .returned (.slice A' m c') ∧ (m = 0 ↔ ∀ t, (f t && !g t) = false) ∧ Held Env w0 w' L :=
  (p_minus P K hx hb hy hb2).mono fun e w' ⟨A', m, c', out, he, _, k⟩ => by
    have ho := k.ok _ (List.Mem.head _)
    have hm : out.length = m := ho.sl.plen
    refine ⟨A', m, c', he, ⟨fun h t => ?_, fun h0 => ?_⟩, k.env, k.low, fun e he => k.ok e (List.Mem.tail _ he)⟩
    · have : out = [] := List.eq_nil_of_length_eq_zero (hm.trans h)
      have e : hasB out t = (f t && !g t) := ho.has t
      rw [← e, this]
      rfl
    · have hn : out = [] := set_none (ho.isset rfl) fun t => (ho.has t).trans (h0 t)
      rw [← hm, hn]
      rfl
end
theorem Held.rebase {Env : World → Prop} {w0 W : World} {L : List Ent} (K : Held Env w0 W L) : Held Env W W L := ⟨K.env, Below.refl _ _, K.ok⟩
theorem Held.join {Env : World → Prop} {w0 W W' : World} {L L' : List Ent} (K : Held Env w0 W L) (K' : Held Env W W' L') : Held Env w0 W' L' := ⟨K'.env, K.low.trans (K'.low.mono K.low.size), K'.ok⟩
/-- The law file's own examples hold. -/
abbrev SanOkS (Env : World → Prop) : Prop := ∀ {w0 W : World} {L : List Ent}, Held Env w0 W L → Calls Try.prog 10 #[] W fun e w' => e = .returned (.bool true) ∧ Held Env w0 w' L
end Go.Proofs.Ytkmbidmncnlbkaa
