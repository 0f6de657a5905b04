/-
  Contracts of the landed package: iterators over pieces (ranges over a function): all pieces of a slice; one piece; none.
-/
import Derived.RangeFuncNested
import Derived.RangeFuncBox
import Derived.RangeFuncBound
import Derived.RangeFuncCalls
import Derived.RangeFuncLeaves
import Derived.Shelf.Abstract
import Derived.Shelf.RegionOpen
import Derived.WalkKit
import Derived.OwnWalkIn
import Derived.TacticsInMore
import Derived.LoopNIn
import Derived.LoopIn
import Derived.Test.YtggnklcjhbahhaaFc
namespace Go.Proofs.Ytggnklcjhbahhaa
open Go.RowKit Go.Shelf Ex
attribute [local go_sem] Oper.semAt_some
set_option maxHeartbeats 400000
set_option maxRecDepth 100000

/-- A right piece. -/
abbrev Rp := { p : Pc // rightB p = true }
def vals (l : List Rp) : List Pc := l.map (·.1)
theorem vals_snoc (l : List Rp) (x : Rp) : vals (l ++ [x]) = vals l ++ [x.1] := by simp [vals]
theorem vals_len (l : List Rp) : (vals l).length = l.length := by simp [vals]
theorem vals_inj {l m : List Rp} (h : vals l = vals m) : l = m := by
  refine List.map_inj_right (fun x y e => Subtype.ext e) |>.1 h
theorem vals_of : ∀ (l : List Pc), (∀ p ∈ l, rightB p = true) → ∃ ys : List Rp, vals ys = l
  | [], _ => ⟨[], rfl⟩
  | p :: l, h => by
    obtain ⟨ys, hy⟩ := vals_of l (fun q hq => h q (by simp [hq]))
    exact ⟨⟨p, h p (by simp)⟩ :: ys, by show p :: vals ys = p :: l; rw [hy]⟩
abbrev encs (x : Rp) : Array Value := #[.agg #[.int .i64 x.1.id, .int .i64 x.1.fr, .int .i64 x.1.n]]
/-- A function value that yields these pieces, one after the other, to whatever round keeps what lies below. -/
def Gives (w : World) (v : Value) (ps : List Pc) : Prop :=
  ∃ (g : Nat) (lb : Array Value) (ys : List Rp), v = .func (.func g) #[] lb ∧ (∀ args W, (callFunc g args).run Try.prog W = .ok (.enter g args) W) ∧ vals ys = ps ∧
    ∀ (W : World) (n : Nat), 1 ≤ n → Below w.heap.size w W → SeqStopsK Fence.wide n Try.prog g lb encs (Below w.heap.size) (fun zs => zs = ys) (fun _ => True) ys.length W
theorem Gives.below {w w' : World} {v : Value} {ps : List Pc} (h : Gives w v ps) (hb : Below w.heap.size w w') : Gives w' v ps := by
  obtain ⟨g, lb, ys, h1, h2, h3, h4⟩ := h
  refine ⟨g, lb, ys, h1, h2, h3, fun W n hn hW => ?_⟩
  have S := h4 W n hn (hb.trans (hW.mono hb.size))
  intro l J Jx W' hW' hJ hJx hY h0
  refine S l J Jx W' hW' hJ hJx (fun pre x W1 hj hl => (hY pre x W1 hj hl).mono ?_) h0
  rintro e W2 (⟨h5, h6, h7⟩ | h5)
  · exact .inl ⟨h5, h6, h7.mono hb.size⟩
  · exact .inr h5

theorem values1_in (n : Nat) (hn : 1 ≤ n) (l Bs : Nat) (w0 : World) (A : Option Addr) (k0 c : Nat) (b : List Pc) (ys : List Rp) (hys : vals ys = b) (hlen : b.length = k0) (hk0 : k0 ≤ 9223372036854775807)
    (hc : w0.cell? ⟨Bs, 0, none⟩ = some (.slice A k0 c)) (hA : Pcs w0 A b) (J Jx : List Rp → World → Prop)
    (hY : ∀ (pre : List Rp) (x : Rp) W, J pre W → pre.length < ys.length → YieldAt Fence.wide (n - 1) Try.prog l (encs x) W fun e W' =>
      (e = .returned (.bool true) ∧ J (pre ++ [x]) W' ∧ Below w0.heap.size W W') ∨ (e = .returned (.bool false) ∧ Jx (pre ++ [x]) W'))
    (W : World) (hJ : AbidesFrom W.heap.size J) (hW : Below w0.heap.size w0 W) (h0 : J [] W) :
    CallsIn Fence.wide n Try.prog 52 #[.func (.yield l) #[] #[], .pointer (some ⟨Bs, 0, none⟩)] W fun e W' => (∃ v, e = .returned v) ∧
      ((∃ zs, zs = ys ∧ J zs W') ∨ (∃ pre, True ∧ Jx pre W')) := by
  have HJd := Lib.hid (fun s (X : World) (o : Obj) (h : W.heap.size ≤ X.heap.size ∧ J s X) => show W.heap.size ≤ (X.alloc o).heap.size ∧ J s (X.alloc o) from
    ⟨by simp; omega, hJ s X _ none h.2 (World.grownBy_alloc X o none) (fun r e => by cases e)⟩)
  have HY := Lib.hid hY
  have SA := Lib.hid hA
  have HB := Lib.hid (block_lt_of_cell hc)
  have HYS := Lib.hid hys
  have hcW := (hW.cell (block_lt_of_cell hc)).trans hc
  clear hJ hY hA
  have h53 : Fence.wide.fn 52 := trivial
  refine callsIn_of_wp Try.func52 rfl h53 ?_ rfl
  simp only [Try.ntmps52, List.size_toArray, List.length_cons, List.length_nil, Nat.reduceAdd, Nat.reduceSub, Array.replicate_succ, Array.replicate_zero, List.push_toArray, List.append_toArray, List.nil_append, List.cons_append]
  gi_wp2
  gi_loopw [7] (fun i wr => ∃ (k : Nat) (pre : List Rp), k ≤ k0 ∧ i = .int .i64 k ∧ vals pre = b.take k ∧ (W.heap.size ≤ wr.heap.size ∧ J pre wr) ∧ Below w0.heap.size w0 wr)
    (fun i _ => k0 - (intOf i).toNat)
  case atStart => exact ⟨0, [], Nat.zero_le _, rfl, rfl, ⟨Nat.le_refl _, h0⟩, hW⟩
  case round =>
    obtain ⟨k, pre, hk, rfl, hpre, hJs, hbw⟩ := hrel
    by_cases hlt : k < k0
    · have hkl : k < b.length := by rw [hlen]; exact hlt
      have hg : b[k]? = some b[k] := List.getElem?_eq_getElem hkl
      have hky : k < ys.length := by rw [← vals_len, HYS.out]; exact hkl
      obtain ⟨x, hx⟩ : ∃ x, ys[k] = x := ⟨_, rfl⟩
      have hxk : b[k] = x.1 := by
        have : (vals ys)[k]'(by rw [vals_len]; exact hky) = ys[k].1 := by simp [vals]
        rw [← hx, ← this]
        congr 1
        exact HYS.out.symm
      rw [hxk] at hg
      obtain ⟨g, o, hA', hgw, q0, q1, q2⟩ := (SA.out.below hbw).at_ hg
      subst hA'
      have hsucc : vals (pre ++ [x]) = b.take (k + 1) := by rw [vals_snoc, hpre, List.take_succ_eq_append_getElem hkl, hxk]
      have hpl : pre.length < ys.length := by
        have := congrArg List.length hpre
        rw [vals_len, List.length_take] at this
        omega
      have HS := Lib.hid hsucc
      obtain ⟨fn, tmps, assign, body, hy, hR⟩ := HY.out pre x (wr.alloc (.cells #[.int .i64 x.1.id, .int .i64 x.1.fr, .int .i64 x.1.n] 66)) (HJd.out _ _ _ hJs).2 hpl
      have kn : (k : Int) < (k0 : Int) := Int.ofNat_lt.2 hlt
      have k00 : (0 : Int) ≤ (k : Int) := Int.natCast_nonneg k
      have hbA : Below w0.heap.size w0 (wr.alloc (.cells #[.int .i64 x.1.id, .int .i64 x.1.fr, .int .i64 x.1.n] 66)) := hbw.alloc hbw.size _
      have hsz : W.heap.size ≤ (wr.alloc (.cells #[.int .i64 x.1.id, .int .i64 x.1.fr, .int .i64 x.1.n] 66)).heap.size := (HJd.out _ _ _ hJs).1
      have HBA := Lib.hid hbA
      have HSZ := Lib.hid hsz
      clear hsucc hx hxk hg hpre hbA hsz
      gi_wp2
      refine hR.mono ?_
      rintro e W3 (⟨rfl, hJ3, hk3⟩ | ⟨rfl, hJx3⟩)
      · have hs3 := hk3.size
        have HS3 := Lib.hid (Nat.le_trans HSZ.out hs3)
        gi_wp2
        go_roundw
        case rel => exact ⟨k + 1, pre ++ [x], by omega, by go_num, HS.out, ⟨HS3.out, hJ3⟩, HBA.out.trans hk3⟩
        case measure => simp [intOf]; omega
      · gi_wp2
        refine bodyPost_ret (results_none rfl _ _ _) rfl ?_
        exact ⟨⟨_, rfl⟩, .inr ⟨pre ++ [x], trivial, hJx3⟩⟩
    · obtain rfl : k = k0 := by omega
      have HP := Lib.hid (show pre = ys from vals_inj (by rw [hpre, HYS.out, List.take_of_length_le (by omega)]))
      gi_wp2
      go_end0
      exact ⟨⟨_, rfl⟩, .inl ⟨pre, HP.out, hJs.2⟩⟩
theorem values_gives (w : World) (Bs : Nat) (A : Option Addr) (k0 c : Nat) (b : List Pc) (hr : ∀ p ∈ b, rightB p = true) (hlen : b.length = k0) (hk0 : k0 ≤ 9223372036854775807) (hc : w.cell? ⟨Bs, 0, none⟩ = some (.slice A k0 c)) (hA : Pcs w A b) :
    Gives w (.func (.func 52) #[] #[.pointer (some ⟨Bs, 0, none⟩)]) b := by
  obtain ⟨ys, hys⟩ := vals_of b hr
  refine ⟨_, _, ys, rfl, enters_of Try.func52 (by kernel_rfl) rfl, hys, fun W n hn hW l J Jx W' hW' hJ _ hY h0 => ?_⟩
  exact values1_in n hn l Bs w A k0 c b ys hys hlen hk0 hc hA J Jx hY W' hJ (hW.trans (hW'.mono hW.size)) h0

theorem one1_in (n : Nat) (hn : 1 ≤ n) (l Bp : Nat) (w0 : World) (x : Rp) (hc : Tri w0 Bp 0 x.1) (J Jx : List Rp → World → Prop)
    (hY : ∀ (pre : List Rp) (x : Rp) W, J pre W → pre.length < 1 → YieldAt Fence.wide (n - 1) Try.prog l (encs x) W fun e W' =>
      (e = .returned (.bool true) ∧ J (pre ++ [x]) W' ∧ Below w0.heap.size W W') ∨ (e = .returned (.bool false) ∧ Jx (pre ++ [x]) W'))
    (W : World) (hW : Below w0.heap.size w0 W) (h0 : J [] W) :
    CallsIn Fence.wide n Try.prog 61 #[.func (.yield l) #[] #[], .pointer (some ⟨Bp, 0, none⟩)] W fun e W' => (∃ v, e = .returned v) ∧
      ((∃ zs, zs = [x] ∧ J zs W') ∨ (∃ pre, True ∧ Jx pre W')) := by
  obtain ⟨q0, q1, q2⟩ := hc.below hW
  obtain ⟨fn, tmps, assign, body, hy, hR⟩ := hY [] x W h0 (by simp)
  have h53 : Fence.wide.fn 61 := trivial
  refine callsIn_of_wp Try.func61 rfl h53 ?_ rfl
  simp only [Try.ntmps61, List.size_toArray, List.length_cons, List.length_nil, Nat.reduceAdd, Nat.reduceSub, Array.replicate_succ, Array.replicate_zero, List.push_toArray, List.append_toArray, List.nil_append, List.cons_append]
  clear hY h0 hc
  replace q0 : W.cell? ⟨Bp, 0, none⟩ = some (.int .i64 x.1.id) := q0
  replace q1 : W.cell? ⟨Bp, 1, none⟩ = some (.int .i64 x.1.fr) := q1
  replace q2 : W.cell? ⟨Bp, 2, none⟩ = some (.int .i64 x.1.n) := q2
  gi_wp2
  refine hR.mono ?_
  rintro e W3 (⟨rfl, hJ3, hk3⟩ | ⟨rfl, hJx3⟩)
  · gi_wp2
    go_end0
    exact ⟨⟨_, rfl⟩, .inl ⟨_, rfl, hJ3⟩⟩
  · gi_wp2
    go_end0
    exact ⟨⟨_, rfl⟩, .inr ⟨_, trivial, hJx3⟩⟩
theorem one_gives (w : World) (Bp : Nat) (p : Pc) (hr : rightB p = true) (hc : Tri w Bp 0 p) :
    Gives w (.func (.func 61) #[] #[.pointer (some ⟨Bp, 0, none⟩)]) [p] := by
  refine ⟨_, _, [⟨p, hr⟩], rfl, enters_of Try.func61 (by kernel_rfl) rfl, rfl, fun W n hn hW l J Jx W' hW' _ _ hY h0 => ?_⟩
  exact one1_in n hn l Bp w ⟨p, hr⟩ hc J Jx hY W' (hW.trans (hW'.mono hW.size)) h0

theorem hole1_in (n : Nat) (l : Nat) (J Jx : List Rp → World → Prop) (W : World) (h0 : J [] W) :
    CallsIn Fence.wide n Try.prog 60 #[.func (.yield l) #[] #[]] W fun e W' => (∃ v, e = .returned v) ∧
      ((∃ zs, zs = [] ∧ J zs W') ∨ (∃ pre, True ∧ Jx pre W')) := by
  have h53 : Fence.wide.fn 60 := trivial
  refine callsIn_of_wp Try.func60 rfl h53 ?_ rfl
  simp only [Try.ntmps60, List.size_toArray, List.length_cons, List.length_nil, Nat.reduceAdd, Nat.reduceSub, Array.replicate_succ, Array.replicate_zero, List.push_toArray, List.append_toArray, List.nil_append, List.cons_append]
  gi_wp2
  go_end0
  exact ⟨⟨_, rfl⟩, .inl ⟨_, rfl, h0⟩⟩
theorem hole_gives (w : World) : Gives w (.func (.func 60) #[] #[]) [] := by
  refine ⟨_, _, [], rfl, enters_of Try.func60 (by kernel_rfl) rfl, rfl, fun W n _ _ l J Jx W' _ _ _ _ h0 => ?_⟩
  exact hole1_in n l J Jx W' h0
end Go.Proofs.Ytggnklcjhbahhaa
