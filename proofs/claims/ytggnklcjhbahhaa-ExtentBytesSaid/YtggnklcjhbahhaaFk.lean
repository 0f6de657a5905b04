/-
  Contracts of the landed package: within, hole, one; Part, Put, Cut.
-/
import Derived.Test.YtggnklcjhbahhaaFj
namespace Go.Proofs.Ytggnklcjhbahhaa
open Go.RowKit Go.Shelf Ex
attribute [local go_sem] Oper.semAt_some
set_option maxHeartbeats 400000
set_option maxRecDepth 100000

theorem within_c (A : Option Addr) (n c : Nat) (b : List Pc) (lo hi : Int) (hlo : 0 ≤ lo) (hlo' : lo ≤ 9223372036854775807) (hhi : 0 ≤ hi) (hhi' : hi ≤ 9223372036854775807)
    (hr : ∀ p ∈ b, rightB p = true) (hs : sizeL b ≤ 1048576) (hlen : b.length = n) (hn : n ≤ 9223372036854775807) (w : World) (hA : Pcs w A b) :
    Calls Try.prog 33 #[.slice A n c, .int .i64 lo, .int .i64 hi] w fun e w' => ∃ gf lb, e = .returned (.func (.func gf) #[] lb) ∧ Gives w' (.func (.func gf) #[] lb) (withinL lo hi 0 b) ∧ Below w.heap.size w w' := by
  have B1 := ((Boxed.new w 24 (.slice A n c)).alloc (.cells #[.int .i64 lo] 3)).alloc (.cells #[.int .i64 hi] 3)
  have B2 := (Boxed.new (w.alloc (.cells #[.slice A n c] 24)) 3 (.int .i64 lo)).alloc (.cells #[.int .i64 hi] 3)
  have B3 := Boxed.new ((w.alloc (.cells #[.slice A n c] 24)).alloc (.cells #[.int .i64 lo] 3)) 3 (.int .i64 hi)
  have hb : Below w.heap.size w (((w.alloc (.cells #[.slice A n c] 24)).alloc (.cells #[.int .i64 lo] 3)).alloc (.cells #[.int .i64 hi] 3)) := (((Below.refl _ w).alloc (Nat.le_refl _) _).alloc (by simp) _).alloc (by simp; omega) _
  have hG := within_gives _ _ _ _ A n c b lo hi hlo hlo' hhi hhi' hr hs hlen hn B1.cell B2.cell B3.cell (hA.below hb)
  simp only [World.size_alloc] at hG
  have HG := Lib.hid hG
  have HB := Lib.hid hb
  clear B1 B2 B3 hb hG hA hr hs hlen
  go_enter Try.func33, Try.ntmps33
  go_wp2
  go_ret
  exact ⟨_, _, rfl, HG.out, HB.out⟩
theorem oneSeq_c (p : Pc) (hr : rightB p = true) (w : World) :
    Calls Try.prog 54 #[.agg #[.int .i64 p.id, .int .i64 p.fr, .int .i64 p.n]] w fun e w' => ∃ gf lb, e = .returned (.func (.func gf) #[] lb) ∧ Gives w' (.func (.func gf) #[] lb) [p] ∧ Below w.heap.size w w' := by
  have hG := one_gives (w.alloc (.cells #[.int .i64 p.id, .int .i64 p.fr, .int .i64 p.n] 66)) w.heap.size p hr (box_tri w p)
  have HG := Lib.hid hG
  clear hG hr
  go_enter Try.func54, Try.ntmps54
  go_wp2
  go_ret
  exact ⟨_, _, rfl, HG.out, by go_grown⟩
theorem hole_c (k : Int) (hk : k ≤ 1048576) (w : World) :
    Calls Try.prog 53 #[.int .i64 k] w fun e w' => ∃ gf lb, e = .returned (.func (.func gf) #[] lb) ∧ Gives w' (.func (.func gf) #[] lb) (holeL k) ∧ Below w.heap.size w w' := by
  by_cases h0 : k ≤ 0
  · have HG := Lib.hid (show Gives w (.func (.func 60) #[] #[]) (holeL k) from by unfold holeL; rw [if_pos h0]; exact hole_gives w)
    go_enter Try.func53, Try.ntmps53
    go_wp2
    go_ret
    exact ⟨_, _, rfl, HG.out, Below.refl _ _⟩
  · have hl : holeL k = [⟨0, 0, k⟩] := by unfold holeL; rw [if_neg h0]
    have C := Lib.hid (oneSeq_c ⟨0, 0, k⟩ (hole_right hk ⟨0, 0, k⟩ (by rw [hl]; exact List.mem_singleton.2 rfl)) w)
    have HL := Lib.hid hl
    clear hl
    go_enter Try.func53, Try.ntmps53
    go_wp2_with (go_at_call 54; refine C.out.mono ?_; rintro e w1 ⟨gf, lb, rfl, hg, hb⟩; have HG := Lib.hid hg; have HB := Lib.hid hb; clear hg hb)
    go_ret
    exact ⟨_, _, rfl, by rw [HL.out]; exact HG.out, HB.out⟩
/-! ### What a body of pieces gives for the calls -/
theorem sizeL_ge : ∀ {l : List Pc}, (∀ p ∈ l, rightB p = true) → (l.length : Int) ≤ sizeL l
  | [], _ => by simp [sizeL]
  | p :: l, h => by
    have h1 := sizeL_ge (l := l) (fun q hq => h q (by simp [hq]))
    have h2 := right_iff.1 (h p (by simp))
    simp only [sizeL, List.length_cons]
    push_cast
    omega
theorem wf_i64 {n : Int} (h1 : -9223372036854775808 ≤ n) (h2 : n ≤ 9223372036854775807) : (Lit.int .i64 n).wf = true := by
  simpa [Lit.wf] using (show IntKind.i64.min ≤ n ∧ n ≤ IntKind.i64.max from ⟨h1, h2⟩)
theorem right_ok {p : Pc} (h : rightB p = true) : Pc.ok p := by
  have h2 := right_iff.1 h
  exact ⟨wf_i64 (by omega) (by omega), wf_i64 (by omega) (by omega), wf_i64 (by omega) (by omega)⟩
structure Bod (l : List Pc) (n : Nat) : Prop where
  len : l.length = n
  right : ∀ p ∈ l, rightB p = true
  size : sizeL l ≤ 1048576
  size0 : 0 ≤ sizeL l
  max : n ≤ 1048576
  valid : validL l = true
theorem bod {l : List Pc} {n : Nat} (hn : l.length = n) (hv : validL l = true) : Bod l n := by
  have h := valid_iff.1 hv
  have h1 := sizeL_ge h.1.right
  exact ⟨hn, h.1.right, h.2, by omega, by omega, hv⟩
section
variable {l : List Pc} {n : Nat} (h : Bod l n) (A : Option Addr) (c : Nat) {w : World} (hA : Pcs w A l) (W : World) (hW : Below w.heap.size w W)
include h hA hW
theorem Bod.validC : Calls Try.prog 31 #[.slice A n c] W fun e w' => e = .returned (.bool true) ∧ Below W.heap.size W w' := by
  have := exValid_any A n c l h.len (by have := h.max; omega) (fun p hp => right_ok (h.right p hp)) W (hA.below hW)
  rwa [h.valid] at this
theorem Bod.sizeC : Calls Try.prog 19 #[.slice A n c] W fun e w' => e = .returned (.int .i64 (sizeL l)) ∧ Below W.heap.size W w' :=
  exSize_any A n c l h.len (by have := h.max; omega) h.right W (hA.below hW)
theorem Bod.withinC (lo hi : Int) (hlo : 0 ≤ lo) (hlo' : lo ≤ 9223372036854775807) (hhi : 0 ≤ hi) (hhi' : hi ≤ 9223372036854775807) :
    Calls Try.prog 33 #[.slice A n c, .int .i64 lo, .int .i64 hi] W fun e w' => ∃ gf lb, e = .returned (.func (.func gf) #[] lb) ∧ Gives w' (.func (.func gf) #[] lb) (withinL lo hi 0 l) ∧ Below W.heap.size W w' :=
  within_c A n c l lo hi hlo hlo' hhi hhi' h.right h.size h.len (by have := h.max; omega) W (hA.below hW)
end
theorem vals_cells (w : World) (vs : List Value) (t : TypeId) : Vals (w.alloc (.cells vs.toArray t)) (some ⟨w.heap.size, 0, none⟩) vs := fun j u hj => by
  refine ⟨_, _, rfl, ?_⟩
  rw [cell_of_row _ _ (0 + j) _ _ _ (heap_alloc_new w _), Nat.zero_add]
  simpa using hj
/-- Joined runs that were made before, in a slice that was just built. -/
theorem joined_c (rs : List (Value × List Pc)) (hr : rs.length ≤ 100) (W : World) (hG : ∀ r ∈ rs, Gives W r.1 r.2) (hR : ∀ p ∈ flatR rs, rightB p = true) (hS : (eachL (flatR rs)).length ≤ 1048576) (ps : List Pc) (hps : flatR rs = ps) (vs : List Value) (hvs : rs.map (·.1) = vs) (k : Nat) (hk : rs.length = k) :
    Calls Try.prog 32 #[.slice (some ⟨W.heap.size, 0, none⟩) k k] (W.alloc (.cells vs.toArray 72)) fun e w' => ∃ A' m c', e = .returned (.slice A' m c') ∧ Sp W.heap.size w' A' m c' (normL ps) ∧ validL (normL ps) = true ∧ eachL (normL ps) = eachL ps ∧ Below W.heap.size W w' := by
  subst hvs hps
  have hb : Below W.heap.size W (W.alloc (.cells (rs.map (·.1)).toArray 72)) := (Below.refl _ W).alloc (Nat.le_refl _) _
  have hl := sizeL_ge hR
  rw [← eachL_len (l := flatR rs) (fun p hp => by have := (right_iff.1 (hR p hp)).1; omega)] at hl
  have hn := norm_body hR hS
  refine (joined_any _ (some ⟨W.heap.size, 0, none⟩) k k rs hk (by omega) (vals_cells W _ _) (fun r hr' => (hG r hr').below hb) (by omega)).mono ?_
  rintro e w' ⟨A', m, c', rfl, ho, hb2⟩
  exact ⟨A', m, c', rfl, (Si.own ho).mono hb.size, hn.1, hn.2, hb.trans (hb2.mono hb.size)⟩
end Go.Proofs.Ytggnklcjhbahhaa
