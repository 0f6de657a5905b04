/-
  Maps of the call's own that are keyed by marks: what a look-up gives, and what a store leaves.
-/
import Derived.Test.YtkpedfigaofloaaAe
import Derived.Maps.OwnOps
import Derived.Maps.OwnSet
import Derived.Maps.Views
import Derived.DeepKeys4
import Derived.WalkArith
namespace Go.Proofs.Ytkpedfigaofloaa
open Go.RowKit Ap Go.Maps
set_option maxHeartbeats 400000

theorem laidOutA : laidOutB Try.prog = true := by kernel_rfl
theorem rowMark : (58 : TypeId) < Try.prog.types.size := of_decide_eq_true (by kernel_rfl)
theorem wideMark : (match Try.prog.underlying 58 with | some (.array _ _) | some (.struct _) => true | _ => false) = true := by kernel_rfl
theorem lawMark : Keyed Try.prog 58 := Keyed.of_law (deep_law_laid laidOutA (m := 3) (by omega) rowMark (by kernel_rfl) wideMark)
theorem typesA : ∃ k, Try.prog.types.size = k + 1 := Nat.exists_eq_succ_of_ne_zero (Nat.ne_of_gt (Nat.lt_of_le_of_lt (Nat.zero_le _) rowMark))
theorem keyTypeMark : Try.prog.keyType 58 = true := by kernel_rfl
theorem formedMark (a : Ac) : (av a).formed Try.prog 58 = true := by kernel_rfl
theorem cellsMark : Try.prog.cellsOf 58 = 5 := by kernel_rfl
theorem cellsInt : Try.prog.cellsOf 3 = 1 := by kernel_rfl
theorem cellsBool : Try.prog.cellsOf 4 = 1 := by kernel_rfl
theorem keyLits_int (d : Nat) (n : Int) (h : (Lit.int .i64 n).wf = true) : Try.prog.keyLits (d + 1) 3 [.int .i64 n] = some [.int .i64 n] := by
  simp [Program.keyLits, Try.underlying3, h]
theorem keyLits_bool (d : Nat) (b : Bool) : Try.prog.keyLits (d + 1) 4 [.bool b] = some [.bool b] := by
  simp [Program.keyLits, Try.underlying4]
theorem keyLits_mark (d : Nat) (a : Ac) (w1 : (Lit.int .i64 a.who).wf = true) (w2 : (Lit.int .i64 a.rights).wf = true) (w3 : (Lit.int .i64 a.reach).wf = true) :
    Try.prog.keyLits (d + 1 + 1) 58 (av a).cells.toList = some [.int .i64 a.who, .bool a.allow, .int .i64 a.rights, .int .i64 a.reach, .bool a.given] := by
  have h1 := keyLits_int d
  have h2 := keyLits_bool d
  unfold Program.keyLits
  simp [Try.underlying58, av, Value.cells, cellsMark, cellsInt, cellsBool, h1, h2, w1, w2, w3]
/-- What a mark reads as, as a key. -/
def kl (a : Ac) : Lit := .string (keyBytes [.int .i64 a.who, .bool a.allow, .int .i64 a.rights, .int .i64 a.reach, .bool a.given])
theorem key_of {a : Ac} (h : a.ok) : keyOf Try.prog 58 (av a) = some (kl a) := by
  obtain ⟨k, hk⟩ := typesA
  have w1 : (Lit.int .i64 a.who).wf = true := WalkArith.wf_i64 h.1
  have w2 : (Lit.int .i64 a.rights).wf = true := WalkArith.wf_i64 h.2.1
  have w3 : (Lit.int .i64 a.reach).wf = true := WalkArith.wf_i64 h.2.2
  have hf := formedMark a
  unfold keyOf
  rw [Try.underlying58]
  simp only [keyTypeMark, hf, Bool.and_self, if_true]
  rw [hk, keyLits_mark k a w1 w2 w3]
  rfl
theorem kl_ne {a b : Ac} (ha : a.ok) (hb : b.ok) (h : a ≠ b) : kl a ≠ kl b := fun e => by
  have h1 := key_of ha
  rw [e] at h1
  have := lawMark.inj h1 (key_of hb)
  apply h
  obtain ⟨aw, al, ri, re, ag⟩ := a
  obtain ⟨bw, bl, bi, be, bg⟩ := b
  simpa [av] using this
theorem kl_key (a : Ac) : WideAt.IsKeyLit (kl a) := trivial
theorem own_below {P : Program} {k : TypeId} {R : Value → Option (DataW Unit × List MemPlace)} {b n : Nat} {D : DataW Unit} {w w' : World} (h : w.ownsMap P k R b n D) (hb : Below w.heap.size w w') : w'.ownsMap P k R b n D := by
  have hlt := h.lt
  obtain ⟨es, clock, h1, h2, h3, h4⟩ := h
  exact ⟨es, clock, (hb.block _ hlt).trans h1, h2, h3, h4⟩

theorem keep5 {w w' : World} {b : Nat} {v0 v1 v2 v3 v4 : Value} (h0 : w.cell? ⟨b, 0, none⟩ = some v0) (h1 : w.cell? ⟨b, 1, none⟩ = some v1) (h2 : w.cell? ⟨b, 2, none⟩ = some v2) (h3 : w.cell? ⟨b, 3, none⟩ = some v3) (h4 : w.cell? ⟨b, 4, none⟩ = some v4) (hb : Below w.heap.size w w') :
    w'.cell? ⟨b, 0, none⟩ = some v0 ∧ w'.cell? ⟨b, 1, none⟩ = some v1 ∧ w'.cell? ⟨b, 2, none⟩ = some v2 ∧ w'.cell? ⟨b, 3, none⟩ = some v3 ∧ w'.cell? ⟨b, 4, none⟩ = some v4 :=
  ⟨(hb.cell (block_lt_of_cell h0)).trans h0, (hb.cell (block_lt_of_cell h1)).trans h1, (hb.cell (block_lt_of_cell h2)).trans h2, (hb.cell (block_lt_of_cell h3)).trans h3, (hb.cell (block_lt_of_cell h4)).trans h4⟩
theorem grown_cell {w w' : World} {b : Nat} (hg : w.grownBy w' (some b)) {p : Addr} {v : Value} (h : w.cell? p = some v) (hne : b ≠ p.block) : w'.cell? p = some v := by
  have hlt := block_lt_of_cell h
  unfold World.cell? at h ⊢
  rw [hg.block p.block hlt (by simpa using fun e => hne e.symm)]
  exact h

/-- Block b is a map from marks to bools that reads as S. -/
def SetM (w : World) (b n : Nat) (S : Ac → Bool) : Prop :=
  ∃ D : DataW Unit, w.ownsMap Try.prog 58 (plainElem Try.prog 4) b n D ∧ IsMap D ∧ ∀ m : Ac, m.ok → D.atKey (kl m) (.lit (.bool false)) = .lit (.bool (S m))
theorem SetM.lt {w : World} {b n : Nat} {S : Ac → Bool} (h : SetM w b n S) : b < w.heap.size := by obtain ⟨D, h, _⟩ := h; exact h.lt
theorem SetM.below {w w' : World} {b n : Nat} {S : Ac → Bool} (h : SetM w b n S) (hb : Below w.heap.size w w') : SetM w' b n S := by
  obtain ⟨D, h1, h2, h3⟩ := h; exact ⟨D, own_below h1 hb, h2, h3⟩
theorem SetM.made (w : World) : SetM (w.alloc (.map #[] 0)) w.heap.size 0 (fun _ => false) := ⟨.map [], World.ownsMap_made _ _ _ _, isMap_empty, fun _ _ => rfl⟩
theorem zeroBoolE (w : World) : (zeroValue 4).run Try.prog w = .ok (.bool false) w := by kernel_rfl
theorem zeroIntE (w : World) : (zeroValue 3).run Try.prog w = .ok (.int .i64 0) w := by kernel_rfl
theorem plainElem_bool_inv {v : Value} {z : DataW Unit × List MemPlace} (h : plainElem Try.prog 4 v = some z) : ∃ x, v = .bool x ∧ z = (.lit (.bool x), []) := by
  unfold plainElem at h
  rw [Try.underlying4] at h
  cases v <;> simp_all
theorem SetM.look {w : World} {b n : Nat} {S : Ac → Bool} (h : SetM w b n S) {m : Ac} (hm : m.ok) : (Instr.lookup 57 (.map (some b)) (av m) false).run Try.prog w = .ok (.bool (S m)) w := by
  obtain ⟨D, h1, h2, h3⟩ := h
  obtain ⟨v, ps, hrun, hv⟩ := h1.lookup lawMark Try.underlying57 (zeroBoolE w) (plainElem_bool Try.underlying4 false) (key_of hm)
  rw [h3 m hm] at hv
  obtain ⟨x, rfl, hx⟩ := plainElem_bool_inv hv
  simp at hx
  rw [hrun, hx.1]
theorem SetM.mono {w : World} {b n n' : Nat} {S : Ac → Bool} (h : SetM w b n S) (hn : n ≤ n') : SetM w b n' S := by
  obtain ⟨D, h1, h2, h3⟩ := h; exact ⟨D, h1.mono hn, h2, h3⟩
theorem SetM.grown {w w' : World} {b n : Nat} {S : Ac → Bool} {row : Option Nat} (h : SetM w b n S) (hg : w.grownBy w' row) (hne : some b ≠ row) : SetM w' b n S := by
  obtain ⟨D, h1, h2, h3⟩ := h; exact ⟨D, h1.kept hg hne, h2, h3⟩
theorem SetM.congr {w : World} {b n : Nat} {S S' : Ac → Bool} (h : SetM w b n S) (e : ∀ x, S x = S' x) : SetM w b n S' := by
  rw [show S' = S from funext fun x => (e x).symm]; exact h
theorem SetM.update {w : World} {b n : Nat} {S : Ac → Bool} (h : SetM w b n S) (hn : n < maxLen) {m : Ac} (hm : m.ok) :
    ∃ w', (Instr.mapUpdate 57 (.map (some b)) (av m) (.bool true)).run Try.prog w = .ok () w' ∧ SetM w' b (n + 1) (fun x => decide (x = m) || S x) ∧ w.grownBy w' (some b) := by
  obtain ⟨D, h1, h2, h3⟩ := h
  obtain ⟨w', hrun, hown, hg⟩ := h1.update lawMark Try.underlying57 hn (key_of hm) (plainElem_bool Try.underlying4 true)
  refine ⟨w', hrun, ⟨_, hown, h2.put _ _, fun x hx => ?_⟩, hg⟩
  by_cases e : x = m
  · subst e
    rw [atKey_put_same h2 (kl_key x)]; simp
  · rw [atKey_put_other (kl_ne hx hm e), h3 x hx]; simp [e]

theorem SetM.look_lit {w : World} {b n : Nat} {S : Ac → Bool} {aw ri re : Int} {al ag s : Bool} (h : SetM w b n S) (hm : (⟨aw, al, ri, re, ag⟩ : Ac).mk0.ok) (hs : S (⟨aw, al, ri, re, ag⟩ : Ac).mk0 = s) :
    (Instr.lookup 57 (.map (some b)) (.agg #[.int .i64 aw, .bool al, .int .i64 0, .int .i64 re, .bool ag]) false).run Try.prog w = .ok (.bool s) w := by
  rw [← hs]; exact h.look hm
theorem SetM.update_lit {w : World} {b n : Nat} {S : Ac → Bool} {aw ri re : Int} {al ag : Bool} (h : SetM w b n S) (hn : n < maxLen) (hm : (⟨aw, al, ri, re, ag⟩ : Ac).mk0.ok) :
    ∃ w', (Instr.mapUpdate 57 (.map (some b)) (.agg #[.int .i64 aw, .bool al, .int .i64 0, .int .i64 re, .bool ag]) (.bool true)).run Try.prog w = .ok () w' ∧ SetM w' b (n + 1) (fun x => decide (x = (⟨aw, al, ri, re, ag⟩ : Ac).mk0) || S x) ∧ w.grownBy w' (some b) :=
  h.update hn hm

/-- Block b is a map from marks to ints that reads as F. -/
def IntM (w : World) (b n : Nat) (F : Ac → Option Int) : Prop :=
  ∃ D : DataW Unit, w.ownsMap Try.prog 58 (plainElem Try.prog 3) b n D ∧ IsMap D ∧ ∀ m : Ac, m.ok → D.atKey (kl m) (.lit (.int .i64 0)) = .lit (.int .i64 ((F m).getD 0)) ∧ Maps.has D (kl m) = (F m).isSome
theorem IntM.lt {w : World} {b n : Nat} {F : Ac → Option Int} (h : IntM w b n F) : b < w.heap.size := by obtain ⟨D, h, _⟩ := h; exact h.lt
theorem IntM.below {w w' : World} {b n : Nat} {F : Ac → Option Int} (h : IntM w b n F) (hb : Below w.heap.size w w') : IntM w' b n F := by
  obtain ⟨D, h1, h2, h3⟩ := h; exact ⟨D, own_below h1 hb, h2, h3⟩
theorem IntM.made (w : World) : IntM (w.alloc (.map #[] 0)) w.heap.size 0 (fun _ => none) := ⟨.map [], World.ownsMap_made _ _ _ _, isMap_empty, fun _ _ => ⟨rfl, rfl⟩⟩
theorem IntM.look {w : World} {b n : Nat} {F : Ac → Option Int} (h : IntM w b n F) {m : Ac} (hm : m.ok) : (Instr.lookup 62 (.map (some b)) (av m) false).run Try.prog w = .ok (.int .i64 ((F m).getD 0)) w := by
  obtain ⟨D, h1, h2, h3⟩ := h
  obtain ⟨c, hrun, hat, _⟩ := h1.lookup_int lawMark Try.underlying62 Try.underlying3 (zeroIntE w) (key_of hm)
  rw [(h3 m hm).1] at hat
  simp at hat
  rw [hrun, hat]
theorem IntM.look_ok {w : World} {b n : Nat} {F : Ac → Option Int} (h : IntM w b n F) {m : Ac} (hm : m.ok) : (Instr.lookup 62 (.map (some b)) (av m) true).run Try.prog w = .ok (.tuple #[.int .i64 ((F m).getD 0), .bool (F m).isSome]) w := by
  obtain ⟨D, h1, h2, h3⟩ := h
  obtain ⟨v, ps, hrun, hv⟩ := h1.look_ok lawMark Try.underlying62 (zeroIntE w) (plainElem_int (q := .i64) Try.underlying3 (a := 0) (by decide)) (key_of hm)
  rw [(h3 m hm).1] at hv
  obtain ⟨c, rfl, hc, _⟩ := plainElem_int_inv Try.underlying3 hv
  simp at hc
  rw [hrun, hc.1, (h3 m hm).2]
theorem IntM.update {w : World} {b n : Nat} {F : Ac → Option Int} (h : IntM w b n F) (hn : n < maxLen) {m : Ac} (hm : m.ok) {v : Int} (hv : -9223372036854775808 ≤ v ∧ v ≤ 9223372036854775807) :
    ∃ w', (Instr.mapUpdate 62 (.map (some b)) (av m) (.int .i64 v)).run Try.prog w = .ok () w' ∧ IntM w' b (n + 1) (fun x => if x = m then some v else F x) ∧ w.grownBy w' (some b) := by
  obtain ⟨D, h1, h2, h3⟩ := h
  obtain ⟨w', hrun, hown, hg⟩ := h1.update lawMark Try.underlying62 hn (key_of hm) (plainElem_int (q := .i64) Try.underlying3 (WalkArith.wf_i64 hv))
  refine ⟨w', hrun, ⟨_, hown, h2.put _ _, fun x hx => ?_⟩, hg⟩
  by_cases e : x = m
  · subst e
    rw [atKey_put_same h2 (kl_key x), has_put_same h2 (kl_key x)]; simp
  · rw [atKey_put_other (kl_ne hx hm e), has_put_other (kl_ne hx hm e), (h3 x hx).1, (h3 x hx).2]; simp [e]
theorem IntM.congr {w : World} {b n : Nat} {F F' : Ac → Option Int} (h : IntM w b n F) (e : ∀ x, F x = F' x) : IntM w b n F' := by
  rw [show F' = F from funext fun x => (e x).symm]; exact h
theorem IntM.look_ok_lit {w : World} {b n : Nat} {F : Ac → Option Int} {aw ri re : Int} {al ag : Bool} {r : Option Int} (h : IntM w b n F) (hm : (⟨aw, al, ri, re, ag⟩ : Ac).mk0.ok) (hs : F (⟨aw, al, ri, re, ag⟩ : Ac).mk0 = r) :
    (Instr.lookup 62 (.map (some b)) (.agg #[.int .i64 aw, .bool al, .int .i64 0, .int .i64 re, .bool ag]) true).run Try.prog w = .ok (.tuple #[.int .i64 (r.getD 0), .bool r.isSome]) w := by
  rw [← hs]; exact h.look_ok hm
theorem IntM.look_lit {w : World} {b n : Nat} {F : Ac → Option Int} {aw ri re : Int} {al ag : Bool} {r : Option Int} (h : IntM w b n F) (hm : (⟨aw, al, ri, re, ag⟩ : Ac).mk0.ok) (hs : F (⟨aw, al, ri, re, ag⟩ : Ac).mk0 = r) :
    (Instr.lookup 62 (.map (some b)) (.agg #[.int .i64 aw, .bool al, .int .i64 0, .int .i64 re, .bool ag]) false).run Try.prog w = .ok (.int .i64 (r.getD 0)) w := by
  rw [← hs]; exact h.look hm
theorem IntM.update_lit {w : World} {b n : Nat} {F : Ac → Option Int} {aw ri re : Int} {al ag : Bool} {v : Int} (h : IntM w b n F) (hn : n < maxLen) (hm : (⟨aw, al, ri, re, ag⟩ : Ac).mk0.ok) (hv : -9223372036854775808 ≤ v ∧ v ≤ 9223372036854775807) :
    ∃ w', (Instr.mapUpdate 62 (.map (some b)) (.agg #[.int .i64 aw, .bool al, .int .i64 0, .int .i64 re, .bool ag]) (.int .i64 v)).run Try.prog w = .ok () w' ∧ IntM w' b (n + 1) (fun x => if x = (⟨aw, al, ri, re, ag⟩ : Ac).mk0 then some v else F x) ∧ w.grownBy w' (some b) :=
  h.update hn hm hv
theorem IntM.mono {w : World} {b n n' : Nat} {F : Ac → Option Int} (h : IntM w b n F) (hn : n ≤ n') : IntM w b n' F := by
  obtain ⟨D, h1, h2, h3⟩ := h; exact ⟨D, h1.mono hn, h2, h3⟩
theorem IntM.drew {w : World} {b n : Nat} {F : Ac → Option Int} (h : IntM w b n F) : IntM w.drew b n F := h.below (Below.refl _ _).drew
theorem IntM.setCell {w : World} {b n : Nat} {F : Ac → Option Int} (h : IntM w b n F) {a : Addr} (ha : b ≠ a.block) (u : Value) : IntM (w.setCell a u) b n F := by
  obtain ⟨D, h1, h2, h3⟩ := h; exact ⟨D, h1.setCell ha u, h2, h3⟩
theorem IntM.grown {w w' : World} {b n : Nat} {F : Ac → Option Int} {row : Option Nat} (h : IntM w b n F) (hg : w.grownBy w' row) (hne : some b ≠ row) : IntM w' b n F := by
  obtain ⟨D, h1, h2, h3⟩ := h; exact ⟨D, h1.kept hg hne, h2, h3⟩
/-- A row of the call's own, behind a call. -/
theorem own_keep {w w' : World} {base : Nat} {e : TypeId} {s : Nat} {v : Value} {n : Nat} {xs : List Value} (h : w.ownsRow base e s v n xs) (hb : Below w.heap.size w w') : w'.ownsRow base e s v n xs := by
  obtain ⟨h1, h2⟩ := h
  refine ⟨h1, ?_⟩
  rcases h2 with h2 | ⟨g, cap, cur, hv, hg, hc, hr⟩
  · exact .inl h2
  · exact .inr ⟨g, cap, cur, hv, hg, (hb.block g (Array.getElem?_eq_some_iff.1 hc).1).trans hc, hr⟩
theorem encs_set (l : List Ac) (i : Nat) (a : Ac) (r : Int) (hi : l[i]? = some a) : (encs l).set (i * 5 + 2) (.int .i64 r) = encs (l.set i (a.put r)) := by
  induction l generalizing i with
  | nil => cases hi
  | cons b l ih =>
    cases i with
    | zero =>
      simp at hi; subst hi
      simp [encs, enc, Ac.put]
    | succ i =>
      have := ih i (by simpa using hi)
      simp only [encs, List.flatMap_cons, List.set_cons_succ] at this ⊢
      rw [← this, List.set_append_right _ _ (by simp [enc]; omega)]
      congr 2
      simp [enc]; omega
end Go.Proofs.Ytkpedfigaofloaa
