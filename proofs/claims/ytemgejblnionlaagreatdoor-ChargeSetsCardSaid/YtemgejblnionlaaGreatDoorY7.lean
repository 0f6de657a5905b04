/-
  Texts QeEb, put together by program.
-/
import Derived.Test.YtemgejblnionlaaGreatDoorY3
import Derived.Test.YtemgejblnionlaaGreatDoorProg
import Derived.WalkKit
import Derived.WalkSpells
import Derived.Handy
import Derived.Outline
import Derived.Lib.Hide
import Derived.IntWalk
import Derived.Laws.AppendOwn
import Derived.Laws.OwnMore
import Derived.OwnWalk
import Derived.Deep.AppendLies
import Derived.Maps.AppendAt
import Derived.Deep.QuietTactic
import Derived.BigQuiet
import Derived.BigRegion
import Derived.Deep.RegionHeldLaw
import Derived.StillTailTactics
import Derived.Deep.CutRange
namespace Go.Proofs.YtemgejblnionlaaGreatDoor.Ext
open Go.RowKit Ex
set_option maxHeartbeats 400000
set_option maxRecDepth 100000
theorem ret_bool {a b : Bool} (h : a = b) : Ending.returned (.bool a) = .returned (.bool b) := by rw [h]
def ints (xs : List Int) : List Value := xs.map (.int .i64)
theorem ints_length (xs : List Int) : (ints xs).length = xs.length := by simp [ints]
theorem ints_append (a b : List Int) : ints (a ++ b) = ints a ++ ints b := by simp [ints]
theorem ints_get {xs : List Int} {j : Nat} {x : Int} (h : xs[j]? = some x) : (ints xs)[j]? = some (.int .i64 x) := by unfold ints; rw [List.getElem?_map, h]; rfl
theorem ints_cells (xs : List Int) : ∀ u ∈ ints xs, u.oneCell' = true := by
 intro u hu
 unfold ints at hu
 obtain ⟨x, _, rfl⟩ := List.mem_map.1 hu
 rfl
theorem ints_set (xs : List Int) (j : Nat) (x : Int) : ints (xs.set j x) = (ints xs).set j (.int .i64 x) := by simp [ints, List.map_set]
def Cells (w : World) (A : Option Addr) (xs : List Int) : Prop :=
 xs ≠ [] → ∃ g o, A = some ⟨g, o, none⟩ ∧ g < w.heap.size ∧ ∀ (j : Nat) (x : Int), xs[j]? = some x → w.cell? ⟨g, o + j, none⟩ = some (.int .i64 x)
theorem Cells.below {w w' : World} {A : Option Addr} {xs : List Int} (h : Cells w A xs) (hb : Below w.heap.size w w') : Cells w' A xs := fun hn => by
 obtain ⟨g, o, hA, hg, hc⟩ := h hn
 exact ⟨g, o, hA, Nat.lt_of_lt_of_le hg hb.size, fun j x hx => (hb.cell (p := ⟨g, o + j, none⟩) hg).trans (hc j x hx)⟩
theorem Cells.nil (w : World) (A : Option Addr) : Cells w A [] := fun h => absurd rfl h
theorem own_slen {w : World} {base : Nat} {e : TypeId} {s : Nat} {v : Value} {n : Nat} {xs : List Value} (h : w.ownsRow base e s v n xs) : xs.length = n * s := h.1
theorem Cells.of_own {w : World} {base n c s : Nat} {e : TypeId} {A : Option Addr} {xs : List Int} (h : w.ownsRow base e s (.slice A n c) n (ints xs)) : Cells w A xs := fun hn => by
 have hl := own_slen h
 rw [ints_length] at hl
 have hpos : 0 < n := by
  rcases Nat.eq_zero_or_pos n with e | e
  · subst e; simp at hl; exact absurd hl hn
  · exact e
 obtain ⟨g, cap, hv, _, hlt⟩ := h.form hpos
 have hA : A = some ⟨g, 0, none⟩ := by injection hv
 refine ⟨g, 0, hA, hlt, fun j x hx => ?_⟩
 have := h.cells (g := g) (by rw [hA]; rfl) j _ (ints_get hx)
 have hadd : (⟨g, 0, none⟩ : Addr).add j = ⟨g, 0 + j, none⟩ := by unfold Addr.add; split <;> simp_all
 rw [hadd] at this
 exact this
theorem own_empty (w : World) (e : TypeId) (s : Nat) : (w.alloc (.cells #[] e)).ownsRow w.heap.size e s (.slice (some ⟨w.heap.size, 0, none⟩) 0 0) 0 [] :=
 ⟨by simp, .inr ⟨w.heap.size, 0, #[], rfl, Nat.le_refl _, heap_alloc_new w _, Nat.le_refl _, Nat.zero_le _, by simp, by simp⟩⟩
theorem own_keep {w w' : World} {base : Nat} {e : TypeId} {s : Nat} {v : Value} {n : Nat} {xs : List Value} (h : w.ownsRow base e s v n xs) (hb : Below w.heap.size w w') : w'.ownsRow base e s v n xs := by
 rcases h with ⟨h1, ⟨h2, h3⟩ | ⟨g, cap, cur, h2, h3, h4, h5⟩⟩
 · exact ⟨h1, .inl ⟨h2, h3⟩⟩
 · have hg : g < w.heap.size := (Array.getElem?_eq_some_iff.1 h4).1
   exact ⟨h1, .inr ⟨g, cap, cur, h2, h3, (hb.block g hg).trans h4, h5⟩⟩
theorem own_weak {w : World} {base base' : Nat} {e : TypeId} {s : Nat} {v : Value} {n : Nat} {xs : List Value} (h : w.ownsRow base e s v n xs) (hb : base' ≤ base) : w.ownsRow base' e s v n xs := by
 rcases h with ⟨h1, h2 | ⟨g, cap, cur, h2, h3, h4⟩⟩
 · exact ⟨h1, .inl h2⟩
 · exact ⟨h1, .inr ⟨g, cap, cur, h2, by omega, h4⟩⟩
theorem own_form {w : World} {base : Nat} {e : TypeId} {s : Nat} {v : Value} {n : Nat} {xs : List Value} (h : w.ownsRow base e s v n xs) : ∃ A c, v = .slice A n c := by
 rcases h.2 with ⟨rfl, rfl⟩ | ⟨g, cap, cur, rfl, _⟩
 · exact ⟨none, 0, rfl⟩
 · exact ⟨_, cap, rfl⟩
theorem own_cap {w : World} {base : Nat} {e : TypeId} {s : Nat} {A : Option Addr} {n c : Nat} {xs : List Value} (h : w.ownsRow base e s (.slice A n c) n xs) : n ≤ c ∧ c ≤ 9223372036854775807 := by
 rcases h.2 with ⟨hv, hn⟩ | ⟨g, cap, cur, hv, _, _, h5, h6, _⟩
 · injection hv with h1 h2 h3; omega
 · injection hv with h1 h2 h3
   unfold maxLen at h6
   omega
theorem own_none {w : World} {base : Nat} {e : TypeId} {s : Nat} {A : Option Addr} {n c : Nat} {xs : List Value} (h : w.ownsRow base e s (.slice A n c) n xs) : A = none → c = 0 := by
 rintro rfl
 rcases h.2 with ⟨hv, hn⟩ | ⟨g, cap, cur, hv, _⟩
 · injection hv with h1 h2 h3
 · cases hv
theorem below_drewN (w : World) (m : Nat) : Below w.heap.size w (w.drewN m) := ⟨rfl, rfl, rfl, Nat.le_refl _, fun _ _ => rfl⟩
theorem own_drew {w : World} {base : Nat} {e : TypeId} {s : Nat} {v : Value} {n : Nat} {xs : List Value} (h : w.ownsRow base e s v n xs) : w.drew.ownsRow base e s v n xs := own_keep h (below_drewN w 1)
theorem cells_new (w : World) (cs : Array Value) (t : TypeId) : ∀ j u, cs.toList[j]? = some u → (w.alloc (.cells cs t)).cell? ((⟨w.heap.size, 0, none⟩ : Addr).add j) = some u := fun j u hu => by
 have h0 := cell_of_row (w.alloc (.cells cs t)) w.heap.size j cs t (0, 0) (heap_alloc_new w _)
 have hadd : (⟨w.heap.size, 0, none⟩ : Addr).add j = ⟨w.heap.size, j, none⟩ := by unfold Addr.add; split <;> simp_all
 rw [hadd, h0]
 rw [Array.getElem?_toList] at hu
 exact hu
def flat3 : List Pc → List Int
 | [] => []
 | p :: l => p.id :: p.fr :: p.n :: flat3 l
def pv (p : Pc) : Value := .agg #[.int .i64 p.id, .int .i64 p.fr, .int .i64 p.n]
theorem flat3_len (l : List Pc) : (flat3 l).length = l.length * 3 := by
 induction l with
 | nil => rfl
 | cons p l ih => simp [flat3, ih]; omega
theorem flat3_append (l m : List Pc) : flat3 (l ++ m) = flat3 l ++ flat3 m := by
 induction l with
 | nil => rfl
 | cons p l ih => simp [flat3, ih]
theorem flat3_get : ∀ {l : List Pc} {j : Nat} {p : Pc}, l[j]? = some p → (flat3 l)[j * 3]? = some p.id ∧ (flat3 l)[j * 3 + 1]? = some p.fr ∧ (flat3 l)[j * 3 + 2]? = some p.n
 | [], j, p, h => by simp at h
 | q :: l, 0, p, h => by
   simp at h
   subst h
   exact ⟨rfl, rfl, rfl⟩
 | q :: l, j + 1, p, h => by
   have ih := flat3_get (l := l) (j := j) (p := p) (by simpa using h)
   have e : (j + 1) * 3 = j * 3 + 3 := by omega
   rw [e]
   exact ih
def Pcs (w : World) (A : Option Addr) (l : List Pc) : Prop := Cells w A (flat3 l)
theorem Pcs.below {w w' : World} {A : Option Addr} {l : List Pc} (h : Pcs w A l) (hb : Below w.heap.size w w') : Pcs w' A l := Cells.below h hb
theorem Pcs.nil (w : World) (A : Option Addr) : Pcs w A [] := Cells.nil w A
theorem Pcs.of_own {w : World} {base n c : Nat} {e : TypeId} {A : Option Addr} {l : List Pc} (h : w.ownsRow base e 3 (.slice A n c) n (ints (flat3 l))) : Pcs w A l := Cells.of_own h
theorem Pcs.at_ {w : World} {A : Option Addr} {l : List Pc} (h : Pcs w A l) {j : Nat} {p : Pc} (hj : l[j]? = some p) :
 ∃ g o, A = some ⟨g, o, none⟩ ∧ g < w.heap.size ∧ w.cell? ⟨g, o + j * 3, none⟩ = some (.int .i64 p.id) ∧ w.cell? ⟨g, o + j * 3 + 1, none⟩ = some (.int .i64 p.fr) ∧ w.cell? ⟨g, o + j * 3 + 2, none⟩ = some (.int .i64 p.n) := by
 obtain ⟨h0, h1, h2⟩ := flat3_get hj
 have hne : flat3 l ≠ [] := fun e => by rw [e] at h0; simp at h0
 obtain ⟨g, o, hA, hg, hc⟩ := h hne
 refine ⟨g, o, hA, hg, hc _ _ h0, ?_, ?_⟩
 · rw [Nat.add_assoc]; exact hc _ _ h1
 · rw [Nat.add_assoc]; exact hc _ _ h2
theorem own_plen {w : World} {base : Nat} {e : TypeId} {A : Option Addr} {m c : Nat} {l : List Pc} (h : w.ownsRow base e 3 (.slice A m c) m (ints (flat3 l))) : l.length = m := by
 have := own_slen h
 rw [ints_length, flat3_len] at this
 omega
theorem info_piece : (Tryz.prog.info? 126).map (fun i => (i.zero, i.size, i.bytes)) = some (some (.agg #[.int .i64 0, .int .i64 0, .int .i64 0]), 3, 24) := by kernel_rfl
def Tri (w : World) (g o : Nat) (p : Pc) : Prop := w.cell? ⟨g, o, none⟩ = some (.int .i64 p.id) ∧ w.cell? ⟨g, o + 1, none⟩ = some (.int .i64 p.fr) ∧ w.cell? ⟨g, o + 2, none⟩ = some (.int .i64 p.n)
theorem Tri.below {w w' : World} {g o : Nat} {p : Pc} (h : Tri w g o p) (hb : Below w.heap.size w w') : Tri w' g o p :=
 ⟨(hb.cell (block_lt_of_cell h.1)).trans h.1, (hb.cell (block_lt_of_cell h.2.1)).trans h.2.1, (hb.cell (block_lt_of_cell h.2.2)).trans h.2.2⟩
section
variable {w : World} {base : Nat} {e : TypeId} {n g c sz : Nat} {xs : List Value}
theorem own_at (h : w.ownsRow base e sz (.slice (some ⟨g, 0, none⟩) n c) n xs) {j : Nat} {u : Value} (hu : xs[j]? = some u) : w.cell? ⟨g, j, none⟩ = some u ∧ w.frozen? ⟨g, j, none⟩ = false := by
 rcases h.2 with ⟨h', _⟩ | ⟨g', cap', cur, h', hbb, hgg, hnc, hcm, hcs, htake⟩
 · simp at h'
 · simp only [Value.slice.injEq, Option.some.injEq, Addr.mk.injEq, and_true, true_and] at h'
   obtain ⟨rfl, rfl⟩ := h'
   refine ⟨?_, frozen_of_row w g j cur e hgg⟩
   rw [cell_of_row w g j cur e (0, 0) hgg]
   rw [← htake, List.getElem?_take] at hu
   split at hu
   · simpa using hu
   · cases hu
theorem own_store (h : w.ownsRow base e sz (.slice (some ⟨g, 0, none⟩) n c) n xs) (j : Nat) (v : Value) : (w.setCell ⟨g, j, none⟩ v).ownsRow base e sz (.slice (some ⟨g, 0, none⟩) n c) n (xs.set j v) := by
 refine ⟨by rw [List.length_set]; exact h.1, ?_⟩
 rcases h.2 with ⟨h', _⟩ | ⟨g', cap', cur, h', hbb, hgg, hnc, hcm, hcs, htake⟩
 · simp at h'
 · simp only [Value.slice.injEq, Option.some.injEq, Addr.mk.injEq, and_true, true_and] at h'
   obtain ⟨rfl, rfl⟩ := h'
   refine .inr ⟨g, c, cur.setIfInBounds j v, rfl, hbb, heap_setCell_same w g j cur e v hgg, hnc, hcm, by simpa using hcs, ?_⟩
   rw [← htake, Array.toList_setIfInBounds, List.take_set]
end
theorem ownsRow_succ {w : World} {base : Nat} {e : TypeId} {s : Nat} {v : Value} {n : Nat} {xs : List Value} (h : w.ownsRow base e s v (n + 1) xs) : ∃ g cap, v = .slice (some ⟨g, 0, none⟩) (n + 1) cap := by
 obtain ⟨g, cap, hv, _, _⟩ := h.form (Nat.succ_pos n)
 exact ⟨g, cap, hv⟩
theorem flat3_set : ∀ (l : List Pc) (q : Pc) (x : Int), flat3 (l ++ [{ q with n := x }]) = (flat3 (l ++ [q])).set (l.length * 3 + 2) x
 | [], q, x => rfl
 | p :: l, q, x => by
   have e : (p :: l).length * 3 + 2 = (l.length * 3 + 2) + 3 := by simp; omega
   rw [e]
   show p.id :: p.fr :: p.n :: flat3 (l ++ [{ q with n := x }]) = _
   rw [flat3_set l q x]
   rfl
abbrev Duo (W : World) (g o g2 o2 : Nat) (p q : Pc) : Prop := W.cell? ⟨g, o, none⟩ = some (.int .i64 p.id) ∧ W.cell? ⟨g, o + 1, none⟩ = some (.int .i64 p.fr) ∧ W.cell? ⟨g, o + 2, none⟩ = some (.int .i64 p.n) ∧ W.cell? ⟨g2, o2, none⟩ = some (.int .i64 q.id) ∧ W.cell? ⟨g2, o2 + 1, none⟩ = some (.int .i64 q.fr) ∧ W.cell? ⟨g2, o2 + 2, none⟩ = some (.int .i64 q.n)
theorem duo_keep {W W' : World} {g o g2 o2 : Nat} {p q : Pc} (h : Duo W g o g2 o2 p q) (hb : Below W.heap.size W W') : Duo W' g o g2 o2 p q :=
 ⟨(hb.cell (block_lt_of_cell h.1)).trans h.1, (hb.cell (block_lt_of_cell h.2.1)).trans h.2.1, (hb.cell (block_lt_of_cell h.2.2.1)).trans h.2.2.1, (hb.cell (block_lt_of_cell h.2.2.2.1)).trans h.2.2.2.1, (hb.cell (block_lt_of_cell h.2.2.2.2.1)).trans h.2.2.2.2.1, (hb.cell (block_lt_of_cell h.2.2.2.2.2)).trans h.2.2.2.2.2⟩
theorem own_tri {w : World} {base g m c : Nat} {e : TypeId} {l : List Pc} (h : w.ownsRow base e 3 (.slice (some ⟨g, 0, none⟩) m c) m (ints (flat3 l))) {j : Nat} {q : Pc} (hq : l[j]? = some q) : Tri w g (j * 3) q ∧ w.frozen? ⟨g, j * 3 + 2, none⟩ = false := by
 obtain ⟨h0, h1, h2⟩ := flat3_get hq
 exact ⟨⟨(own_at h (ints_get h0)).1, (own_at h (ints_get h1)).1, (own_at h (ints_get h2)).1⟩, (own_at h (ints_get h2)).2⟩
end Go.Proofs.YtemgejblnionlaaGreatDoor.Ext
