/-
  Lists of numbers and of ranges in memory.
-/
import Derived.Test.YtkmbidmncnlbkaaProg
import Derived.Test.YtkmbidmncnlbkaaNa
import Derived.WalkKit
import Derived.WalkSpells
import Derived.Handy
import Derived.Outline
import Derived.Lib.Hide
import Derived.IntWalk
import Derived.Laws.AppendOwn
import Derived.Laws.OwnMore
import Derived.OwnWalk
import Derived.Deep.AppendLies
import Derived.Maps.AppendAt
import Derived.Deep.QuietTactic
import Derived.BigQuiet
import Derived.BigRegion
import Derived.Deep.RegionHeldLaw
import Derived.StillTailTactics
import Derived.Deep.CutRange
import Derived.Laws.AppendOwnNone
import Derived.Carry
import Derived.Lib.Strings
namespace Go.Proofs.Ytkmbidmncnlbkaa
open Go.RowKit Sn
set_option maxHeartbeats 400000
set_option maxRecDepth 100000

theorem ret_bool {a b : Bool} (h : a = b) : Ending.returned (.bool a) = .returned (.bool b) := by rw [h]
theorem ret_int {k : IntKind} {a b : Int} (h : a = b) : Ending.returned (.int k a) = .returned (.int k b) := by rw [h]
theorem ret_slice {A : Option Addr} {n m c : Nat} (h : n = m) : Ending.returned (.slice A n c) = .returned (.slice A m c) := by rw [h]
def ints (xs : List Int) : List Value := xs.map (.int .i64)
theorem ints_length (xs : List Int) : (ints xs).length = xs.length := by simp [ints]
theorem ints_append (a b : List Int) : ints (a ++ b) = ints a ++ ints b := by simp [ints]
theorem ints_get {xs : List Int} {j : Nat} {x : Int} (h : xs[j]? = some x) : (ints xs)[j]? = some (.int .i64 x) := by unfold ints; rw [List.getElem?_map, h]; rfl
theorem ints_cells (xs : List Int) : ∀ u ∈ ints xs, u.oneCell' = true := by
  intro u hu
  unfold ints at hu
  obtain ⟨x, _, rfl⟩ := List.mem_map.1 hu
  rfl
theorem ints_set (xs : List Int) (j : Nat) (x : Int) : ints (xs.set j x) = (ints xs).set j (.int .i64 x) := by simp [ints, List.map_set]
/-- The cells from A on hold these numbers. -/
def Cells (w : World) (A : Option Addr) (xs : List Int) : Prop :=
  xs ≠ [] → ∃ g o, A = some ⟨g, o, none⟩ ∧ g < w.heap.size ∧ ∀ (j : Nat) (x : Int), xs[j]? = some x → w.cell? ⟨g, o + j, none⟩ = some (.int .i64 x)
theorem Cells.below {w w' : World} {A : Option Addr} {xs : List Int} (h : Cells w A xs) (hb : Below w.heap.size w w') : Cells w' A xs := fun hn => by
  obtain ⟨g, o, hA, hg, hc⟩ := h hn
  exact ⟨g, o, hA, Nat.lt_of_lt_of_le hg hb.size, fun j x hx => (hb.cell (p := ⟨g, o + j, none⟩) hg).trans (hc j x hx)⟩
theorem Cells.nil (w : World) (A : Option Addr) : Cells w A [] := fun h => absurd rfl h
theorem own_slen {w : World} {base : Nat} {e : TypeId} {s : Nat} {v : Value} {n : Nat} {xs : List Value} (h : w.ownsRow base e s v n xs) : xs.length = n * s := h.1
theorem Cells.of_own {w : World} {base n c s : Nat} {e : TypeId} {A : Option Addr} {xs : List Int} (h : w.ownsRow base e s (.slice A n c) n (ints xs)) : Cells w A xs := fun hn => by
  have hl := own_slen h
  rw [ints_length] at hl
  have hpos : 0 < n := by
    rcases Nat.eq_zero_or_pos n with e | e
    · subst e; simp at hl; exact absurd hl hn
    · exact e
  obtain ⟨g, cap, hv, _, hlt⟩ := h.form hpos
  have hA : A = some ⟨g, 0, none⟩ := by injection hv
  refine ⟨g, 0, hA, hlt, fun j x hx => ?_⟩
  have := h.cells (g := g) (by rw [hA]; rfl) j _ (ints_get hx)
  have hadd : (⟨g, 0, none⟩ : Addr).add j = ⟨g, 0 + j, none⟩ := by unfold Addr.add; split <;> simp_all
  rw [hadd] at this
  exact this
theorem own_empty (w : World) (e : TypeId) (s : Nat) : (w.alloc (.cells #[] e)).ownsRow w.heap.size e s (.slice (some ⟨w.heap.size, 0, none⟩) 0 0) 0 [] :=
  ⟨by simp, .inr ⟨w.heap.size, 0, #[], rfl, Nat.le_refl _, heap_alloc_new w _, Nat.le_refl _, Nat.zero_le _, by simp, by simp⟩⟩
theorem own_keep {w w' : World} {base : Nat} {e : TypeId} {s : Nat} {v : Value} {n : Nat} {xs : List Value} (h : w.ownsRow base e s v n xs) (hb : Below w.heap.size w w') : w'.ownsRow base e s v n xs := by
  rcases h with ⟨h1, ⟨h2, h3⟩ | ⟨g, cap, cur, h2, h3, h4, h5⟩⟩
  · exact ⟨h1, .inl ⟨h2, h3⟩⟩
  · have hg : g < w.heap.size := (Array.getElem?_eq_some_iff.1 h4).1
    exact ⟨h1, .inr ⟨g, cap, cur, h2, h3, (hb.block g hg).trans h4, h5⟩⟩
theorem own_weak {w : World} {base base' : Nat} {e : TypeId} {s : Nat} {v : Value} {n : Nat} {xs : List Value} (h : w.ownsRow base e s v n xs) (hb : base' ≤ base) : w.ownsRow base' e s v n xs := by
  rcases h with ⟨h1, h2 | ⟨g, cap, cur, h2, h3, h4⟩⟩
  · exact ⟨h1, .inl h2⟩
  · exact ⟨h1, .inr ⟨g, cap, cur, h2, by omega, h4⟩⟩
theorem own_form {w : World} {base : Nat} {e : TypeId} {s : Nat} {v : Value} {n : Nat} {xs : List Value} (h : w.ownsRow base e s v n xs) : ∃ A c, v = .slice A n c := by
  rcases h.2 with ⟨rfl, rfl⟩ | ⟨g, cap, cur, rfl, _⟩
  · exact ⟨none, 0, rfl⟩
  · exact ⟨_, cap, rfl⟩
theorem own_cap {w : World} {base : Nat} {e : TypeId} {s : Nat} {A : Option Addr} {n c : Nat} {xs : List Value} (h : w.ownsRow base e s (.slice A n c) n xs) : n ≤ c ∧ c ≤ 9223372036854775807 := by
  rcases h.2 with ⟨hv, hn⟩ | ⟨g, cap, cur, hv, _, _, h5, h6, _⟩
  · injection hv with h1 h2 h3; omega
  · injection hv with h1 h2 h3
    unfold maxLen at h6
    omega
theorem own_none {w : World} {base : Nat} {e : TypeId} {s : Nat} {A : Option Addr} {n c : Nat} {xs : List Value} (h : w.ownsRow base e s (.slice A n c) n xs) : A = none → c = 0 := by
  rintro rfl
  rcases h.2 with ⟨hv, hn⟩ | ⟨g, cap, cur, hv, _⟩
  · injection hv with h1 h2 h3
  · cases hv
theorem own_block_some {w : World} {base g n c : Nat} {e : TypeId} {s : Nat} {xs : List Value} (h : w.ownsRow base e s (.slice (some ⟨g, 0, none⟩) n c) n xs) : base ≤ g ∧ g < w.heap.size := h.lt g rfl
theorem below_drewN (w : World) (m : Nat) : Below w.heap.size w (w.drewN m) := ⟨rfl, rfl, rfl, Nat.le_refl _, fun _ _ => rfl⟩
theorem own_drew {w : World} {base : Nat} {e : TypeId} {s : Nat} {v : Value} {n : Nat} {xs : List Value} (h : w.ownsRow base e s v n xs) : w.drew.ownsRow base e s v n xs := own_keep h (below_drewN w 1)
theorem cells_new (w : World) (cs : Array Value) (t : TypeId) : ∀ j u, cs.toList[j]? = some u → (w.alloc (.cells cs t)).cell? ((⟨w.heap.size, 0, none⟩ : Addr).add j) = some u := fun j u hu => by
  have h0 := cell_of_row (w.alloc (.cells cs t)) w.heap.size j cs t (0, 0) (heap_alloc_new w _)
  have hadd : (⟨w.heap.size, 0, none⟩ : Addr).add j = ⟨w.heap.size, j, none⟩ := by unfold Addr.add; split <;> simp_all
  rw [hadd, h0]
  rw [Array.getElem?_toList] at hu
  exact hu
section
variable {w : World} {base : Nat} {e : TypeId} {n g c sz : Nat} {xs : List Value}
theorem own_at (h : w.ownsRow base e sz (.slice (some ⟨g, 0, none⟩) n c) n xs) {j : Nat} {u : Value} (hu : xs[j]? = some u) : w.cell? ⟨g, j, none⟩ = some u ∧ w.frozen? ⟨g, j, none⟩ = false := by
  rcases h.2 with ⟨h', _⟩ | ⟨g', cap', cur, h', hbb, hgg, hnc, hcm, hcs, htake⟩
  · simp at h'
  · simp only [Value.slice.injEq, Option.some.injEq, Addr.mk.injEq, and_true, true_and] at h'
    obtain ⟨rfl, rfl⟩ := h'
    refine ⟨?_, frozen_of_row w g j cur e hgg⟩
    rw [cell_of_row w g j cur e (0, 0) hgg]
    rw [← htake, List.getElem?_take] at hu
    split at hu
    · simpa using hu
    · cases hu
theorem own_store (h : w.ownsRow base e sz (.slice (some ⟨g, 0, none⟩) n c) n xs) (j : Nat) (v : Value) : (w.setCell ⟨g, j, none⟩ v).ownsRow base e sz (.slice (some ⟨g, 0, none⟩) n c) n (xs.set j v) := by
  refine ⟨by rw [List.length_set]; exact h.1, ?_⟩
  rcases h.2 with ⟨h', _⟩ | ⟨g', cap', cur, h', hbb, hgg, hnc, hcm, hcs, htake⟩
  · simp at h'
  · simp only [Value.slice.injEq, Option.some.injEq, Addr.mk.injEq, and_true, true_and] at h'
    obtain ⟨rfl, rfl⟩ := h'
    refine .inr ⟨g, c, cur.setIfInBounds j v, rfl, hbb, heap_setCell_same w g j cur e v hgg, hnc, hcm, by simpa using hcs, ?_⟩
    rw [← htake, Array.toList_setIfInBounds, List.take_set]
theorem own_set_ne (h : w.ownsRow base e sz (.slice (some ⟨g, 0, none⟩) n c) n xs) {p : Addr} (hp : p.block ≠ g) (u : Value) : (w.setCell p u).ownsRow base e sz (.slice (some ⟨g, 0, none⟩) n c) n xs := by
  refine ⟨h.1, ?_⟩
  rcases h.2 with ⟨h', _⟩ | ⟨g', cap', cur, h', hbb, hgg, rest⟩
  · simp at h'
  · simp only [Value.slice.injEq, Option.some.injEq, Addr.mk.injEq, and_true, true_and] at h'
    obtain ⟨rfl, rfl⟩ := h'
    exact .inr ⟨g, c, cur, rfl, hbb, (heap_setCell_other w p g u (fun e => hp e.symm)).trans hgg, rest⟩
end
theorem ownsRow_succ {w : World} {base : Nat} {e : TypeId} {s : Nat} {v : Value} {n : Nat} {xs : List Value} (h : w.ownsRow base e s v (n + 1) xs) : ∃ g cap, v = .slice (some ⟨g, 0, none⟩) (n + 1) cap := by
  obtain ⟨g, cap, hv, _, _⟩ := h.form (Nat.succ_pos n)
  exact ⟨g, cap, hv⟩
/-- The cells from A on hold these numbers, in a block from lo on. -/
def CellsN (lo : Nat) (w : World) (A : Option Addr) (xs : List Int) : Prop :=
  xs ≠ [] → ∃ g o, A = some ⟨g, o, none⟩ ∧ lo ≤ g ∧ g < w.heap.size ∧ ∀ (j : Nat) (x : Int), xs[j]? = some x → w.cell? ⟨g, o + j, none⟩ = some (.int .i64 x)
section
variable {lo lo' n c : Nat} {w w' : World} {A : Option Addr} {xs : List Int} 
theorem CellsN.cells (h : CellsN lo w A xs) : Cells w A xs := fun hn => by
  obtain ⟨g, o, h1, _, h2, h3⟩ := h hn
  exact ⟨g, o, h1, h2, h3⟩
theorem CellsN.below (h : CellsN lo w A xs) (hb : Below w.heap.size w w') : CellsN lo w' A xs := fun hn => by
  obtain ⟨g, o, hA, hk, hg, hc⟩ := h hn
  exact ⟨g, o, hA, hk, Nat.lt_of_lt_of_le hg hb.size, fun j x hx => (hb.cell (p := ⟨g, o + j, none⟩) hg).trans (hc j x hx)⟩
theorem CellsN.mono (h : CellsN lo w A xs) (hl : lo' ≤ lo) : CellsN lo' w A xs := fun hn => by
  obtain ⟨g, o, h1, h0, h2, h3⟩ := h hn
  exact ⟨g, o, h1, Nat.le_trans hl h0, h2, h3⟩
theorem CellsN.set (h : CellsN lo w A xs) {p : Addr} (hp : p.block < lo) (u : Value) : CellsN lo (w.setCell p u) A xs := fun hn => by
  obtain ⟨g, o, hA, hk, hg, hc⟩ := h hn
  exact ⟨g, o, hA, hk, by simpa [World.setCell] using hg, fun j x hx => (World.cell?_setCell_other w p ⟨g, o + j, none⟩ u (fun e => by rw [e] at hp; simp only [] at hp; omega)).trans (hc j x hx)⟩
theorem Cells.toN (h : Cells w A xs) : CellsN 0 w A xs := fun hn => by
  obtain ⟨g, o, h1, h2, h3⟩ := h hn
  exact ⟨g, o, h1, Nat.zero_le _, h2, h3⟩
theorem CellsN.of_own {base s : Nat} {e : TypeId} (h : w.ownsRow base e s (.slice A n c) n (ints xs)) : CellsN base w A xs := fun hn => by
  obtain ⟨g, o, hA, h2, h3⟩ := Cells.of_own h hn
  subst hA
  exact ⟨g, o, rfl, (h.lt g rfl).1, h2, h3⟩
/-- A slice of numbers; a slice of pieces. -/
structure Si (lo : Nat) (w : World) (A : Option Addr) (n c s : Nat) (xs : List Int) : Prop where
  len : xs.length = n * s
  cap : n ≤ c
  max : c ≤ 9223372036854775807
  nil : A = none → c = 0
  cells : CellsN lo w A xs
theorem Si.below {s : Nat} (h : Si lo w A n c s xs) (hb : Below w.heap.size w w') : Si lo w' A n c s xs := ⟨h.len, h.cap, h.max, h.nil, h.cells.below hb⟩
theorem Si.mono {s : Nat} (h : Si lo w A n c s xs) (hl : lo' ≤ lo) : Si lo' w A n c s xs := ⟨h.len, h.cap, h.max, h.nil, h.cells.mono hl⟩
theorem Si.set {s : Nat} (h : Si lo w A n c s xs) {p : Addr} (hp : p.block < lo) (u : Value) : Si lo (w.setCell p u) A n c s xs := ⟨h.len, h.cap, h.max, h.nil, h.cells.set hp u⟩
theorem Si.own {base s : Nat} {e : TypeId} (h : w.ownsRow base e s (.slice A n c) n (ints xs)) : Si base w A n c s xs :=
  ⟨by have := own_slen h; rwa [ints_length] at this, (own_cap h).1, (own_cap h).2, own_none h, CellsN.of_own h⟩
end
theorem wpList_unguard {P : Program} {w : World} {ops : Array Oper} {rest : List Oper} {o : Oper} {a : Act} {Q : Exit → Act → World → Prop} (hw : Region.wanted o (yielded ops a.tmps) = true) (h : wpList P ops Q ({ o with guard := none } :: rest) a w) : wpList P ops Q (o :: rest) a w := by
  unfold wpList at h ⊢
  rw [if_pos hw]
  rw [if_pos (show Region.wanted { o with guard := none } (yielded ops a.tmps) = true from by simp [Region.wanted])] at h
  exact h
theorem wpList_append_si {P : Program} {w : World} {ops : Array Oper} {rest : List Oper} {o : Oper} {a : Act} {Q : Exit → Act → World → Prop} (hgd : o.guard = none) (s x : Operand) (t : TypeId)
    (ho : o.op = .call { callee := .builtin .append, args := #[s, x], argTypes := #[t, t] })
    (base : Nat) (e : TypeId) (i : TypeInfo) (z : Value) (size bytes : Nat) (ht : P.underlying t = some (.slice e)) (hi : P.info? e = some i) (hz : i.zero = some z)
    (hsize : i.size = size) (hby : i.bytes = bytes) (hzs : z.cells.size = size) (hsz : 0 < size)
    (v : Value) (n : Nat) (xs : List Value) (hs : a.eval s = v) (hown : w.ownsRow base e size v n xs)
    (X : Option Addr) (m c : Nat) (ys : List Int) (hx : a.eval x = .slice X m c) (hS : Si 0 w X m c size ys)
    (h63 : n + m ≤ maxLen) (hbytes : (n + m) * bytes ≤ 140737488355328) (hbase : base ≤ w.heap.size)
    (h : ∀ v' w', w'.ownsRow base e size v' (n + m) (xs ++ ints ys) → (∀ w0 : World, w0.heap.size ≤ base → Below w0.heap.size w0 w → Below w0.heap.size w0 w') → wpList P ops Q rest (a.put o.dst v') w') : wpList P ops Q (o :: rest) a w := by
  cases X with
  | none =>
    have hc : c = 0 := hS.nil rfl
    have hm : m = 0 := by have := hS.cap; omega
    subst hc hm
    have hys : ys = [] := List.eq_nil_of_length_eq_zero (by have := hS.len; omega)
    subst hys
    refine wpList_append_own_none hgd s x t ho base e i size ht hi v n xs hs hown hx (h v w (by simpa [ints] using hown) fun w0 _ hb => hb)
  | some ad =>
    refine wpList_append_own w hgd s x t ho base e i z size bytes ht hi hz hsize hby hzs hsz v n xs hs hown ad m c (ints ys) hx (by rw [ints_length]; exact hS.len) ?_ (ints_cells _) h63 hbytes hbase fun v' w' h1 h2 _ => h v' w' h1 fun w0 hw0 hb => hb.grown h2 hb.size fun g hg => Nat.le_trans hw0 (hown.lt g hg).1
    intro j u hu
    have hne : ys ≠ [] := fun e => by rw [e] at hu; simp [ints] at hu
    obtain ⟨g, o', hA, _, hg, hc⟩ := hS.cells hne
    injection hA with hA
    subst hA
    rw [Addr.add_lit]
    unfold ints at hu
    rw [List.getElem?_map, Option.map_eq_some_iff] at hu
    obtain ⟨y, hy, rfl⟩ := hu
    exact hc j y hy

/-- The numbers of a list of ranges; a range as one value. -/
def flat2 : List S → List Int
  | [] => []
  | s :: l => s.lo :: s.hi :: flat2 l
def sv (s : S) : Value := .agg #[.int .i64 s.lo, .int .i64 s.hi]
theorem flat2_len (l : List S) : (flat2 l).length = l.length * 2 := by
  induction l with
  | nil => rfl
  | cons p l ih => simp [flat2, ih]; omega
theorem flat2_append (l m : List S) : flat2 (l ++ m) = flat2 l ++ flat2 m := by
  induction l with
  | nil => rfl
  | cons p l ih => simp [flat2, ih]
theorem flat2_get : ∀ {l : List S} {j : Nat} {s : S}, l[j]? = some s → (flat2 l)[j * 2]? = some s.lo ∧ (flat2 l)[j * 2 + 1]? = some s.hi
  | [], j, s, h => by simp at h
  | q :: l, 0, s, h => by
    simp at h
    subst h
    exact ⟨rfl, rfl⟩
  | q :: l, j + 1, s, h => by
    have ih := flat2_get (l := l) (j := j) (s := s) (by simpa using h)
    have e : (j + 1) * 2 = j * 2 + 2 := by omega
    rw [e]
    exact ih
theorem flat2_bnds (l : List S) : flat2 l = bnds l := by
  induction l with
  | nil => rfl
  | cons s l ih => simp [flat2, bnds, ih]
/-- The slice at A holds these ranges. -/
def Sps (w : World) (A : Option Addr) (l : List S) : Prop := Cells w A (flat2 l)
theorem Sps.below {w w' : World} {A : Option Addr} {l : List S} (h : Sps w A l) (hb : Below w.heap.size w w') : Sps w' A l := Cells.below h hb
theorem Sps.nil (w : World) (A : Option Addr) : Sps w A [] := Cells.nil w A
theorem Sps.of_own {w : World} {base n c : Nat} {e : TypeId} {A : Option Addr} {l : List S} (h : w.ownsRow base e 2 (.slice A n c) n (ints (flat2 l))) : Sps w A l := Cells.of_own h
theorem Sps.at_ {w : World} {A : Option Addr} {l : List S} (h : Sps w A l) {j : Nat} {s : S} (hj : l[j]? = some s) :
    ∃ g o, A = some ⟨g, o, none⟩ ∧ g < w.heap.size ∧ w.cell? ⟨g, o + j * 2, none⟩ = some (.int .i64 s.lo) ∧ w.cell? ⟨g, o + j * 2 + 1, none⟩ = some (.int .i64 s.hi) := by
  obtain ⟨h0, h1⟩ := flat2_get hj
  have hne : flat2 l ≠ [] := fun e => by rw [e] at h0; simp at h0
  obtain ⟨g, o, hA, hg, hc⟩ := h hne
  refine ⟨g, o, hA, hg, hc _ _ h0, ?_⟩
  rw [Nat.add_assoc]; exact hc _ _ h1
theorem own_plen {w : World} {base : Nat} {e : TypeId} {A : Option Addr} {m c : Nat} {l : List S} (h : w.ownsRow base e 2 (.slice A m c) m (ints (flat2 l))) : l.length = m := by
  have := own_slen h
  rw [ints_length, flat2_len] at this
  omega
abbrev Sl (lo : Nat) (w : World) (A : Option Addr) (n c : Nat) (l : List S) : Prop := Si lo w A n c 2 (flat2 l)
theorem Sl.plen {lo n c : Nat} {w : World} {A : Option Addr} {l : List S} (h : Sl lo w A n c l) : l.length = n := by have := h.len; rw [flat2_len] at this; omega
theorem Sl.sps {lo n c : Nat} {w : World} {A : Option Addr} {l : List S} (h : Sl lo w A n c l) : Sps w A l := h.cells.cells
theorem info_span : (Try.prog.info? 24).map (fun i => (i.zero, i.size, i.bytes)) = some (some (.agg #[.int .i64 0, .int .i64 0]), 2, 16) := by kernel_rfl
theorem info_int : (Try.prog.info? 3).map (fun i => (i.zero, i.size, i.bytes)) = some (some (.int .i64 0), 1, 8) := by kernel_rfl
theorem ints2 (s : S) : ints (flat2 [s]) = [.int .i64 s.lo, .int .i64 s.hi] := rfl
end Go.Proofs.Ytkmbidmncnlbkaa
