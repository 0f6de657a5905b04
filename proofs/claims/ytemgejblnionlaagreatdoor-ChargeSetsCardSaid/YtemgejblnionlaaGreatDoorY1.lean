/-
  Texts Ga Or Lo Bx, put together by program.
-/
import Derived.Test.YtemgejblnionlaaGreatDoorY0
import Derived.Test.YtemgejblnionlaaGreatDoorProg
import Derived.WalkKit
import Derived.WalkSpells
import Derived.Handy
import Derived.Outline
import Derived.Lib.Hide
import Derived.IntWalk
import Derived.Laws.AppendOwn
import Derived.Laws.OwnMore
import Derived.OwnWalk
import Derived.Deep.AppendLies
import Derived.Maps.AppendAt
import Derived.Deep.QuietTactic
import Derived.BigQuiet
import Derived.BigRegion
import Derived.Deep.RegionHeldLaw
import Derived.StillTailTactics
import Derived.Deep.CutRange
import Derived.Laws.AppendOwnNone
import Derived.Carry
import Derived.Lib.Strings
import Derived.Lib.OwnKind
import Derived.Laws.Tables
import Derived.Deep.WholeRow
import Derived.Deep.MidRow
import Derived.Deep.RegionHeld
namespace Go.Proofs.YtemgejblnionlaaGreatDoor
open Go.RowKit
set_option maxHeartbeats 400000
set_option maxRecDepth 100000
theorem ret_bool {a b : Bool} (h : a = b) : Ending.returned (.bool a) = .returned (.bool b) := by rw [h]
theorem ret_int {k : IntKind} {a b : Int} (h : a = b) : Ending.returned (.int k a) = .returned (.int k b) := by rw [h]
theorem own_empty (w : World) (e : TypeId) (s : Nat) : (w.alloc (.cells #[] e)).ownsRow w.heap.size e s (.slice (some ⟨w.heap.size, 0, none⟩) 0 0) 0 [] :=
 ⟨by simp, .inr ⟨w.heap.size, 0, #[], rfl, Nat.le_refl _, heap_alloc_new w _, Nat.le_refl _, Nat.zero_le _, by simp, by simp⟩⟩
theorem own_keep {w w' : World} {base : Nat} {e : TypeId} {s : Nat} {v : Value} {n : Nat} {xs : List Value} (h : w.ownsRow base e s v n xs) (hb : Below w.heap.size w w') : w'.ownsRow base e s v n xs := by
 rcases h with ⟨h1, ⟨h2, h3⟩ | ⟨g, cap, cur, h2, h3, h4, h5⟩⟩
 · exact ⟨h1, .inl ⟨h2, h3⟩⟩
 · have hg : g < w.heap.size := (Array.getElem?_eq_some_iff.1 h4).1
   exact ⟨h1, .inr ⟨g, cap, cur, h2, h3, (hb.block g hg).trans h4, h5⟩⟩
theorem own_weak {w : World} {base base' : Nat} {e : TypeId} {s : Nat} {v : Value} {n : Nat} {xs : List Value} (h : w.ownsRow base e s v n xs) (hb : base' ≤ base) : w.ownsRow base' e s v n xs := by
 rcases h with ⟨h1, h2 | ⟨g, cap, cur, h2, h3, h4⟩⟩
 · exact ⟨h1, .inl h2⟩
 · exact ⟨h1, .inr ⟨g, cap, cur, h2, by omega, h4⟩⟩
theorem own_form {w : World} {base : Nat} {e : TypeId} {s : Nat} {v : Value} {n : Nat} {xs : List Value} (h : w.ownsRow base e s v n xs) : ∃ A c, v = .slice A n c := by
 rcases h.2 with ⟨rfl, rfl⟩ | ⟨g, cap, cur, rfl, _⟩
 · exact ⟨none, 0, rfl⟩
 · exact ⟨_, cap, rfl⟩
theorem own_cap {w : World} {base : Nat} {e : TypeId} {s : Nat} {A : Option Addr} {n c : Nat} {xs : List Value} (h : w.ownsRow base e s (.slice A n c) n xs) : n ≤ c ∧ c ≤ 9223372036854775807 := by
 rcases h.2 with ⟨hv, hn⟩ | ⟨g, cap, cur, hv, _, _, h5, h6, _⟩
 · injection hv with h1 h2 h3; omega
 · injection hv with h1 h2 h3
   unfold maxLen at h6
   omega
theorem own_none {w : World} {base : Nat} {e : TypeId} {s : Nat} {A : Option Addr} {n c : Nat} {xs : List Value} (h : w.ownsRow base e s (.slice A n c) n xs) : A = none → c = 0 := by
 rintro rfl
 rcases h.2 with ⟨hv, hn⟩ | ⟨g, cap, cur, hv, _⟩
 · injection hv with h1 h2 h3
 · cases hv
theorem below_drewN (w : World) (m : Nat) : Below w.heap.size w (w.drewN m) := ⟨rfl, rfl, rfl, Nat.le_refl _, fun _ _ => rfl⟩
theorem own_drew {w : World} {base : Nat} {e : TypeId} {s : Nat} {v : Value} {n : Nat} {xs : List Value} (h : w.ownsRow base e s v n xs) : w.drew.ownsRow base e s v n xs := own_keep h (below_drewN w 1)
theorem cells_new (w : World) (cs : Array Value) (t : TypeId) : ∀ j u, cs.toList[j]? = some u → (w.alloc (.cells cs t)).cell? ((⟨w.heap.size, 0, none⟩ : Addr).add j) = some u := fun j u hu => by
 have h0 := cell_of_row (w.alloc (.cells cs t)) w.heap.size j cs t (0, 0) (heap_alloc_new w _)
 have hadd : (⟨w.heap.size, 0, none⟩ : Addr).add j = ⟨w.heap.size, j, none⟩ := by unfold Addr.add; split <;> simp_all
 rw [hadd, h0]
 rw [Array.getElem?_toList] at hu
 exact hu
section
variable {w : World} {base : Nat} {e : TypeId} {n g c sz : Nat} {xs : List Value}
theorem own_at (h : w.ownsRow base e sz (.slice (some ⟨g, 0, none⟩) n c) n xs) {j : Nat} {u : Value} (hu : xs[j]? = some u) : w.cell? ⟨g, j, none⟩ = some u ∧ w.frozen? ⟨g, j, none⟩ = false := by
 rcases h.2 with ⟨h', _⟩ | ⟨g', cap', cur, h', hbb, hgg, hnc, hcm, hcs, htake⟩
 · simp at h'
 · simp only [Value.slice.injEq, Option.some.injEq, Addr.mk.injEq, and_true, true_and] at h'
   obtain ⟨rfl, rfl⟩ := h'
   refine ⟨?_, frozen_of_row w g j cur e hgg⟩
   rw [cell_of_row w g j cur e (0, 0) hgg]
   rw [← htake, List.getElem?_take] at hu
   split at hu
   · simpa using hu
   · cases hu
theorem own_store (h : w.ownsRow base e sz (.slice (some ⟨g, 0, none⟩) n c) n xs) (j : Nat) (v : Value) : (w.setCell ⟨g, j, none⟩ v).ownsRow base e sz (.slice (some ⟨g, 0, none⟩) n c) n (xs.set j v) := by
 refine ⟨by rw [List.length_set]; exact h.1, ?_⟩
 rcases h.2 with ⟨h', _⟩ | ⟨g', cap', cur, h', hbb, hgg, hnc, hcm, hcs, htake⟩
 · simp at h'
 · simp only [Value.slice.injEq, Option.some.injEq, Addr.mk.injEq, and_true, true_and] at h'
   obtain ⟨rfl, rfl⟩ := h'
   refine .inr ⟨g, c, cur.setIfInBounds j v, rfl, hbb, heap_setCell_same w g j cur e v hgg, hnc, hcm, by simpa using hcs, ?_⟩
   rw [← htake, Array.toList_setIfInBounds, List.take_set]
end
theorem ownsRow_succ {w : World} {base : Nat} {e : TypeId} {s : Nat} {v : Value} {n : Nat} {xs : List Value} (h : w.ownsRow base e s v (n + 1) xs) : ∃ g cap, v = .slice (some ⟨g, 0, none⟩) (n + 1) cap := by
 obtain ⟨g, cap, hv, _, _⟩ := h.form (Nat.succ_pos n)
 exact ⟨g, cap, hv⟩
theorem wpList_unguard {P : Program} {w : World} {ops : Array Oper} {rest : List Oper} {o : Oper} {a : Act} {Q : Exit → Act → World → Prop} (hw : Region.wanted o (yielded ops a.tmps) = true) (h : wpList P ops Q ({ o with guard := none } :: rest) a w) : wpList P ops Q (o :: rest) a w := by
 unfold wpList at h ⊢
 rw [if_pos hw]
 rw [if_pos (show Region.wanted { o with guard := none } (yielded ops a.tmps) = true from by simp [Region.wanted])] at h
 exact h
theorem addo (b o j : Nat) : (⟨b, o, none⟩ : Addr).add j = ⟨b, o + j, none⟩ := by unfold Addr.add; split <;> simp_all
structure Sv (w : World) (A : Option Addr) (n c s : Nat) (xs : List Value) : Prop where
 len : xs.length = n * s
 cap : n ≤ c
 max : c ≤ 9223372036854775807
 nil : A = none → c = 0
 one : ∀ u ∈ xs, u.oneCell' = true
 cells : xs ≠ [] → ∃ g o, A = some ⟨g, o, none⟩ ∧ g < w.heap.size ∧ ∀ (j : Nat) (u : Value), xs[j]? = some u → w.cell? ⟨g, o + j, none⟩ = some u
section
variable {w w' : World} {A : Option Addr} {n c s : Nat} {xs : List Value}
theorem Sv.below (h : Sv w A n c s xs) (hb : Below w.heap.size w w') : Sv w' A n c s xs :=
 ⟨h.len, h.cap, h.max, h.nil, h.one, fun hn =>
  let ⟨g, o, hA, hg, hc⟩ := h.cells hn
  ⟨g, o, hA, Nat.lt_of_lt_of_le hg hb.size, fun j x hx => (hb.cell (p := ⟨g, o + j, none⟩) hg).trans (hc j x hx)⟩⟩
theorem Sv.none_ (w : World) (s : Nat) : Sv w none 0 0 s [] := ⟨by simp, Nat.le_refl _, by decide, fun _ => rfl, by simp, fun h => absurd rfl h⟩
theorem Sv.own {base : Nat} {e : TypeId} (h : w.ownsRow base e s (.slice A n c) n xs) (h1 : ∀ u ∈ xs, u.oneCell' = true) : Sv w A n c s xs :=
 ⟨h.1, (own_cap h).1, (own_cap h).2, own_none h, h1, fun hn => by
  have hl : xs.length = n * s := h.1
  have hpos : 0 < n := by
   rcases Nat.eq_zero_or_pos n with e | e
   · subst e; simp at hl; exact absurd hl hn
   · exact e
  obtain ⟨g, cap, hv, _, hlt⟩ := h.form hpos
  have hA : A = some ⟨g, 0, none⟩ := by injection hv
  refine ⟨g, 0, hA, hlt, fun j x hx => ?_⟩
  have := h.cells (g := g) (by rw [hA]; rfl) j _ hx
  rwa [addo] at this⟩
end
theorem wpList_append_sv {P : Program} {w : World} {ops : Array Oper} {rest : List Oper} {o : Oper} {a : Act} {Q : Exit → Act → World → Prop} (hgd : o.guard = none) (s x : Operand) (t : TypeId)
 (ho : o.op = .call { callee := .builtin .append, args := #[s, x], argTypes := #[t, t] })
 (base : Nat) (e : TypeId) (i : TypeInfo) (z : Value) (size bytes : Nat) (ht : P.underlying t = some (.slice e)) (hi : P.info? e = some i) (hz : i.zero = some z)
 (hsize : i.size = size) (hby : i.bytes = bytes) (hzs : z.cells.size = size) (hsz : 0 < size)
 (v : Value) (n : Nat) (xs : List Value) (hs : a.eval s = v) (hown : w.ownsRow base e size v n xs)
 (X : Option Addr) (m c : Nat) (ys : List Value) (hx : a.eval x = .slice X m c) (hS : Sv w X m c size ys)
 (h63 : n + m ≤ maxLen) (hbytes : (n + m) * bytes ≤ 140737488355328) (hbase : base ≤ w.heap.size)
 (h : ∀ v' w', w'.ownsRow base e size v' (n + m) (xs ++ ys) → (∀ w0 : World, w0.heap.size ≤ base → Below w0.heap.size w0 w → Below w0.heap.size w0 w') → wpList P ops Q rest (a.put o.dst v') w') : wpList P ops Q (o :: rest) a w := by
 cases X with
 | none =>
   have hc : c = 0 := hS.nil rfl
   have hm : m = 0 := by have := hS.cap; omega
   subst hc hm
   have hys : ys = [] := List.eq_nil_of_length_eq_zero (by have := hS.len; omega)
   subst hys
   refine wpList_append_own_none hgd s x t ho base e i size ht hi v n xs hs hown hx (h v w (by simpa using hown) fun w0 _ hb => hb)
 | some ad =>
   refine wpList_append_own w hgd s x t ho base e i z size bytes ht hi hz hsize hby hzs hsz v n xs hs hown ad m c ys hx hS.len ?_ hS.one h63 hbytes hbase fun v' w' h1 h2 _ => h v' w' h1 fun w0 hw0 hb => hb.grown h2 hb.size fun g hg => Nat.le_trans hw0 (hown.lt g hg).1
   intro j u hu
   have hne : ys ≠ [] := fun e => by rw [e] at hu; simp at hu
   obtain ⟨g, o', hA, hg, hc⟩ := hS.cells hne
   injection hA with hA
   subst hA
   rw [Addr.add_lit]
   exact hc j u hu
def encs {α : Type} (f : α → List Value) (l : List α) : List Value := l.flatMap f
section
variable {α : Type} {f : α → List Value} {s : Nat} (hf : ∀ a, (f a).length = s)
include hf
theorem encs_len (l : List α) : (encs f l).length = l.length * s := by
 induction l with
 | nil => simp [encs]
 | cons a l ih => simp only [encs, List.flatMap_cons, List.length_append, List.length_cons] at ih ⊢; rw [ih, hf, Nat.succ_mul]; omega
theorem encs_get {l : List α} {j i : Nat} {a : α} (hi : i < s) (h : l[j]? = some a) : (encs f l)[j * s + i]? = (f a)[i]? := by
 induction l generalizing j with
 | nil => cases h
 | cons b l ih =>
   cases j with
   | zero =>
     simp at h; subst h
     show (f b ++ encs f l)[0 * s + i]? = _
     rw [Nat.zero_mul, Nat.zero_add, List.getElem?_append_left (by rw [hf]; exact hi)]
   | succ j =>
     show (f b ++ encs f l)[(j + 1) * s + i]? = _
     rw [Nat.succ_mul, List.getElem?_append_right (by rw [hf]; omega)]
     have : j * s + s + i - (f b).length = j * s + i := by rw [hf]; omega
     rw [this]
     exact ih (by simpa using h)
theorem Sv.plen {w : World} {A : Option Addr} {n c : Nat} {l : List α} (h : Sv w A n c s (encs f l)) (hs : 0 < s) : l.length = n := by
 have := h.len
 rw [encs_len hf] at this
 exact Nat.eq_of_mul_eq_mul_right hs this
theorem own_plen {w : World} {base : Nat} {e : TypeId} {v : Value} {n : Nat} {l : List α} (h : w.ownsRow base e s v n (encs f l)) (hs : 0 < s) : l.length = n := by
 have : (encs f l).length = n * s := h.1
 rw [encs_len hf] at this
 exact Nat.eq_of_mul_eq_mul_right hs this
theorem Sv.at_ {w : World} {A : Option Addr} {n c j : Nat} {l : List α} {a : α} (hs : 0 < s) (h : Sv w A n c s (encs f l)) (ha : l[j]? = some a) :
 ∃ g o, A = some ⟨g, o, none⟩ ∧ g < w.heap.size ∧ ∀ i u, i < s → (f a)[i]? = some u → w.cell? ⟨g, o + j * s + i, none⟩ = some u := by
 have hne : encs f l ≠ [] := fun e => by
  have := encs_len hf l
  rw [e] at this
  have hj := (List.getElem?_eq_some_iff.1 ha).1
  have h0 : 0 < l.length * s := Nat.mul_pos (by omega) hs
  rw [← this] at h0
  exact absurd h0 (by simp)
 obtain ⟨g, o, hA, hg, hc⟩ := h.cells hne
 refine ⟨g, o, hA, hg, fun i u hi hu => ?_⟩
 rw [Nat.add_assoc]
 exact hc _ _ ((encs_get hf hi ha).trans hu)
end
theorem encs_append {α : Type} (f : α → List Value) (l m : List α) : encs f (l ++ m) = encs f l ++ encs f m := by simp [encs]
theorem encs_one {α : Type} (f : α → List Value) (a : α) : encs f [a] = f a := by simp [encs]
theorem encs_cells {α : Type} {f : α → List Value} (hf : ∀ a, ∀ u ∈ f a, u.oneCell' = true) (l : List α) : ∀ u ∈ encs f l, u.oneCell' = true := fun u hu => by
 obtain ⟨a, _, ha⟩ := List.mem_flatMap.1 hu
 exact hf a u ha
theorem oneC {l : List Value} (h : l.all (fun u => u.oneCell') = true) : ∀ u ∈ l, u.oneCell' = true := fun u hu => List.all_eq_true.1 h u hu
theorem box_new (w : World) (cs : Array Value) (t : TypeId) : ∃ w0, w.alloc (.cells cs t) = w0 ∧ Below w.heap.size w w0 ∧ w.heap.size < w0.heap.size ∧ w0.heap[w.heap.size]? = some (.cells cs t (0, 0)) := by
 have h := heap_alloc_new w (.cells cs t)
 exact ⟨_, rfl, (Below.refl _ w).alloc (Nat.le_refl _) _, (Array.getElem?_eq_some_iff.1 h).1, h⟩
theorem box_at {w0 W : World} {g : Nat} {cs : Array Value} {t : TypeId} (h : w0.heap[g]? = some (.cells cs t (0, 0))) (hb : Below w0.heap.size w0 W) (j : Nat) : W.cell? ⟨g, j, none⟩ = cs[j]? := by
 have hg := (Array.getElem?_eq_some_iff.1 h).1
 exact (hb.cell (p := ⟨g, j, none⟩) hg).trans (cell_of_row w0 g j cs t (0, 0) h)
theorem below_setRow {B : Nat} {a w : World} (h : Below B a w) {g : Nat} (hg : B ≤ g) (cs : Array Value) : Below B a (w.setRow g cs) :=
 ⟨h.os, h.tape, h.output, by simp; exact h.size, fun k hk => (setRow_other w g k cs (by omega)).trans (h.block k hk)⟩
theorem Sv.range {α : Type} {f : α → List Value} {s : Nat} (hf : ∀ a, (f a).length = s) {w : World} {A : Option Addr} {n c j : Nat} {l : List α} {a : α} (hs : 0 < s) (h : Sv w A n c s (encs f l)) (ha : l[j]? = some a) :
 ∃ g o, A = some ⟨g, o, none⟩ ∧ g < w.heap.size ∧ w.rangeAt g (o + j * s) (f a) := by
 obtain ⟨g, o, h1, h2, h3⟩ := Sv.at_ hf hs h ha
 exact ⟨g, o, h1, h2, fun i u hu => h3 i u (by have := (List.getElem?_eq_some_iff.1 hu).1; rwa [hf] at this) hu⟩
theorem box_range {W : World} {g : Nat} {cs : List Value} {t : TypeId} {fz : Nat × Nat} (h : W.heap[g]? = some (.cells cs.toArray t fz)) : W.rangeAt g 0 cs := fun j u hu => by
 rw [Nat.zero_add, cell_of_row W g j _ _ _ h]
 simpa using hu
theorem range_below {w W : World} {g o : Nat} {cs : List Value} (h : w.rangeAt g o cs) (hg : g < w.heap.size) (hb : Below w.heap.size w W) : W.rangeAt g o cs := fun j u hu => (hb.cell (p := ⟨g, o + j, none⟩) hg).trans (h j u hu)
def over (xs : List Value) (o : Nat) : List Value → List Value
 | [] => xs
 | v :: vs => over (xs.set o v) (o + 1) vs
theorem over_eq (vs : List Value) : ∀ (xs : List Value) (o : Nat), o + vs.length ≤ xs.length → over xs o vs = xs.take o ++ vs ++ xs.drop (o + vs.length) := by
 induction vs with
 | nil => intro xs o h; simp [over]
 | cons v vs ih =>
   intro xs o h
   simp only [List.length_cons] at h
   show over (xs.set o v) (o + 1) vs = _
   rw [ih _ _ (by rw [List.length_set]; omega)]
   have e1 : (xs.set o v).take (o + 1) = xs.take o ++ [v] := by
    rw [List.take_succ_eq_append_getElem (by rw [List.length_set]; omega), List.getElem_set_self, List.take_set_of_le (Nat.le_refl _)]
   have e2 : (xs.set o v).drop (o + 1 + vs.length) = xs.drop (o + (vs.length + 1)) := by
    rw [List.drop_set_of_lt (by omega)]
    congr 1
    omega
   rw [e1, e2, List.length_cons]
   simp
theorem own_setCells {base : Nat} {e : TypeId} {n g c sz : Nat} (vs : List Value) : ∀ {w : World} {xs : List Value} (o : Nat), w.ownsRow base e sz (.slice (some ⟨g, 0, none⟩) n c) n xs → (w.setCells g o vs).ownsRow base e sz (.slice (some ⟨g, 0, none⟩) n c) n (over xs o vs) := by
 induction vs with
 | nil => intro w xs o h; exact h
 | cons v vs ih => intro w xs o h; exact ih (o + 1) (own_store h o v)
theorem below_setCells {B : Nat} {a : World} {g : Nat} (hg : B ≤ g) (vs : List Value) : ∀ {w : World} (o : Nat), Below B a w → Below B a (w.setCells g o vs) := by
 induction vs with
 | nil => intro w o h; exact h
 | cons v vs ih => intro w o h; exact ih (o + 1) (h.setCell (p := ⟨g, o, none⟩) hg v)
theorem encs_set {α : Type} {f : α → List Value} {s : Nat} (hf : ∀ a, (f a).length = s) : ∀ (l : List α) (j : Nat) (a : α), j < l.length → over (encs f l) (j * s) (f a) = encs f (l.set j a) := by
 intro l
 induction l with
 | nil => intro j a h; simp at h
 | cons b l ih =>
   intro j a h
   have hl : (encs f (b :: l)).length = (l.length + 1) * s := encs_len hf _
   rw [over_eq _ _ _ (by rw [hf, hl]; have : j + 1 ≤ l.length + 1 := h
                         calc j * s + s = (j + 1) * s := by rw [Nat.succ_mul]
                          _ ≤ (l.length + 1) * s := Nat.mul_le_mul_right s this)]
   cases j with
   | zero =>
     have e : (encs f (b :: l)).drop s = encs f l := by
      show (f b ++ encs f l).drop s = _
      rw [← hf b, List.drop_left]
     rw [hf, Nat.zero_mul, Nat.zero_add, e]
     rfl
   | succ j =>
     have hj : j < l.length := by simpa using h
     have hl' : (encs f l).length = l.length * s := encs_len hf _
     have ih' := ih j a hj
     rw [over_eq _ _ _ (by rw [hf, hl']; calc j * s + s = (j + 1) * s := by rw [Nat.succ_mul]
      _ ≤ l.length * s := Nat.mul_le_mul_right s hj), hf] at ih'
     rw [hf]
     have e1 : (encs f (b :: l)).take ((j + 1) * s) = f b ++ (encs f l).take (j * s) := by
      show (f b ++ encs f l).take ((j + 1) * s) = _
      rw [List.take_append, hf, Nat.succ_mul, List.take_of_length_le (by rw [hf]; omega)]
      congr 2
      omega
     have e2 : (encs f (b :: l)).drop ((j + 1) * s + s) = (encs f l).drop (j * s + s) := by
      show (f b ++ encs f l).drop ((j + 1) * s + s) = _
      rw [List.drop_append, hf, Nat.succ_mul, List.drop_eq_nil_of_le (by rw [hf]; omega)]
      simp only [List.nil_append]
      congr 1
      omega
     rw [e1, e2, List.append_assoc, List.append_assoc, ← List.append_assoc ((encs f l).take (j * s)), ih']
     rfl
theorem own_low {w w' : World} {base : Nat} {e : TypeId} {s : Nat} {v : Value} {n : Nat} {xs : List Value} (h : w.ownsRow base e s v n xs) (hk : ∀ g, base ≤ g → w'.heap[g]? = w.heap[g]?) : w'.ownsRow base e s v n xs := by
 rcases h with ⟨h1, ⟨h2, h3⟩ | ⟨g, cap, cur, h2, h3, h4, h5⟩⟩
 · exact ⟨h1, .inl ⟨h2, h3⟩⟩
 · exact ⟨h1, .inr ⟨g, cap, cur, h2, h3, (hk g h3).trans h4, h5⟩⟩
theorem own_low_cell {w : World} {base : Nat} {e : TypeId} {s : Nat} {v : Value} {n : Nat} {xs : List Value} (h : w.ownsRow base e s v n xs) {p : Addr} (hp : p.block < base) (u : Value) : (w.setCell p u).ownsRow base e s v n xs :=
 own_low h fun g hg => heap_setCell_other w p g u (by omega)
theorem own_low_row {w : World} {base : Nat} {e : TypeId} {s : Nat} {v : Value} {n : Nat} {xs : List Value} (h : w.ownsRow base e s v n xs) {b : Nat} (hp : b < base) (cs : Array Value) : (w.setRow b cs).ownsRow base e s v n xs :=
 own_low h fun g hg => setRow_other w b g cs (by omega)
end Go.Proofs.YtemgejblnionlaaGreatDoor
namespace Go.Proofs.YtemgejblnionlaaGreatDoor
open Go.RowKit
section
variable {P : Program} {ops : Array Oper} {Q : Exit → Act → World → Prop} {md : Region.Mode} {S : World → Prop}
def wpOrd (P : Program) (ops : Array Oper) (Q : Exit → Act → World → Prop) (S : World → Prop) (T : Act → World → Prop) : List (Nat × Bool) → Act → World → Prop
 | [], a, w => T a w
 | (i, true) :: r, a, w => ∃ o v, ops[i]? = some o ∧ YieldsIf P ops S o v a ∧ wpOrd P ops Q S T r (a.put o.dst v) w
 | (i, false) :: r, a, w => wpOp P ops Q i (fun a' w' => S w' ∧ wpOrd P ops Q S T r a' w') a w
def okOrd (md : Region.Mode) (ops : Array Oper) : List (Nat × Bool) → Array Bool → Option (Array Bool)
 | [], l => some l
 | (i, true) :: r, l => if (Region.ready md ops l).contains i && Region.free md ops l i then okOrd md ops r (l.setIfInBounds i true) else none
 | (i, false) :: r, l => if Region.ready md ops l == [i] then okOrd md ops r (l.setIfInBounds i true) else none
theorem wpOrd_mono {T T' : Act → World → Prop} (hT : ∀ a w, T a w → T' a w) : ∀ (ord : List (Nat × Bool)) (a : Act) (w : World), wpOrd P ops Q S T ord a w → wpOrd P ops Q S T' ord a w
 | [], _, _, h => hT _ _ h
 | (_, true) :: r, _, _, ⟨o, v, h1, h2, h3⟩ => ⟨o, v, h1, h2, wpOrd_mono hT r _ _ h3⟩
 | (_, false) :: r, _, _, h => wpOp_mono (fun _ _ h => ⟨h.1, wpOrd_mono hT r _ _ h.2⟩) h
theorem ord_sound (hs : Region.noSelect ops = true) (hQ : ∀ d v c a w, Q (.panic c) (Act.put a d v) w → Q (.panic c) a w) (fuel : Nat) {listed' : Array Bool} :
 ∀ (ord : List (Nat × Bool)) (listed : Array Bool) (a : Act) (w : World), okOrd md ops ord listed = some listed' → S w →
   wpOrd P ops Q S (fun a w => S w → wpAnyH P md ops Q S fuel listed' a w) ord a w → wpAnyH P md ops Q S (fuel + ord.length) listed a w
 | [], listed, a, w, hk, hS, h => by
   simp only [okOrd, Option.some.injEq] at hk
   subst hk
   exact h hS
 | (i, true) :: r, listed, a, w, hk, hS, ⟨o, v, ho, hy, h⟩ => by
   simp only [okOrd] at hk
   split at hk
   · rename_i hc
     rw [Bool.and_eq_true] at hc
     exact wpAnyH_take ho hs hc.2 hc.1 (fun c a w h => hQ _ _ c a w h) hy hS (ord_sound hs hQ fuel r _ _ _ hk hS h)
   · cases hk
 | (i, false) :: r, listed, a, w, hk, hS, h => by
   simp only [okOrd] at hk
   split at hk
   · rename_i hc
     refine wpAnyH_all (eq_of_beq hc) (by simp) (fun j hj => ?_)
     obtain rfl : j = i := by simpa using hj
     exact wpOp_mono (fun a' w' h' => ⟨h'.1, ord_sound hs hQ fuel r _ _ _ hk h'.1 h'.2⟩) h
   · cases hk
theorem wp_region_ord {id : Nat} {a : Act} {w : World} (S : World → Prop) (ord : List (Nat × Bool)) (hm : P.follows .mixedOrders = true)
 (hk : ((okOrd .any ops ord (Array.replicate ops.size false)).map (fun l => (Region.ready .any ops l).isEmpty && ord.length == ops.size)) = some true) (hs : Region.noSelect ops = true)
 (hS : S w.drew) (hQ : ∀ d v c a w, Q (.panic c) (Act.put a d v) w → Q (.panic c) a w)
 (h : wpOrd P ops Q S (Q .normal) ord a w.drew) : (Code.region id ops true).wp P Q a w := by
 cases hk' : okOrd .any ops ord (Array.replicate ops.size false) with
 | none => rw [hk'] at hk; cases hk
 | some l =>
   rw [hk'] at hk
   simp only [Option.map_some, Option.some.injEq, Bool.and_eq_true, beq_iff_eq, List.isEmpty_iff] at hk
   refine wp_region_held (S := S) hm ?_
   have := ord_sound (P := P) (Q := Q) (S := S) hs hQ 0 ord _ a w.drew hk' hS (wpOrd_mono (fun a w h _ => wpAnyH_done hk.1 h 0) _ _ _ h)
   rw [Nat.zero_add, hk.2] at this
   exact this
theorem ord_pure {T : Act → World → Prop} {i : Nat} {r : List (Nat × Bool)} {a a' : Act} {w : World} {o : Oper} {v : Value} (h : wpOrd P ops Q S T r a' w) (ho : ops[i]? = some o := by rfl)
 (hy : YieldsIf P ops S o v a := by first | exact .inr ⟨by rfl, by rfl⟩ | (refine .inl ⟨by rfl, ?_⟩; intro w' hSw; (try dsimp only at hSw); go_simp; all_goals (with_reducible rfl)))
 (ha : a.put o.dst v = a' := by (simp only [Act.put, puts]; rfl)) : wpOrd P ops Q S T ((i, true) :: r) a w := ⟨o, v, ho, hy, ha ▸ h⟩
theorem ord_nil {T : Act → World → Prop} {a : Act} {w : World} (h : T a w) : wpOrd P ops Q S T [] a w := h
theorem ord_eff {T : Act → World → Prop} {i : Nat} {r : List (Nat × Bool)} {a : Act} {w : World} {o : Oper} (ho : ops[i]? = some o)
 (h : ∀ K' : Act → World → Prop, Shut (∀ a w, S w → wpOrd P ops Q S T r a w → K' a w) → if Region.wanted o (yielded ops a.tmps) = true then Oper.wp P o a w K' Q else K' (a.put o.dst undef) w) : wpOrd P ops Q S T ((i, false) :: r) a w :=
 wpOp_step ho (fun K' hK => h K' (fun a w hS hW => hK a w ⟨hS, hW⟩))
end
end Go.Proofs.YtemgejblnionlaaGreatDoor
namespace Go.Proofs.YtemgejblnionlaaGreatDoor
open Go.RowKit
section
variable {P : Program} {ops : Array Oper} {Q : Exit → Act → World → Prop} {md : Region.Mode} {S : World → Prop}
def dstOf (ops : Array Oper) (i : Nat) : Option Tmp := (ops[i]?).bind (·.dst)
def putAll (ops : Array Oper) : List Nat → (Nat → Value) → Act → Act
 | [], _, a => a
 | i :: r, f, a => putAll ops r f (a.put (dstOf ops i) (f i))
def apartAll (ops : Array Oper) : List Nat → Bool
 | [] => true
 | i :: r => r.all (fun j => i != j && ((dstOf ops i).isNone || dstOf ops i != dstOf ops j)) && apartAll ops r
def upd (f : Nat → Value) (j : Nat) (v : Value) : Nat → Value := fun k => if k = j then v else f k
def updB (d : Nat → Bool) (j : Nat) : Nat → Bool := fun k => if k = j then true else d k
def waits (md : Region.Mode) (ops : Array Oper) (i : Nat) : List Nat := ((ops[i]?).map fun o => (o.after.toList.filter (Region.binds md)).map (·.on)).getD []
theorem putAll_put : ∀ (X : List Nat) (f : Nat → Value) (a : Act) (j : Nat) (v : Value), (∀ i ∈ X, (dstOf ops i).isNone = true ∨ dstOf ops i ≠ dstOf ops j) → (putAll ops X f a).put (dstOf ops j) v = putAll ops X f (a.put (dstOf ops j) v)
 | [], _, _, _, _, _ => rfl
 | i :: r, f, a, j, v, h => by
   have hi := h i (List.mem_cons_self)
   show (putAll ops r f (a.put (dstOf ops i) (f i))).put _ _ = putAll ops r f ((a.put (dstOf ops j) v).put (dstOf ops i) (f i))
   rw [putAll_put r f _ j v (fun k hk => h k (List.mem_cons_of_mem _ hk))]
   congr 1
   refine Act.put_comm a (f i) v (fun d hd e => ?_)
   rcases hi with hi | hi
   · rw [hd] at hi; cases hi
   · exact hi (hd.trans e.symm)
theorem put_put (a : Act) (x : Option Tmp) (u v : Value) : (a.put x u).put x v = a.put x v := by
 cases x with
 | none => rfl
 | some d => simp [Act.put]
theorem putAll_congr : ∀ (X : List Nat) (f g : Nat → Value) (a : Act), (∀ i ∈ X, f i = g i) → putAll ops X f a = putAll ops X g a
 | [], _, _, _, _ => rfl
 | i :: r, f, g, a, h => by
   show putAll ops r f (a.put _ (f i)) = putAll ops r g (a.put _ (g i))
   rw [h i (List.mem_cons_self)]
   exact putAll_congr r f g _ (fun k hk => h k (List.mem_cons_of_mem _ hk))
theorem putAll_upd : ∀ (X : List Nat) (f : Nat → Value) (a : Act) (j : Nat) (v : Value), apartAll ops X = true → j ∈ X → (putAll ops X f a).put (dstOf ops j) v = putAll ops X (upd f j v) a
 | i :: r, f, a, j, v, ha, hj => by
   simp only [apartAll, Bool.and_eq_true, List.all_eq_true, Bool.or_eq_true, bne_iff_ne] at ha
   obtain ⟨h1, h2⟩ := ha
   show (putAll ops r f (a.put (dstOf ops i) (f i))).put _ _ = putAll ops r (upd f j v) (a.put (dstOf ops i) (upd f j v i))
   by_cases hij : i = j
   · subst hij
     rw [putAll_put r f _ i v (fun k hk => by
      rcases (h1 k hk).2 with h | h
      · rcases hd : dstOf ops k with _ | d
        · exact .inl rfl
        · exact .inr (fun e => by rw [← e] at h; cases h)
      · exact .inr (fun e => h e.symm)), put_put]
     have e1 : upd f i v i = v := by simp [upd]
     rw [e1]
     exact putAll_congr r _ _ _ (fun k hk => by have := (h1 k hk).1; simp [upd, Ne.symm this])
   · have e1 : upd f j v i = f i := by simp [upd, hij]
     rw [e1]
     exact putAll_upd r f _ j v h2 (by rcases List.mem_cons.1 hj with e | e; exact absurd e.symm hij; exact e)
theorem put_self (a : Act) (x : Option Tmp) : a.put x ((x.bind (a.tmps[·]?)).getD undef) = a := by
 cases x with
 | none => rfl
 | some d =>
   show ({ a with tmps := a.tmps.setIfInBounds d _ } : Act) = a
   congr 1
   apply Array.ext_getElem?
   intro i
   by_cases h : d = i
   · subst h
     by_cases hd : d < a.tmps.size
     · simp [hd]
     · simp [hd]
   · rw [Array.getElem?_setIfInBounds_ne h]
theorem putAll_start : ∀ (X : List Nat) (a : Act), putAll ops X (fun i => ((dstOf ops i).bind (a.tmps[·]?)).getD undef) a = a
 | [], _ => rfl
 | i :: r, a => by
   show putAll ops r _ (a.put (dstOf ops i) _) = a
   rw [put_self]
   exact putAll_start r a
theorem count_set {l : List Bool} : ∀ {i : Nat}, l[i]? = some false → (l.set i true).countP (fun b => !b) + 1 = l.countP (fun b => !b) := by
 induction l with
 | nil => intro i h; simp at h
 | cons b l ih =>
   intro i h
   cases i with
   | zero =>
     simp at h
     subst h
     simp
   | succ i =>
     rw [List.set_cons_succ, List.countP_cons, List.countP_cons]
     have := ih (i := i) (by simpa using h)
     omega
theorem getD_false {listed : Array Bool} {j : Nat} : listed.getD j true = false ↔ listed[j]? = some false := by
 rw [Array.getD_eq_getD_getElem?]
 cases h : listed[j]? with
 | none => simp
 | some b => simp
theorem getD_true {listed : Array Bool} {j : Nat} (h : listed.getD j false = true) : listed.getD j true = true := by
 rw [Array.getD_eq_getD_getElem?] at *
 cases h' : listed[j]? with
 | none => rfl
 | some b => rw [h'] at h; exact h
theorem getD_listed {listed : Array Bool} {j : Nat} (h : listed.getD j true = true) (hj : j < listed.size) : listed.getD j false = true := by
 rw [Array.getD_eq_getD_getElem?] at *
 rw [Array.getElem?_eq_getElem hj] at *
 exact h
theorem loc_sound {X : List Nat} {a0 : Act} (Inv : (Nat → Value) → (Nat → Bool) → World → Prop) (hd : apartAll ops X = true) (hb : ((List.range ops.size).all fun i => (waits md ops i).all (· < i)) = true)
 (hS : ∀ f d w, Inv f d w → S w)
 (run : ∀ j ∈ X, ∀ f d w, Inv f d w → d j = false → (∀ k ∈ waits md ops j, k ∈ X → d k = true) →
  wpOp P ops Q j (fun a' w' => ∃ v, a' = (putAll ops X f a0).put (dstOf ops j) v ∧ Inv (upd f j v) (updB d j) w') (putAll ops X f a0) w)
 (fin : ∀ f d w, Inv f d w → (∀ j ∈ X, d j = true) → Q .normal (putAll ops X f a0) w) :
 ∀ (fuel : Nat) (listed : Array Bool) (f : Nat → Value) (d : Nat → Bool) (w : World), listed.size = ops.size → listed.toList.countP (fun b => !b) ≤ fuel →
   (∀ j ∈ X, d j = listed.getD j true) → (∀ j, listed.getD j true = false → j ∈ X) → Inv f d w → wpAnyH P md ops Q S fuel listed (putAll ops X f a0) w := by
 intro fuel
 induction fuel with
 | zero =>
   intro listed f d w hz hc hdl hX hI
   have hall : ∀ j, listed.getD j true = true := fun j => by
    cases h : listed.getD j true with
    | true => rfl
    | false =>
      have h1 := getD_false.1 h
      have h2 := List.countP_eq_zero.1 (Nat.le_zero.1 hc) false (by rw [← Array.getElem?_toList] at h1; exact List.mem_of_getElem? h1)
      simp at h2
   refine ⟨List.eq_nil_iff_forall_not_mem.2 fun j hj => ?_, fin f d w hI (fun j hj => (hdl j hj).trans (hall j))⟩
   have := (mem_ready.1 hj).1
   rw [hall j] at this
   cases this
 | succ fuel ih =>
   intro listed f d w hz hc hdl hX hI
   refine ⟨fun h0 => fin f d w hI (fun j hj => (hdl j hj).trans ?_), fun i hi => ?_⟩
   · have hall : ∀ n j, j < n → listed.getD j true = true := by
      intro n
      induction n with
      | zero => intro j hj; omega
      | succ n ihn =>
        intro j hj
        cases h : listed.getD j true with
        | true => rfl
        | false =>
          exfalso
          have hjs : j < ops.size := by
           have := getD_false.1 h
           rw [← hz]
           exact (Array.getElem?_eq_some_iff.1 this).1
          have hr : j ∈ Region.ready md ops listed := mem_ready.2 ⟨h, _, Array.getElem?_eq_getElem hjs, fun e he hbd => by
           have h1 := List.all_eq_true.1 hb j (List.mem_range.2 hjs)
           have h2 : e.on ∈ waits md ops j := by
            unfold waits
            rw [Array.getElem?_eq_getElem hjs]
            exact List.mem_map.2 ⟨e, List.mem_filter.2 ⟨by simpa using he, hbd⟩, rfl⟩
           have h3 : e.on < j := by simpa using List.all_eq_true.1 h1 _ h2
           exact getD_listed (ihn e.on (by omega)) (by omega)⟩
          rw [h0] at hr
          cases hr
     exact hall (j + 1) j (Nat.lt_succ_self j)
   · obtain ⟨hjun, o, ho, hall⟩ := mem_ready.1 hi
     have hiX := hX i hjun
     have hwt : ∀ k ∈ waits md ops i, k ∈ X → d k = true := fun k hk hkX => by
      refine (hdl k hkX).trans ?_
      unfold waits at hk
      rw [ho] at hk
      obtain ⟨e, he, rfl⟩ := List.mem_map.1 hk
      obtain ⟨he1, he2⟩ := List.mem_filter.1 he
      exact getD_true (hall e (by simpa using he1) he2)
     have hget := getD_false.1 hjun
     have hnext : ∀ f' w', Inv f' (updB d i) w' → wpAnyH P md ops Q S fuel (listed.setIfInBounds i true) (putAll ops X f' a0) w' := fun f' w' hI' => by
      refine ih _ _ _ _ (by simp [hz]) ?_ (fun j hj => ?_) (fun j hj => ?_) hI'
      · have := count_set (l := listed.toList) (i := i) (by simpa using hget)
        rw [Array.toList_setIfInBounds]
        omega
      · unfold updB
        split
        · rename_i e
          subst e
          have := (Array.getElem?_eq_some_iff.1 hget).1
          simp [this]
        · rename_i e
          rw [getD_set_ne true (Ne.symm e)]
          exact hdl j hj
      · by_cases e : i = j
        · subst e; exact hiX
        · rw [getD_set_ne true e] at hj
          exact hX j hj
     refine wpOp_mono ?_ (run i hiX f d w hI ((hdl i hiX).trans hjun) hwt)
     rintro a' w' ⟨v, rfl, hI'⟩
     rw [putAll_upd X f a0 i v hd hiX]
     exact ⟨hS _ _ _ hI', hnext _ _ hI'⟩
def LocRun (P : Program) (ops : Array Oper) (Q : Exit → Act → World → Prop) (md : Region.Mode) (X : List Nat) (a0 : Act) (Inv : (Nat → Value) → (Nat → Bool) → World → Prop) (j : Nat) : Prop :=
 ∀ f d w, Inv f d w → d j = false → (∀ k ∈ waits md ops j, k ∈ X → d k = true) → ∃ o, ops[j]? = some o ∧
   ∀ K' : Act → World → Prop, Shut (∀ a' v w', a' = (putAll ops X f a0).put o.dst v → Inv (upd f j v) (updB d j) w' → K' a' w') → if Region.wanted o (yielded ops (putAll ops X f a0).tmps) = true then Oper.wp P o (putAll ops X f a0) w K' Q else K' ((putAll ops X f a0).put o.dst undef) w
theorem LocRun.op {X : List Nat} {a0 : Act} {Inv : (Nat → Value) → (Nat → Bool) → World → Prop} {j : Nat} (h : LocRun P ops Q md X a0 Inv j) (f : Nat → Value) (d : Nat → Bool) (w : World) (hI : Inv f d w) (h1 : d j = false) (h2 : ∀ k ∈ waits md ops j, k ∈ X → d k = true) :
 wpOp P ops Q j (fun a' w' => ∃ v, a' = (putAll ops X f a0).put (dstOf ops j) v ∧ Inv (upd f j v) (updB d j) w') (putAll ops X f a0) w := by
 obtain ⟨o, ho, hr⟩ := h f d w hI h1 h2
 have hdo : dstOf ops j = o.dst := by
  unfold dstOf
  rw [ho]
  rfl
 rw [hdo]
 exact wpOp_step ho (fun K' hK => hr K' (fun a' v w' ha hI' => hK a' w' ⟨v, ha, hI'⟩))
theorem wp_loc {X : List Nat} {fuel : Nat} {listed : Array Bool} {a : Act} {w : World} (Inv : (Nat → Value) → (Nat → Bool) → World → Prop)
 (hk : (apartAll ops X && ((List.range ops.size).all fun i => (waits md ops i).all (· < i)) && (listed.size == ops.size) && decide (listed.toList.countP (fun b => !b) ≤ fuel) && X.all (fun j => !listed.getD j true) && (List.range ops.size).all (fun j => listed.getD j true || X.contains j)) = true)
 (hS : ∀ f d w, Inv f d w → S w) (h0 : ∀ f, Inv f (fun _ => false) w) (run : ∀ j ∈ X, LocRun P ops Q md X a Inv j)
 (fin : ∀ f d w, Inv f d w → (∀ j ∈ X, d j = true) → Q .normal (putAll ops X f a) w) : wpAnyH P md ops Q S fuel listed a w := by
 simp only [Bool.and_eq_true] at hk
 obtain ⟨⟨⟨⟨⟨k1, k2⟩, k3⟩, k4⟩, k5⟩, k6⟩ := hk
 have := loc_sound (P := P) (Q := Q) (S := S) Inv k1 k2 hS (fun j hj => (run j hj).op) fin fuel listed (fun i => ((dstOf ops i).bind (a.tmps[·]?)).getD undef) (fun _ => false) w (by simpa using k3) (by simpa using k4)
  (fun j hj => by have := List.all_eq_true.1 k5 j hj; simpa using this.symm)
  (fun j hj => by
   have hlt : j < ops.size := by
    have := (Array.getElem?_eq_some_iff.1 (getD_false.1 hj)).1
    have h3 : listed.size = ops.size := by simpa using k3
    omega
   have := List.all_eq_true.1 k6 j (List.mem_range.2 hlt)
   rw [hj] at this
   simpa using this) (h0 _)
 rwa [putAll_start] at this
def LocRunM (P : Program) (ops : Array Oper) (Q : Exit → Act → World → Prop) (md : Region.Mode) (X : List Nat) (mk : (Nat → Value) → Act) (Inv : (Nat → Value) → (Nat → Bool) → World → Prop) (j : Nat) : Prop :=
 ∀ f d w, Inv f d w → d j = false → (∀ k ∈ waits md ops j, k ∈ X → d k = true) → ∃ o, ops[j]? = some o ∧
   ∀ K' : Act → World → Prop, Shut (∀ a' v w', a' = (mk f).put o.dst v → Inv (upd f j v) (updB d j) w' → K' a' w') → if Region.wanted o (yielded ops (mk f).tmps) = true then Oper.wp P o (mk f) w K' Q else K' ((mk f).put o.dst undef) w
def LocAll (P : Program) (ops : Array Oper) (Q : Exit → Act → World → Prop) (md : Region.Mode) (X : List Nat) (mk : (Nat → Value) → Act) (Inv : (Nat → Value) → (Nat → Bool) → World → Prop) : List Nat → Prop
 | [] => True
 | j :: r => LocRunM P ops Q md X mk Inv j ∧ LocAll P ops Q md X mk Inv r
theorem LocAll.all {X : List Nat} {mk : (Nat → Value) → Act} {Inv : (Nat → Value) → (Nat → Bool) → World → Prop} : ∀ {Y : List Nat}, LocAll P ops Q md X mk Inv Y → ∀ j ∈ Y, LocRunM P ops Q md X mk Inv j
 | _ :: _, h, j, hj => by
   rcases List.mem_cons.1 hj with rfl | hj
   · exact h.1
   · exact LocAll.all h.2 j hj
theorem wp_locM {X : List Nat} {fuel : Nat} {listed : Array Bool} {a : Act} {w : World} {mk : (Nat → Value) → Act} (hmk : ∀ f, putAll ops X f a = mk f) (Inv : (Nat → Value) → (Nat → Bool) → World → Prop)
 (hk : (apartAll ops X && ((List.range ops.size).all fun i => (waits md ops i).all (· < i)) && (listed.size == ops.size) && decide (listed.toList.countP (fun b => !b) ≤ fuel) && X.all (fun j => !listed.getD j true) && (List.range ops.size).all (fun j => listed.getD j true || X.contains j)) = true)
 (hS : ∀ f d w, Inv f d w → S w) (h0 : ∀ f, Inv f (fun _ => false) w) (run : LocAll P ops Q md X mk Inv X)
 (fin : ∀ f d w, Inv f d w → (∀ j ∈ X, d j = true) → Q .normal (mk f) w) : wpAnyH P md ops Q S fuel listed a w :=
 wp_loc Inv hk hS h0 (fun j hj f d w => by rw [hmk f]; exact run.all j hj f d w) (fun f d w => by rw [hmk f]; exact fin f d w)
end
end Go.Proofs.YtemgejblnionlaaGreatDoor
namespace Go.Proofs.YtemgejblnionlaaGreatDoor
open Go.RowKit
abbrev zN : Array Value := #[.int .i64 0, .int .i64 0, .int .i64 0, .slice none 0 0, .slice none 0 0, .slice none 0 0, .int .i64 0, .int .i64 0]
abbrev zT : Array Value := #[.slice none 0 0, .int .i64 0, .slice none 0 0]
abbrev zD : Array Value := #[.slice none 0 0, .int .i64 0, .slice none 0 0, .int .i64 0, .int .i64 0, .slice none 0 0, .slice none 0 0, .int .i64 0, .int .i64 0, .int .i64 0, .slice none 0 0, .slice none 0 0, .slice none 0 0, .int .i64 0, .int .i64 0]
abbrev zS : Array Value := #[.int .i64 0, .string ⟨#[]⟩, .int .i64 0, .int .i64 0]
abbrev zG : Array Value := #[.int .i64 0, .int .i64 0]
structure Bxs (w : World) (l : List (Nat × Array Value × TypeId)) (W : World) : Prop where
 low_ : Below w.heap.size w W
 all : ∀ x ∈ l, W.heap[x.1]? = some (.cells x.2.1 x.2.2 (0, 0)) ∧ w.heap.size ≤ x.1
 nd : l.Pairwise (fun x y => y.1 < x.1)
section
variable {w W W' : World} {l : List (Nat × Array Value × TypeId)} {b : Nat} {c : Array Value} {t : TypeId}
theorem Bxs.low (K : Bxs w l W) : Hid (Below w.heap.size w W) := Lib.hid K.low_
theorem Bxs.at (K : Bxs w l W) (k : Nat) (h : l[k]? = some (b, c, t)) : Hid (W.heap[b]? = some (.cells c t (0, 0))) := Lib.hid (K.all _ (List.mem_of_getElem? h)).1
theorem Bxs.ge (K : Bxs w l W) (k : Nat) (h : l[k]? = some (b, c, t)) : w.heap.size ≤ b := (K.all _ (List.mem_of_getElem? h)).2
theorem Bxs.lt (K : Bxs w l W) (k : Nat) (h : l[k]? = some (b, c, t)) : b < W.heap.size := (Array.getElem?_eq_some_iff.1 (K.at k h).out).1
def chn (B : Nat) : Nat → List (Nat × Array Value × TypeId) → Prop
 | _, [] => True
 | m, x :: l => x.1 < m ∧ B ≤ x.1 ∧ chn B x.1 l
theorem Bxs.chn (K : Bxs w l W) : Go.Proofs.YtemgejblnionlaaGreatDoor.chn w.heap.size W.heap.size l := by
 have h1 : ∀ x ∈ l, x.1 < W.heap.size := fun x hx => (Array.getElem?_eq_some_iff.1 (K.all x hx).1).1
 have h2 : ∀ x ∈ l, w.heap.size ≤ x.1 := fun x hx => (K.all x hx).2
 have h3 := K.nd
 clear K
 generalize W.heap.size = m at h1
 induction l generalizing m with
 | nil => trivial
 | cons x l ih =>
   have h4 := List.pairwise_cons.1 h3
   exact ⟨h1 x List.mem_cons_self, h2 x List.mem_cons_self, ih (fun y hy => h2 y (List.mem_cons_of_mem _ hy)) h4.2 x.1 (fun y hy => h4.1 y hy)⟩
theorem Bxs.lts (K : Bxs w l W) : ∀ x ∈ l, x.1 < W.heap.size := fun x hx => (Array.getElem?_eq_some_iff.1 (K.all x hx).1).1
theorem Bxs.keep (K : Bxs w l W) (hb : Below w.heap.size w W') (h : ∀ x ∈ l, W'.heap[x.1]? = W.heap[x.1]?) : Bxs w l W' := ⟨hb, fun x hx => ⟨(h x hx).trans (K.all x hx).1, (K.all x hx).2⟩, K.nd⟩
theorem Bxs.drop (K : Bxs w l W) (n : Nat) : Bxs w (l.drop n) W := ⟨K.low_, fun x hx => K.all x (List.mem_of_mem_drop hx), K.nd.sublist (List.drop_sublist n l)⟩
theorem Bxs.nil (w : World) : Bxs w [] w := ⟨Below.refl _ _, fun _ h => by simp at h, List.Pairwise.nil⟩
theorem Bxs.step (K : Bxs w l W) (hb : Below W.heap.size W W') : Bxs w l W' :=
 ⟨K.low_.trans (hb.mono K.low_.size), fun x hx => ⟨(hb.block _ (Array.getElem?_eq_some_iff.1 (K.all x hx).1).1).trans (K.all x hx).1, (K.all x hx).2⟩, K.nd⟩
theorem Bxs.add (K : Bxs w l W) (hb : Below W.heap.size W W') (h : W'.heap[b]? = some (.cells c t (0, 0))) (hge : W.heap.size ≤ b) : Bxs w ((b, c, t) :: l) W' := by
 refine ⟨(K.step hb).low_, fun x hx => ?_, List.pairwise_cons.2 ⟨fun x hx => ?_, K.nd⟩⟩
 · rcases List.mem_cons.1 hx with rfl | hx
   · exact ⟨h, Nat.le_trans K.low_.size hge⟩
   · exact (K.step hb).all x hx
 · exact Nat.lt_of_lt_of_le (Array.getElem?_eq_some_iff.1 (K.all x hx).1).1 hge
theorem Bxs.alloc (K : Bxs w l W) (z : Array Value) (t : TypeId) (hc : z = c := by rfl) : Bxs w ((W.heap.size, c, t) :: l) (W.alloc (.cells z t)) :=
 K.add ((Below.refl _ W).alloc (Nat.le_refl _) _) (hc ▸ heap_alloc_new W (.cells z t)) (Nat.le_refl _)
theorem Bxs.new (K : Bxs w l W) {g : Nat} (hg : W.heap.size = g) (z c : Array Value) (t : TypeId) (hc : z = c := by rfl) : ∃ W', W.alloc (.cells z t) = W' ∧ W'.heap.size = g + 1 ∧ Bxs w ((g, c, t) :: l) W' :=
 ⟨_, rfl, by simp [hg], hg ▸ K.alloc z t hc⟩
theorem Bxs.row (K : Bxs w l W) (i : Nat) (h : l[i]? = some (b, c, t)) (cs : Array Value) : Bxs w (l.set i (b, cs, t)) (W.setRow b cs) := by
 have hlt := (List.getElem?_eq_some_iff.1 h).1
 have hget := (List.getElem?_eq_some_iff.1 h).2
 refine ⟨below_setRow K.low_ (K.ge i h) cs, fun x hx => ?_, ?_⟩
 · obtain ⟨j, hj, e⟩ := List.getElem_of_mem hx
   have hj' : j < l.length := by simpa using hj
   rw [List.getElem_set] at e
   split at e
   · subst e
     exact ⟨setRow_heap _ _ _ _ _ _ (K.at i h).out, K.ge i h⟩
   · rename_i hij
     subst e
     have hne : l[j].1 ≠ b := by
      intro e
      rcases Nat.lt_or_gt_of_ne hij with h1 | h1
      · have := List.pairwise_iff_getElem.1 K.nd i j hlt hj' h1
        rw [hget] at this
        omega
      · have := List.pairwise_iff_getElem.1 K.nd j i hj' hlt h1
        rw [hget] at this
        omega
     exact ⟨(setRow_other _ _ _ _ hne).trans (K.all _ (List.getElem_mem hj')).1, (K.all _ (List.getElem_mem hj')).2⟩
 · rw [List.pairwise_iff_getElem]
   intro j k hj hk hjk
   have hj' : j < l.length := by simpa using hj
   have hk' : k < l.length := by simpa using hk
   have := List.pairwise_iff_getElem.1 K.nd j k hj' hk' hjk
   rw [List.getElem_set, List.getElem_set]
   split <;> split <;> simp_all
theorem Bxs.cel (K : Bxs w l W) (i : Nat) (h : l[i]? = some (b, c, t)) (k : Nat) (v : Value) (c' : Array Value) (hc : c.setIfInBounds k v = c' := by rfl) : Bxs w (l.set i (b, c', t)) (W.setCell ⟨b, k, none⟩ v) := by
 rw [setCell_eq_setRow W b k c t (0, 0) v (K.at i h).out, hc]
 exact K.row i h c'
theorem Bxs.cell (K : Bxs w l W) (i k : Nat) (v : Value) (h : l[i]? = some (b, c, t)) (hv : c[k]? = some v := by rfl) : W.cell? ⟨b, k, none⟩ = some v := (cell_of_row _ _ k _ _ _ (K.at i h).out).trans hv
theorem Bxs.thaw (K : Bxs w l W) (i k : Nat) (h : l[i]? = some (b, c, t)) : W.frozen? ⟨b, k, none⟩ = false := frozen_of_row _ _ k _ _ (K.at i h).out
theorem Bxs.block (K : Bxs w l W) (hb : Below W.heap.size W W') (k : Nat) (h : l[k]? = some (b, c, t)) : W'.heap[b]? = some (.cells c t (0, 0)) := ((K.step hb).at k h).out
end
section
variable {P : Program} {ops : Array Oper} {Q : Exit → Act → World → Prop} {md : Region.Mode} {S : World → Prop}
theorem any_pure {i fuel : Nat} {listed : Array Bool} {a a' : Act} {w : World} {o : Oper} {v : Value} (h : wpAnyH P md ops Q S fuel (listed.setIfInBounds i true) a' w) (ho : ops[i]? = some o := by rfl)
 (hs : Region.noSelect ops = true := by kernel_rfl) (hf : Region.free md ops listed i = true := by kernel_rfl) (hr : (Region.ready md ops listed).contains i = true := by kernel_rfl) (hQ : ∀ c a w, Q (.panic c) (a.put o.dst v) w → Q (.panic c) a w := by exact fun _ _ _ h => h)
 (hy : YieldsIf P ops S o v a := by first | exact .inr ⟨by rfl, by rfl⟩ | (refine .inl ⟨by rfl, ?_⟩; intro w' hSw; (try dsimp only at hSw); go_simp; all_goals (with_reducible rfl)))
 (hS : S w := by assumption)
 (ha : a.put o.dst v = a' := by (simp only [Act.put, puts]; rfl)) : wpAnyH P md ops Q S (fuel + 1) listed a w :=
 wpAnyH_take ho hs hf hr hQ hy hS (by rw [ha]; exact h)
end
end Go.Proofs.YtemgejblnionlaaGreatDoor
