/-
  Walks of the law file's helper merged, and of the fixed examples.
-/
import Derived.Test.YtkpedfigaofloaaAp
namespace Go.Proofs.Ytkpedfigaofloaa
open Go.RowKit Ap
set_option maxHeartbeats 400000

theorem merge_any (A0 A1 A2 : Option Addr) (n0 c0 n1 c1 n2 c2 : Nat) (base mine theirs : List Ac) (h0 : base.length = n0) (l0 : n0 ≤ 1000) (h1 : mine.length = n1) (l1 : n1 ≤ 1000) (h2 : theirs.length = n2) (l2 : n2 ≤ 1000)
    (o0 : ∀ a ∈ base, a.ok) (o1 : ∀ a ∈ mine, a.ok) (o2 : ∀ a ∈ theirs, a.ok) (s1 : A1 = none → n1 = 0 ∧ c1 = 0) (s2 : A2 = none → n2 = 0 ∧ c2 = 0) (w : World) (a0 : Aces w A0 base) (a1 : Aces w A1 mine) (a2 : Aces w A2 theirs) :
    Calls Try.prog 45 #[.slice A0 n0 c0, .slice A1 n1 c1, .slice A2 n2 c2] w fun e w' => ∃ A' m c', e = .returned (.tuple #[.slice A' m c', .bool (mergeS base mine theirs).2]) ∧ w'.ownsRow w.heap.size 31 5 (.slice A' m c') m (encs (mergeS base mine theirs).1) ∧ Below w.heap.size w w' := by
  unfold mergeS
  by_cases e1 : mine = base
  · rw [if_pos e1]
    exact (merge_eq1 A0 A1 A2 n0 c0 n1 c1 n2 c2 base mine theirs h0 l0 h1 l1 h2 l2 s2 e1 w a0 a1 a2).mono fun _ _ ⟨A', c', h⟩ => ⟨A', n2, c', h⟩
  · rw [if_neg e1]
    by_cases e2 : theirs = base ∨ mine = theirs
    · rw [if_pos e2]
      exact (merge_eq2 A0 A1 A2 n0 c0 n1 c1 n2 c2 base mine theirs h0 l0 h1 l1 h2 l2 s1 e1 e2 w a0 a1 a2).mono fun _ _ ⟨A', c', h⟩ => ⟨A', n1, c', h⟩
    · rw [if_neg e2]
      exact merge_main A0 A1 A2 n0 c0 n1 c1 n2 c2 base mine theirs h0 l0 h1 l1 h2 l2 o0 o1 o2 e1 (fun e => e2 (.inl e)) (fun e => e2 (.inr e)) w a0 a1 a2

theorem after2 {w w1 : World} {x y : Value} {t : TypeId} (hb : Below (w.alloc (.cells #[x, y] t)).heap.size (w.alloc (.cells #[x, y] t)) w1) :
    w1.cell? ⟨w.heap.size, 0, none⟩ = some x ∧ w1.cell? ⟨w.heap.size, 1, none⟩ = some y ∧ w1.frozen? ⟨w.heap.size, 0, none⟩ = false ∧ w1.frozen? ⟨w.heap.size, 1, none⟩ = false ∧ w.heap.size < w1.heap.size := by
  have hn := heap_alloc_new w (.cells #[x, y] t)
  have hl : w.heap.size < (w.alloc (.cells #[x, y] t)).heap.size := by simp
  have h0 := cell_of_row (w.alloc (.cells #[x, y] t)) w.heap.size 0 #[x, y] t (0, 0) hn
  have h1 := cell_of_row (w.alloc (.cells #[x, y] t)) w.heap.size 1 #[x, y] t (0, 0) hn
  have f0 := frozen_of_row (w.alloc (.cells #[x, y] t)) w.heap.size 0 #[x, y] t hn
  have f1 := frozen_of_row (w.alloc (.cells #[x, y] t)) w.heap.size 1 #[x, y] t hn
  exact ⟨(hb.cell (p := ⟨w.heap.size, 0, none⟩) hl).trans h0, (hb.cell (p := ⟨w.heap.size, 1, none⟩) hl).trans h1, (hb.frozen (p := ⟨w.heap.size, 0, none⟩) hl).trans f0, (hb.frozen (p := ⟨w.heap.size, 1, none⟩) hl).trans f1, Nat.lt_of_lt_of_le hl hb.size⟩
theorem own_set {w : World} {base : Nat} {e : TypeId} {s : Nat} {v : Value} {n : Nat} {xs : List Value} (h : w.ownsRow base e s v n xs) {p : Addr} (hp : p.block < base) (u : Value) : (w.setCell p u).ownsRow base e s v n xs := by
  obtain ⟨h1, h2⟩ := h
  refine ⟨h1, ?_⟩
  rcases h2 with h2 | ⟨g, cap, cur, hv, hg, hc, hr⟩
  · exact .inl h2
  · refine .inr ⟨g, cap, cur, hv, hg, ?_, hr⟩
    show (w.heap.modify p.block _)[g]? = _
    rw [Array.getElem?_modify, if_neg (by omega)]
    exact hc

theorem lmerged_any (A0 A1 A2 : Option Addr) (n0 c0 n1 c1 n2 c2 : Nat) (base mine theirs : List Ac) (h0 : base.length = n0) (l0 : n0 ≤ 1000) (h1 : mine.length = n1) (l1 : n1 ≤ 1000) (h2 : theirs.length = n2) (l2 : n2 ≤ 1000)
    (o0 : ∀ a ∈ base, a.ok) (o1 : ∀ a ∈ mine, a.ok) (o2 : ∀ a ∈ theirs, a.ok) (s1 : A1 = none → n1 = 0 ∧ c1 = 0) (s2 : A2 = none → n2 = 0 ∧ c2 = 0) (w : World) (a0 : Aces w A0 base) (a1 : Aces w A1 mine) (a2 : Aces w A2 theirs) (X : List Ac × Bool) (hX : mergeS base mine theirs = X) :
    Calls Try.prog 27 #[.slice A0 n0 c0, .slice A1 n1 c1, .slice A2 n2 c2] w fun e w' => ∃ A' m c', e = .returned (.agg #[.slice A' m c', .bool X.2]) ∧ w'.ownsRow w.heap.size 31 5 (.slice A' m c') m (encs X.1) ∧ Below w.heap.size w w' := by
  have hb0 : Below w.heap.size w (w.alloc (.cells #[.slice none 0 0, .bool false] 42)) := (Below.refl _ w).alloc (Nat.le_refl _) _
  have C := merge_any A0 A1 A2 n0 c0 n1 c1 n2 c2 base mine theirs h0 l0 h1 l1 h2 l2 o0 o1 o2 s1 s2 (w.alloc (.cells #[.slice none 0 0, .bool false] 42)) (a0.below hb0) (a1.below hb0) (a2.below hb0)
  rw [hX] at C
  obtain ⟨L, u⟩ := X
  dsimp only at C ⊢
  have CC := Lib.hid C
  clear C h0 h1 h2 o0 o1 o2 s1 s2 a0 a1 a2 hX hb0
  go_enter Try.func27, Try.ntmps27
  go_wp2_with (go_at_call 45; refine CC.out.mono ?_; rintro e w1 ⟨A', m, c', rfl, hr, hb1⟩; have HR := Lib.hid hr; have HB := Lib.hid hb1; obtain ⟨h0, h1, f0, f1, hlt⟩ := after2 hb1; clear hr hb1)
  refine bodyPost_ret (v := .agg #[.slice A' m c', .bool u]) (by simp [results, Try.results27, go_sem, h0, h1]) rfl ⟨A', m, c', rfl, ?_, ?_⟩
  · exact own_mono (own_set (own_set HR.out (p := ⟨w.heap.size, 0, none⟩) (by simp) _) (p := ⟨w.heap.size, 1, none⟩) (by simp) _) (by simp)
  · exact ((below_new HB.out).setCell (p := ⟨w.heap.size, 0, none⟩) (Nat.le_refl _) _).setCell (p := ⟨w.heap.size, 1, none⟩) (Nat.le_refl _) _

theorem Aces.lit (w : World) (l : List Ac) (t : TypeId) : Aces (w.alloc (.cells (encs l).toArray t)) (some ⟨w.heap.size, 0, none⟩) l := fun _ => by
  refine ⟨w.heap.size, 0, rfl, by simp, fun j a ha => ?_⟩
  have key : ∀ i v, i < 5 → (enc a)[i]? = some v → (w.alloc (.cells (encs l).toArray t)).cell? ⟨w.heap.size, 0 + j * 5 + i, none⟩ = some v := fun i v hi hv => by
    have h0 := cell_of_row (w.alloc (.cells (encs l).toArray t)) w.heap.size (0 + j * 5 + i) (encs l).toArray t (0, 0) (heap_alloc_new w _)
    rw [h0]
    have := encs_get l j i a hi ha
    rw [show 0 + j * 5 + i = j * 5 + i by omega]
    simpa [this] using hv
  exact ⟨key 0 _ (by omega) rfl, key 1 _ (by omega) rfl, key 2 _ (by omega) rfl, key 3 _ (by omega) rfl, key 4 _ (by omega) rfl⟩

def exL : List Ac := [⟨5, false, 2, 2, false⟩, ⟨-1, true, 3, 2, false⟩]
def exU : List Ac := [⟨5, true, 1, 3, false⟩]
def exH : List Ac := [⟨5, true, 1, 1, true⟩]
def exM : List Ac := [⟨5, true, 6, 3, false⟩]
theorem ex_ok : (∀ a ∈ exL, a.ok) ∧ (∀ a ∈ exU, a.ok) ∧ (∀ a ∈ exH, a.ok) ∧ (∀ a ∈ exM, a.ok) := by
  refine ⟨?_, ?_, ?_, ?_⟩ <;> (intro a ha; simp [exL, exU, exH, exM] at ha; (first | (rcases ha with rfl | rfl) | subst ha) <;> (refine ⟨⟨?_, ?_⟩, ⟨?_, ?_⟩, ⟨?_, ?_⟩⟩ <;> decide))
/-- What the examples answer. -/
theorem ex_vals : (rightsV exL 5 9).toInt = 1 ∧ (rightsV exL 6 9).toInt = 3 ∧ (rightsV exL 9 9).toInt = 11 ∧ (rightsV [] 0 9).toInt = 15 ∧ (rightsV exU 5 9).toInt = 0 ∧ allowsB exL 6 9 3 = true ∧ allowsB exL 6 9 4 = false ∧
    putBad exU ⟨5, true, 6, 3, false⟩ = false ∧ placeN exU ⟨5, true, 0, 3, false⟩ = some 0 ∧ putBad exU ⟨5, true, 0, 3, false⟩ = false ∧ putBad exU ⟨5, true, 6, 3, true⟩ = true ∧ mergeS exU exM exL = ([], false) ∧ childL exU 1 = exH ∧ validB exL = true ∧ validB [] = true ∧
    validB [⟨5, false, 2, 2, false⟩, ⟨5, false, 2, 2, false⟩] = false ∧ againL exL exU false = exL ++ exH := by
  refine ⟨?_, ?_, ?_, ?_, ?_, ?_, ?_, ?_, ?_, ?_, ?_, ?_, ?_, ?_, ?_, ?_, ?_⟩ <;> decide +kernel
end Go.Proofs.Ytkpedfigaofloaa
