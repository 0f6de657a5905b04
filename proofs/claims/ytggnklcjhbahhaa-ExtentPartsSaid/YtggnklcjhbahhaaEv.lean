/-
  Rows of chunks of the call's own (each chunk's bytes in a block beside the row's).
-/
import Derived.Test.YtggnklcjhbahhaaEu
import Derived.Deep.AppendLies
namespace Go.Proofs.Ytggnklcjhbahhaa
open Go.RowKit Ex
set_option maxHeartbeats 400000
set_option maxRecDepth 100000

def by8 (l : List UInt8) : List Value := l.map fun x => .int .u8 x.toNat
theorem by8_len (l : List UInt8) : (by8 l).length = l.length := by simp [by8]
theorem by8_cells (l : List UInt8) : ∀ u ∈ by8 l, u.oneCell' = true := by
  intro u hu
  obtain ⟨x, _, rfl⟩ := List.mem_map.1 hu
  rfl
theorem Byt.of_own {w : World} {base n c : Nat} {e : TypeId} {B : Option Addr} {l : List UInt8} (h : w.ownsRow base e 1 (.slice B n c) n (by8 l)) : Byt w B l := fun hn => by
  have hl := own_slen h
  rw [by8_len] at hl
  have hpos : 0 < n := by have := List.length_pos_iff.2 hn; omega
  obtain ⟨g, cap, hv, _, hlt⟩ := h.form hpos
  have hA : B = some ⟨g, 0, none⟩ := by injection hv
  refine ⟨g, 0, hA, hlt, fun j x hx => ?_⟩
  have := h.cells (g := g) (by rw [hA]; rfl) j (.int .u8 x.toNat) (by unfold by8; rw [List.getElem?_map, hx]; rfl)
  rw [Addr.add_lit] at this
  exact this
/-- The row's cells are these chunks'; no chunk's bytes lie in block g. -/
def OutL (base : Nat) (e1 : TypeId) (w : World) (g : Nat) (L : List Blb) (vs : List Value) : Prop :=
  ∀ (j : Nat) (x : Blb), L[j]? = some x → vs[j * 2]? = some (.int .i64 x.1) ∧ ∃ B c, vs[j * 2 + 1]? = some (.slice B x.2.length c) ∧ w.ownsRow base e1 1 (.slice B x.2.length c) x.2.length (by8 x.2) ∧ (Value.slice B x.2.length c).ownBlock ≠ some g
section
variable {base : Nat} {e1 e : TypeId} {w w' : World} {g g' m c : Nat} {L : List Blb} {vs : List Value}
theorem OutL.nil : OutL base e1 w g [] [] := fun j x h => by simp at h
theorem OutL.below (h : OutL base e1 w g L vs) (hb : Below w.heap.size w w') : OutL base e1 w' g L vs := fun j x hx => by
  obtain ⟨a, B, c, b1, b2, b3⟩ := h j x hx
  exact ⟨a, B, c, b1, own_keep b2 hb, b3⟩
theorem OutL.blbs (h : OutL base e1 w g L vs) (hv : w.ownsRow base e 2 (.slice (some ⟨g, 0, none⟩) m c) m vs) : Blbs w (some ⟨g, 0, none⟩) L := fun hn => by
  have hg := (hv.lt g rfl).2
  refine ⟨g, 0, rfl, hg, fun j x hx => ?_⟩
  obtain ⟨a, B, c', b1, b2, _⟩ := h j x hx
  have q0 := hv.cells (g := g) rfl _ _ a
  have q1 := hv.cells (g := g) rfl _ _ b1
  rw [Addr.add_lit] at q0 q1
  refine ⟨q0, B, c', (own_cap b2).1, ?_, Byt.of_own b2⟩
  rw [Nat.add_assoc]; exact q1
/-- A chunk more: the row grows (its own block, or a fresh one). -/
theorem OutL.push (h : OutL base e1 w g L vs) (hvl : vs.length = L.length * 2) (x : Blb) (B : Option Addr) (cb : Nat) (hd : w.ownsRow base e1 1 (.slice B x.2.length cb) x.2.length (by8 x.2)) (hdg : (Value.slice B x.2.length cb).ownBlock ≠ some g) (hgr : w.grownBy w' (some g)) (hg' : some g = some g' ∨ g' = w.heap.size) :
    OutL base e1 w' g' (L ++ [x]) (vs ++ [.int .i64 x.1, .slice B x.2.length cb]) := by
  have far : ∀ {v : Value} {n : Nat} {xs : List Value}, w.ownsRow base e1 1 v n xs → v.ownBlock ≠ some g → w'.ownsRow base e1 1 v n xs ∧ v.ownBlock ≠ some g' := by
    intro v n xs h1 h2
    refine ⟨h1.kept hgr (.inr h2), ?_⟩
    rcases hg' with e | e
    · rw [← e]; exact h2
    · intro hk
      have := (h1.lt g' hk).2
      omega
  intro j y hy
  by_cases hj : j < L.length
  · rw [List.getElem?_append_left hj] at hy
    obtain ⟨a, B', c', b1, b2, b3⟩ := h j y hy
    obtain ⟨f1, f2⟩ := far b2 b3
    exact ⟨by rw [List.getElem?_append_left (by omega)]; exact a, B', c', by rw [List.getElem?_append_left (by omega)]; exact b1, f1, f2⟩
  · have hjl : j = L.length := by
      have := (List.getElem?_eq_some_iff.1 hy).1
      simp at this
      omega
    subst hjl
    simp at hy
    subst hy
    obtain ⟨f1, f2⟩ := far hd hdg
    exact ⟨by rw [List.getElem?_append_right (by omega), hvl]; simp, B, cb, by rw [List.getElem?_append_right (by omega), hvl]; simp, f1, f2⟩
end
/-- What the law file's blobs makes. -/
def dataL (i : Nat) (k : Nat) : List UInt8 := (List.range k).map fun t => UInt8.ofNat (16 * i + t + 1)
def blobsL (V : List UInt8) (t : Nat) : List Blb := (List.range t).filterMap fun i => if (V.getD i 0) < 250 then some ((i : Int) + 1, dataL i ((V.getD i 0).toNat % 40)) else none
theorem blobsL_next (V : List UInt8) (t : Nat) : blobsL V (t + 1) = blobsL V t ++ (if (V.getD t 0) < 250 then [((t : Int) + 1, dataL t ((V.getD t 0).toNat % 40))] else []) := by
  unfold blobsL
  rw [List.range_succ, List.filterMap_append]
  split <;> simp_all
theorem dataL_next (i : Nat) (k : Nat) : dataL i (k + 1) = dataL i k ++ [UInt8.ofNat (16 * i + k + 1)] := by
  unfold dataL
  rw [List.range_succ, List.map_append]
  rfl
theorem dataL_len (i : Nat) (k : Nat) : (dataL i k).length = k := by simp [dataL]
end Go.Proofs.Ytggnklcjhbahhaa
