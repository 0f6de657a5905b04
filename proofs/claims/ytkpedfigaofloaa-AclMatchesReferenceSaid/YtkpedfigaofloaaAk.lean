/-
  Rows of the call's own that are written cell by cell; walk of the library's Delete of one entry.
-/
import Derived.Test.YtkpedfigaofloaaAj
import Derived.Deep.RegionLaw
import Derived.Laws.IdiomCopy
namespace Go.Proofs.Ytkpedfigaofloaa
open Go.RowKit Ap
set_option maxHeartbeats 400000

/-- Cells laid over others, from a place on. -/
def layA (cur : Array Value) : Nat → List Value → Array Value
  | _, [] => cur
  | o, v :: r => layA (cur.setIfInBounds o v) (o + 1) r
theorem layA_size (vs : List Value) : ∀ (cur : Array Value) (o : Nat), (layA cur o vs).size = cur.size := by
  induction vs with
  | nil => intro cur o; rfl
  | cons v r ih => intro cur o; rw [layA, ih]; simp
theorem layA_get (vs : List Value) : ∀ (cur : Array Value) (o i : Nat), o + vs.length ≤ cur.size → (layA cur o vs)[i]? = if o ≤ i ∧ i < o + vs.length then vs[i - o]? else cur[i]? := by
  induction vs with
  | nil => intro cur o i _; rw [layA, if_neg (by simp)]
  | cons v r ih =>
    intro cur o i h
    simp at h
    rw [layA, ih _ _ _ (by simp; omega)]
    by_cases h1 : o + 1 ≤ i ∧ i < o + 1 + r.length
    · rw [if_pos h1, if_pos (by simp; omega)]
      obtain ⟨k, rfl⟩ : ∃ k, i = o + 1 + k := ⟨i - (o + 1), by omega⟩
      rw [show o + 1 + k - (o + 1) = k by omega, show o + 1 + k - o = k + 1 by omega]; rfl
    · rw [if_neg h1]
      by_cases h2 : i = o
      · subst h2
        rw [if_pos (by simp)]
        simp [Array.getElem?_setIfInBounds]; omega
      · rw [if_neg (by simp; omega)]
        rw [Array.getElem?_setIfInBounds, if_neg (by omega)]
theorem row_setCells (vs : List Value) : ∀ (w : World) (g o : Nat) (cur : Array Value) (e : TypeId), w.heap[g]? = some (.cells cur e (0, 0)) → (w.setCells g o vs).heap[g]? = some (.cells (layA cur o vs) e (0, 0)) := by
  induction vs with
  | nil => intro w g o cur e h; exact h
  | cons v r ih =>
    intro w g o cur e h
    rw [World.setCells, layA]
    refine ih _ _ _ _ _ ?_
    show (w.heap.modify g _)[g]? = _
    rw [Array.getElem?_modify, if_pos rfl, h]
    rfl
theorem other_setCells (vs : List Value) : ∀ (w : World) (g o b : Nat), b ≠ g → (w.setCells g o vs).heap[b]? = w.heap[b]? := by
  induction vs with
  | nil => intro w g o b _; rfl
  | cons v r ih =>
    intro w g o b h
    rw [World.setCells, ih _ _ _ _ h]
    show (w.heap.modify g _)[b]? = _
    rw [Array.getElem?_modify, if_neg (fun e => h e.symm)]
theorem size_setCells (vs : List Value) : ∀ (w : World) (g o : Nat), (w.setCells g o vs).heap.size = w.heap.size := by
  induction vs with
  | nil => intro w g o; rfl
  | cons v r ih => intro w g o; rw [World.setCells, ih]; simp [World.setCell]
theorem below_setCells {B : Nat} {a w : World} (h : Below B a w) (g : Nat) (hg : B ≤ g) (vs : List Value) : ∀ (o : Nat), Below B a (w.setCells g o vs) := by
  induction vs generalizing w with
  | nil => intro o; exact h
  | cons v r ih => intro o; exact ih (h.setCell (p := ⟨g, o, none⟩) hg v) (o + 1)

/-- A row of the call's own, opened: its block's cells. -/
theorem own_open {w : World} {base g n cap : Nat} {e : TypeId} {s : Nat} {xs : List Value} (h : w.ownsRow base e s (.slice (some ⟨g, 0, none⟩) n cap) n xs) :
    ∃ cur, base ≤ g ∧ w.heap[g]? = some (.cells cur e (0, 0)) ∧ n ≤ cap ∧ cap ≤ maxLen ∧ cur.size = cap * s ∧ xs.length = n * s ∧ ∀ i, i < n * s → cur[i]? = xs[i]? := by
  obtain ⟨h1, h2⟩ := h
  rcases h2 with ⟨hv, _⟩ | ⟨g', cap', cur, hv, hg, hc, hn, hm, hs, ht⟩
  · cases hv
  · injection hv with e1 e2 e3
    injection e1 with e4
    injection e4 with e5
    subst e5 e3
    refine ⟨cur, hg, hc, hn, hm, hs, h1, fun i hi => ?_⟩
    rw [← ht, List.getElem?_take, if_pos hi, Array.getElem?_toList]
theorem own_shut {w : World} {base g n cap : Nat} {e : TypeId} {s : Nat} {xs : List Value} {cur : Array Value} (hg : base ≤ g) (hc : w.heap[g]? = some (.cells cur e (0, 0))) (hn : n ≤ cap) (hm : cap ≤ maxLen) (hs : cur.size = cap * s) (hl : xs.length = n * s) (ht : ∀ i, i < n * s → cur[i]? = xs[i]?) :
    w.ownsRow base e s (.slice (some ⟨g, 0, none⟩) n cap) n xs := by
  refine ⟨hl, .inr ⟨g, cap, cur, rfl, hg, hc, hn, hm, hs, ?_⟩⟩
  have hns : n * s ≤ cap * s := Nat.mul_le_mul_right _ hn
  apply List.ext_getElem?
  intro i
  by_cases hi : i < n * s
  · rw [List.getElem?_take, if_pos hi, Array.getElem?_toList, ht i hi]
  · rw [List.getElem?_eq_none (by simp; omega), List.getElem?_eq_none (by omega)]
/-- What is written into a row, and what it holds then. -/
theorem own_write {w : World} {base g n n' cap : Nat} {e : TypeId} {s : Nat} {xs xs' : List Value} (h : w.ownsRow base e s (.slice (some ⟨g, 0, none⟩) n cap) n xs) (o : Nat) (vs : List Value) (ho : o + vs.length ≤ cap * s) (hn' : n' ≤ cap) (hl : xs'.length = n' * s)
    (hx : ∀ i, i < n' * s → if o ≤ i ∧ i < o + vs.length then vs[i - o]? = xs'[i]? else i < n * s ∧ xs[i]? = xs'[i]?) :
    (w.setCells g o vs).ownsRow base e s (.slice (some ⟨g, 0, none⟩) n' cap) n' xs' := by
  obtain ⟨cur, hg, hc, hn, hm, hs, hl0, hr⟩ := own_open h
  refine own_shut hg (row_setCells vs w g o cur e hc) hn' hm (by rw [layA_size]; exact hs) hl (fun i hi => ?_)
  rw [layA_get vs cur o i (by rw [hs]; exact ho)]
  have := hx i hi
  split at this
  · rename_i h1; rw [if_pos h1]; exact this
  · rename_i h1; rw [if_neg h1, hr i this.1]; exact this.2
theorem own_spare {w : World} {base g n cap : Nat} {e : TypeId} {s : Nat} {xs : List Value} (h : w.ownsRow base e s (.slice (some ⟨g, 0, none⟩) n cap) n xs) (j : Nat) (hj : j < cap * s) : (w.cell? ⟨g, j, none⟩).isSome = true ∧ w.frozen? ⟨g, j, none⟩ = false := by
  obtain ⟨cur, hg, hc, hn, hm, hs, hl0, hr⟩ := own_open h
  refine ⟨?_, h.frozenAt j⟩
  have := cell_of_row w g j cur e (0, 0) hc
  rw [this, Array.getElem?_eq_getElem (by omega)]; rfl

theorem own_at {w : World} {base g n cap : Nat} {l : List Ac} (h : w.ownsRow base 31 5 (.slice (some ⟨g, 0, none⟩) n cap) n (encs l)) (j : Nat) (hj : j < n) :
    ∃ y, l[j]? = some y ∧ w.cell? ⟨g, j * 5, none⟩ = some (.int .i64 y.who) ∧ w.cell? ⟨g, j * 5 + 1, none⟩ = some (.bool y.allow) ∧ w.cell? ⟨g, j * 5 + 2, none⟩ = some (.int .i64 y.rights) ∧ w.cell? ⟨g, j * 5 + 3, none⟩ = some (.int .i64 y.reach) ∧ w.cell? ⟨g, j * 5 + 4, none⟩ = some (.bool y.given) := by
  have hl := own_len h
  have hy : l[j]? = some l[j] := List.getElem?_eq_getElem (by omega)
  have k := fun i (hi : i < 5) => (h.cellAt (j * 5 + i) (by omega)).trans (encs_get l j i _ hi hy)
  exact ⟨l[j], hy, k 0 (by omega), k 1 (by omega), k 2 (by omega), k 3 (by omega), k 4 (by omega)⟩
theorem encs_put (l : List Ac) (j : Nat) (e : Ac) (hj : j < l.length) : ∀ i, i < l.length * 5 → if j * 5 ≤ i ∧ i < j * 5 + (enc e).length then (enc e)[i - j * 5]? = (encs (l.set j e))[i]? else i < l.length * 5 ∧ (encs l)[i]? = (encs (l.set j e))[i]? := by
  intro i hi
  have hr : i % 5 < 5 := Nat.mod_lt _ (by omega)
  have hq : i / 5 < l.length := by omega
  have h1 := encs_get (l.set j e) (i / 5) (i % 5) ((l.set j e)[i / 5]'(by simpa using hq)) hr (List.getElem?_eq_getElem _)
  have h2 := encs_get l (i / 5) (i % 5) l[i / 5] hr (List.getElem?_eq_getElem hq)
  rw [show i / 5 * 5 + i % 5 = i by omega] at h1 h2
  rw [h1, h2, List.getElem_set]
  have he : (enc e).length = 5 := rfl
  rw [he]
  by_cases hij : j = i / 5
  · rw [if_pos (by omega), if_pos hij, show i - j * 5 = i % 5 by omega]
  · rw [if_neg (by omega), if_neg hij]; exact ⟨hi, rfl⟩

def zeros5 : List Value := [.int .i64 0, .bool false, .int .i64 0, .int .i64 0, .bool false]
theorem run_clear_ace (w : World) (ty : TypeId) (g o c : Nat) (hs : ∀ j, j < 5 → (w.cell? ⟨g, o + j, none⟩).isSome = true ∧ w.frozen? ⟨g, o + j, none⟩ = false) :
    (Builtin.clear_ #[22] ty #[.slice (some ⟨g, o, none⟩) 1 c]).run Try.prog w = .ok (.tuple #[]) (w.setCells g o zeros5) := by
  have hz : (zeroValue 31).run Try.prog w = .ok (.agg #[.int .i64 0, .bool false, .int .i64 0, .int .i64 0, .bool false]) w := by kernel_rfl
  have hst := run_storeCells_cells (P := Try.prog) g o zeros5 0 w (fun j hj => (hs j hj).1) (fun j hj => (hs j hj).2) (by intro v hv; simp [zeros5] at hv; rcases hv with rfl | rfl | rfl | rfl | rfl <;> rfl)
  simp only [Nat.add_zero] at hst
  have hzc : (Builtin.zeroCells (Value.agg #[.int .i64 0, .bool false, .int .i64 0, .int .i64 0, .bool false]).cells 1).toList = zeros5 := by kernel_rfl
  simp [Builtin.clear_, run_underlying Try.underlying22, hz, hzc, hst]

theorem encs_split (l : List Ac) (j : Nat) : encs l = encs (l.take j) ++ encs (l.drop j) := by rw [← encs_append, List.take_append_drop]
theorem erase_cells (l : List Ac) (j : Nat) (hj : j < l.length) : ∀ i, i < (l.length - 1) * 5 → if j * 5 ≤ i ∧ i < j * 5 + (encs (l.drop (j + 1))).length then (encs (l.drop (j + 1)))[i - j * 5]? = (encs (l.eraseIdx j))[i]? else i < l.length * 5 ∧ (encs l)[i]? = (encs (l.eraseIdx j))[i]? := by
  intro i hi
  have e1 : encs (l.eraseIdx j) = encs (l.take j) ++ encs (l.drop (j + 1)) := by rw [List.eraseIdx_eq_take_drop_succ, encs_append]
  have hlt : (encs (l.take j)).length = j * 5 := by rw [encs_length, List.length_take]; omega
  have hld : (encs (l.drop (j + 1))).length = (l.length - (j + 1)) * 5 := by rw [encs_length, List.length_drop]
  rw [e1]
  split
  · rename_i h
    rw [List.getElem?_append_right (by omega), hlt]
  · rename_i h
    rw [encs_split l j, List.getElem?_append_left (by omega), List.getElem?_append_left (by omega)]
    exact ⟨by omega, rfl⟩

theorem ret_slice {A : Option Addr} {n m c : Nat} (h : n = m) : Ending.returned (.slice A n c) = .returned (.slice A m c) := by rw [h]
set_option maxHeartbeats 2000000 in
theorem delete_any (base g n c j : Nat) (l : List Ac) (hj : j < n) (hl : n ≤ 1000) (w : World) (hown : w.ownsRow base 31 5 (.slice (some ⟨g, 0, none⟩) n c) n (encs l)) :
    Calls Try.prog 43 #[.slice (some ⟨g, 0, none⟩) n c, .int .i64 j, .int .i64 (j + 1)] w fun e w' => e = .returned (.slice (some ⟨g, 0, none⟩) (n - 1) c) ∧ w'.ownsRow base 31 5 (.slice (some ⟨g, 0, none⟩) (n - 1) c) (n - 1) (encs (l.eraseIdx j)) ∧ Below base w w' := by
  obtain ⟨i0, hi, hz0, hz1, hz2⟩ := info_parts info_ace
  have hn := own_len hown
  obtain ⟨cur, hbg, hcur, hnc, hcm, hcs, hxl, hxs⟩ := own_open hown
  unfold maxLen at hcm
  obtain ⟨news, hnews⟩ : ∃ news, encs (l.drop (j + 1)) = news := ⟨_, rfl⟩
  have hnl : news.length = (n - (j + 1)) * 5 := by rw [← hnews, encs_length, List.length_drop, hn]
  obtain ⟨W1, hW1⟩ : ∃ W1, W1 = w.drew.setCells g (0 + j * 5) news := ⟨_, rfl⟩
  have hr1 : W1.ownsRow base 31 5 (.slice (some ⟨g, 0, none⟩) (n - 1) c) (n - 1) (encs (l.eraseIdx j)) := by
    rw [hW1]
    refine own_write (n' := n - 1) hown.drew (0 + j * 5) news (by omega) (by omega) (by rw [encs_length, List.length_eraseIdx, if_pos (by omega), hn]) (fun i hi' => ?_)
    have := erase_cells l j (by omega) i (by omega)
    rw [hnews] at this
    rw [Nat.zero_add, ← hn]
    exact this
  have hb1 : Below base w W1 := by rw [hW1]; exact below_setCells (Below.refl base w).drew g hbg news _
  obtain ⟨W2, hW2⟩ : ∃ W2, W1.setCells g ((n - 1) * 5) zeros5 = W2 := ⟨_, rfl⟩
  have hcl : ∀ (o k cc : Nat) (ty : TypeId), o = (n - 1) * 5 → k = 1 → (Builtin.clear_ #[22] ty #[.slice (some ⟨g, o, none⟩) k cc]).run Try.prog W1 = .ok (.tuple #[]) W2 := fun o k cc ty ho hk => by
    subst ho hk
    rw [← hW2]
    exact run_clear_ace W1 ty g _ _ (fun t ht => own_spare hr1 _ (by omega))
  have hr2 : W2.ownsRow base 31 5 (.slice (some ⟨g, 0, none⟩) (n - 1) c) (n - 1) (encs (l.eraseIdx j)) := by
    rw [← hW2]
    refine own_write (n' := n - 1) hr1 ((n - 1) * 5) zeros5 (by simp [zeros5]; omega) (by omega) hr1.1 (fun i hi' => ?_)
    rw [if_neg (by omega)]
    exact ⟨hi', rfl⟩
  have hb2 : Below base w W2 := by rw [← hW2]; exact below_setCells hb1 g hbg zeros5 _
  have hsrc : ∀ k u, news[k]? = some u → w.drew.cell? ⟨g, 0 + (j + 1) * 5 + k, none⟩ = some u := fun k u hu => by
    rw [← hnews] at hu
    have hk := (List.getElem?_eq_some_iff.1 hu).1
    rw [encs_length, List.length_drop] at hk
    have := hown.drew.cellAt ((j + 1) * 5 + k) (by omega)
    rw [encs_split l (j + 1), List.getElem?_append_right (by rw [encs_length, List.length_take]; omega)] at this
    rw [show (j + 1) * 5 + k - (encs (l.take (j + 1))).length = k by rw [encs_length, List.length_take]; omega, hu] at this
    rw [show 0 + (j + 1) * 5 + k = (j + 1) * 5 + k by omega]
    exact this
  have h1c : ∀ u ∈ news, u.oneCell' = true := by rw [← hnews]; exact encs_one' _
  have hsp : ∀ k, k < news.length → (w.drew.cell? ⟨g, 0 + j * 5 + k, none⟩).isSome = true ∧ w.drew.frozen? ⟨g, 0 + j * 5 + k, none⟩ = false := fun k hk => own_spare hown.drew _ (by omega)
  have HCL := Lib.hid hcl
  have HR2 := Lib.hid hr2
  have HB2 := Lib.hid hb2
  have HW1 := Lib.hid hW1
  have HSRC := Lib.hid hsrc
  have H1C := Lib.hid h1c
  have HSP := Lib.hid hsp
  have HNL := Lib.hid hnl
  have j0 : (0 : Int) ≤ (j : Int) := by omega
  have jn : (j : Int) < (n : Int) := by omega
  clear hr1 hb1 hr2 hb2 hcl hW2 hW1 hsrc h1c hsp hnl hnews hxs hxl hcs hcur hown hn
  have hsrcA : ∀ (o : Nat), (n = j + 1 ∨ o = (j + 1) * 5) → ∀ k u, news[k]? = some u → w.drew.cell? ((⟨g, o, none⟩ : Addr).add k) = some u := fun o ho k u hu => by
    have hk := (List.getElem?_eq_some_iff.1 hu).1
    rw [HNL.out] at hk
    rcases ho with ho | rfl
    · omega
    · have hadd : (⟨g, (j + 1) * 5, none⟩ : Addr).add k = ⟨g, 0 + (j + 1) * 5 + k, none⟩ := by unfold Addr.add; split <;> simp_all
      rw [hadd]; exact HSRC.out k u hu
  have HA := Lib.hid hsrcA
  clear hsrcA
  by_cases hcj : c = j + 1
  · subst hcj
    have hn1 : n = j + 1 := by omega
    have HN1 := Lib.hid hn1
    have k1 : (j : Int) ≤ (j : Int) + 1 := by omega
    have k2 : j ≤ j + 1 := by omega
    have k3 : (j : Int) + 1 ≤ (n : Int) := by omega
    have k4 : j + 1 ≤ n := by omega
    have k7 : (0 : Int) ≤ (j : Int) + 1 := by omega
    have k5 : ¬ (j + 1 = j) := by omega
    clear hn1
    go_enter Try.func43, Try.ntmps43
    go_wp2
    go_region_law (refine step_append_room rfl (.tmp 22) (.tmp 25) 22 rfl 31 i0 5 Try.underlying22 hi hz1 g 0 j (j + 1) (by simp [Act.eval, Act.put]) ⟨g, 0, none⟩ 0 0 news (by simp [Act.eval, Act.put]) (by have := HNL.out; have := HN1.out; omega) (HA.out 0 (.inl HN1.out)) H1C.out (by omega) HSP.out ?_; rw [← HW1.out])
    have hc1 := fun ty => HCL.out (j * 5) (n - j) 1 ty (by have := HN1.out; omega) (by have := HN1.out; omega)
    go_wp2
    go_ret
    exact ⟨ret_slice (by have := HN1.out; omega), HR2.out, HB2.out⟩
  · have k2 : j ≤ c := by omega
    have k3 : (j : Int) + 1 ≤ (n : Int) := by omega
    have k4 : j + 1 ≤ n := by omega
    have k7 : (0 : Int) ≤ (j : Int) + 1 := by omega
    have k5 : ¬ (c = j) := by omega
    have k6 : j + 1 ≤ c := by omega
    go_enter Try.func43, Try.ntmps43
    go_wp2
    go_region_law (refine step_append_room rfl (.tmp 22) (.tmp 25) 22 rfl 31 i0 5 Try.underlying22 hi hz1 g 0 j c (by simp [Act.eval, Act.put]) ⟨g, (j + 1) * 5, none⟩ (n - (j + 1)) (c - (j + 1)) news (by simp [Act.eval, Act.put]) (by rw [HNL.out]) (HA.out _ (.inr rfl)) H1C.out (by omega) HSP.out ?_; rw [← HW1.out])
    have hc1 := fun ty => HCL.out ((j + (n - (j + 1))) * 5) (n - (j + (n - (j + 1)))) (c - (j + (n - (j + 1)))) ty (by omega) (by omega)
    go_wp2
    go_ret
    exact ⟨ret_slice (by omega), HR2.out, HB2.out⟩
end Go.Proofs.Ytkpedfigaofloaa
