/-
  Contracts of the landed package: the bounds of two lists, in order.
-/
import Derived.Test.YtkmbidmncnlbkaaOd
import Derived.Test.YtkmbidmncnlbkaaShelf
import Derived.Shelf.SlSortCmp.NoneTotal
namespace Go.Proofs.Ytkmbidmncnlbkaa
open Go.RowKit Go.Shelf Go.Lib Go.Sort Sn
attribute [local go_sem] Oper.semAt_some
set_option maxHeartbeats 400000
set_option maxRecDepth 100000

/-- The numbers of a row of bounds. -/
def flat3 : List Bd → List Int
  | [] => []
  | b :: l => b.x :: bi b.j :: stp b.u :: flat3 l
theorem flat3_len (l : List Bd) : (flat3 l).length = l.length * 3 := by
  induction l with
  | nil => rfl
  | cons p l ih => simp [flat3, ih]; omega
theorem flat3_append (l m : List Bd) : flat3 (l ++ m) = flat3 l ++ flat3 m := by
  induction l with
  | nil => rfl
  | cons p l ih => simp [flat3, ih]
theorem flat3_get : ∀ {l : List Bd} {k : Nat} {b : Bd}, l[k]? = some b → (flat3 l)[k * 3]? = some b.x ∧ (flat3 l)[k * 3 + 1]? = some (bi b.j) ∧ (flat3 l)[k * 3 + 2]? = some (stp b.u)
  | [], k, b, h => by simp at h
  | q :: l, 0, b, h => by
    simp at h
    subst h
    exact ⟨rfl, rfl, rfl⟩
  | q :: l, k + 1, b, h => by
    have ih := flat3_get (l := l) (k := k) (b := b) (by simpa using h)
    have e : (k + 1) * 3 = k * 3 + 3 := by omega
    rw [e]
    exact ih
def encB (b : Bd) : List Value := [.int .i64 b.x, .int .i64 (bi b.j), .int .i64 (stp b.u)]
theorem flatK_bd (L : List Bd) : flatK encB 3 L.toArray = (ints (flat3 L)).toArray := by
  have hs : (flatK encB 3 L.toArray).size = (ints (flat3 L)).toArray.size := by simp [ints_length, flat3_len]
  refine ext_get! hs fun t ht => ?_
  have ht' : t < L.length * 3 := by simpa using ht
  rw [get_flatK _ _ _ t (by simpa using ht')]
  have hq : t / 3 < L.length := by omega
  have hg : L[t / 3]? = some L[t / 3] := List.getElem?_eq_getElem hq
  have e0 : (L.toArray)[t / 3]! = L[t / 3] := by simp [hq]
  rw [e0]
  obtain ⟨b, hb⟩ : ∃ b, L[t / 3] = b := ⟨_, rfl⟩
  rw [hb] at hg ⊢
  obtain ⟨g0, g1, g2⟩ := flat3_get hg
  have key : ∀ (r : Nat) (v : Int), (flat3 L)[t / 3 * 3 + r]? = some v → t = t / 3 * 3 + r → (ints (flat3 L)).toArray[t]! = .int .i64 v := fun r v h e => by
    rw [← e] at h
    have := ints_get h
    rw [Array.getElem!_eq_getD, Array.getD_eq_getD_getElem?, List.getElem?_toArray, this]
    rfl
  have hr : t % 3 = 0 ∨ t % 3 = 1 ∨ t % 3 = 2 := by omega
  rcases hr with h | h | h <;> rw [h]
  · rw [key 0 b.x g0 (by omega)]; rfl
  · rw [key 1 _ g1 (by omega)]; rfl
  · rw [key 2 _ g2 (by omega)]; rfl
abbrev Bds (w : World) (base : Nat) (A : Option Addr) (m c : Nat) (L : List Bd) : Prop := w.ownsRow base 57 3 (.slice A m c) m (ints (flat3 L))
theorem bds_len {w : World} {base m c : Nat} {A : Option Addr} {L : List Bd} (h : Bds w base A m c L) : L.length = m := by
  have := own_slen h
  rw [ints_length, flat3_len] at this
  omega
theorem info_bound : (Try.prog.info? 57).map (fun i => (i.zero, i.size, i.bytes)) = some (some (.agg #[.int .i64 0, .int .i64 0, .int .i64 0]), 3, 24) := by kernel_rfl
/-- The comparison of two bounds. -/
theorem cmp_any (d e : Bd) (W : World) : Calls Try.prog 44 #[.agg #[.int .i64 d.x, .int .i64 (bi d.j), .int .i64 (stp d.u)], .agg #[.int .i64 e.x, .int .i64 (bi e.j), .int .i64 (stp e.u)]] W fun r w' => r = .returned (.int .i64 (Lib.compareInt d.x e.x)) ∧ ∃ q os', w' = grow (W.drewN q) os' := by
  have hcon := fun W' => AnyG.cmp_Compare_int Try.cmpI d.x e.x W'
  change ∀ W', Calls Try.prog 45 _ _ _ at hcon
  generalize Lib.compareInt d.x e.x = r at hcon ⊢
  obtain ⟨j1, hj1⟩ : ∃ j, bi d.j = j := ⟨_, rfl⟩
  obtain ⟨j2, hj2⟩ : ∃ j, bi e.j = j := ⟨_, rfl⟩
  rw [hj1, hj2]
  clear hj1 hj2
  go_enter Try.func44, Try.ntmps44
  go_wp2_with (go_at_call 45; refine (hcon _).mono ?_; rintro e w' ⟨rfl, rfl⟩)
  go_ret
  exact ⟨rfl, 0, _, by rw [alloc_eq_grow, alloc_eq_grow, grow_grow]; rfl⟩
theorem ltB (d e : Bd) : ltOf (fun d e : Bd => Lib.compareInt d.x e.x) d e = decide (d.x < e.x) := by
  unfold ltOf Lib.compareInt
  by_cases h1 : d.x < e.x
  · simp [h1]
  · by_cases h2 : e.x < d.x <;> simp [h1, h2]
theorem swoB : SWO (ltOf fun d e : Bd => Lib.compareInt d.x e.x) :=
  ⟨fun x => by rw [ltB]; simp, fun x y z h1 h2 => by rw [ltB] at *; simp at *; omega, fun x y z h1 h2 => by rw [ltB] at *; simp at *; omega⟩
theorem sort_c (base : Nat) (A : Option Addr) (m c : Nat) (L : List Bd) (hm : m ≤ 4294967296) (w : World) (hown : Bds w base A m c L) :
    Calls Try.prog 43 #[.slice A m c, .func (.func 44) #[] #[]] w fun e w' => e = .returned (.tuple #[]) ∧ ∃ L', L'.Perm L ∧ L'.Pairwise (fun d e => d.x ≤ e.x) ∧ Bds w' base A m c L' ∧ Below base w w' := by
  have hl := bds_len hown
  by_cases h0 : m = 0
  · subst h0
    have hcon := AnyF.slices_SortFunc_none Try.sortB A c (.func (.func 44) #[] #[]) w
    change Calls Try.prog 43 _ _ _ at hcon
    refine hcon.mono ?_
    rintro e w' ⟨rfl, rfl⟩
    obtain rfl : L = [] := List.eq_nil_of_length_eq_zero hl
    exact ⟨rfl, [], List.Perm.refl _, List.Pairwise.nil, hown, Below.refl _ _⟩
  · rcases hown.2 with ⟨hv, hn⟩ | ⟨g, cap, cur, hv, hbg, hgb, hnc, hcm, hcs, htake⟩
    · omega
    · injection hv with hA _ hc
      subst hA hc
      have hgs := (Array.getElem?_eq_some_iff.1 hgb).1
      have eg : ∀ args w, (callFunc 44 args).run Try.prog w = .ok (.enter 44 args) w := enters_of Try.func44 (by kernel_rfl) rfl
      have hH : HoldsK encB 3 w g 0 L.toArray := by
        unfold HoldsK
        rw [flatK_bd]
        intro k hk
        rw [Nat.zero_add]
        have hk' : k < (ints (flat3 L)).length := by simpa using hk
        have := own_at hown (j := k) (u := (ints (flat3 L))[k]) (List.getElem?_eq_getElem hk')
        refine ⟨?_, this.2⟩
        rw [this.1]
        simp [hk']
      have hcon := AnyQ.slices_SortFunc Try.sortB 3 Try.isAgg57 Try.sizeOf57 encB (fun _ => rfl) (fun x v hv => by simp [encB] at hv; rcases hv with rfl | rfl | rfl <;> rfl) (fun d e => Lib.compareInt d.x e.x) swoB 44 #[] g 0 c L.toArray w eg
        (fun _ _ _ _ d e => cmp_any d e _) hH hgs (by simp; omega)
      change Calls Try.prog 43 _ _ _ at hcon
      rw [List.size_toArray, hl] at hcon
      refine hcon.mono ?_
      rintro e w' ⟨rfl, d', n, os, hp, hs, rfl⟩
      obtain ⟨hps, _, hpp⟩ := hp
      replace hps : d'.size = m := hps.trans (by simpa using hl)
      have hd : d' = d'.toList.toArray := by simp
      have hl' : d'.toList.length = m := by rw [Array.length_toList]; exact hps
      have hperm : d'.toList.Perm L := by
        have e1 : (d'.extract 0 m).toList = d'.toList := by rw [← hps]; simp
        have e2 : (L.toArray.extract 0 m).toList = L := by rw [← hl]; simp
        rw [e1, e2] at hpp
        exact hpp
      have hsort : d'.toList.Pairwise (fun d e => d.x ≤ e.x) := by
        rw [List.pairwise_iff_getElem]
        intro i j hi hj hij
        have := hs i j (Nat.zero_le _) hij (by rw [hl'] at hj; exact hj)
        rw [ltB, decide_eq_false_iff_not] at this
        rw [Array.length_toList] at hi hj
        rw [getElem!_pos d' j hj, getElem!_pos d' i hi] at this
        rw [Array.getElem_toList, Array.getElem_toList]
        omega
      refine ⟨rfl, d'.toList, hperm, hsort, ?_, ?_⟩
      · have hF : flatK encB 3 d' = (ints (flat3 d'.toList)).toArray := by rw [← flatK_bd d'.toList, Array.toArray_toList]
        unfold sortWorldK putRowK
        rw [hF]
        have hlen : (ints (flat3 d'.toList)).length = m * 3 := by rw [ints_length, flat3_len, hl']
        have hheap : (grow (putRow id (Sort.ahead w n) g 0 (ints (flat3 d'.toList)).toArray) os).heap[g]? = some (.cells (putCells id 0 (ints (flat3 d'.toList)).toArray cur) 57 (0, 0)) := by
          rw [heap_grow_old _ _ (by simpa using hgs)]
          simp [putRow, mapBlock, Sort.ahead, Array.getElem?_modify, hgb, onCells]
        refine ⟨hlen, .inr ⟨g, c, _, rfl, hbg, hheap, hnc, hcm, by simp [putCells, hcs], ?_⟩⟩
        apply List.ext_getElem?
        intro k
        by_cases hk : k < m * 3
        · have hc3 : k < cur.size := by rw [hcs]; omega
          rw [List.getElem?_take_of_lt hk, Array.getElem?_toList]
          simp [putCells, hlen, hk, hc3]
        · rw [List.getElem?_take_eq_none (by omega), List.getElem?_eq_none (by omega)]
      · unfold sortWorldK putRowK
        refine ⟨rfl, rfl, rfl, by simp, fun k hk => ?_⟩
        have hne : g ≠ k := by omega
        rw [heap_grow_old _ _ (by simp; omega)]
        simp [putRow, mapBlock, Sort.ahead, Array.getElem?_modify, hne]
end Go.Proofs.Ytkmbidmncnlbkaa
