/-
  Contracts of the landed package: Used (a set of chunks in a row of Booleans, the library's sort).
-/
import Derived.Test.YtggnklcjhbahhaaFn
import Derived.Test.YtggnklcjhbahhaaShelf
import Derived.Sort.OwnSortedInts
namespace Go.Proofs.Ytggnklcjhbahhaa
open Go.RowKit Go.Shelf Go.Sort Ex
attribute [local go_sem] Oper.semAt_some
set_option maxHeartbeats 400000
set_option maxRecDepth 100000

theorem info_int : (Try.prog.info? 3).map (fun i => (i.zero, i.size, i.bytes)) = some (some (.int .i64 0), 1, 8) := by kernel_rfl
abbrev sorted (us : List Int) : List Int := us.mergeSort fun x y => decide (x ≤ y)
theorem sorted_mem (us : List Int) (x : Int) : x ∈ sorted us ↔ x ∈ us := (List.mergeSort_perm us _).mem_iff
theorem sorted_lt {us : List Int} (h : us.Nodup) : (sorted us).Pairwise (· < ·) := by
  have h1 : (sorted us).Pairwise (fun x y => decide (x ≤ y) = true) := List.pairwise_mergeSort (fun a b c => by simp; omega) (fun a b => by simp; omega) us
  have h2 : (sorted us).Nodup := (List.mergeSort_perm us _).nodup_iff.2 h
  exact (h1.and h2).imp fun ⟨h3, h4⟩ => by simp at h3; omega
theorem sort_c (base : Nat) (A : Option Addr) (m c : Nat) (us : List Int) (hm : m ≤ 4294967296) (w : World) (hown : w.ownsRow base 3 1 (.slice A m c) m (ints us)) :
    Calls Try.prog 44 #[.slice A m c] w fun e w' => e = .returned (.tuple #[]) ∧ w'.ownsRow base 3 1 (.slice A m c) m (ints (sorted us)) ∧ Below base w w' := by
  have hl : us.length = m := by have := own_slen hown; rw [ints_length] at this; omega
  by_cases h0 : m = 0
  · subst h0
    refine (Try.slices_Sort_int_none A c w).mono ?_
    rintro e w' ⟨rfl, rfl⟩
    obtain rfl : us = [] := List.eq_nil_of_length_eq_zero hl
    exact ⟨rfl, by simpa [sorted] using hown, Below.refl _ _⟩
  · rcases hown.2 with ⟨hv, hn⟩ | ⟨g, cap, cur, hv, hbg, hgb, hnc, hcm, hcs, htake⟩
    · omega
    · injection hv with hA _ hc
      subst hA hc
      subst hl
      have ht : cur.toList.take us.length = us.map (Value.int .i64) := by rw [Nat.mul_one] at htake; exact htake
      refine (Try.slices_Sort_int g 0 c us w (holds_of_blockI hgb ht) (Array.getElem?_eq_some_iff.1 hgb).1 (by omega)).mono ?_
      rintro e w' ⟨rfl, n, os, rfl⟩
      have hg := grownBy_sortedI (w := w) (g := g) (n := n) (os := os) (us.mergeSort fun x y => decide (x ≤ y)).toArray
      exact ⟨rfl, ownsRow_sortedI (by simp) hbg hgb hnc hcm hcs, ⟨hg.os, hg.tape, hg.output, hg.size, fun k hk => hg.block k (by have := (Array.getElem?_eq_some_iff.1 hgb).1; omega) (fun e => by injection e with e; omega)⟩⟩
/-- What the loop of Used keeps: which chunks are in the row of Booleans, and in the slice. -/
structure Seen (l : List Pc) (f : Nat → Bool) (us : List Int) : Prop where
  nodup : us.Nodup
  mem : ∀ x, x ∈ us ↔ (1 ≤ x ∧ x < 4096) ∧ ∃ p ∈ l, p.id = x
  row : ∀ j : Nat, 1 ≤ j → j < 4096 → (f j = true ↔ (j : Int) ∈ us)
theorem Seen.nil : Seen [] (fun _ => false) [] := ⟨List.nodup_nil, fun x => by simp, fun j _ _ => by simp⟩
theorem Seen.skip {l : List Pc} {f : Nat → Bool} {us : List Int} (h : Seen l f us) {p : Pc} (hp : chunkB p.id = false) : Seen (l ++ [p]) f us :=
  ⟨h.nodup, fun x => by
    rw [h.mem x]
    refine and_congr_right fun hx => ⟨fun ⟨q, hq, e⟩ => ⟨q, List.mem_append_left _ hq, e⟩, fun ⟨q, hq, e⟩ => ?_⟩
    rcases List.mem_append.1 hq with hq | hq
    · exact ⟨q, hq, e⟩
    · rw [List.mem_singleton.1 hq] at e
      exact absurd (by rw [e]; exact hx) (chunk_not.1 hp), h.row⟩
theorem Seen.again {l : List Pc} {f : Nat → Bool} {us : List Int} (h : Seen l f us) {p : Pc} {m : Nat} (hp : p.id = m) (h1 : 1 ≤ m) (h2 : m < 4096) (hf : f m = true) : Seen (l ++ [p]) f us :=
  ⟨h.nodup, fun x => by
    rw [h.mem x]
    refine and_congr_right fun hx => ⟨fun ⟨q, hq, e⟩ => ⟨q, List.mem_append_left _ hq, e⟩, fun ⟨q, hq, e⟩ => ?_⟩
    rcases List.mem_append.1 hq with hq | hq
    · exact ⟨q, hq, e⟩
    · rw [List.mem_singleton.1 hq, hp] at e
      subst e
      exact ((h.mem m).1 ((h.row m h1 h2).1 hf)).2, h.row⟩
theorem Seen.new {l : List Pc} {f : Nat → Bool} {us : List Int} (h : Seen l f us) {p : Pc} {m : Nat} (hp : p.id = m) (h1 : 1 ≤ m) (h2 : m < 4096) (hf : f m = false) : Seen (l ++ [p]) (fun j => decide (j = m) || f j) (us ++ [(m : Int)]) := by
  have hn : ¬ (m : Int) ∈ us := fun hm => by
    have := (h.row m h1 h2).2 hm
    rw [hf] at this
    cases this
  refine ⟨?_, fun x => ?_, fun j j1 j2 => ?_⟩
  · rw [List.nodup_append]
    exact ⟨h.nodup, by simp, fun a ha b hb e => by rw [List.mem_singleton.1 hb] at e; exact hn (e ▸ ha)⟩
  · rw [List.mem_append, h.mem x, List.mem_singleton]
    constructor
    · rintro (⟨hx, q, hq, e⟩ | rfl)
      · exact ⟨hx, q, List.mem_append_left _ hq, e⟩
      · exact ⟨⟨by omega, by omega⟩, p, by simp, hp⟩
    · rintro ⟨hx, q, hq, e⟩
      rcases List.mem_append.1 hq with hq | hq
      · exact .inl ⟨hx, q, hq, e⟩
      · rw [List.mem_singleton.1 hq, hp] at e
        exact .inr e.symm
  · rw [List.mem_append, List.mem_singleton, Bool.or_eq_true, decide_eq_true_eq, h.row j j1 j2]
    exact ⟨fun h => h.elim (fun e => .inr (by rw [e])) .inl, fun h => h.elim .inr fun e => .inl (by omega)⟩
theorem box_keep (w : World) (p : Pc) : Below w.heap.size w (w.alloc (.cells #[.int .i64 p.id, .int .i64 p.fr, .int .i64 p.n] 66)) := (Below.refl _ w).alloc (Nat.le_refl _) _

set_option maxHeartbeats 4000000 in
theorem exUsed_any (A : Option Addr) (n c : Nat) (b : List Pc) (h : Bod b n) (w : World) (hA : Pcs w A b) :
    Calls Try.prog 26 #[.slice A n c] w fun e w' => ∃ A' m c' us, e = .returned (.slice A' m c') ∧ Si w.heap.size w' A' m c' 1 us ∧ us.Pairwise (· < ·) ∧ (∀ x, x ∈ us ↔ 0 < x ∧ ∃ p ∈ b, p.id = x) ∧ Below w.heap.size w w' := by
  obtain ⟨i0, hi, hz0, hz1, hz2⟩ := info_parts info_int
  have hz := zeroRow.1
  obtain ⟨Z, hZ⟩ : ∃ Z, Array.replicate 4096 (Value.bool false) = Z := ⟨_, rfl⟩
  have hR0 := RowB.new w
  rw [hZ] at hz hR0
  have HN := Lib.hid h.len
  have hmx := h.max
  have HRT := Lib.hid h.right
  have SA := Lib.hid hA
  have HR0 := Lib.hid hR0
  clear hA h hR0 hZ
  go_enter Try.func26, Try.ntmps26
  go_wp2
  go_loopw [4, 9] (fun s i wr => ∃ (k : Nat) (f : Nat → Bool) (us : List Int) (A' : Option Addr) (m c' : Nat), k ≤ n ∧ m ≤ k ∧ i = .int .i64 k ∧ s = .slice A' m c' ∧ wr.ownsRow (w.heap.size + 1) 3 1 (.slice A' m c') m (ints us) ∧ RowB wr w.heap.size f ∧ Seen (b.take k) f us ∧ Below w.heap.size w wr) (fun _ i _ => n - (intOf i).toNat)
  case atStart => exact ⟨0, _, [], none, 0, 0, Nat.zero_le _, Nat.le_refl _, rfl, rfl, World.ownsRow_nil _ _ _ _, HR0.out, Seen.nil, (Below.refl _ w).alloc (Nat.le_refl _) _⟩
  case round =>
    obtain ⟨k, f, us, A', m, c', hk, hmk, rfl, rfl, hown, hR, hSn, hbw⟩ := hrel
    have HB := Lib.hid hbw
    have HR := Lib.hid hR
    have HS := Lib.hid hSn
    have HO := Lib.hid hown
    have hGw := hR.lt
    clear hSn hR hown
    by_cases hlt : k < n
    · have hkl : k < b.length := by rw [HN.out]; exact hlt
      have hg : b[k]? = some b[k] := List.getElem?_eq_getElem hkl
      obtain ⟨p, hp⟩ : ∃ p, b[k] = p := ⟨_, rfl⟩
      rw [hp] at hg
      have hpr := HRT.out p (List.mem_of_getElem? hg)
      obtain ⟨g, o, hA', hgw, q0, q1, q2⟩ := (SA.out.below hbw).at_ hg
      subst hA'
      have HTS := Lib.hid (show b.take (k + 1) = b.take k ++ [p] by rw [List.take_succ_eq_append_getElem hkl, hp])
      have kn : (k : Int) < (n : Int) := Int.ofNat_lt.2 hlt
      have k00 : (0 : Int) ≤ (k : Int) := Int.natCast_nonneg k
      obtain ⟨WB, hWB⟩ : ∃ WB, wr.alloc (.cells #[.int .i64 p.id, .int .i64 p.fr, .int .i64 p.n] 66) = WB := ⟨_, rfl⟩
      have hbB : Below wr.heap.size wr WB := by rw [← hWB]; exact box_keep wr p
      have T0 := box_tri wr p
      rw [hWB] at T0
      have hwz : wr.heap.size < WB.heap.size := by rw [← hWB]; simp
      obtain ⟨b0, b1, b2⟩ := T0
      replace b0 : WB.cell? ⟨wr.heap.size, 0, none⟩ = some (.int .i64 p.id) := b0
      have HBB := Lib.hid (HB.out.trans (hbB.mono HB.out.size))
      have HRB := Lib.hid (HR.out.keep hbB hGw)
      have HOB := Lib.hid (own_keep HO.out hbB)
      obtain ⟨r, hr⟩ : ∃ r, chunkB p.id = r := ⟨_, rfl⟩
      have CC := Lib.hid (chunk_c hr)
      clear hp hg hkl hbB b1 b2 hbw hgw
      cases r
      · have HS1 := Lib.hid (HTS.out ▸ HS.out.skip hr)
        clear hr
        go_wp2_with (go_at_call 41; refine (CC.out _).mono ?_; rintro e w1 ⟨rfl, rfl⟩)
        go_roundw
        case rel => exact ⟨k + 1, f, us, A', m, c', by omega, by omega, by go_num, rfl, HOB.out, HRB.out, HS1.out, HBB.out⟩
        case measure => simp [intOf]; omega
      · obtain ⟨h1, h2⟩ := chunk_iff.1 hr
        obtain ⟨x, hx⟩ : ∃ x : Nat, p.id = x := ⟨p.id.toNat, by omega⟩
        have HX := Lib.hid hx
        rw [hx] at h1 h2 CC b0 hWB
        have x0 : (0 : Int) ≤ (x : Int) := Int.natCast_nonneg x
        have hcm := HRB.out.at_ x (by omega)
        have hfm := HRB.out.frozen x
        obtain ⟨u, hu⟩ : ∃ u, f x = u := ⟨_, rfl⟩
        rw [hu] at hcm
        rw [hx] at q0
        clear hr hx
        cases u
        · have HS1 := Lib.hid (HTS.out ▸ HS.out.new HX.out (by omega) (by omega) hu)
          have HRS := Lib.hid (HRB.out.set x)
          have HOS := Lib.hid (own_set_far (p := ⟨w.heap.size, x, none⟩) HOB.out (fun gg e => by have := HOB.out.lt gg e; simp only []; omega) (.bool true))
          have HBS := Lib.hid (HBB.out.setCell (p := ⟨w.heap.size, x, none⟩) (Nat.le_refl _) (.bool true))
          have d0 : (WB.setCell ⟨w.heap.size, x, none⟩ (.bool true)).cell? ⟨wr.heap.size, 0, none⟩ = some (.int .i64 x) := (World.cell?_setCell_other _ _ _ _ (fun e => by injection e with e; omega)).trans b0
          have hml := HOS.out.1
          clear hu
          go_wp2_with (first | (go_at_call 41; refine (CC.out _).mono ?_; rintro e w1 ⟨rfl, rfl⟩) | (at_builtin; refine wpList_append_own _ rfl _ _ 47 rfl (w.heap.size + 1) 3 i0 _ 1 8 Try.underlying47 hi hz0 hz1 hz2 rfl (by decide) _ _ _ rfl (HOS.out.alloc _) ⟨w1.heap.size, 0, none⟩ 1 1 (ints [(x : Int)]) rfl rfl (cells_newS _ _ _ _ _) (ints_cells _) (by unfold maxLen; omega) (by omega) (by simp; omega) ?_; intro v' w7 hown7 hgrow7 _; obtain ⟨g7, c7, rfl⟩ := ownsRow_succ hown7))
          have hb7 : Below (w.heap.size + 1) (w1.setCell ⟨w.heap.size, x, none⟩ (.bool true)) w7 := ((Below.refl _ _).alloc (by simp [World.setCell]; omega) _).grown hgrow7 (by simp; omega) (fun t ht => (HOS.out.lt t ht).1)
          have HR7 := Lib.hid (HRS.out.keep hb7 (Nat.lt_succ_self _))
          have HB7 := Lib.hid (HBS.out.trans (hb7.mono (Nat.le_succ _)))
          clear hb7
          go_roundw
          case rel => exact ⟨k + 1, _, _, _, m + 1, _, by omega, by omega, by go_num, rfl, by rw [ints_append]; exact hown7, HR7.out, HS1.out, HB7.out⟩
          case measure => simp [intOf]; omega
        · have HS1 := Lib.hid (HTS.out ▸ HS.out.again HX.out (by omega) (by omega) hu)
          clear hu
          go_wp2_with (go_at_call 41; refine (CC.out _).mono ?_; rintro e w1 ⟨rfl, rfl⟩)
          go_roundw
          case rel => exact ⟨k + 1, f, us, A', m, c', by omega, by omega, by go_num, rfl, HOB.out, HRB.out, HS1.out, HBB.out⟩
          case measure => simp [intOf]; omega
    · obtain rfl : k = n := by omega
      have hfull : b.take k = b := List.take_of_length_le (by rw [HN.out]; exact Nat.le_refl _)
      have hs := HS.out
      rw [hfull] at hs
      have CS := Lib.hid (sort_c (w.heap.size + 1) A' m c' us (by omega) wr HO.out)
      have HS2 := Lib.hid hs
      clear hs hfull hbw
      go_wp2_with (go_at_call 44; refine CS.out.mono ?_; rintro e w1 ⟨rfl, ho1, hb1⟩; have HO1 := Lib.hid ho1; have HB1 := Lib.hid hb1; clear ho1 hb1)
      go_ret
      refine ⟨_, _, _, _, rfl, (Si.own HO1.out).mono (Nat.le_succ _), sorted_lt HS2.out.nodup, fun x => ?_, HB.out.trans (HB1.out.mono (by have := HB.out.size; omega))⟩
      rw [sorted_mem, HS2.out.mem x]
      constructor
      · rintro ⟨hx, q, hq, e⟩
        exact ⟨by omega, q, hq, e⟩
      · rintro ⟨hx, q, hq, e⟩
        have := right_iff.1 (HRT.out q hq)
        exact ⟨by omega, q, hq, e⟩
end Go.Proofs.Ytggnklcjhbahhaa
