/-
  Contracts of the landed package: a row of 4096 Booleans; without, Erase.
-/
import Derived.Test.YtggnklcjhbahhaaFm
import Derived.Deep.WholeRow
namespace Go.Proofs.Ytggnklcjhbahhaa
open Go.RowKit Go.Shelf Ex
attribute [local go_sem] Oper.semAt_some
set_option maxHeartbeats 400000
set_option maxRecDepth 100000

theorem zeroRow : (∀ w, (zeroValue 82).run Try.prog w = .ok (.agg (Array.replicate 4096 (.bool false))) w) ∧ (Try.prog.info? 82).map (·.size) = some 4096 := zero_of_info (by kernel_rfl)
/-- The block G holds a row of 4096 Booleans. -/
def RowB (w : World) (G : Nat) (f : Nat → Bool) : Prop := ∃ cs : Array Value, w.heap[G]? = some (.cells cs 82 (0, 0)) ∧ ∀ j, j < 4096 → cs[j]? = some (.bool (f j))
theorem RowB.lt {w : World} {G : Nat} {f : Nat → Bool} (h : RowB w G f) : G < w.heap.size := by
  obtain ⟨cs, h1, _⟩ := h
  exact (Array.getElem?_eq_some_iff.1 h1).1
theorem RowB.at_ {w : World} {G : Nat} {f : Nat → Bool} (h : RowB w G f) : GoneAt w G f := fun j hj => by
  obtain ⟨cs, h1, h2⟩ := h
  rw [cell_of_row w G j _ _ _ h1]
  exact h2 j hj
theorem RowB.frozen {w : World} {G : Nat} {f : Nat → Bool} (h : RowB w G f) (j : Nat) : w.frozen? ⟨G, j, none⟩ = false := by
  obtain ⟨cs, h1, _⟩ := h
  exact frozen_of_row w G j _ _ h1
theorem RowB.keep {w w' : World} {G : Nat} {f : Nat → Bool} (h : RowB w G f) {B : Nat} (hb : Below B w w') (hG : G < B) : RowB w' G f := by
  obtain ⟨cs, h1, h2⟩ := h
  exact ⟨cs, (hb.block G hG).trans h1, h2⟩
theorem RowB.other {w : World} {G : Nat} {f : Nat → Bool} (h : RowB w G f) {p : Addr} (hp : p.block ≠ G) (v : Value) : RowB (w.setCell p v) G f := by
  obtain ⟨cs, h1, h2⟩ := h
  exact ⟨cs, (heap_setCell_other w p G v (fun e => hp e.symm)).trans h1, h2⟩
theorem RowB.set {w : World} {G : Nat} {f : Nat → Bool} (h : RowB w G f) (k : Nat) : RowB (w.setCell ⟨G, k, none⟩ (.bool true)) G (fun j => decide (j = k) || f j) := by
  obtain ⟨cs, h1, h2⟩ := h
  refine ⟨_, heap_setCell_same _ _ _ _ _ _ h1, fun j hj => ?_⟩
  rw [Array.getElem?_setIfInBounds]
  by_cases hk : k = j
  · subst hk
    have h3 := h2 k hj
    rw [if_pos rfl, if_pos (Array.getElem?_eq_some_iff.1 h3).1]
    simp
  · have e : decide (j = k) = false := decide_eq_false fun e => hk e.symm
    rw [if_neg hk, h2 j hj]
    simp only [e, Bool.false_or]
theorem RowB.new (w : World) : RowB (w.alloc (.cells (Array.replicate 4096 (.bool false)) 82)) w.heap.size (fun _ => false) :=
  ⟨_, heap_alloc_new w _, fun j hj => by rw [Array.getElem?_replicate, if_pos hj]⟩
theorem RowB.box {w : World} {G : Nat} {f : Nat → Bool} (h : RowB w G f) (o : Obj) : RowB (w.alloc o) G f := h.keep ((Below.refl _ w).alloc (Nat.le_refl _) o) h.lt

theorem without_c (A : Option Addr) (n c : Nat) (b : List Pc) (h : Bod b n) (G : Nat) (f : Nat → Bool) (w : World) (hA : Pcs w A b) (hG : GoneAt w G f) :
    Calls Try.prog 42 #[.slice A n c, .func (.func 43) #[] #[.pointer (some ⟨G, 0, none⟩)]] w fun e w' => ∃ gf lb, e = .returned (.func (.func gf) #[] lb) ∧ Gives w' (.func (.func gf) #[] lb) (b.map (eraP f)) ∧ Below w.heap.size w w' := by
  have B1 := (Boxed.new w 24 (.slice A n c)).alloc (.cells #[.func (.func 43) #[] #[.pointer (some ⟨G, 0, none⟩)]] 74)
  have B2 := Boxed.new (w.alloc (.cells #[.slice A n c] 24)) 74 (.func (.func 43) #[] #[.pointer (some ⟨G, 0, none⟩)])
  have hb : Below w.heap.size w ((w.alloc (.cells #[.slice A n c] 24)).alloc (.cells #[.func (.func 43) #[] #[.pointer (some ⟨G, 0, none⟩)]] 74)) := ((Below.refl _ w).alloc (Nat.le_refl _) _).alloc (by simp) _
  have hGv := without_gives _ _ _ G f A n c b h.right h.len (by have := h.max; omega) B1.cell B2.cell (hG.below hb) (hA.below hb)
  simp only [World.size_alloc] at hGv
  have HG := Lib.hid hGv
  have HB := Lib.hid hb
  clear B1 B2 hb hGv hA h hG
  go_enter Try.func42, Try.ntmps42
  go_wp2
  go_ret
  exact ⟨_, _, rfl, HG.out, HB.out⟩
theorem eraseB_len (bs : List (Int × Int)) (ids : List Int) : (eraseB bs ids).length = bs.length := by unfold eraseB; rw [List.length_map]

set_option maxHeartbeats 2000000 in
theorem exErase_any (A : Option Addr) (n c : Nat) (b : List Pc) (h : Bod b n) (A2 : Option Addr) (n2 c2 : Nat) (ids : List Int) (w : World) (hA : Pcs w A b) (hI : Si 0 w A2 n2 c2 1 ids) (hn2 : n2 ≤ 100) :
    Calls Try.prog 24 #[.slice A n c, .slice A2 n2 c2] w fun e w' => ∃ A' m c' r, e = .returned (.slice A' m c') ∧ Sp w.heap.size w' A' m c' r ∧ validL r = true ∧ eachL r = eraseB (eachL b) ids ∧ Below w.heap.size w w' := by
  have hz := zeroRow.1
  obtain ⟨Z, hZ⟩ : ∃ Z, Array.replicate 4096 (Value.bool false) = Z := ⟨_, rfl⟩
  have hR0 := RowB.new w
  rw [hZ] at hz hR0
  have HIL := Lib.hid (show ids.length = n2 from by have := hI.len; omega)
  have HI := Lib.hid hI.cells.cells
  have HSZ := Lib.hid zeroRow.2
  have HA := Lib.hid hA
  have HH := Lib.hid h
  have HR0 := Lib.hid hR0
  clear hI hA h hR0 hZ
  go_enter Try.func24, Try.ntmps24
  go_wp2
  go_loopw [10] (fun i wr => ∃ (k : Nat) (f : Nat → Bool), k ≤ n2 ∧ i = .int .i64 k ∧ RowB wr w.heap.size f ∧ (∀ j : Nat, 1 ≤ j → j < 4096 → f j = decide ((j : Int) ∈ ids.take k)) ∧ Below w.heap.size w wr) (fun i _ => n2 - (intOf i).toNat)
  case atStart => exact ⟨0, _, Nat.zero_le _, rfl, HR0.out, fun j _ _ => by simp, (Below.refl _ w).alloc (Nat.le_refl _) _⟩
  case round =>
    obtain ⟨k, f, hk, rfl, hR, hf, hbw⟩ := hrel
    have HF := Lib.hid hf
    have HB := Lib.hid hbw
    have HR := Lib.hid hR
    clear hf hR
    by_cases hlt : k < n2
    · have hkl : k < ids.length := by rw [HIL.out]; exact hlt
      have hg : ids[k]? = some ids[k] := List.getElem?_eq_getElem hkl
      obtain ⟨g, o, rfl, hgw, hcell⟩ := HI.out (fun e => by rw [e] at hkl; simp at hkl)
      have hck := (hbw.cell (p := ⟨g, o + k, none⟩) hgw).trans (hcell k _ hg)
      have HTS := Lib.hid (show ids.take (k + 1) = ids.take k ++ [ids[k]] from List.take_succ_eq_append_getElem hkl)
      obtain ⟨x, hx⟩ : ∃ x, ids[k] = x := ⟨_, rfl⟩
      rw [hx] at hck HTS
      have kn : (k : Int) < (n2 : Int) := Int.ofNat_lt.2 hlt
      have k00 : (0 : Int) ≤ (k : Int) := Int.natCast_nonneg k
      obtain ⟨r, hr⟩ : ∃ r, chunkB x = r := ⟨_, rfl⟩
      have CC := Lib.hid (chunk_c hr)
      clear hx hg hcell hgw hbw hkl
      cases r
      · have HC := Lib.hid (chunk_not.1 hr)
        clear hr
        go_wp2_with (go_at_call 41; refine (CC.out _).mono ?_; rintro e w1 ⟨rfl, rfl⟩)
        go_roundw
        case rel => exact ⟨k + 1, f, by omega, by go_num, HR.out, fun j h1 h2 => by
          rw [HF.out j h1 h2, HTS.out]
          have := HC.out
          simp only [List.mem_append, List.mem_singleton]
          congr 1
          refine propext ⟨.inl, fun h => h.elim id fun e => by omega⟩, HB.out⟩
        case measure => simp [intOf]; omega
      · obtain ⟨h1, h2⟩ := chunk_iff.1 hr
        obtain ⟨m, rfl⟩ : ∃ m : Nat, x = m := ⟨x.toNat, by omega⟩
        have hcm := HR.out.at_ m (by omega)
        have hfm := HR.out.frozen m
        have m0 : (0 : Int) ≤ (m : Int) := Int.natCast_nonneg m
        have HRS := Lib.hid (HR.out.set m)
        have HBS := Lib.hid (HB.out.setCell (p := ⟨w.heap.size, m, none⟩) (Nat.le_refl _) (.bool true))
        clear hr
        go_wp2_with (go_at_call 41; refine (CC.out _).mono ?_; rintro e w1 ⟨rfl, rfl⟩)
        go_roundw
        case rel => exact ⟨k + 1, _, by omega, by go_num, HRS.out, fun j h1 h2 => by
          rw [HF.out j h1 h2, HTS.out]
          rw [Bool.eq_iff_iff]
          simp only [List.mem_append, List.mem_singleton, Bool.or_eq_true, decide_eq_true_eq]
          exact ⟨fun h => h.elim (fun e => .inr (by rw [e])) .inl, fun h => h.elim .inr fun e => .inl (by omega)⟩, HBS.out⟩
        case measure => simp [intOf]; omega
    · obtain rfl : k = n2 := by omega
      have hfi : ∀ j : Nat, 1 ≤ j → j < 4096 → f j = decide ((j : Int) ∈ ids) := fun j h1 h2 => by
        rw [HF.out j h1 h2, List.take_of_length_le (by rw [HIL.out]; exact Nat.le_refl _)]
      have hE := erase_each HH.out.right hfi
      have CW := Lib.hid (without_c A n c b HH.out w.heap.size f wr (HA.out.below hbw) HR.out.at_)
      have hRt : ∀ p ∈ b.map (eraP f), rightB p = true := fun q hq => by obtain ⟨p, hp, rfl⟩ := List.mem_map.1 hq; exact era_right (HH.out.right p hp)
      have hLn : (eachL b).length ≤ 1048576 := by
        have h1 := eachL_len (l := b) (fun p hp => by have := (right_iff.1 (HH.out.right p hp)).1; omega)
        have := HH.out.size
        omega
      have CJ := Lib.hid (fun (W : World) (v : Value) (hG : Gives W v (b.map (eraP f))) => joined_c [(v, b.map (eraP f))] (by simp) W (fun r hr => by rw [List.mem_singleton.1 hr]; exact hG) (by simpa only [flatR, List.map_cons, List.map_nil, List.flatten_cons, List.flatten_nil, List.append_nil] using hRt) (by simp only [flatR, List.map_cons, List.map_nil, List.flatten_cons, List.flatten_nil, List.append_nil]; rw [hE, eraseB_len]; exact hLn) (b.map (eraP f)) (by simp [flatR]) [v] rfl 1 rfl)
      have HE := Lib.hid hE
      clear hE hRt hLn hfi hbw
      go_wp2_with (first | (go_at_call 32; refine (CJ.out _ _ HG2.out).mono ?_; rintro e w3 ⟨A', m, c', rfl, hr1, hr2, hr3, hr4⟩; have HX := Lib.hid (And.intro hr1 (And.intro hr2 (And.intro hr3 hr4))); clear hr1 hr2 hr3 hr4) | (go_at_call 42; refine CW.out.mono ?_; rintro e w2 ⟨gf, lb, rfl, hg2, hb2⟩; have HB2 := Lib.hid (HB.out.trans (hb2.mono HB.out.size)); have HG2 := Lib.hid hg2; clear hb2 hg2))
      go_ret
      obtain ⟨x1, x2, x3, x4⟩ := HX.out
      exact ⟨_, _, _, _, rfl, x1.mono HB2.out.size, x2, x3.trans HE.out, HB2.out.trans (x4.mono HB2.out.size)⟩
end Go.Proofs.Ytggnklcjhbahhaa
