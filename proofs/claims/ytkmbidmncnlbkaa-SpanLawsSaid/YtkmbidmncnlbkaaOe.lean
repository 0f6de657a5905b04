/-
  Contracts of the landed package: the bounds of two lists, in order (two loops, and the library's sort).
-/
import Derived.Test.YtkmbidmncnlbkaaOc
namespace Go.Proofs.Ytkmbidmncnlbkaa
open Go.RowKit Go.Shelf Go.Lib Go.Sort Sn
attribute [local go_sem] Oper.semAt_some
set_option maxHeartbeats 400000
set_option maxRecDepth 100000

/-- The bounds of the lists that are done. -/
def upk (a b : List S) : Nat → List Bd
  | 0 => []
  | 1 => raw false a
  | _ + 2 => raw false a ++ raw true b
theorem raw_take {j : Bool} {l : List S} {k : Nat} {s : S} (h : l[k]? = some s) : raw j (l.take (k + 1)) = raw j (l.take k) ++ (if s.lo < s.hi then [⟨s.lo, j, true⟩, ⟨s.hi, j, false⟩] else []) := by
  obtain ⟨hk, he⟩ := List.getElem?_eq_some_iff.1 h
  rw [List.take_succ_eq_append_getElem hk, he, raw_append]
  simp only [raw]
theorem two_slices (w : World) (u v : Value) (t : TypeId) : (w.alloc (.cells #[u, v] t)).cell? ⟨w.heap.size, 0, none⟩ = some u ∧ (w.alloc (.cells #[u, v] t)).cell? ⟨w.heap.size, 1, none⟩ = some v := by
  have h := fun k => cell_of_row (w.alloc (.cells #[u, v] t)) w.heap.size k _ _ (0, 0) (heap_alloc_new w _)
  exact ⟨h 0, h 1⟩

set_option maxHeartbeats 4000000 in
theorem ends_any (A A2 : Option Addr) (n n2 c c2 : Nat) (a b : List S) (hl : n ≤ 1000) (hl2 : n2 ≤ 1000) (w : World) (hA : Sl 0 w A n c a) (hA2 : Sl 0 w A2 n2 c2 b) :
    Calls Try.prog 38 #[.slice A n c, .slice A2 n2 c2] w fun e w' => ∃ A' m c' L, e = .returned (.slice A' m c') ∧ Bds w' w.heap.size A' m c' L ∧ L.Perm (raw false a ++ raw true b) ∧ L.Pairwise (fun d e => d.x ≤ e.x) ∧ Below w.heap.size w w' := by
  obtain ⟨ib, hb, hb0, hb1, hb2⟩ := info_parts info_bound
  obtain ⟨wB, hwB⟩ : ∃ X, w.alloc (.cells #[.slice A n c, .slice A2 n2 c2] 22) = X := ⟨_, rfl⟩
  have hlow : Below w.heap.size w wB := by rw [← hwB]; exact (Below.refl _ w).alloc (Nat.le_refl _) _
  obtain ⟨d0, d1⟩ := two_slices w (.slice A n c) (.slice A2 n2 c2) 22
  rw [hwB] at d0 d1
  have hgB : w.heap.size < wB.heap.size := by rw [← hwB]; simp
  have HA := Lib.hid (hA.below hlow)
  have HA2 := Lib.hid (hA2.below hlow)
  have hal := hA.plen
  have hbl := hA2.plen
  have HLOW := Lib.hid hlow
  clear hA hA2 hlow
  go_enter Try.func38, Try.ntmps38
  go_wp2
  go_loopw [5, 14] (fun l i wr => ∃ (k : Nat) (A' : Option Addr) (m c' : Nat), k ≤ 2 ∧ i = .int .i64 k ∧ l = .slice A' m c' ∧ Bds wr wB.heap.size A' m c' (upk a b k) ∧ Below wB.heap.size wB wr) (fun _ i _ => 2 - (intOf i).toNat)
  case atStart => exact ⟨0, none, 0, 0, by omega, rfl, rfl, World.ownsRow_nil _ _ _ _, Below.refl _ _⟩
  case round =>
    obtain ⟨k, A', m, c', hk, rfl, rfl, hown, hbw⟩ := hrel
    have e0 := (hbw.cell (p := ⟨w.heap.size, 0, none⟩) hgB).trans d0
    have e1 := (hbw.cell (p := ⟨w.heap.size, 1, none⟩) hgB).trans d1
    have hk3 : k = 0 ∨ k = 1 ∨ k = 2 := by omega
    rcases hk3 with rfl | rfl | rfl
    · have HOW := Lib.hid hown
      have HBW := Lib.hid hbw
      have hpl : (upk a b 0).length ≤ 2 * n := by
        simp [upk]
      clear hown hbw
      simp only [Int.cast_ofNat_Int]
      go_wp2
      go_loopw [5, 21] (fun l i wr => ∃ (q : Nat) (A' : Option Addr) (m c' : Nat), q ≤ n ∧ i = .int .i64 q ∧ l = .slice A' m c' ∧ Bds wr wB.heap.size A' m c' (upk a b 0 ++ raw false (a.take q)) ∧ Below wB.heap.size wB wr) (fun _ i _ => n - (intOf i).toNat)
      case atStart => exact ⟨0, A', m, c', Nat.zero_le _, rfl, rfl, by rw [show raw false (a.take 0) = [] from rfl, List.append_nil]; exact HOW.out, HBW.out⟩
      case round =>
        clear e0 e1 HOW HBW
        obtain ⟨q, A3, m3, c3, hq, rfl, rfl, hown, hbw⟩ := hrel
        have HOW := Lib.hid hown
        have HBW := Lib.hid hbw
        by_cases hlt : q < n
        · have hql : q < a.length := by omega
          have hg : a[q]? = some a[q] := List.getElem?_eq_getElem hql
          obtain ⟨s, hs⟩ : ∃ s, a[q] = s := ⟨_, rfl⟩
          rw [hs] at hg
          obtain ⟨g, o, hA', hgw, q0, q1⟩ := ((Sl.sps HA.out).below hbw).at_ hg
          subst hA'
          have HTS := Lib.hid (raw_take (j := false) hg)
          have hm3 : m3 ≤ 2 * n + 2 * q := by
            have h1 := bds_len hown
            have h2 := raw_len false (a.take q)
            rw [List.length_append] at h1
            rw [List.length_take] at h2
            omega
          have qn : (q : Int) < (n : Int) := Int.ofNat_lt.2 hlt
          have q00 : (0 : Int) ≤ (q : Int) := Int.natCast_nonneg q
          obtain ⟨WB, hWB⟩ : ∃ X, wr.alloc (.cells #[.int .i64 s.lo, .int .i64 s.hi] 24) = X := ⟨_, rfl⟩
          obtain ⟨b0, b1⟩ := box_two wr s
          have hbB := box_low wr s
          rw [show bx wr s = WB from hWB] at b0 b1 hbB
          have HBB := Lib.hid (HBW.out.trans (hbB.mono HBW.out.size))
          have HOB := Lib.hid (own_keep HOW.out hbB)
          have hsB := HBB.out.size
          clear hs hg hql hown hbw hgw hbB
          by_cases hv : s.lo < s.hi
          · have dv : decide (s.lo < s.hi) = true := decide_eq_true hv
            rw [if_pos hv] at HTS
            go_wp2_with (at_builtin; refine wpList_append_own _ rfl _ _ 59 rfl wB.heap.size 57 ib _ 3 24 Try.underlying59 hb hb0 hb1 hb2 rfl (by decide) _ _ _ rfl (HOB.out.alloc _) ⟨WB.heap.size, 0, none⟩ 2 2 (ints [s.lo, 0, 1, s.hi, 0, -1]) rfl rfl (cells_new _ _ _) (ints_cells _) (by unfold maxLen; omega) (by omega) (by simp; omega) ?_; intro v' w7 hown7 hgrow7 _; obtain ⟨g7, c7, rfl, _, _⟩ := hown7.form (Nat.succ_pos _))
            have HB7 := Lib.hid ((HBB.out.alloc hsB _).grown hgrow7 (by simp; omega) (fun t ht => (HOB.out.lt t ht).1))
            have HO7 := Lib.hid (show Bds w7 wB.heap.size (some ⟨g7, 0, none⟩) (m3 + 2) c7 (upk a b 0 ++ raw false (a.take (q + 1))) from by
              rw [HTS.out, ← List.append_assoc]
              show w7.ownsRow _ _ _ _ _ (ints (flat3 (_ ++ [_, _])))
              rw [flat3_append, ints_append]
              exact hown7)
            go_roundw
            case rel => exact ⟨q + 1, _, m3 + 2, c7, by omega, by go_num, rfl, HO7.out, HB7.out⟩
            case measure => simp [intOf]; omega
          · have dv : decide (s.lo < s.hi) = false := decide_eq_false hv
            rw [if_neg hv, List.append_nil] at HTS
            go_wp2
            go_roundw
            case rel => exact ⟨q + 1, A3, m3, c3, by omega, by go_num, rfl, by rw [HTS.out]; exact HOB.out, HBB.out⟩
            case measure => simp [intOf]; omega
        · obtain rfl : q = n := by omega
          have hfull : a.take q = a := List.take_of_length_le (by omega)
          rw [hfull] at HOW
          go_wp2
          go_roundw
          case rel => exact ⟨1, A3, m3, c3, by omega, by go_num, rfl, HOW.out, HBW.out⟩
          case measure => simp [intOf]
    · have HOW := Lib.hid hown
      have HBW := Lib.hid hbw
      have hpl : (upk a b 1).length ≤ 2 * n := by
        have := raw_len false a; simp only [upk]; omega
      clear hown hbw
      simp only [Int.cast_ofNat_Int]
      go_wp2
      go_loopw [5, 21] (fun l i wr => ∃ (q : Nat) (A' : Option Addr) (m c' : Nat), q ≤ n2 ∧ i = .int .i64 q ∧ l = .slice A' m c' ∧ Bds wr wB.heap.size A' m c' (upk a b 1 ++ raw true (b.take q)) ∧ Below wB.heap.size wB wr) (fun _ i _ => n2 - (intOf i).toNat)
      case atStart => exact ⟨0, A', m, c', Nat.zero_le _, rfl, rfl, by rw [show raw true (b.take 0) = [] from rfl, List.append_nil]; exact HOW.out, HBW.out⟩
      case round =>
        clear e0 e1 HOW HBW
        obtain ⟨q, A3, m3, c3, hq, rfl, rfl, hown, hbw⟩ := hrel
        have HOW := Lib.hid hown
        have HBW := Lib.hid hbw
        by_cases hlt : q < n2
        · have hql : q < b.length := by omega
          have hg : b[q]? = some b[q] := List.getElem?_eq_getElem hql
          obtain ⟨s, hs⟩ : ∃ s, b[q] = s := ⟨_, rfl⟩
          rw [hs] at hg
          obtain ⟨g, o, hA', hgw, q0, q1⟩ := ((Sl.sps HA2.out).below hbw).at_ hg
          subst hA'
          have HTS := Lib.hid (raw_take (j := true) hg)
          have hm3 : m3 ≤ 2 * n + 2 * q := by
            have h1 := bds_len hown
            have h2 := raw_len true (b.take q)
            rw [List.length_append] at h1
            rw [List.length_take] at h2
            omega
          have qn : (q : Int) < (n2 : Int) := Int.ofNat_lt.2 hlt
          have q00 : (0 : Int) ≤ (q : Int) := Int.natCast_nonneg q
          obtain ⟨WB, hWB⟩ : ∃ X, wr.alloc (.cells #[.int .i64 s.lo, .int .i64 s.hi] 24) = X := ⟨_, rfl⟩
          obtain ⟨b0, b1⟩ := box_two wr s
          have hbB := box_low wr s
          rw [show bx wr s = WB from hWB] at b0 b1 hbB
          have HBB := Lib.hid (HBW.out.trans (hbB.mono HBW.out.size))
          have HOB := Lib.hid (own_keep HOW.out hbB)
          have hsB := HBB.out.size
          clear hs hg hql hown hbw hgw hbB
          by_cases hv : s.lo < s.hi
          · have dv : decide (s.lo < s.hi) = true := decide_eq_true hv
            rw [if_pos hv] at HTS
            go_wp2_with (at_builtin; refine wpList_append_own _ rfl _ _ 59 rfl wB.heap.size 57 ib _ 3 24 Try.underlying59 hb hb0 hb1 hb2 rfl (by decide) _ _ _ rfl (HOB.out.alloc _) ⟨WB.heap.size, 0, none⟩ 2 2 (ints [s.lo, 1, 1, s.hi, 1, -1]) rfl rfl (cells_new _ _ _) (ints_cells _) (by unfold maxLen; omega) (by omega) (by simp; omega) ?_; intro v' w7 hown7 hgrow7 _; obtain ⟨g7, c7, rfl, _, _⟩ := hown7.form (Nat.succ_pos _))
            have HB7 := Lib.hid ((HBB.out.alloc hsB _).grown hgrow7 (by simp; omega) (fun t ht => (HOB.out.lt t ht).1))
            have HO7 := Lib.hid (show Bds w7 wB.heap.size (some ⟨g7, 0, none⟩) (m3 + 2) c7 (upk a b 1 ++ raw true (b.take (q + 1))) from by
              rw [HTS.out, ← List.append_assoc]
              show w7.ownsRow _ _ _ _ _ (ints (flat3 (_ ++ [_, _])))
              rw [flat3_append, ints_append]
              exact hown7)
            go_roundw
            case rel => exact ⟨q + 1, _, m3 + 2, c7, by omega, by go_num, rfl, HO7.out, HB7.out⟩
            case measure => simp [intOf]; omega
          · have dv : decide (s.lo < s.hi) = false := decide_eq_false hv
            rw [if_neg hv, List.append_nil] at HTS
            go_wp2
            go_roundw
            case rel => exact ⟨q + 1, A3, m3, c3, by omega, by go_num, rfl, by rw [HTS.out]; exact HOB.out, HBB.out⟩
            case measure => simp [intOf]; omega
        · obtain rfl : q = n2 := by omega
          have hfull : b.take q = b := List.take_of_length_le (by omega)
          rw [hfull] at HOW
          go_wp2
          go_roundw
          case rel => exact ⟨2, A3, m3, c3, by omega, by go_num, rfl, HOW.out, HBW.out⟩
          case measure => simp [intOf]
    · have hm := bds_len hown
      have hml := raw_len false a
      have hml2 := raw_len true b
      have hm4 : m ≤ 2 * n + 2 * n2 := by
        rw [← hm]
        show (raw false a ++ raw true b).length ≤ _
        rw [List.length_append]
        omega
      have CS := Lib.hid (sort_c wB.heap.size A' m c' _ (by omega) wr hown)
      have HBW := Lib.hid hbw
      clear hown hbw
      go_wp2_with (go_at_call 43; refine CS.out.mono ?_; rintro e w1 ⟨rfl, L, hp, hs, ho, hb1⟩; have HP := Lib.hid hp; have HS := Lib.hid hs; have HO := Lib.hid ho; have HB1 := Lib.hid hb1; clear hp hs ho hb1)
      go_ret
      exact ⟨_, _, _, L, rfl, own_weak HO.out (Nat.le_of_lt hgB), HP.out, HS.out, HLOW.out.trans ((HBW.out.trans HB1.out).mono (Nat.le_of_lt hgB))⟩
end Go.Proofs.Ytkmbidmncnlbkaa
