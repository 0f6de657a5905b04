/-
  Walk of the law AclChild: it returns true for every list of triples of numbers and every bool.
-/
import Derived.Test.YthdeceaejacpdaaAw
import Derived.Test.YthdeceaejacpdaaPf
import Derived.ChangeKeysEq
namespace Go.Proofs.Ythdeceaejacpdaa
open Go.RowKit Ap
set_option maxHeartbeats 400000

/-- Two numbers in a block. -/
abbrev Pair2 (w : World) (g : Nat) (x y : Int) : Prop := w.heap[g]? = some (.cells #[.int .i64 x, .int .i64 y] 49 (0, 0))
theorem pair2_cells {w : World} {g : Nat} {x y : Int} (h : Pair2 w g x y) : w.cell? ⟨g, 0, none⟩ = some (.int .i64 x) ∧ w.cell? ⟨g, 1, none⟩ = some (.int .i64 y) ∧ w.frozen? ⟨g, 0, none⟩ = false ∧ w.frozen? ⟨g, 1, none⟩ = false :=
  ⟨cell_of_row w g 0 _ _ _ h, cell_of_row w g 1 _ _ _ h, frozen_of_row w g 0 _ _ h, frozen_of_row w g 1 _ _ h⟩
theorem pair2_below {w w' : World} {g : Nat} {x y : Int} (h : Pair2 w g x y) (hb : Below w.heap.size w w') : Pair2 w' g x y := by
  have hg : g < w.heap.size := by
    rcases Nat.lt_or_ge g w.heap.size with h1 | h1
    · exact h1
    · unfold Pair2 at h; rw [Array.getElem?_eq_none h1] at h; cases h
  exact (hb.block g hg).trans h
theorem eqlTwo (x y : Int) (w : World) : (binOp .eql 49 (.agg #[.int .i64 x, .int .i64 y]) (.agg #[.int .i64 x, .int .i64 y])).run Try.prog w = .ok (.bool true) w := by
  have u3 := Try.underlying3
  have a3 := Try.isAgg3
  have z3 := Try.sizeOf3
  have hs : (Try.prog.info? 3).isSome = true := by kernel_rfl
  obtain ⟨i, hi⟩ := Option.isSome_iff_exists.1 hs
  have hc : Try.prog.cellsOf 3 = 1 := by kernel_rfl
  rw [run_eql_struct, show (10000 : Nat) = 9999 + 1 from rfl, run_equalIn_array w 9999 _ _ Try.underlying49 hi, hc, show List.range 2 = [0, 1] from rfl]
  simp only [Op.eqItems]
  go_simp
theorem vW_if (k : Int) (b : Bool) (aw : Int) (al : Bool) (ri re : Int) (ag : Bool) : vW k b ⟨aw, al, ri, re, ag⟩ = if aw = k ∧ al = b then bv ri else 0 := rfl
theorem vX_if (k : Int) (b : Bool) (aw : Int) (al : Bool) (ri re : Int) (ag : Bool) : vX k b ⟨aw, al, ri, re, ag⟩ = if re ≠ 1 then (if aw = k ∧ al = b then bv ri else 0) else 0 := rfl
theorem or0 (x : BitVec 64) : x ||| (0 : BitVec 64) = x := by simp
theorem orF_start (v : Ac → BitVec 64) (l : List Ac) : (orF v (l.take 0)).toInt = 0 := by simp [orF]
/-- One of the two numbers is turned. -/
theorem pair2_set0 {w : World} {g : Nat} {x z : BitVec 64} {y r : Int} (h : Pair2 w g x.toInt y) (hz : z = x ||| bv r) : Pair2 (w.setCell ⟨g, 0, none⟩ (.int .i64 (bits .or .i64 x.toInt r))).drew g z.toInt y := by
  have h1 := heap_setCell_same w g 0 _ _ (.int .i64 (bits .or .i64 x.toInt r)) h
  have e : bits .or .i64 x.toInt r = z.toInt := by rw [bits_or, bv_toInt, hz]
  rw [e] at h1 ⊢
  exact h1
theorem pair2_set1 {w : World} {g : Nat} {x z : BitVec 64} {y r : Int} (h : Pair2 w g y x.toInt) (hz : z = x ||| bv r) : Pair2 (w.setCell ⟨g, 1, none⟩ (.int .i64 (bits .or .i64 x.toInt r))).drew g y z.toInt := by
  have h1 := heap_setCell_same w g 1 _ _ (.int .i64 (bits .or .i64 x.toInt r)) h
  have e : bits .or .i64 x.toInt r = z.toInt := by rw [bits_or, bv_toInt, hz]
  rw [e] at h1 ⊢
  exact h1
theorem pair2_new (w : World) : Pair2 ((w.alloc (.cells #[.int .i64 0, .int .i64 0] 49)).alloc (.cells #[.int .i64 0, .int .i64 0] 49)) w.heap.size 0 0 ∧ Pair2 ((w.alloc (.cells #[.int .i64 0, .int .i64 0] 49)).alloc (.cells #[.int .i64 0, .int .i64 0] 49)) (w.heap.size + 1) 0 0 := by
  have h := Go.heap_alloc_new (w.alloc (.cells #[.int .i64 0, .int .i64 0] 49)) (.cells #[.int .i64 0, .int .i64 0] 49)
  have h0 := Go.heap_alloc_new w (.cells #[.int .i64 0, .int .i64 0] 49)
  rw [show (w.alloc (.cells #[.int .i64 0, .int .i64 0] 49)).heap.size = w.heap.size + 1 by simp] at h
  exact ⟨pair2_below h0 ((Below.refl _ _).alloc (Nat.le_refl _) _), h⟩
theorem guardTwo : Try.prog.eqGuardType Try.prog.depth 49 = false := by kernel_rfl

set_option maxRecDepth 20000 in
set_option maxHeartbeats 4000000 in
theorem lawChild_any (A0 : Option Addr) (n0 c0 : Nat) (l0 : List Tri) (e0 : l0.length = n0) (b0 : n0 ≤ 9223372036854775807) (dir : Bool) (w : World) (y0 : Tris w A0 l0) :
    Calls Try.prog 5 #[.slice A0 n0 c0, .bool dir] w fun e w' => e = .returned (.bool true) ∧ Below w.heap.size w w' := by
  obtain ⟨a, ha⟩ : ∃ a, listL l0 = a := ⟨_, rfl⟩
  obtain ⟨rc, hrc⟩ : ∃ rc, rcOf dir = rc := ⟨_, rfl⟩
  have la : a.length ≤ 12 := by rw [← ha]; exact listL_len _
  have ra : ∀ x ∈ a, right x = true := by rw [← ha]; exact listL_right _
  have oka : ∀ x ∈ a, x.ok := fun x hx => right_ok (ra x hx)
  have rr : ∀ x ∈ a, 1 ≤ x.reach ∧ x.reach ≤ 3 := fun x hx => (right_iff.1 (ra x hx)).2.2
  obtain ⟨C, hC⟩ : ∃ C, childL a rc = C := ⟨_, rfl⟩
  obtain ⟨X, hX⟩ : ∃ X, childL a 2 = X := ⟨_, rfl⟩
  have hV : validB C = true := by rw [← hC, ← hrc]; exact child_valid a dir ra (by omega)
  have hrc3 : 1 ≤ rc ∧ rc ≤ 3 := by rw [← hrc]; cases dir <;> simp [rcOf]
  have okC : ∀ x ∈ C, x.ok := fun x hx => by rw [← hC] at hx; exact right_ok (childL_right rc hrc3 a ra x hx)
  have okX : ∀ x ∈ X, x.ok := fun x hx => by rw [← hX] at hx; exact right_ok (childL_right 2 (by omega) a ra x hx)
  have hCX : childL X rc = C := by rw [← hX, child_two, hC]
  have gC : ∀ x ∈ C, x.given = true ∧ x.reach = rc := by rw [← hC]; exact childL_given a rc
  have S0 : orF (vX (-1) true) a = orF (vW (-1) true) C := by rw [← hC]; exact (child_or _ _ rc a rr).symm
  have S1 : orF (vX 1 false) a = orF (vW 1 false) C := by rw [← hC]; exact (child_or _ _ rc a rr).symm
  have lc : C.length ≤ a.length := by rw [← hC]; exact childL_len _ _
  have lx : X.length ≤ a.length := by rw [← hX]; exact childL_len _ _
  obtain ⟨na, hna⟩ : ∃ n, a.length = n := ⟨_, rfl⟩
  obtain ⟨nc, hnc⟩ : ∃ n, C.length = n := ⟨_, rfl⟩
  obtain ⟨nx, hnx⟩ : ∃ n, X.length = n := ⟨_, rfl⟩
  rw [hna] at la
  rw [hnc, hna] at lc
  rw [hnx, hna] at lx
  have C1 := Lib.hid (fun W (h : Below w.heap.size w W) => gives_of hna (by have := list_any A0 n0 c0 l0 e0 b0 W (y0.below h); rw [ha] at this; exact this))
  have C2 := Lib.hid (fun (A : Option Addr) (c : Nat) W (h : Aces W A a) => gives_of hnc (by have := child_any A na c a hna (by omega) oka dir W h; rw [hrc, hC] at this; exact this))
  have C3 := Lib.hid (fun (A : Option Addr) (c : Nat) W (h : Aces W A C) => by have := valid_any A nc c C hnc (by omega) okC W h; rw [hV] at this; exact this)
  have C4 := Lib.hid (fun (A : Option Addr) (c : Nat) W (h : Aces W A a) => gives_of hnx (by have := child_any A na c a hna (by omega) oka true W h; rw [show rcOf true = 2 from rfl, hX] at this; exact this))
  have C5 := Lib.hid (fun (A : Option Addr) (c : Nat) W (h : Aces W A X) => gives_of hnc (by have := child_any A nx c X hnx (by omega) okX dir W h; rw [hrc, hCX] at this; exact this))
  have RC := Lib.hid (fun (A A' : Option Addr) (c c' : Nat) W (h : Aces W A C) (h' : Aces W A' C) => rs_true A A' c c' nc C hnc (by omega) W h h')
  have HNA := Lib.hid hna
  have HNC := Lib.hid hnc
  have GC := Lib.hid gC
  have T0 := Lib.hid S0
  have T1 := Lib.hid S1
  have RR := Lib.hid rr
  have nlt : decide (na < nc) = false := by simp; omega
  clear ha hC hX hV okC okX oka ra hCX hna hnc hnx hrc3 e0 y0 gC S0 S1 rr
  cases dir
  all_goals
    first | obtain rfl : 1 = rc := hrc | obtain rfl : 2 = rc := hrc
    have gT := guardTwo
    go_enter Try.func5, Try.ntmps5
    go_wp2_with (first | (go_at_call 10; refine (sanity_any _).mono ?_; rintro e w1 ⟨rfl, hb1⟩) | (go_at_call 12; (with_reducible refine (C1.out _ hb1).mono ?_); rintro e w2 ⟨Aa, ca, rfl, ua, _, hb2⟩; have ua := Lib.hid ua; have hb2' := hb1.trans (hb2.mono hb1.size)) | (go_at_call 21; (with_reducible refine (C2.out _ _ _ ua.out).mono ?_); rintro e w3 ⟨Ac', cc, rfl, uc, _, hb3⟩; have uc := Lib.hid uc; have ua := Lib.hid (ua.out.below hb3); have hb3' := hb2'.trans (hb3.mono hb2'.size)) | (go_at_call 13; (with_reducible refine (C3.out _ _ _ uc.out).mono ?_); rintro e w4 ⟨rfl, hb4⟩; have uc := Lib.hid (uc.out.below hb4); have ua := Lib.hid (ua.out.below hb4); have hb4' := hb3'.trans (hb4.mono hb3'.size)))
    have UA := Lib.hid ua.out
    have UC := Lib.hid uc.out
    have HB4 := Lib.hid hb4'
    clear ua uc hb4' hb3' hb2' hb1 hb2 hb3 hb4 C1 C2 C3
    go_loopw [11] (fun i wr => ∃ k : Nat, k ≤ nc ∧ i = .int .i64 k ∧ Pair2 wr w4.heap.size (orF (vW (-1) true) (C.take k)).toInt (orF (vW 1 false) (C.take k)).toInt ∧ Pair2 wr (w4.heap.size + 1) 0 0 ∧ Below w4.heap.size w4 wr) (fun i _ => nc - (intOf i).toNat)
    case atStart =>
      refine ⟨0, Nat.zero_le _, rfl, ?_, (pair2_new w4).2, by go_grown⟩
      rw [orF_start, orF_start]
      exact (pair2_new w4).1
    case round =>
      obtain ⟨k, hk, rfl, t1, t2, hbw⟩ := hrel
      obtain ⟨x0, hx0⟩ : ∃ x, orF (vW (-1) true) (C.take k) = x := ⟨_, rfl⟩
      obtain ⟨x1, hx1⟩ : ∃ x, orF (vW 1 false) (C.take k) = x := ⟨_, rfl⟩
      rw [hx0, hx1] at t1
      have U1 := Lib.hid t1
      have U2 := Lib.hid t2
      obtain ⟨p0, p1, q0, q1⟩ := pair2_cells t1
      have HBW := Lib.hid hbw
      have hbs := hbw.size
      by_cases hlt : k < nc
      · have hkl : k < C.length := by rw [HNC.out]; exact hlt
        obtain ⟨g, o, rfl, hg, hc⟩ := (UC.out) (List.ne_nil_of_length_pos (by omega))
        obtain ⟨c0, c1, c2, c3, c4⟩ := (hc k C[k] (List.getElem?_eq_getElem hkl)).below hbw
        have s0 : orF (vW (-1) true) (C.take (k + 1)) = x0 ||| vW (-1) true C[k] := by rw [List.take_succ_eq_append_getElem hkl, orF_snoc, hx0]
        have s1 : orF (vW 1 false) (C.take (k + 1)) = x1 ||| vW 1 false C[k] := by rw [List.take_succ_eq_append_getElem hkl, orF_snoc, hx1]
        obtain ⟨g1, g2⟩ := GC.out C[k] (List.getElem_mem hkl)
        obtain ⟨x, hx⟩ : ∃ a, C[k] = a := ⟨_, rfl⟩
        rw [hx] at c0 c1 c2 c3 c4 s0 s1 g1 g2
        obtain ⟨aw, al, ri, re, ag⟩ := x
        dsimp only at c0 c1 c2 c3 c4 g1 g2
        subst g1 g2
        rw [vW_if] at s0 s1
        have k0 : (0 : Int) ≤ (k : Int) := by omega
        have kn : (k : Int) < (nc : Int) := by omega
        have hne : g ≠ w4.heap.size := by omega
        have hen : w4.heap.size ≠ g := by omega
        have ways : ((aw == -1) = true ∧ (aw == 1) = false ∧ al = true) ∨ ((aw == -1) = true ∧ (aw == 1) = false ∧ al = false) ∨ ((aw == -1) = false ∧ (aw == 1) = true ∧ al = true) ∨ ((aw == -1) = false ∧ (aw == 1) = true ∧ al = false) ∨ ((aw == -1) = false ∧ (aw == 1) = false) := by
          have : ¬ (aw = -1 ∧ aw = 1) := by omega
          cases h1 : (aw == -1) <;> cases h2 : (aw == 1) <;> cases al <;> simp_all
        clear hc hx hx0 hx1 t1 t2 hbw hg
        rcases ways with ⟨e1, e2, rfl⟩ | ⟨e1, e2, rfl⟩ | ⟨e1, e2, rfl⟩ | ⟨e1, e2, rfl⟩ | ⟨e1, e2⟩
        · rw [if_pos (by simpa using e1)] at s0
          rw [if_neg (by simp), or0] at s1
          have V0 := Lib.hid s0
          have V1 := Lib.hid s1
          clear s0 s1
          go_wp2
          go_region
          go_wp2
          go_roundw
          case rel => exact ⟨k + 1, by omega, by go_num, by rw [V1.out]; exact pair2_set0 U1.out V0.out, (heap_setCell_other _ _ _ _ (by simp)).trans U2.out, (HBW.out.setCell (Nat.le_refl _) _).drew⟩
          case measure => simp [intOf]; omega
        iterate 2
          · rw [if_neg (by simp_all), or0] at s0
            rw [if_neg (by simp_all), or0] at s1
            have V0 := Lib.hid s0
            have V1 := Lib.hid s1
            clear s0 s1
            go_wp2
            go_roundw
            case rel => exact ⟨k + 1, by omega, by go_num, by rw [V0.out, V1.out]; exact U1.out, U2.out, HBW.out⟩
            case measure => simp [intOf]; omega
        · rw [if_neg (by simp), or0] at s0
          rw [if_pos (by simpa using e2)] at s1
          have V0 := Lib.hid s0
          have V1 := Lib.hid s1
          clear s0 s1
          go_wp2
          go_region
          go_wp2
          go_roundw
          case rel => exact ⟨k + 1, by omega, by go_num, by rw [V0.out]; exact pair2_set1 U1.out V1.out, (heap_setCell_other _ _ _ _ (by simp)).trans U2.out, (HBW.out.setCell (Nat.le_refl _) _).drew⟩
          case measure => simp [intOf]; omega
        · rw [if_neg (by simp_all), or0] at s0
          rw [if_neg (by simp_all), or0] at s1
          have V0 := Lib.hid s0
          have V1 := Lib.hid s1
          clear s0 s1
          go_wp2
          go_roundw
          case rel => exact ⟨k + 1, by omega, by go_num, by rw [V0.out, V1.out]; exact U1.out, U2.out, HBW.out⟩
          case measure => simp [intOf]; omega
      · obtain rfl : k = nc := by omega
        have hfull : C.take k = C := List.take_of_length_le (by rw [HNC.out]; exact Nat.le_refl _)
        have hx0' : orF (vX (-1) true) a = x0 := by rw [T0.out, ← hx0, hfull]
        have hx1' : orF (vX 1 false) a = x1 := by rw [T1.out, ← hx1, hfull]
        have E0 := Lib.hid hx0'
        have E1 := Lib.hid hx1'
        clear hx0 hx1 hx0' hx1' hfull t1 t2 hbw p0 p1 q0 q1
        go_wp2
        go_loopw [12] (fun i wz => ∃ j : Nat, j ≤ na ∧ i = .int .i64 j ∧ Pair2 wz w4.heap.size x0.toInt x1.toInt ∧ Pair2 wz (w4.heap.size + 1) (orF (vX (-1) true) (a.take j)).toInt (orF (vX 1 false) (a.take j)).toInt ∧ Below w4.heap.size w4 wz) (fun i _ => na - (intOf i).toNat)
        case atStart => exact ⟨0, Nat.zero_le _, rfl, U1.out, U2.out, HBW.out⟩
        case round =>
          obtain ⟨j, hj, rfl, t1, t2, hbz⟩ := hrel
          obtain ⟨z0, hz0⟩ : ∃ x, orF (vX (-1) true) (a.take j) = x := ⟨_, rfl⟩
          obtain ⟨z1, hz1⟩ : ∃ x, orF (vX 1 false) (a.take j) = x := ⟨_, rfl⟩
          rw [hz0, hz1] at t2
          have Z1 := Lib.hid t1
          have Z2 := Lib.hid t2
          have HBZ := Lib.hid hbz
          have hbs := hbz.size
          by_cases hlt : j < na
          · obtain ⟨p0, p1, q0, q1⟩ := pair2_cells t2
            have hkl : j < a.length := by rw [HNA.out]; exact hlt
            obtain ⟨g, o, rfl, hg, hc⟩ := (UA.out) (List.ne_nil_of_length_pos (by omega))
            obtain ⟨c0, c1, c2, c3, c4⟩ := (hc j a[j] (List.getElem?_eq_getElem hkl)).below hbz
            have s0 : orF (vX (-1) true) (a.take (j + 1)) = z0 ||| vX (-1) true a[j] := by rw [List.take_succ_eq_append_getElem hkl, orF_snoc, hz0]
            have s1 : orF (vX 1 false) (a.take (j + 1)) = z1 ||| vX 1 false a[j] := by rw [List.take_succ_eq_append_getElem hkl, orF_snoc, hz1]
            obtain ⟨x, hx⟩ : ∃ y, a[j] = y := ⟨_, rfl⟩
            rw [hx] at c0 c1 c2 c3 c4 s0 s1
            obtain ⟨aw, al, ri, re, ag⟩ := x
            dsimp only at c0 c1 c2 c3 c4
            rw [vX_if] at s0 s1
            have k0 : (0 : Int) ≤ (j : Int) := by omega
            have kn : (j : Int) < (na : Int) := by omega
            have hne : g ≠ w4.heap.size + 1 := by omega
            have hen : w4.heap.size + 1 ≠ g := by omega
            have ways : ((re == 1) = true) ∨ ((re == 1) = false ∧ (aw == -1) = true ∧ (aw == 1) = false ∧ al = true) ∨ ((re == 1) = false ∧ (aw == -1) = true ∧ (aw == 1) = false ∧ al = false) ∨ ((re == 1) = false ∧ (aw == -1) = false ∧ (aw == 1) = true ∧ al = true) ∨ ((re == 1) = false ∧ (aw == -1) = false ∧ (aw == 1) = true ∧ al = false) ∨ ((re == 1) = false ∧ (aw == -1) = false ∧ (aw == 1) = false) := by
              have : ¬ (aw = -1 ∧ aw = 1) := by omega
              cases h0 : (re == 1) <;> cases h1 : (aw == -1) <;> cases h2 : (aw == 1) <;> cases al <;> simp_all
            clear hc hx hz0 hz1 t1 t2 hbz hg
            rcases ways with e0 | ⟨e0, e1, e2, rfl⟩ | ⟨e0, e1, e2, rfl⟩ | ⟨e0, e1, e2, rfl⟩ | ⟨e0, e1, e2, rfl⟩ | ⟨e0, e1, e2⟩
            · rw [if_neg (by simpa using e0), or0] at s0 s1
              have e9 : (re != 1) = false := by rw [bne, e0]; rfl
              have V0 := Lib.hid s0
              have V1 := Lib.hid s1
              clear s0 s1
              go_wp2
              go_roundw
              case rel => exact ⟨j + 1, by omega, by go_num, Z1.out, by rw [V0.out, V1.out]; exact Z2.out, HBZ.out⟩
              case measure => simp [intOf]; omega
            · rw [if_pos (by simpa using e0), if_pos (by simp_all)] at s0
              rw [if_pos (by simpa using e0), if_neg (by simp_all), or0] at s1
              have e9 : (re != 1) = true := by rw [bne, e0]; rfl
              have V0 := Lib.hid s0
              have V1 := Lib.hid s1
              clear s0 s1
              go_wp2
              go_region
              go_wp2
              go_roundw
              case rel => exact ⟨j + 1, by omega, by go_num, (heap_setCell_other _ _ _ _ (by simp)).trans Z1.out, by rw [V1.out]; exact pair2_set0 Z2.out V0.out, (HBZ.out.setCell (Nat.le_succ _) _).drew⟩
              case measure => simp [intOf]; omega
            iterate 2
              · rw [if_pos (by simpa using e0), if_neg (by simp_all), or0] at s0
                rw [if_pos (by simpa using e0), if_neg (by simp_all), or0] at s1
                have e9 : (re != 1) = true := by rw [bne, e0]; rfl
                have V0 := Lib.hid s0
                have V1 := Lib.hid s1
                clear s0 s1
                go_wp2
                go_roundw
                case rel => exact ⟨j + 1, by omega, by go_num, Z1.out, by rw [V0.out, V1.out]; exact Z2.out, HBZ.out⟩
                case measure => simp [intOf]; omega
            · rw [if_pos (by simpa using e0), if_neg (by simp_all), or0] at s0
              rw [if_pos (by simpa using e0), if_pos (by simp_all)] at s1
              have e9 : (re != 1) = true := by rw [bne, e0]; rfl
              have V0 := Lib.hid s0
              have V1 := Lib.hid s1
              clear s0 s1
              go_wp2
              go_region
              go_wp2
              go_roundw
              case rel => exact ⟨j + 1, by omega, by go_num, (heap_setCell_other _ _ _ _ (by simp)).trans Z1.out, by rw [V0.out]; exact pair2_set1 Z2.out V1.out, (HBZ.out.setCell (Nat.le_succ _) _).drew⟩
              case measure => simp [intOf]; omega
            · rw [if_pos (by simpa using e0), if_neg (by simp_all), or0] at s0
              rw [if_pos (by simpa using e0), if_neg (by simp_all), or0] at s1
              have e9 : (re != 1) = true := by rw [bne, e0]; rfl
              have V0 := Lib.hid s0
              have V1 := Lib.hid s1
              clear s0 s1
              go_wp2
              go_roundw
              case rel => exact ⟨j + 1, by omega, by go_num, Z1.out, by rw [V0.out, V1.out]; exact Z2.out, HBZ.out⟩
              case measure => simp [intOf]; omega
          · obtain rfl : j = na := by omega
            have hfull : a.take j = a := List.take_of_length_le (by rw [HNA.out]; exact Nat.le_refl _)
            have f0 : z0 = x0 := by rw [← hz0, hfull, E0.out]
            have f1 : z1 = x1 := by rw [← hz1, hfull, E1.out]
            subst f0 f1
            obtain ⟨p0, p1, q0, q1⟩ := pair2_cells t1
            obtain ⟨u0, u1, v0, v1⟩ := pair2_cells t2
            have ua := Lib.hid (UA.out.below hbz)
            have uc := Lib.hid (UC.out.below hbz)
            have hw := Lib.hid (HB4.out.trans (hbz.mono HB4.out.size))
            have eT := eqlTwo z0.toInt z1.toInt
            clear hz0 hz1 t1 t2 hbz hfull Z1 Z2 E0 E1
            go_wp2_with (first | (go_at_call 21; first | ((with_reducible refine (C4.out _ _ _ ua.out).mono ?_); rintro e w5 ⟨A5, c5, rfl, u5, _, hb5⟩; have u5 := Lib.hid u5; have uc := Lib.hid (uc.out.below hb5); have hw := Lib.hid (hw.out.trans (hb5.mono hw.out.size))) | ((with_reducible refine (C5.out _ _ _ u5.out).mono ?_); rintro e w6 ⟨A6, c6, rfl, u6, _, hb6⟩; have u6 := Lib.hid u6; have uc := Lib.hid (uc.out.below hb6); have hw := Lib.hid (hw.out.trans (hb6.mono hw.out.size)))) | (go_at_call 20; refine (RC.out _ _ _ _ _ u6.out uc.out).mono ?_; rintro e w7 ⟨rfl, hb7⟩; have hw := Lib.hid (hw.out.trans (hb7.mono hw.out.size))))
            go_ret
            exact ⟨rfl, hw.out⟩
end Go.Proofs.Ythdeceaejacpdaa
