/-
  DRAFT, NOT CLEAN: three places are open: the region of the three appends, and the way of one who is neither the number 0 nor the owner. The walk of the law AclRights.
-/
import Derived.Test.YtlgajeffjhoaaaaBd
namespace Go.Proofs.Ytlgajeffjhoaaaa
open Go.RowKit Ap
set_option maxHeartbeats 400000

set_option maxRecDepth 20000 in
set_option maxHeartbeats 4000000 in
theorem lawRights_any (A0 : Option Addr) (n0 c0 : Nat) (l0 : List Tri) (e0 : l0.length = n0) (b0 : n0 ≤ 9223372036854775807) (x y z p q : UInt8) (w : World) (y0 : Tris w A0 l0) :
    Calls Try.prog 4 #[.slice A0 n0 c0, .agg #[.int .u8 x.toNat, .int .u8 y.toNat, .int .u8 z.toNat], .agg #[.int .u8 p.toNat, .int .u8 q.toNat]] w fun e w' => e = .returned (.bool true) ∧ Below w.heap.size w w' := by
  obtain ⟨a, ha⟩ : ∃ a, listL l0 = a := ⟨_, rfl⟩
  have la : a.length ≤ 12 := by rw [← ha]; exact listL_len _
  have ra : ∀ x ∈ a, right x = true := by rw [← ha]; exact listL_right _
  obtain ⟨e, he⟩ : ∃ e, aceOf x y z = e := ⟨_, rfl⟩
  have re := right_iff.1 (by rw [← he]; exact aceOf_right x y z : right e = true)
  obtain ⟨na, hna⟩ : ∃ n, a.length = n := ⟨_, rfl⟩
  rw [hna] at la
  have C1 := Lib.hid (fun W (h : Below w.heap.size w W) => (list_any A0 n0 c0 l0 e0 b0 W (y0.below h)).mono (R' := fun e w' => ∃ A c, e = .returned (.slice A na c) ∧ w'.ownsRow W.heap.size 31 5 (.slice A na c) na (encs a) ∧ Below W.heap.size W w') fun _ _ ⟨A', m, c', he, hr, hb⟩ => by
    rw [ha] at hr
    obtain rfl : m = na := by rw [← own_len hr, hna]
    exact ⟨A', c', he, hr, hb⟩)
  have cA := fun W => ace_any x y z W
  rw [he] at cA
  have RA := Lib.hid ra
  have HNA := Lib.hid hna
  clear ha hna e0 y0 he ra
  obtain ⟨ew, el, er, ee, eg⟩ := e
  unfold av at cA
  dsimp only at cA re
  have CA := Lib.hid cA
  have RE := Lib.hid re
  clear cA re
  have B0 := Lib.hid (rin_new (x := x) (y := y) (z := z) (p := p) (q := q) (w := w))
  go_enter Try.func4, Try.ntmps4
  go_upto_region 2 with (go_at_call 10; refine (sanity_any _).mono ?_; rintro e w1 ⟨rfl, hb1⟩; have B1 := Lib.hid (B0.out.step hb1))
  obtain ⟨t0, t1, t2, t3, t4, bw⟩ := B1.out
  have D0 := Lib.hid (show w1.drew.cell? ⟨w.heap.size, 0, none⟩ = some (.int .u8 x.toNat) from t0)
  have D1 := Lib.hid (show w1.drew.cell? ⟨w.heap.size, 1, none⟩ = some (.int .u8 y.toNat) from t1)
  have D2 := Lib.hid (show w1.drew.cell? ⟨w.heap.size, 2, none⟩ = some (.int .u8 z.toNat) from t2)
  have hlt1 : w.heap.size < w1.heap.size := block_lt_of_cell t0
  have E0 := Lib.hid t0
  have E1 := Lib.hid t1
  have E2 := Lib.hid t2
  have BW := Lib.hid bw
  clear t3 t4 bw hb1
  go_cut [8, 9] (fun s8 s9 wx => ∃ (Aa : Option Addr) (ca g : Nat), s8 = .slice Aa na ca ∧ s9 = .pointer (some ⟨g, 0, none⟩) ∧ (Aa = none → na = 0 ∧ ca = 0) ∧ Rmade w.heap.size x y z p q Aa a g ⟨ew, el, er, ee, eg⟩ w wx)
  case first =>
    (go_region_held (fun W' => W'.cell? ⟨w.heap.size, 0, none⟩ = some (.int .u8 x.toNat) ∧ W'.cell? ⟨w.heap.size, 1, none⟩ = some (.int .u8 y.toNat) ∧ W'.cell? ⟨w.heap.size, 2, none⟩ = some (.int .u8 z.toNat)) (first | with_reducible exact ⟨D0.out, D1.out, D2.out⟩ | with_reducible exact ⟨t0, t1, t2⟩ | with_reducible exact ⟨alloc_keep t0, alloc_keep t1, alloc_keep t2⟩ | with_reducible exact ⟨alloc_keep E0.out, alloc_keep E1.out, alloc_keep E2.out⟩ | with_reducible exact ⟨alloc_keep D0.out, alloc_keep D1.out, alloc_keep D2.out⟩ | with_reducible exact ⟨alloc_drew_keep E0.out, alloc_drew_keep E1.out, alloc_drew_keep E2.out⟩ | with_reducible exact ⟨five_far hlt1 t0, five_far hlt1 t1, five_far hlt1 t2⟩ | with_reducible exact ⟨five_far hlt2 t0, five_far hlt2 t1, five_far hlt2 t2⟩ | fail) (first | (go_at_call 12; first | ((with_reducible refine (C1.out _ BW.out.drew).mono ?_); rintro e w2 ⟨Aa, ca, rfl, ur, hb2⟩; have ua := Aces.of_own ur; have B2 := Lib.hid (B1.out.drew.step hb2); obtain ⟨t0, t1, t2, _, _, _⟩ := B2.out; have hlt2 := block_lt_of_cell t0) | ((with_reducible refine (C1.out _ ((BW.out.alloc BW.out.size _).drew)).mono ?_); rintro e w2 ⟨Aa, ca, rfl, ur, hb2⟩; have ua := Aces.of_own ur; have B2 := Lib.hid (B1.out.step (below_new (undrew hb2))); obtain ⟨h0, h1, h2, h3, h4, f0, f1, f2, f3, f4, hlt⟩ := after5 (undrew hb2); obtain ⟨t0, t1, t2, _, _, _⟩ := B2.out)) | (go_at_call 29; refine (CA.out _).mono ?_; rintro e w3 ⟨rfl, hb3⟩; first | (have B3 := Lib.hid (B2.out.step hb3); obtain ⟨h0, h1, h2, h3, h4⟩ := keep5 h0 h1 h2 h3 h4 hb3; have f0 := (hb3.frozen (p := ⟨w1.heap.size, 0, none⟩) hlt).trans f0; have f1 := (hb3.frozen (p := ⟨w1.heap.size, 1, none⟩) hlt).trans f1; have f2 := (hb3.frozen (p := ⟨w1.heap.size, 2, none⟩) hlt).trans f2; have f3 := (hb3.frozen (p := ⟨w1.heap.size, 3, none⟩) hlt).trans f3; have f4 := (hb3.frozen (p := ⟨w1.heap.size, 4, none⟩) hlt).trans f4; obtain ⟨t0, t1, t2, _, _, _⟩ := B3.out) | (have B3 := Lib.hid (B2.out.step hb3); have UA3 := Lib.hid (ua.below hb3); obtain ⟨t0, t1, t2, _, _, _⟩ := B3.out) | (have B3 := Lib.hid (B2.out.step (below_new hb3)); have UA3 := Lib.hid (ua.below (below_new hb3)); obtain ⟨h0, h1, h2, h3, h4, f0, f1, f2, f3, f4, hlt⟩ := after5 hb3; obtain ⟨t0, t1, t2, _, _, _⟩ := B3.out))))
    all_goals (go_wp2_with fail; go_meet)
    · exact ⟨Aa, ca, w3.heap.size, rfl, rfl, own_none ur, B3.out.step ((Below.refl _ _).alloc (Nat.le_refl _) _), UA3.out.below ((Below.refl _ _).alloc (Nat.le_refl _) _), alloc_box⟩
    · have H := five_below (u0 := .int .i64 ew) (u1 := .bool el) (u2 := .int .i64 er) (u3 := .int .i64 ee) (u4 := .bool eg) (below_new hb3) (Nat.le_refl _)
      exact ⟨Aa, ca, w2.heap.size, rfl, rfl, own_none ur, B2.out.step H, ua.below H, five_near (e := ⟨ew, el, er, ee, eg⟩) h0 h1 h2 h3 h4⟩
    · have H := five_below (u0 := .int .i64 ew) (u1 := .bool el) (u2 := .int .i64 er) (u3 := .int .i64 ee) (u4 := .bool eg) ((below_new (undrew hb2)).trans (hb3.mono (Nat.le_of_lt hlt))) (Nat.le_refl _)
      have hp : w1.heap.size < (w1.alloc (.cells #[.int .i64 0, .bool false, .int .i64 0, .int .i64 0, .bool false] 31)).drew.heap.size := by simp
      exact ⟨Aa, ca, w1.heap.size, rfl, rfl, own_none ur, B1.out.step H, Aces.of_own (own_set (own_set (own_set (own_set (own_set (own_keep ur hb3) (p := ⟨w1.heap.size, 0, none⟩) hp _) (p := ⟨w1.heap.size, 1, none⟩) hp _) (p := ⟨w1.heap.size, 2, none⟩) hp _) (p := ⟨w1.heap.size, 3, none⟩) hp _) (p := ⟨w1.heap.size, 4, none⟩) hp _), five_near (e := ⟨ew, el, er, ee, eg⟩) h0 h1 h2 h3 h4⟩
  case rest =>
    obtain ⟨Aa, ca, g, rfl, rfl, hna0, hR, hAa, hM⟩ := hcut
    have NA0 := Lib.hid hna0
    clear t0 t1 t2 D0 D1 D2 E0 E1 E2 C1 CA B0 B1 BW hlt1
    obtain ⟨_, _, _, t3, t4, bw⟩ := hR
    have HA := Lib.hid hAa
    have HM := Lib.hid hM
    have BX := Lib.hid bw
    obtain ⟨who, hwho⟩ : ∃ k, (p.toNat : Int) % 5 = k := ⟨_, rfl⟩
    obtain ⟨owner, hown⟩ : ∃ k, (q.toNat : Int) % 5 = k := ⟨_, rfl⟩
    have p01 := u8_cast p
    have q01 := u8_cast q
    have w05 : 0 ≤ who ∧ who ≤ 4 := by omega
    have o05 : 0 ≤ owner ∧ owner ≤ 4 := by omega
    clear hAa hM bw hna0
    go_upto_region 3 with fail
    go_region
    go_upto_region 4 with fail
    obtain ⟨nb, hnb⟩ : ∃ n, na + 1 = n := ⟨_, rfl⟩
    have lb : nb ≤ 13 := by omega
    go_cut [12, 13] (fun s12 s13 wx => ∃ (A2 : Option Addr) (c2 : Nat) (A3 : Option Addr) (c3 : Nat), s12 = .slice A2 nb c2 ∧ s13 = .slice A3 nb c3 ∧ Rall Aa A2 A3 a g ⟨ew, el, er, ee, eg⟩ w wx)
    case first =>
      have R := Lib.hid (rs_start (W := wc.drew.drew) ((Below.refl _ wc).drew.drew) rfl)
      first | (go_region_held_law (fun W' => W'.cell? ⟨g, 0, none⟩ = some (.int .i64 ew) ∧ W'.cell? ⟨g, 1, none⟩ = some (.bool el) ∧ W'.cell? ⟨g, 2, none⟩ = some (.int .i64 er) ∧ W'.cell? ⟨g, 3, none⟩ = some (.int .i64 ee) ∧ W'.cell? ⟨g, 4, none⟩ = some (.bool eg)) (first | exact mk_keep HM.out R.out.below | exact mk_keep HM.out (rs_nil R.out).below | exact mk_keep HM.out (rs_one R.out).below | exact mk_keep HM.out (rs_one (rs_nil R.out)).below | exact mk_keep HM.out (rs_nil (rs_one R.out)).below | exact mk_keep HM.out (rs_one (rs_one R.out)).below | exact mk_keep HM.out (rs_one (rs_one (rs_nil R.out))).below | exact mk_keep HM.out (rs_one (rs_nil (rs_one R.out))).below | exact mk_keep HM.out (rs_nil (rs_one (rs_one R.out))).below | exact mk_keep HM.out (rs_one (rs_one (rs_one R.out))).below) (first | (refine step_append_rs (k := na) (rs_nil R.out) 0 (by rfl) _ _ (by rfl) (by rfl) (by rfl) (by rfl) (HA.out.below (rs_nil R.out).below) HNA.out NA0.out (by omega) (by omega) 32 (by rfl) ?_; intro A1 c1 w1 R1; have R := Lib.hid R1; clear R1) | (refine step_append_rs (k := na) (rs_one (rs_nil R.out)) 1 (by rfl) _ _ (by rfl) (by rfl) (by rfl) (by rfl) (HA.out.below (rs_one (rs_nil R.out)).below) HNA.out NA0.out (by omega) (by omega) 32 (by rfl) ?_; intro A1 c1 w1 R1; have R := Lib.hid R1; clear R1) | (refine step_append_rs (k := na) (rs_nil (rs_one R.out)) 0 (by rfl) _ _ (by rfl) (by rfl) (by rfl) (by rfl) (HA.out.below (rs_nil (rs_one R.out)).below) HNA.out NA0.out (by omega) (by omega) 32 (by rfl) ?_; intro A1 c1 w1 R1; have R := Lib.hid R1; clear R1) | (refine step_append_rs (k := na) (rs_one (rs_one (rs_nil R.out))) 2 (by rfl) _ _ (by rfl) (by rfl) (by rfl) (by rfl) (HA.out.below (rs_one (rs_one (rs_nil R.out))).below) HNA.out NA0.out (by omega) (by omega) 32 (by rfl) ?_; intro A1 c1 w1 R1; have R := Lib.hid R1; clear R1) | (refine step_append_rs (k := na) (rs_one (rs_nil (rs_one R.out))) 1 (by rfl) _ _ (by rfl) (by rfl) (by rfl) (by rfl) (HA.out.below (rs_one (rs_nil (rs_one R.out))).below) HNA.out NA0.out (by omega) (by omega) 32 (by rfl) ?_; intro A1 c1 w1 R1; have R := Lib.hid R1; clear R1) | (refine step_append_rs (k := na) (rs_nil (rs_one (rs_one R.out))) 0 (by rfl) _ _ (by rfl) (by rfl) (by rfl) (by rfl) (HA.out.below (rs_nil (rs_one (rs_one R.out))).below) HNA.out NA0.out (by omega) (by omega) 32 (by rfl) ?_; intro A1 c1 w1 R1; have R := Lib.hid R1; clear R1) | (refine step_append_rr (k := nb) R.out 0 1 (by rfl) _ _ (by rfl) (by rfl) (by rfl) (by rfl) (by rfl) (by omega) (by omega) 35 (by rfl) ?_; intro A2 c2 w2 R1; have R := Lib.hid R1; clear R1) | (refine step_append_rr (k := nb) R.out 0 2 (by rfl) _ _ (by rfl) (by rfl) (by rfl) (by rfl) (by rfl) (by omega) (by omega) 35 (by rfl) ?_; intro A2 c2 w2 R1; have R := Lib.hid R1; clear R1) | (refine step_append_rr (k := nb) R.out 1 0 (by rfl) _ _ (by rfl) (by rfl) (by rfl) (by rfl) (by rfl) (by omega) (by omega) 35 (by rfl) ?_; intro A2 c2 w2 R1; have R := Lib.hid R1; clear R1) | (refine step_append_rr (k := nb) R.out 1 2 (by rfl) _ _ (by rfl) (by rfl) (by rfl) (by rfl) (by rfl) (by omega) (by omega) 35 (by rfl) ?_; intro A2 c2 w2 R1; have R := Lib.hid R1; clear R1) | (refine step_append_rr (k := nb) R.out 2 0 (by rfl) _ _ (by rfl) (by rfl) (by rfl) (by rfl) (by rfl) (by omega) (by omega) 35 (by rfl) ?_; intro A2 c2 w2 R1; have R := Lib.hid R1; clear R1) | (refine step_append_rr (k := nb) R.out 2 1 (by rfl) _ _ (by rfl) (by rfl) (by rfl) (by rfl) (by rfl) (by omega) (by omega) 35 (by rfl) ?_; intro A2 c2 w2 R1; have R := Lib.hid R1; clear R1) | (refine step_append_rr (k := nb) (rs_one R.out) 0 1 (by rfl) _ _ (by rfl) (by rfl) (by rfl) (by rfl) (by rfl) (by omega) (by omega) 35 (by rfl) ?_; intro A2 c2 w2 R1; have R := Lib.hid R1; clear R1) | (refine step_append_rr (k := nb) (rs_one R.out) 0 2 (by rfl) _ _ (by rfl) (by rfl) (by rfl) (by rfl) (by rfl) (by omega) (by omega) 35 (by rfl) ?_; intro A2 c2 w2 R1; have R := Lib.hid R1; clear R1) | (refine step_append_rr (k := nb) (rs_one R.out) 1 0 (by rfl) _ _ (by rfl) (by rfl) (by rfl) (by rfl) (by rfl) (by omega) (by omega) 35 (by rfl) ?_; intro A2 c2 w2 R1; have R := Lib.hid R1; clear R1) | (refine step_append_rr (k := nb) (rs_one R.out) 1 2 (by rfl) _ _ (by rfl) (by rfl) (by rfl) (by rfl) (by rfl) (by omega) (by omega) 35 (by rfl) ?_; intro A2 c2 w2 R1; have R := Lib.hid R1; clear R1) | (refine step_append_rr (k := nb) (rs_one R.out) 2 0 (by rfl) _ _ (by rfl) (by rfl) (by rfl) (by rfl) (by rfl) (by omega) (by omega) 35 (by rfl) ?_; intro A2 c2 w2 R1; have R := Lib.hid R1; clear R1) | (refine step_append_rr (k := nb) (rs_one R.out) 2 1 (by rfl) _ _ (by rfl) (by rfl) (by rfl) (by rfl) (by rfl) (by omega) (by omega) 35 (by rfl) ?_; intro A2 c2 w2 R1; have R := Lib.hid R1; clear R1) | (refine step_append_rr (k := nb) (rs_one (rs_one R.out)) 0 1 (by rfl) _ _ (by rfl) (by rfl) (by rfl) (by rfl) (by rfl) (by omega) (by omega) 35 (by rfl) ?_; intro A2 c2 w2 R1; have R := Lib.hid R1; clear R1) | (refine step_append_rr (k := nb) (rs_one (rs_one R.out)) 0 2 (by rfl) _ _ (by rfl) (by rfl) (by rfl) (by rfl) (by rfl) (by omega) (by omega) 35 (by rfl) ?_; intro A2 c2 w2 R1; have R := Lib.hid R1; clear R1) | (refine step_append_rr (k := nb) (rs_one (rs_one R.out)) 1 0 (by rfl) _ _ (by rfl) (by rfl) (by rfl) (by rfl) (by rfl) (by omega) (by omega) 35 (by rfl) ?_; intro A2 c2 w2 R1; have R := Lib.hid R1; clear R1) | (refine step_append_rr (k := nb) (rs_one (rs_one R.out)) 1 2 (by rfl) _ _ (by rfl) (by rfl) (by rfl) (by rfl) (by rfl) (by omega) (by omega) 35 (by rfl) ?_; intro A2 c2 w2 R1; have R := Lib.hid R1; clear R1) | (refine step_append_rr (k := nb) (rs_one (rs_one R.out)) 2 0 (by rfl) _ _ (by rfl) (by rfl) (by rfl) (by rfl) (by rfl) (by omega) (by omega) 35 (by rfl) ?_; intro A2 c2 w2 R1; have R := Lib.hid R1; clear R1) | (refine step_append_rr (k := nb) (rs_one (rs_one R.out)) 2 1 (by rfl) _ _ (by rfl) (by rfl) (by rfl) (by rfl) (by rfl) (by omega) (by omega) 35 (by rfl) ?_; intro A2 c2 w2 R1; have R := Lib.hid R1; clear R1) | (refine step_append_rs (k := nb) R.out 0 (by rfl) _ _ (by rfl) (by rfl) (by rfl) (by rfl) (HA.out.below R.out.below) HNA.out NA0.out (by omega) (by omega) 39 (by rfl) ?_; intro A3 c3 w3 R1; have R := Lib.hid R1; clear R1) | (refine step_append_rs (k := nb) R.out 1 (by rfl) _ _ (by rfl) (by rfl) (by rfl) (by rfl) (HA.out.below R.out.below) HNA.out NA0.out (by omega) (by omega) 39 (by rfl) ?_; intro A3 c3 w3 R1; have R := Lib.hid R1; clear R1) | (refine step_append_rs (k := nb) R.out 2 (by rfl) _ _ (by rfl) (by rfl) (by rfl) (by rfl) (HA.out.below R.out.below) HNA.out NA0.out (by omega) (by omega) 39 (by rfl) ?_; intro A3 c3 w3 R1; have R := Lib.hid R1; clear R1) | (refine step_append_rs (k := nb) (rs_one R.out) 0 (by rfl) _ _ (by rfl) (by rfl) (by rfl) (by rfl) (HA.out.below (rs_one R.out).below) HNA.out NA0.out (by omega) (by omega) 39 (by rfl) ?_; intro A3 c3 w3 R1; have R := Lib.hid R1; clear R1) | (refine step_append_rs (k := nb) (rs_one R.out) 1 (by rfl) _ _ (by rfl) (by rfl) (by rfl) (by rfl) (HA.out.below (rs_one R.out).below) HNA.out NA0.out (by omega) (by omega) 39 (by rfl) ?_; intro A3 c3 w3 R1; have R := Lib.hid R1; clear R1) | (refine step_append_rs (k := nb) (rs_one R.out) 2 (by rfl) _ _ (by rfl) (by rfl) (by rfl) (by rfl) (HA.out.below (rs_one R.out).below) HNA.out NA0.out (by omega) (by omega) 39 (by rfl) ?_; intro A3 c3 w3 R1; have R := Lib.hid R1; clear R1))) | fail
      all_goals (go_wp2_with fail; go_meet)
      all_goals (first | exact ⟨A2, c2, A3, c3, rfl, rfl, HA.out.below R.out.below, rs_aces R.out 0 rfl, rs_aces R.out 1 rfl, HM.out.step R.out.below, BX.out.trans (R.out.below.mono BX.out.size)⟩ | exact ⟨A2, c2, A3, c3, rfl, rfl, HA.out.below R.out.below, rs_aces R.out 0 rfl, rs_aces R.out 2 rfl, HM.out.step R.out.below, BX.out.trans (R.out.below.mono BX.out.size)⟩ | exact ⟨A2, c2, A3, c3, rfl, rfl, HA.out.below R.out.below, rs_aces R.out 1 rfl, rs_aces R.out 0 rfl, HM.out.step R.out.below, BX.out.trans (R.out.below.mono BX.out.size)⟩ | exact ⟨A2, c2, A3, c3, rfl, rfl, HA.out.below R.out.below, rs_aces R.out 1 rfl, rs_aces R.out 2 rfl, HM.out.step R.out.below, BX.out.trans (R.out.below.mono BX.out.size)⟩ | exact ⟨A2, c2, A3, c3, rfl, rfl, HA.out.below R.out.below, rs_aces R.out 2 rfl, rs_aces R.out 0 rfl, HM.out.step R.out.below, BX.out.trans (R.out.below.mono BX.out.size)⟩ | exact ⟨A2, c2, A3, c3, rfl, rfl, HA.out.below R.out.below, rs_aces R.out 2 rfl, rs_aces R.out 1 rfl, HM.out.step R.out.below, BX.out.trans (R.out.below.mono BX.out.size)⟩)
    case rest =>
      obtain ⟨A2, c2, A3, c3, rfl, rfl, hall⟩ := hcut
      have T := Lib.hid hall
      clear hall t3 t4 HA HM BX p01 q01 hwho hown
      have h2 : (a ++ [(⟨ew, el, er, ee, eg⟩ : Ac)]).length = nb := by simp [HNA.out, hnb]
      have h3 : ((⟨ew, el, er, ee, eg⟩ : Ac) :: a).length = nb := by simp [HNA.out, hnb]
      obtain ⟨N, hN⟩ : ∃ v, rightsV a who owner = v := ⟨_, rfl⟩
      obtain ⟨L, hL⟩ : ∃ v, rightsV (a ++ [(⟨ew, el, er, ee, eg⟩ : Ac)]) who owner = v := ⟨_, rfl⟩
      obtain ⟨F, hF⟩ : ∃ v, rightsV ((⟨ew, el, er, ee, eg⟩ : Ac) :: a) who owner = v := ⟨_, rfl⟩
      obtain ⟨O, hO⟩ : ∃ v, rightsV a owner owner = v := ⟨_, rfl⟩
      have n15 := small_toInt (by rw [← hN]; exact rightsV_small a who owner : N &&& 15 = N)
      have o8 := and_eight (by rw [← hO]; exact rightsV_rule a owner owner (.inr rfl) : O &&& 8 = 8)
      have RN := Lib.hid (fun W (h : Aces W Aa a) => by have := rights_any Aa na ca a HNA.out (by omega) who owner W h; rw [hN] at this; exact this)
      have RL := Lib.hid (fun W (h : Aces W A2 (a ++ [(⟨ew, el, er, ee, eg⟩ : Ac)])) => by have := rights_any A2 nb c2 _ h2 (by omega) who owner W h; rw [hL] at this; exact this)
      have RF := Lib.hid (fun W (h : Aces W A3 ((⟨ew, el, er, ee, eg⟩ : Ac) :: a)) => by have := rights_any A3 nb c3 _ h3 (by omega) who owner W h; rw [hF] at this; exact this)
      have R0 := Lib.hid (fun W (h : Aces W Aa a) => by have := rights_any Aa na ca a HNA.out (by omega) 0 owner W h; rw [rightsV_zero, show (15 : BitVec 64).toInt = 15 from rfl] at this; exact this)
      have RO := Lib.hid (fun W (h : Aces W Aa a) => by have := rights_any Aa na ca a HNA.out (by omega) owner owner W h; rw [hO] at this; exact this)
      have l0 : decide (N.toInt < 0) = false := by simp; omega
      have l15 : decide (15 < N.toInt) = false := by simp; omega
      go_upto_if 71 with (go_at_call 15; first | ((with_reducible refine (RN.out _ T.out.1).mono ?_); rintro e w5 ⟨rfl, hb5⟩; have T := Lib.hid (rall_step T.out hb5)) | ((with_reducible refine (RL.out _ T.out.2.1).mono ?_); rintro e w6 ⟨rfl, hb6⟩; have T := Lib.hid (rall_step T.out hb6)) | ((with_reducible refine (RF.out _ T.out.2.2.1).mono ?_); rintro e w7 ⟨rfl, hb7⟩; have T := Lib.hid (rall_step T.out hb7)) | ((with_reducible refine (R0.out _ T.out.1).mono ?_); rintro e w8 ⟨rfl, hb8⟩; have T := Lib.hid (rall_step T.out hb8)) | ((with_reducible refine (RO.out _ T.out.1).mono ?_); rintro e w9 ⟨rfl, hb9⟩; have T := Lib.hid (rall_step T.out hb9)))
      obtain ⟨m0, m1, m2, m3, m4⟩ := T.out.2.2.2.1
      dsimp only at m0 m1 m2 m3 m4
      have BB := Lib.hid T.out.2.2.2.2
      clear RN RL RF R0 RO
      by_cases hwz : who = 0
      · have hN15 : N = 15 := by rw [← hN, hwz, rightsV_zero]
        have n8 : bits .and .i64 N.toInt 8 = 8 := by rw [hN15]; rfl
        have wz : (who == 0) = true := by simp [hwz]
        clear hN hL hF hO hN15 hwz h2 h3 hnb RE RA HNA
        go_wp2_with fail
        go_ret
        exact ⟨rfl, BB.out⟩
      · have wz : (who == 0) = false := by simp [hwz]
        by_cases hwo : who = owner
        · have hN8 : N &&& 8 = 8 := by rw [← hN]; exact rightsV_rule a who owner (.inr hwo)
          have n8 := and_eight hN8
          have wo : (who == owner) = true := by simp [hwo]
          clear hN hL hF hO hN8 hwz hwo h2 h3 hnb RE RA HNA
          go_wp2_with fail
          go_ret
          exact ⟨rfl, BB.out⟩
        · have wo : (who == owner) = false := by simp [hwo]
          have eN : (foldR a who owner).1 = N := by rw [← hN]; exact (rightsV_other a who owner hwz hwo).symm
          have eL : (foldR (a ++ [(⟨ew, el, er, ee, eg⟩ : Ac)]) who owner).1 = L := by rw [← hL]; exact (rightsV_other _ who owner hwz hwo).symm
          have eF : (foldR ((⟨ew, el, er, ee, eg⟩ : Ac) :: a) who owner).1 = F := by rw [← hF]; exact (rightsV_other _ who owner hwz hwo).symm
          obtain ⟨f1, f2, f3⟩ := foldR_last a ⟨ew, el, er, ee, eg⟩ who owner
          have g1 := foldR_first a ⟨ew, el, er, ee, eg⟩ who owner RE.out.2.1
          rw [eN, eL] at f1 f2 f3
          rw [eN, eF] at g1
          dsimp only at f2 g1
          have hz : bits .andNot .i64 N.toInt L.toInt = 0 := by rw [bits_andNot, bv_toInt, bv_toInt, f1]; rfl
          have hc := cnt_other (ew := ew) (el := el) (er := er) (ee := ee) (eg := eg) hwo RE.out.2.2
          clear f1 eN eL eF hN hL hF hO hwz hwo h2 h3 hnb RE RA HNA
          cases hcv : cnt ⟨ew, el, er, ee, eg⟩ who owner
          · rw [hcv] at hc g1
            obtain rfl := f3 hcv
            simp only [Bool.false_eq_true, if_false] at g1
            subst g1
            clear f2 f3 hcv
            by_cases h3 : ee = 3
            · subst h3
              clear hc
              cases el
              all_goals
                go_wp2_with fail
                go_ret
                exact ⟨rfl, BB.out⟩
            · have b1 : (ee == 3) = false := by simp [h3]
              rw [b1] at hc
              have hb : (ew != who) = true ∧ (ew != -1) = true := by revert hc; cases (ew != who) <;> cases (ew != -1) <;> simp
              obtain ⟨b2, b3⟩ := hb
              clear hc h3
              cases el
              all_goals
                go_wp2_with fail
                go_ret
                exact ⟨rfl, BB.out⟩
          · rw [hcv] at hc g1
            simp only [if_true] at g1
            have hb : (ee == 3) = false ∧ ((ew != who) && (ew != -1)) = false := by revert hc; cases (ee == 3) <;> cases ((ew != who) && (ew != -1)) <;> simp
            obtain ⟨b1, b23⟩ := hb
            clear f3 hcv hc
            cases el
            · simp only [Bool.false_eq_true, if_false] at g1
              obtain rfl := f2 rfl
              have hF : (F.toInt == bits .andNot .i64 L.toInt er) = true := by rw [g1, bits_andNot, bv_toInt]; simp
              clear f2 g1
              cases hw2 : (ew != who)
              · clear b23
                go_wp2_with fail
                go_ret
                exact ⟨rfl, BB.out⟩
              · have b3 : (ew != -1) = false := by revert b23; rw [hw2]; simp
                clear b23
                go_wp2_with fail
                go_ret
                exact ⟨rfl, BB.out⟩
            · simp only [if_true] at g1
              have hF : (F.toInt == bits .or .i64 N.toInt er) = true := by rw [g1, bits_or, bv_toInt]; simp
              clear f2 g1
              cases hw2 : (ew != who)
              · clear b23
                go_wp2_with fail
                go_ret
                exact ⟨rfl, BB.out⟩
              · have b3 : (ew != -1) = false := by revert b23; rw [hw2]; simp
                clear b23
                go_wp2_with fail
                go_ret
                exact ⟨rfl, BB.out⟩
end Go.Proofs.Ytlgajeffjhoaaaa
