/-
  The walk of the law AclPut.
-/
import Derived.Test.YtlgajeffjhoaaaaPk
import Derived.Test.YtlgajeffjhoaaaaRe
import Derived.Test.YtlgajeffjhoaaaaBe
namespace Go.Proofs.Ytlgajeffjhoaaaa
open Go.RowKit Ap
set_option maxHeartbeats 400000

/-- The block of the array of bytes. -/
def Rin1 (b : Nat) (x y z : UInt8) (w W : World) : Prop :=
  W.cell? ⟨b, 0, none⟩ = some (.int .u8 x.toNat) ∧ W.cell? ⟨b, 1, none⟩ = some (.int .u8 y.toNat) ∧ W.cell? ⟨b, 2, none⟩ = some (.int .u8 z.toNat) ∧ Below w.heap.size w W
theorem Rin1.step {b : Nat} {x y z : UInt8} {w W W' : World} (h : Rin1 b x y z w W) (hb : Below W.heap.size W W') : Rin1 b x y z w W' :=
  ⟨(hb.cell (block_lt_of_cell h.1)).trans h.1, (hb.cell (block_lt_of_cell h.2.1)).trans h.2.1, (hb.cell (block_lt_of_cell h.2.2.1)).trans h.2.2.1, h.2.2.2.trans (hb.mono h.2.2.2.size)⟩
theorem Rin1.drew {b : Nat} {x y z : UInt8} {w W : World} (h : Rin1 b x y z w W) : Rin1 b x y z w W.drew := ⟨h.1, h.2.1, h.2.2.1, h.2.2.2.drew⟩
theorem rin1_new {x y z : UInt8} {w : World} : Rin1 w.heap.size x y z w (w.alloc (.cells #[.int .u8 x.toNat, .int .u8 y.toNat, .int .u8 z.toNat] 45)) := by
  have h0 := Go.heap_alloc_new w (.cells #[.int .u8 x.toNat, .int .u8 y.toNat, .int .u8 z.toNat] 45)
  have d0 := fun i => cell_of_row _ w.heap.size i _ _ _ h0
  exact ⟨d0 0, d0 1, d0 2, by go_grown⟩
/-- The list's slice lies in another block than the entry. -/
def Far (A : Option Addr) (g : Nat) : Prop := ∀ h o sp, A = some ⟨h, o, sp⟩ → h ≠ g
theorem far_of {w : World} {base n c g : Nat} {A : Option Addr} {l : List Ac} (ur : w.ownsRow base 31 5 (.slice A n c) n (encs l)) (h : g < base ∨ w.heap.size ≤ g) : Far A g := by
  rintro h o sp rfl
  have := ur.lt h rfl
  omega
theorem Aces.set {W : World} {A : Option Addr} {l : List Ac} {g i : Nat} {v : Value} (h : Aces W A l) (hf : Far A g) : Aces (W.setCell ⟨g, i, none⟩ v) A l := fun hn => by
  obtain ⟨b, o, hA, hg, hc⟩ := h hn
  have hne := hf b o none hA
  refine ⟨b, o, hA, by simpa using hg, fun j a ha => ?_⟩
  obtain ⟨c0, c1, c2, c3, c4⟩ := hc j a ha
  have k : ∀ (t : Nat) (u : Value), W.cell? ⟨b, t, none⟩ = some u → (W.setCell ⟨g, i, none⟩ v).cell? ⟨b, t, none⟩ = some u := fun t u hu => by
    rw [World.cell?_setCell_other _ _ _ _ (fun e => hne (by injection e with e1; exact e1.symm))]; exact hu
  exact ⟨k _ _ c0, k _ _ c1, k _ _ c2, k _ _ c3, k _ _ c4⟩
theorem mk_given {W : World} {g : Nat} {e : Ac} (h : Mk g e W) : Mk g { e with given := false } (W.setCell ⟨g, 4, none⟩ (.bool false)) := by
  obtain ⟨h0, h1, h2, h3, h4⟩ := h
  have o : ∀ (t : Nat) (u : Value), t ≠ 4 → W.cell? ⟨g, t, none⟩ = some u → (W.setCell ⟨g, 4, none⟩ (.bool false)).cell? ⟨g, t, none⟩ = some u := fun t u ht hu => by
    rw [World.cell?_setCell_other _ _ _ _ (fun e => ht (by injection e with _ e2; exact e2.symm))]; exact hu
  exact ⟨o 0 _ (by decide) h0, o 1 _ (by decide) h1, o 2 _ (by decide) h2, o 3 _ (by decide) h3, World.cell?_setCell_same W ⟨g, 4, none⟩ _ h4⟩
theorem mk_rights {W : World} {g : Nat} {e : Ac} (h : Mk g e W) : Mk g { e with rights := 0 } (W.setCell ⟨g, 2, none⟩ (.int .i64 0)) := by
  obtain ⟨h0, h1, h2, h3, h4⟩ := h
  have o : ∀ (t : Nat) (u : Value), t ≠ 2 → W.cell? ⟨g, t, none⟩ = some u → (W.setCell ⟨g, 2, none⟩ (.int .i64 0)).cell? ⟨g, t, none⟩ = some u := fun t u ht hu => by
    rw [World.cell?_setCell_other _ _ _ _ (fun e => ht (by injection e with _ e2; exact e2.symm))]; exact hu
  exact ⟨o 0 _ (by decide) h0, o 1 _ (by decide) h1, World.cell?_setCell_same W ⟨g, 2, none⟩ _ h2, o 3 _ (by decide) h3, o 4 _ (by decide) h4⟩
/-- What stands after the entry and the list are made. -/
def Pmade (A : Option Addr) (a : List Ac) (g : Nat) (e : Ac) (w W : World) : Prop := Aces W A a ∧ Mk g e W ∧ Far A g ∧ (W.frozen? ⟨g, 2, none⟩ = false ∧ W.frozen? ⟨g, 4, none⟩ = false) ∧ w.heap.size ≤ g ∧ Below w.heap.size w W
/-- What stands from then on. -/
abbrev Pall (A : Option Addr) (a : List Ac) (g : Nat) (e : Ac) (w W : World) : Prop := Aces W A a ∧ Mk g e W ∧ Below w.heap.size w W
theorem five_frozen {W : World} {g i : Nat} {u0 u1 u2 u3 u4 : Value} (h : W.frozen? ⟨g, i, none⟩ = false) : (((((W.setCell ⟨g, 0, none⟩ u0).setCell ⟨g, 1, none⟩ u1).setCell ⟨g, 2, none⟩ u2).setCell ⟨g, 3, none⟩ u3).setCell ⟨g, 4, none⟩ u4).frozen? ⟨g, i, none⟩ = false := by
  simpa only [World.frozen?_setCell] using h

/-- What stands after the first Put. -/
abbrev Pst (A : Option Addr) (a : List Ac) (g : Nat) (e : Ac) (A2 : Option Addr) (b : List Ac) (w W : World) : Prop := Aces W A a ∧ Aces W A2 b ∧ Mk g e W ∧ Below w.heap.size w W
theorem pst_step {A A2 : Option Addr} {a b : List Ac} {g : Nat} {e : Ac} {w W W' : World} (h : Pst A a g e A2 b w W) (hb : Below W.heap.size W W') : Pst A a g e A2 b w W' :=
  ⟨h.1.below hb, h.2.1.below hb, h.2.2.1.step hb, h.2.2.2.trans (hb.mono h.2.2.2.size)⟩
theorem pst_drew {A A2 : Option Addr} {a b : List Ac} {g : Nat} {e : Ac} {w W : World} (h : Pst A a g e A2 b w W) : Pst A a g e A2 b w W.drew := pst_step h (Below.refl _ W).drew
/-- An entry of a list and the entry's block, as ten cells. -/
theorem ten_cells {g2 o : Nat} {x e : Ac} {g : Nat} {W : World} (h : At W g2 o x) (hM : Mk g e W) : W.cell? ⟨g2, o, none⟩ = some (.int .i64 x.who) ∧ W.cell? ⟨g2, o + 1, none⟩ = some (.bool x.allow) ∧ W.cell? ⟨g2, o + 2, none⟩ = some (.int .i64 x.rights) ∧ W.cell? ⟨g2, o + 3, none⟩ = some (.int .i64 x.reach) ∧ W.cell? ⟨g2, o + 4, none⟩ = some (.bool x.given) ∧
    W.cell? ⟨g, 0, none⟩ = some (.int .i64 e.who) ∧ W.cell? ⟨g, 1, none⟩ = some (.bool e.allow) ∧ W.cell? ⟨g, 2, none⟩ = some (.int .i64 e.rights) ∧ W.cell? ⟨g, 3, none⟩ = some (.int .i64 e.reach) ∧ W.cell? ⟨g, 4, none⟩ = some (.bool e.given) :=
  ⟨h.1, h.2.1, h.2.2.1, h.2.2.2.1, h.2.2.2.2, hM.1, hM.2.1, hM.2.2.1, hM.2.2.2.1, hM.2.2.2.2⟩
theorem oth_take {l : List Ac} {k : Nat} (hk : k < l.length) (e : Ac) : oth (l.take (k + 1)) e = if marked l[k] e = true then oth (l.take k) e else oth (l.take k) e ++ [l[k]] := by
  rw [List.take_succ_eq_append_getElem hk, oth_append]
  cases h : marked l[k] e <;> simp [oth, h]
theorem oth_drop (l : List Ac) (k : Nat) (e : Ac) : oth l e = oth (l.take k) e ++ oth (l.drop k) e := by rw [← oth_append, List.take_append_drop]
/-- While an entry of a that is no marked one is to come, b is not at its end; and the next such entry of b is that of a. -/
theorem oth_next {a b : List Ac} {e : Ac} (h : oth b e = oth a e) {i k : Nat} (hi : i < a.length) (hm : marked a[i] e = false) (hk : oth (b.take k) e = oth (a.take i) e) : ∃ hkl : k < b.length, marked b[k] e = false → b[k] = a[i] := by
  rw [oth_drop b k, oth_drop a i, hk] at h
  have h2 := List.append_cancel_left h
  have ea : oth (a.drop i) e = a[i] :: oth (a.drop (i + 1)) e := by
    rw [List.drop_eq_getElem_cons hi]
    exact List.filter_cons_of_pos (by rw [hm]; rfl)
  rw [ea] at h2
  have hkl : k < b.length := by
    rcases Nat.lt_or_ge k b.length with h3 | h3
    · exact h3
    · rw [List.drop_eq_nil_of_le h3] at h2; simp [oth] at h2
  refine ⟨hkl, fun hmb => ?_⟩
  have eb : oth (b.drop k) e = b[k] :: oth (b.drop (k + 1)) e := by
    rw [List.drop_eq_getElem_cons hkl]
    exact List.filter_cons_of_pos (by rw [hmb]; rfl)
  rw [eb] at h2
  injection h2

set_option maxRecDepth 20000 in
set_option maxHeartbeats 4000000 in
theorem lawPut_any (A0 : Option Addr) (n0 c0 : Nat) (l0 : List Tri) (e0 : l0.length = n0) (b0 : n0 ≤ 9223372036854775807) (x y z : UInt8) (out : Bool) (w : World) (y0 : Tris w A0 l0) :
    Calls Try.prog 7 #[.slice A0 n0 c0, .agg #[.int .u8 x.toNat, .int .u8 y.toNat, .int .u8 z.toNat], .bool out] w fun e w' => e = .returned (.bool true) ∧ Below w.heap.size w w' := by
  obtain ⟨a, ha⟩ : ∃ a, listL l0 = a := ⟨_, rfl⟩
  have la : a.length ≤ 12 := by rw [← ha]; exact listL_len _
  have ga : Ap.Good a := by rw [← ha]; exact listL_good _
  obtain ⟨e, he⟩ : ∃ e, aceOf x y z = e := ⟨_, rfl⟩
  have re := right_iff.1 (by rw [← he]; exact aceOf_right x y z : right e = true)
  obtain ⟨na, hna⟩ : ∃ n, a.length = n := ⟨_, rfl⟩
  rw [hna] at la
  have C1 := Lib.hid (fun W (h : Below w.heap.size w W) => (list_any A0 n0 c0 l0 e0 b0 W (y0.below h)).mono (R' := fun e w' => ∃ A c, e = .returned (.slice A na c) ∧ w'.ownsRow W.heap.size 31 5 (.slice A na c) na (encs a) ∧ Below W.heap.size W w') fun _ _ ⟨A', m, c', he, hr, hb⟩ => by
    rw [ha] at hr
    obtain rfl : m = na := by rw [← own_len hr, hna]
    exact ⟨A', c', he, hr, hb⟩)
  have cA := fun W => ace_any x y z W
  rw [he] at cA
  have GA := Lib.hid ga
  have HNA := Lib.hid hna
  clear ha hna e0 y0 he ga
  obtain ⟨ew, el, er, ee, eg⟩ := e
  unfold av at cA
  dsimp only at cA re
  have CA := Lib.hid cA
  have RE := Lib.hid re
  clear cA re
  have B0 := Lib.hid (rin1_new (x := x) (y := y) (z := z) (w := w))
  go_enter Try.func7, Try.ntmps7
  go_upto_region 2 with (go_at_call 10; refine (sanity_any _).mono ?_; rintro e w1 ⟨rfl, hb1⟩; have B1 := Lib.hid (B0.out.step hb1))
  obtain ⟨t0, t1, t2, bw⟩ := B1.out
  have D0 := Lib.hid (show w1.drew.cell? ⟨w.heap.size, 0, none⟩ = some (.int .u8 x.toNat) from t0)
  have D1 := Lib.hid (show w1.drew.cell? ⟨w.heap.size, 1, none⟩ = some (.int .u8 y.toNat) from t1)
  have D2 := Lib.hid (show w1.drew.cell? ⟨w.heap.size, 2, none⟩ = some (.int .u8 z.toNat) from t2)
  have hlt1 : w.heap.size < w1.heap.size := block_lt_of_cell t0
  have E0 := Lib.hid t0
  have E1 := Lib.hid t1
  have E2 := Lib.hid t2
  have BW := Lib.hid bw
  clear bw hb1
  go_cut [8, 9] (fun s8 s9 wx => ∃ (Aa : Option Addr) (ca g : Nat), s8 = .slice Aa na ca ∧ s9 = .pointer (some ⟨g, 0, none⟩) ∧ (Aa = none → na = 0 ∧ ca = 0) ∧ Pmade Aa a g ⟨ew, el, er, ee, eg⟩ w wx)
  case first =>
    (go_region_held (fun W' => W'.cell? ⟨w.heap.size, 0, none⟩ = some (.int .u8 x.toNat) ∧ W'.cell? ⟨w.heap.size, 1, none⟩ = some (.int .u8 y.toNat) ∧ W'.cell? ⟨w.heap.size, 2, none⟩ = some (.int .u8 z.toNat)) (first | with_reducible exact ⟨D0.out, D1.out, D2.out⟩ | with_reducible exact ⟨t0, t1, t2⟩ | with_reducible exact ⟨alloc_keep t0, alloc_keep t1, alloc_keep t2⟩ | with_reducible exact ⟨alloc_keep E0.out, alloc_keep E1.out, alloc_keep E2.out⟩ | with_reducible exact ⟨alloc_keep D0.out, alloc_keep D1.out, alloc_keep D2.out⟩ | with_reducible exact ⟨alloc_drew_keep E0.out, alloc_drew_keep E1.out, alloc_drew_keep E2.out⟩ | with_reducible exact ⟨five_far hlt1 t0, five_far hlt1 t1, five_far hlt1 t2⟩ | with_reducible exact ⟨five_far hlt2 t0, five_far hlt2 t1, five_far hlt2 t2⟩ | fail) (first | (go_at_call 12; first | ((with_reducible refine (C1.out _ BW.out.drew).mono ?_); rintro e w2 ⟨Aa, ca, rfl, ur, hb2⟩; have ua := Aces.of_own ur; have B2 := Lib.hid (B1.out.drew.step hb2); obtain ⟨t0, t1, t2, _⟩ := B2.out; have hlt2 := block_lt_of_cell t0) | ((with_reducible refine (C1.out _ ((BW.out.alloc BW.out.size _).drew)).mono ?_); rintro e w2 ⟨Aa, ca, rfl, ur, hb2⟩; have ua := Aces.of_own ur; have B2 := Lib.hid (B1.out.step (below_new (undrew hb2))); obtain ⟨h0, h1, h2, h3, h4, f0, f1, f2, f3, f4, hlt⟩ := after5 (undrew hb2); obtain ⟨t0, t1, t2, _⟩ := B2.out)) | (go_at_call 29; refine (CA.out _).mono ?_; rintro e w3 ⟨rfl, hb3⟩; first | (have B3 := Lib.hid (B2.out.step hb3); obtain ⟨h0, h1, h2, h3, h4⟩ := keep5 h0 h1 h2 h3 h4 hb3; have f0 := (hb3.frozen (p := ⟨w1.heap.size, 0, none⟩) hlt).trans f0; have f1 := (hb3.frozen (p := ⟨w1.heap.size, 1, none⟩) hlt).trans f1; have f2 := (hb3.frozen (p := ⟨w1.heap.size, 2, none⟩) hlt).trans f2; have f3 := (hb3.frozen (p := ⟨w1.heap.size, 3, none⟩) hlt).trans f3; have f4 := (hb3.frozen (p := ⟨w1.heap.size, 4, none⟩) hlt).trans f4; obtain ⟨t0, t1, t2, _⟩ := B3.out) | (have B3 := Lib.hid (B2.out.step hb3); have UA3 := Lib.hid (ua.below hb3); obtain ⟨t0, t1, t2, _⟩ := B3.out) | (have B3 := Lib.hid (B2.out.step (below_new hb3)); have UA3 := Lib.hid (ua.below (below_new hb3)); obtain ⟨h0, h1, h2, h3, h4, f0, f1, f2, f3, f4, hlt⟩ := after5 hb3; obtain ⟨t0, t1, t2, _⟩ := B3.out))))
    all_goals (go_wp2_with fail; go_meet)
    · have fz := fun i => frozen_of_row _ w3.heap.size i _ _ (heap_alloc_new w3 (.cells #[.int .i64 ew, .bool el, .int .i64 er, .int .i64 ee, .bool eg] 31))
      exact ⟨Aa, ca, w3.heap.size, rfl, rfl, own_none ur, UA3.out.below ((Below.refl _ _).alloc (Nat.le_refl _) _), alloc_box, far_of ur (.inr hb3.size), ⟨fz 2, fz 4⟩, B3.out.2.2.2.size, B3.out.2.2.2.alloc B3.out.2.2.2.size _⟩
    · have H := five_below (u0 := .int .i64 ew) (u1 := .bool el) (u2 := .int .i64 er) (u3 := .int .i64 ee) (u4 := .bool eg) (below_new hb3) (Nat.le_refl _)
      exact ⟨Aa, ca, w2.heap.size, rfl, rfl, own_none ur, ua.below H, five_near (e := ⟨ew, el, er, ee, eg⟩) h0 h1 h2 h3 h4, far_of ur (.inr (Nat.le_refl _)), ⟨five_frozen f2, five_frozen f4⟩, B2.out.2.2.2.size, (B2.out.step H).2.2.2⟩
    · have H := five_below (u0 := .int .i64 ew) (u1 := .bool el) (u2 := .int .i64 er) (u3 := .int .i64 ee) (u4 := .bool eg) ((below_new (undrew hb2)).trans (hb3.mono (Nat.le_of_lt hlt))) (Nat.le_refl _)
      have hp : w1.heap.size < (w1.alloc (.cells #[.int .i64 0, .bool false, .int .i64 0, .int .i64 0, .bool false] 31)).drew.heap.size := by simp
      exact ⟨Aa, ca, w1.heap.size, rfl, rfl, own_none ur, Aces.of_own (own_set (own_set (own_set (own_set (own_set (own_keep ur hb3) (p := ⟨w1.heap.size, 0, none⟩) hp _) (p := ⟨w1.heap.size, 1, none⟩) hp _) (p := ⟨w1.heap.size, 2, none⟩) hp _) (p := ⟨w1.heap.size, 3, none⟩) hp _) (p := ⟨w1.heap.size, 4, none⟩) hp _), five_near (e := ⟨ew, el, er, ee, eg⟩) h0 h1 h2 h3 h4, far_of ur (.inl hp), ⟨five_frozen f2, five_frozen f4⟩, BW.out.size, (B1.out.step H).2.2.2⟩
  case rest =>
    obtain ⟨Aa, ca, g, rfl, rfl, hna0, hA, hM, hF, ⟨f2, f4⟩, hg, hB⟩ := hcut
    have NA0 := Lib.hid hna0
    have HA := Lib.hid hA
    have HM := Lib.hid hM
    have HF := Lib.hid hF
    have HG := Lib.hid hg
    have HB := Lib.hid hB
    clear t0 t1 t2 D0 D1 D2 E0 E1 E2 C1 CA B0 B1 BW hlt1 hna0 hA hM hF hg hB
    obtain ⟨m0, m1, m2, m3, m4⟩ := HM.out
    dsimp only at m0 m1 m2 m3 m4
    go_upto_if 22 with fail
    obtain ⟨r, hr⟩ : ∃ r : Int, (if out = true then 0 else er) = r := ⟨_, rfl⟩
    go_cut [8] (fun s8 wx => s8 = .slice Aa na ca ∧ Pall Aa a g ⟨ew, el, r, ee, false⟩ w wx)
    case first =>
      have hM1 := mk_given HM.out
      have hA1 := HA.out.set (i := 4) (v := .bool false) HF.out
      have hB1 := HB.out.setCell (p := ⟨g, 4, none⟩) HG.out (.bool false)
      cases out
      · obtain rfl : er = r := hr
        go_wp2
        go_meet
        exact ⟨rfl, hA1, hM1, hB1⟩
      · obtain rfl : 0 = r := hr
        obtain ⟨k0, k1, k2, k3, k4⟩ := hM1
        have hM2 := mk_rights (mk_given HM.out)
        have hA2 := hA1.set (i := 2) (v := .int .i64 0) HF.out
        have hB2 := hB1.setCell (p := ⟨g, 2, none⟩) HG.out (.int .i64 0)
        go_wp2
        go_meet
        exact ⟨rfl, hA2, hM2, hB2⟩
    case rest =>
      obtain ⟨rfl, hT⟩ := hcut
      have T := Lib.hid hT
      clear hT f2 f4 m0 m1 m2 m3 m4 HA HM HF HG HB
      have hin : inR ⟨ew, el, r, ee, false⟩ = true := by
        have := RE.out
        unfold inR
        simp only [Bool.and_eq_true, decide_eq_true_eq]
        cases out
        · obtain rfl : er = r := hr
          omega
        · obtain rfl : 0 = r := hr
          omega
      have hlen := HNA.out
      obtain ⟨p2, gb, lb, hat, hoth⟩ := put_good GA.out (by omega) hin rfl
      have tw := put_twice GA.out (by omega) hin rfl
      obtain ⟨b, hb⟩ : ∃ b, (putL a ⟨ew, el, r, ee, false⟩).1 = b := ⟨_, rfl⟩
      rw [hb] at gb lb hat hoth tw
      obtain ⟨nb, hnb⟩ : ∃ n, b.length = n := ⟨_, rfl⟩
      have nb13 : nb ≤ 13 := by omega
      have vb := gb.valid (by omega)
      have P1 : Hid (∀ W : World, Aces W Aa a → Calls Try.prog 25 #[.slice Aa na ca, .agg #[.int .i64 ew, .bool el, .int .i64 r, .int .i64 ee, .bool false]] W fun y w' => ∃ A2 c2, y = .returned (.tuple #[.slice A2 nb c2, .int .i64 0]) ∧ Aces w' A2 b ∧ (A2 = none → nb = 0 ∧ c2 = 0) ∧ Below W.heap.size W w') :=
        Lib.hid (fun W h => (put_any Aa na ca a ⟨ew, el, r, ee, false⟩ hlen (by omega) GA.out.ok NA0.out W h).mono fun y w' ⟨A5, m5, c5, h1, h2, h3⟩ => by
          rw [p2] at h1
          rw [hb] at h2
          obtain rfl : nb = m5 := by rw [← hnb]; exact own_len h2
          exact ⟨A5, c5, h1, Aces.of_own h2, own_none h2, h3⟩)
      have P2 : Hid (∀ (A2 : Option Addr) (c2 : Nat) (W : World), (A2 = none → nb = 0 ∧ c2 = 0) → Aces W A2 b → Calls Try.prog 25 #[.slice A2 nb c2, .agg #[.int .i64 ew, .bool el, .int .i64 r, .int .i64 ee, .bool false]] W fun y w' => ∃ A3 c3, y = .returned (.tuple #[.slice A3 nb c3, .int .i64 0]) ∧ Aces w' A3 b ∧ Below W.heap.size W w') :=
        Lib.hid (fun A2 c2 W hn h => (put_any A2 nb c2 b ⟨ew, el, r, ee, false⟩ hnb (by omega) gb.ok hn W h).mono fun y w' ⟨A5, m5, c5, h1, h2, h3⟩ => by
          rw [tw] at h1 h2
          obtain rfl : nb = m5 := by rw [← hnb]; exact own_len h2
          exact ⟨A5, c5, h1, Aces.of_own h2, h3⟩)
      have CV : Hid (∀ (A2 : Option Addr) (c2 : Nat) (W : World), Aces W A2 b → Calls Try.prog 13 #[.slice A2 nb c2] W fun y w' => y = .returned (.bool true) ∧ Below W.heap.size W w') :=
        Lib.hid (fun A2 c2 W h => by have := valid_any A2 nb c2 b hnb (by omega) gb.ok W h; rw [vb] at this; exact this)
      have CR : Hid (∀ (A2 : Option Addr) (c2 : Nat) (W : World), Aces W A2 b → Calls Try.prog 14 #[.slice A2 nb c2] W fun y w' => y = .returned (.bool true) ∧ Below W.heap.size W w') :=
        Lib.hid (fun A2 c2 W h => by have := rvalid_any A2 nb c2 b hnb (by omega) W h; rw [vb] at this; exact this)
      have CT : Hid (∀ (A2 : Option Addr) (c2 : Nat) (W : World), Aces W A2 b → Calls Try.prog 31 #[.slice A2 nb c2, .agg #[.int .i64 ew, .bool el, .int .i64 r, .int .i64 ee, .bool false]] W fun y w' => y = .returned (.int .i64 r) ∧ Below W.heap.size W w') :=
        Lib.hid (fun A2 c2 W h => by have := at_any A2 nb c2 b ⟨ew, el, r, ee, false⟩ hnb (by omega) W h; rw [hat] at this; exact this)
      have CS : Hid (∀ (A2 A3 : Option Addr) (c2 c3 : Nat) (W : World), Aces W A2 b → Aces W A3 b → Calls Try.prog 20 #[.slice A3 nb c3, .slice A2 nb c2] W fun y w' => y = .returned (.bool true) ∧ Below W.heap.size W w') :=
        Lib.hid (fun A2 A3 c2 c3 W h h' => rs_true A3 A2 c3 c2 nb b hnb (by omega) W h' h)
      have GB := Lib.hid gb
      have HO := Lib.hid hoth
      have HNB := Lib.hid hnb
      clear hin hr RE p2 gb lb hat hoth tw hb hnb vb hlen
      have l13 : decide (13 < (nb : Int)) = false := by simp; omega
      have rr : (r != r) = false := by simp
      obtain ⟨m0, m1, m2, m3, m4⟩ := T.out.2.1
      dsimp only at m0 m1 m2 m3 m4
      go_upto_region 7 with (go_at_call 25; (with_reducible refine (P1.out _ T.out.1).mono ?_); rintro y w2 ⟨A2, c2, rfl, ua2, nn2, hb2⟩; have U : Hid (Pst Aa a g ⟨ew, el, r, ee, false⟩ A2 b w w2) := Lib.hid ⟨T.out.1.below hb2, ua2, T.out.2.1.step hb2, T.out.2.2.trans (hb2.mono T.out.2.2.size)⟩; have N2 := Lib.hid nn2; clear ua2 nn2 hb2)
      clear T P1 NA0 m0 m1 m2 m3 m4
      go_cut [54] (fun s54 wx => s54 = .bool false ∧ Pst Aa a g ⟨ew, el, r, ee, false⟩ A2 b w wx)
      case first =>
        first | (go_region_held (fun W' => W'.cell? ⟨g, 0, none⟩ = some (.int .i64 ew) ∧ W'.cell? ⟨g, 1, none⟩ = some (.bool el) ∧ W'.cell? ⟨g, 2, none⟩ = some (.int .i64 r) ∧ W'.cell? ⟨g, 3, none⟩ = some (.int .i64 ee) ∧ W'.cell? ⟨g, 4, none⟩ = some (.bool false))
          (first | exact U.out.2.2.1)
          (first
            | (go_at_call 13; (with_reducible refine (CV.out _ _ _ (pst_drew U.out).2.1).mono ?_); rintro y w3 ⟨rfl, hb3⟩; have U := Lib.hid (pst_step (pst_drew U.out) hb3); clear hb3)
            | (go_at_call 14; (with_reducible refine (CR.out _ _ _ U.out.2.1).mono ?_); rintro y w3 ⟨rfl, hb3⟩; have U := Lib.hid (pst_step U.out hb3); clear hb3)
            | (go_at_call 31; (with_reducible refine (CT.out _ _ _ U.out.2.1).mono ?_); rintro y w3 ⟨rfl, hb3⟩; have U := Lib.hid (pst_step U.out hb3); clear hb3))) | fail
        all_goals (go_wp2_with fail; go_meet)
        all_goals exact ⟨rfl, U.out⟩
      case rest =>
        obtain ⟨rfl, hU⟩ := hcut
        have U := Lib.hid hU
        clear hU CV CR CT l13 rr
        go_wp2
        go_loopw [12, 13] (fun s12 s13 wr => ∃ i k : Nat, i ≤ na ∧ k ≤ nb ∧ s12 = .int .i64 k ∧ s13 = .int .i64 i ∧ oth (b.take k) ⟨ew, el, r, ee, false⟩ = oth (a.take i) ⟨ew, el, r, ee, false⟩ ∧ Pst Aa a g ⟨ew, el, r, ee, false⟩ A2 b w wr) (fun _ s13 _ => na - (intOf s13).toNat)
        case atStart => exact ⟨0, 0, Nat.zero_le _, Nat.zero_le _, rfl, rfl, rfl, U.out⟩
        case round =>
          obtain ⟨i, k, hi, hk, rfl, rfl, ho, hu⟩ := hrel
          by_cases hlt : i < na
          · have hil : i < a.length := by rw [HNA.out]; exact hlt
            obtain ⟨ga, oa, hAa, _, hca⟩ := hu.1 (List.ne_nil_of_length_pos (by omega))
            subst hAa
            have hxat := hca i a[i] (List.getElem?_eq_getElem hil)
            have hta := oth_take hil ⟨ew, el, r, ee, false⟩
            have hnx : marked a[i] ⟨ew, el, r, ee, false⟩ = false → ∀ k', oth (b.take k') ⟨ew, el, r, ee, false⟩ = oth (a.take i) ⟨ew, el, r, ee, false⟩ → k' ≤ nb → ∃ hkl : k' < b.length, (marked b[k'] ⟨ew, el, r, ee, false⟩ = false → b[k'] = a[i]) := fun h k' h1 h2 => oth_next (e := ⟨ew, el, r, ee, false⟩) HO.out hil h h1
            obtain ⟨x, hx⟩ : ∃ y, a[i] = y := ⟨_, rfl⟩
            rw [hx] at hxat hta hnx
            have cM := fun W => marked_any x ⟨ew, el, r, ee, false⟩ W
            obtain ⟨mv, hmv⟩ : ∃ v, marked x ⟨ew, el, r, ee, false⟩ = v := ⟨_, rfl⟩
            rw [hmv] at cM hta hnx
            have HX := Lib.hid hxat
            have HU := Lib.hid hu
            have HOK := Lib.hid ho
            have HTA := Lib.hid hta
            have HNX := Lib.hid hnx
            obtain ⟨xw, xl, xr, xe, xg⟩ := x
            unfold av at cM
            dsimp only at cM
            have CM := Lib.hid cM
            have i0 : (0 : Int) ≤ (i : Int) := by omega
            have i1 : (i : Int) < (na : Int) := by omega
            clear hxat hu ho hta hnx hx hmv cM hca
            obtain ⟨c0, c1, c2, c3, c4, m0, m1, m2, m3, m4⟩ := ten_cells HX.out HU.out.2.2.1
            dsimp only at c0 c1 c2 c3 c4 m0 m1 m2 m3 m4
            go_upto_region 13 with fail
            first | (go_region_held (fun W' => W'.cell? ⟨ga, oa + i * 5, none⟩ = some (.int .i64 xw) ∧ W'.cell? ⟨ga, oa + i * 5 + 1, none⟩ = some (.bool xl) ∧ W'.cell? ⟨ga, oa + i * 5 + 2, none⟩ = some (.int .i64 xr) ∧ W'.cell? ⟨ga, oa + i * 5 + 3, none⟩ = some (.int .i64 xe) ∧ W'.cell? ⟨ga, oa + i * 5 + 4, none⟩ = some (.bool xg) ∧ W'.cell? ⟨g, 0, none⟩ = some (.int .i64 ew) ∧ W'.cell? ⟨g, 1, none⟩ = some (.bool el) ∧ W'.cell? ⟨g, 2, none⟩ = some (.int .i64 r) ∧ W'.cell? ⟨g, 3, none⟩ = some (.int .i64 ee) ∧ W'.cell? ⟨g, 4, none⟩ = some (.bool false)) (exact ⟨c0, c1, c2, c3, c4, m0, m1, m2, m3, m4⟩)
              (first | (go_at_call 32; (with_reducible refine (CM.out _).mono ?_); rintro y w3 ⟨rfl, hb3⟩; have HB3 := Lib.hid (Below.trans (Below.refl _ wr).drew hb3); clear hb3; obtain ⟨c0, c1, c2, c3, c4, m0, m1, m2, m3, m4⟩ := ten_cells (HX.out.below HB3.out) (HU.out.2.2.1.step HB3.out); dsimp only at c0 c1 c2 c3 c4 m0 m1 m2 m3 m4))) | fail
            have HU3 := Lib.hid (pst_step HU.out HB3.out)
            have HX3 := Lib.hid (HX.out.below HB3.out)
            clear HU HX HB3 CM c0 c1 c2 c3 c4 m0 m1 m2 m3 m4
            cases mv
            · go_wp2
              go_loopw [12] (fun s12 wz => ∃ k' : Nat, k' ≤ nb ∧ s12 = .int .i64 k' ∧ oth (b.take k') ⟨ew, el, r, ee, false⟩ = oth (a.take i) ⟨ew, el, r, ee, false⟩ ∧ Pst (some ⟨ga, oa, none⟩) a g ⟨ew, el, r, ee, false⟩ A2 b w wz ∧ At wz ga (oa + i * 5) ⟨xw, xl, xr, xe, xg⟩) (fun s12 _ => nb - (intOf s12).toNat)
              case atStart => exact ⟨k, hk, rfl, HOK.out, HU3.out, HX3.out⟩
              case round =>
                obtain ⟨k', hk', rfl, ho', hu', hx'⟩ := hrel
                obtain ⟨hkl, hbe⟩ := HNX.out (by simp) k' ho' hk'
                have hkn : k' < nb := by have := HNB.out; omega
                obtain ⟨gc, ob, hA2, _, hcb⟩ := hu'.2.1 (List.ne_nil_of_length_pos (by omega))
                subst hA2
                have hyat := hcb k' b[k'] (List.getElem?_eq_getElem hkl)
                have htb := oth_take hkl ⟨ew, el, r, ee, false⟩
                obtain ⟨y, hy⟩ : ∃ z, b[k'] = z := ⟨_, rfl⟩
                rw [hy] at hyat htb hbe
                have cM := fun W => marked_any y ⟨ew, el, r, ee, false⟩ W
                obtain ⟨mb, hmb⟩ : ∃ v, marked y ⟨ew, el, r, ee, false⟩ = v := ⟨_, rfl⟩
                rw [hmb] at cM htb hbe
                have HY := Lib.hid hyat
                have HXX := Lib.hid hx'
                have HUU := Lib.hid hu'
                have HOO := Lib.hid ho'
                have HTB := Lib.hid htb
                have HBE := Lib.hid hbe
                obtain ⟨yw, yl, yr, ye, yg⟩ := y
                unfold av at cM
                dsimp only at cM
                have CM := Lib.hid cM
                have k0 : (0 : Int) ≤ (k' : Int) := by omega
                have k1 : (k' : Int) < (nb : Int) := by omega
                have d1 : decide ((k' : Int) < (nb : Int)) = true := by simp; omega
                clear hyat hx' hu' ho' htb hbe hy hmb cM hcb
                obtain ⟨c0, c1, c2, c3, c4, m0, m1, m2, m3, m4⟩ := ten_cells HY.out HUU.out.2.2.1
                dsimp only at c0 c1 c2 c3 c4 m0 m1 m2 m3 m4
                go_upto_region 14 with fail
                first | (go_region_held (fun W' => W'.cell? ⟨gc, ob + k' * 5, none⟩ = some (.int .i64 yw) ∧ W'.cell? ⟨gc, ob + k' * 5 + 1, none⟩ = some (.bool yl) ∧ W'.cell? ⟨gc, ob + k' * 5 + 2, none⟩ = some (.int .i64 yr) ∧ W'.cell? ⟨gc, ob + k' * 5 + 3, none⟩ = some (.int .i64 ye) ∧ W'.cell? ⟨gc, ob + k' * 5 + 4, none⟩ = some (.bool yg) ∧ W'.cell? ⟨g, 0, none⟩ = some (.int .i64 ew) ∧ W'.cell? ⟨g, 1, none⟩ = some (.bool el) ∧ W'.cell? ⟨g, 2, none⟩ = some (.int .i64 r) ∧ W'.cell? ⟨g, 3, none⟩ = some (.int .i64 ee) ∧ W'.cell? ⟨g, 4, none⟩ = some (.bool false)) (exact ⟨c0, c1, c2, c3, c4, m0, m1, m2, m3, m4⟩)
                  (first | (go_at_call 32; (with_reducible refine (CM.out _).mono ?_); rintro q w4 ⟨rfl, hb4⟩; have HB4 := Lib.hid (Below.trans (Below.refl _ wr).drew hb4); clear hb4; obtain ⟨c0, c1, c2, c3, c4, m0, m1, m2, m3, m4⟩ := ten_cells (HY.out.below HB4.out) (HUU.out.2.2.1.step HB4.out); dsimp only at c0 c1 c2 c3 c4 m0 m1 m2 m3 m4))) | fail
                have HU4 := Lib.hid (pst_step HUU.out HB4.out)
                clear c0 c1 c2 c3 c4 m0 m1 m2 m3 m4
                cases mb
                · have hyx := HBE.out (by simp)
                  injection hyx with q0 q1 q2 q3 q4
                  subst q0 q1 q2 q3 q4
                  obtain ⟨c0, c1, c2, c3, c4⟩ := HXX.out.below HB4.out
                  obtain ⟨d0, d1', d2, d3, d4⟩ := HY.out.below HB4.out
                  dsimp only at c0 c1 c2 c3 c4 d0 d1' d2 d3 d4
                  have hne := neqAce ⟨yw, yl, yr, ye, yg⟩ ⟨yw, yl, yr, ye, yg⟩
                  rw [decide_eq_true rfl] at hne
                  unfold av at hne
                  have gA := guardAce
                  have d5 : decide ((nb : Int) ≤ (k' : Int)) = false := by simp; omega
                  have HR := Lib.hid (show oth (b.take (k' + 1)) ⟨ew, el, r, ee, false⟩ = oth (a.take (i + 1)) ⟨ew, el, r, ee, false⟩ by rw [HTB.out, HTA.out, HOO.out]; try rfl)
                  clear HBE HTB HTA HOO HNX HOK HX3 HXX HUU HY HB4 CM
                  go_upto_region 16 with fail
                  go_quiet (fail)
                  go_wp2
                  go_roundw
                  case rel => exact ⟨i + 1, k' + 1, by omega, by omega, by go_num, by go_num, HR.out, pst_step HU4.out (below_drewN _ _)⟩
                  case measure => simp [intOf]; omega
                · have HR := Lib.hid (show oth (b.take (k' + 1)) ⟨ew, el, r, ee, false⟩ = oth (a.take i) ⟨ew, el, r, ee, false⟩ by rw [HTB.out, HOO.out]; try rfl)
                  have HX5 := Lib.hid (HXX.out.below HB4.out)
                  clear HBE HTB HOO HXX HUU HY HB4 CM
                  go_wp2
                  go_roundw
                  case rel => exact ⟨k' + 1, by omega, by go_num, HR.out, HU4.out, HX5.out⟩
                  case measure => simp [intOf]; omega
            · have HR := Lib.hid (show oth (b.take k) ⟨ew, el, r, ee, false⟩ = oth (a.take (i + 1)) ⟨ew, el, r, ee, false⟩ by rw [HTA.out, HOK.out]; try rfl)
              clear HTA HNX HX3
              go_wp2
              go_roundw
              case rel => exact ⟨i + 1, k, by omega, hk, by go_num, rfl, HR.out, HU3.out⟩
              case measure => simp [intOf]; omega
          · obtain rfl : i = na := by omega
            have hfull : oth (b.drop k) ⟨ew, el, r, ee, false⟩ = [] := by
              have h1 := HO.out
              rw [oth_drop b k, ho, List.take_of_length_le (by rw [HNA.out]; exact Nat.le_refl _)] at h1
              exact List.append_right_eq_self.1 h1
            have hl1 : nb - k ≤ 1 := by
              have h2 := oth_nil ((GB.out.sub (List.drop_sublist k b)).nodup) hfull
              rw [List.length_drop, HNB.out] at h2
              exact h2
            have d1 : decide ((nb : Int) - (k : Int) ≤ 1) = true := by simp; omega
            have HU := Lib.hid hu
            obtain ⟨m0, m1, m2, m3, m4⟩ := hu.2.2.1
            dsimp only at m0 m1 m2 m3 m4
            clear hu ho hfull
            go_wp2_with (first | (go_at_call 25; (with_reducible refine (P2.out _ _ _ N2.out HU.out.2.1).mono ?_); rintro y w3 ⟨A3, c3, rfl, ua3, hb3⟩; have UA3 := Lib.hid ua3; have HU3 := Lib.hid (pst_step HU.out hb3); clear ua3 hb3) | (go_at_call 20; (with_reducible refine (CS.out _ _ _ _ _ HU3.out.2.1 UA3.out).mono ?_); rintro y w4 ⟨rfl, hb4⟩))
            go_ret
            exact ⟨rfl, HU3.out.2.2.2.trans (hb4.mono HU3.out.2.2.2.size)⟩
end Go.Proofs.Ytlgajeffjhoaaaa
