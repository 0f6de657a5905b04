/-
  Walk of the reference's Merge, as one value.
-/
import Derived.Test.YtkpedfigaofloaaRh
import Derived.Test.YtkpedfigaofloaaAq
namespace Go.Proofs.Ytkpedfigaofloaa
open Go.RowKit Ap
set_option maxHeartbeats 400000

theorem newL_succ {m l : List Ac} {k : Nat} (hk : k < l.length) : newL m (l.take (k + 1)) = if atL m l[k] = 0 then newL m (l.take k) ++ [l[k]] else newL m (l.take k) := by
  rw [List.take_succ_eq_append_getElem hk]
  unfold newL
  rw [List.filter_append]
  by_cases h : atL m l[k] = 0
  · rw [if_pos h, List.filter_cons_of_pos (by simpa using h)]; rfl
  · rw [if_neg h, List.filter_cons_of_neg (by simpa using h), List.filter_nil, List.append_nil]
/-- Entries of other marks behind do not matter. -/
theorem atL_new {m l : List Ac} (hm : ∀ a ∈ m, Ap.right a = true) (hl : Ap.Good l) {k : Nat} (hk : k < l.length) : atL (m ++ newL m (l.take k)) l[k] = 0 ↔ atL m l[k] = 0 := by
  have hr : ∀ a ∈ m ++ newL m (l.take k), Ap.right a = true := fun a ha => by
    rcases List.mem_append.1 ha with h | h
    · exact hm a h
    · exact hl.right a (List.mem_of_mem_take (List.mem_filter.1 h).1)
  rw [atL_zero hr, atL_zero hm, List.map_append, List.mem_append, not_or]
  refine ⟨fun h => h.1, fun h => ⟨h, fun hh => ?_⟩⟩
  obtain ⟨x, hx, hxe⟩ := List.mem_map.1 hh
  have hx' := (List.mem_filter.1 hx).1
  have hd := hl.nodup
  rw [erase_parts hk, List.map_append, List.map_cons, List.nodup_append] at hd
  exact hd.2.2 _ (List.mem_map_of_mem hx') l[k].mk0 (List.mem_cons_self ..) hxe
theorem wantL_succ {b m t l : List Ac} {k : Nat} (hk : k < l.length) : wantL b m t (l.take (k + 1)) = if wantE b m t l[k] = 0 then wantL b m t (l.take k) else wantL b m t (l.take k) ++ [l[k].put (wantE b m t l[k])] := by
  rw [List.take_succ_eq_append_getElem hk, wantL_append]
  unfold wantL keepR
  by_cases h : wantE b m t l[k] = 0 <;> simp [h, Ac.put]
/-- The result's block. -/
def Res (br : Nat) (W : World) : Prop := (∃ u, W.cell? ⟨br, 0, none⟩ = some u) ∧ (∃ u, W.cell? ⟨br, 1, none⟩ = some u) ∧ W.frozen? ⟨br, 0, none⟩ = false ∧ W.frozen? ⟨br, 1, none⟩ = false ∧ br < W.heap.size
theorem Res.step {br : Nat} {W W' : World} (h : Res br W) (hb : Below W.heap.size W W') : Res br W' := by
  obtain ⟨⟨u0, h0⟩, ⟨u1, h1⟩, f0, f1, hl⟩ := h
  exact ⟨⟨u0, (hb.cell hl).trans h0⟩, ⟨u1, (hb.cell hl).trans h1⟩, (hb.frozen (p := ⟨br, 0, none⟩) hl).trans f0, (hb.frozen (p := ⟨br, 1, none⟩) hl).trans f1, Nat.lt_of_lt_of_le hl hb.size⟩
/-- The merge's result. -/
def MRes (X : List Ac × Bool) (w : World) (e : Ending) (w' : World) : Prop := ∃ A' m c', e = .returned (.agg #[.slice A' m c', .bool X.2]) ∧ Aces w' A' X.1 ∧ X.1.length = m ∧ Below w.heap.size w w'

theorem rmerge_eq1 (A0 A1 A2 : Option Addr) (n0 c0 n1 c1 n2 c2 : Nat) (base mine theirs : List Ac) (h0 : base.length = n0) (l0 : n0 ≤ 1000) (h1 : mine.length = n1) (l1 : n1 ≤ 1000) (h2 : theirs.length = n2) (e1 : mine = base) (w : World) (a0 : Aces w A0 base) (a1 : Aces w A1 mine) (a2 : Aces w A2 theirs) :
    Calls Try.prog 28 #[.slice A0 n0 c0, .slice A1 n1 c1, .slice A2 n2 c2] w (MRes (theirs, true) w) := by
  have cS := fun W (hb : Below w.heap.size w W) => rsame_any A1 A0 n1 n0 c1 c0 mine base h1 h0 l1 l0 W (a1.below hb) (a0.below hb)
  rw [decide_eq_true e1] at cS
  have CS := Lib.hid cS
  have B0 := Lib.hid (show Below w.heap.size w (w.alloc (.cells #[.slice none 0 0, .bool false] 42)) from (Below.refl _ w).alloc (Nat.le_refl _) _)
  have HA := Lib.hid a2
  have H2 := Lib.hid h2
  clear cS h0 h1 h2 a0 a1 a2 e1
  go_enter Try.func28, Try.ntmps28
  go_wp2_with (go_at_call 20; (with_reducible refine (CS.out _ B0.out).mono ?_); rintro y w1 ⟨rfl, hb1⟩; obtain ⟨h0, h1, f0, f1, hlt⟩ := after2 hb1; have HB := Lib.hid (below_new hb1); clear hb1)
  have hbl := (HB.out.setCell (p := ⟨w.heap.size, 0, none⟩) (Nat.le_refl _) (.slice A2 n2 c2)).setCell (p := ⟨w.heap.size, 1, none⟩) (Nat.le_refl _) (.bool true)
  exact bodyPost_ret (v := .agg #[.slice A2 n2 c2, .bool true]) (by simp [results, Try.results28, go_sem, h0, h1]) rfl ⟨A2, n2, c2, rfl, HA.out.below hbl, H2.out, hbl⟩

theorem rmerge_eq2 (A0 A1 A2 : Option Addr) (n0 c0 n1 c1 n2 c2 : Nat) (base mine theirs : List Ac) (h0 : base.length = n0) (l0 : n0 ≤ 1000) (h1 : mine.length = n1) (l1 : n1 ≤ 1000) (h2 : theirs.length = n2) (l2 : n2 ≤ 1000) (e1 : ¬ mine = base) (e2 : theirs = base ∨ mine = theirs) (w : World) (a0 : Aces w A0 base) (a1 : Aces w A1 mine) (a2 : Aces w A2 theirs) :
    Calls Try.prog 28 #[.slice A0 n0 c0, .slice A1 n1 c1, .slice A2 n2 c2] w (MRes (mine, true) w) := by
  have cS := fun W (hb : Below w.heap.size w W) => rsame_any A1 A0 n1 n0 c1 c0 mine base h1 h0 l1 l0 W (a1.below hb) (a0.below hb)
  have cT := fun W (hb : Below w.heap.size w W) => rsame_any A2 A0 n2 n0 c2 c0 theirs base h2 h0 l2 l0 W (a2.below hb) (a0.below hb)
  have cU := fun W (hb : Below w.heap.size w W) => rsame_any A1 A2 n1 n2 c1 c2 mine theirs h1 h2 l1 l2 W (a1.below hb) (a2.below hb)
  rw [decide_eq_false e1] at cS
  obtain ⟨v, hv⟩ : ∃ v, decide (theirs = base) = v := ⟨_, rfl⟩
  rw [hv] at cT
  have hvu : v = false → decide (mine = theirs) = true := fun h => by
    rcases e2 with e2 | e2
    · rw [decide_eq_true e2, h] at hv; cases hv
    · exact decide_eq_true e2
  have CS := Lib.hid cS
  have CT := Lib.hid cT
  have CU := Lib.hid cU
  have HVU := Lib.hid hvu
  have B0 := Lib.hid (show Below w.heap.size w (w.alloc (.cells #[.slice none 0 0, .bool false] 42)) from (Below.refl _ w).alloc (Nat.le_refl _) _)
  have HA := Lib.hid a1
  have H1 := Lib.hid h1
  clear cS cT cU hvu hv h0 h1 h2 a0 a1 a2 e1 e2
  go_enter Try.func28, Try.ntmps28
  go_upto_region 3 with (go_at_call 20; (with_reducible refine (CS.out _ B0.out).mono ?_); rintro y w1 ⟨rfl, hb1⟩; obtain ⟨h0, h1, f0, f1, hlt⟩ := after2 hb1; have HB := Lib.hid (below_new hb1); clear hb1)
  cases v
  · have cu := CU.out
    rw [HVU.out rfl] at cu
    have KU := Lib.hid cu
    clear cu CU HVU CS
    go_wp2_with (go_at_call 20; first | ((with_reducible refine (CT.out _ HB.out).mono ?_); rintro y w2 ⟨rfl, hb2⟩; have HB2 := Lib.hid (HB.out.trans (hb2.mono HB.out.size)); have k0 := (hb2.cell (p := ⟨w.heap.size, 0, none⟩) hlt).trans h0; have k1 := (hb2.cell (p := ⟨w.heap.size, 1, none⟩) hlt).trans h1; have g0 := (hb2.frozen (p := ⟨w.heap.size, 0, none⟩) hlt).trans f0; have g1 := (hb2.frozen (p := ⟨w.heap.size, 1, none⟩) hlt).trans f1; have hlt2 := Nat.lt_of_lt_of_le hlt hb2.size; clear hb2) | ((with_reducible refine (KU.out _ HB2.out).mono ?_); rintro y w3 ⟨rfl, hb3⟩; have HB3 := Lib.hid (HB2.out.trans (hb3.mono HB2.out.size)); have q0 := (hb3.cell (p := ⟨w.heap.size, 0, none⟩) hlt2).trans k0; have q1 := (hb3.cell (p := ⟨w.heap.size, 1, none⟩) hlt2).trans k1; have r0 := (hb3.frozen (p := ⟨w.heap.size, 0, none⟩) hlt2).trans g0; have r1 := (hb3.frozen (p := ⟨w.heap.size, 1, none⟩) hlt2).trans g1; clear hb3))
    have hbl := (HB3.out.setCell (p := ⟨w.heap.size, 0, none⟩) (Nat.le_refl _) (.slice A1 n1 c1)).setCell (p := ⟨w.heap.size, 1, none⟩) (Nat.le_refl _) (.bool true)
    exact bodyPost_ret (v := .agg #[.slice A1 n1 c1, .bool true]) (by simp [results, Try.results28, go_sem, q0, q1]) rfl ⟨A1, n1, c1, rfl, HA.out.below hbl, H1.out, hbl⟩
  · clear CU HVU CS
    go_wp2_with (go_at_call 20; ((with_reducible refine (CT.out _ HB.out).mono ?_); rintro y w2 ⟨rfl, hb2⟩; have HB2 := Lib.hid (HB.out.trans (hb2.mono HB.out.size)); have k0 := (hb2.cell (p := ⟨w.heap.size, 0, none⟩) hlt).trans h0; have k1 := (hb2.cell (p := ⟨w.heap.size, 1, none⟩) hlt).trans h1; have g0 := (hb2.frozen (p := ⟨w.heap.size, 0, none⟩) hlt).trans f0; have g1 := (hb2.frozen (p := ⟨w.heap.size, 1, none⟩) hlt).trans f1; clear hb2))
    have hbl := (HB2.out.setCell (p := ⟨w.heap.size, 0, none⟩) (Nat.le_refl _) (.slice A1 n1 c1)).setCell (p := ⟨w.heap.size, 1, none⟩) (Nat.le_refl _) (.bool true)
    exact bodyPost_ret (v := .agg #[.slice A1 n1 c1, .bool true]) (by simp [results, Try.results28, go_sem, k0, k1]) rfl ⟨A1, n1, c1, rfl, HA.out.below hbl, H1.out, hbl⟩

theorem clashR_bools {b m t : Int} {p q r : Bool} (hp : (m != b) = p) (hq : (t != b) = q) (hr : (m != t) = r) : clashR b m t = (p && q && r) := by
  unfold clashR; rw [hp, hq, hr]
theorem own_ne2 {W : World} {b m c g : Nat} {A : Option Addr} {l : List Ac} (h : W.ownsRow b 31 5 (.slice A m c) m (encs l)) (hg : W.heap.size ≤ g) : (Value.slice A m c).ownBlock ≠ some g := fun e => by
  have := (h.lt g e).2
  omega
/-- An entry's box beside the rows. -/
def EBox (ge : Nat) (x : Ac) (wb : World) (A : Option Addr) (m c : Nat) (all : List Ac) (A9 : Option Addr) (m9 c9 : Nat) (out : List Ac) (W : World) : Prop :=
  Mk ge x W ∧ W.frozen? ⟨ge, 2, none⟩ = false ∧ wb.heap.size ≤ ge ∧ (Value.slice A m c).ownBlock ≠ some ge ∧ (Value.slice A9 m9 c9).ownBlock ≠ some ge ∧ Duo wb A m c all A9 m9 c9 out W
theorem EBox.step {ge : Nat} {x : Ac} {wb : World} {A : Option Addr} {m c : Nat} {all : List Ac} {A9 : Option Addr} {m9 c9 : Nat} {out : List Ac} {W W' : World} (h : EBox ge x wb A m c all A9 m9 c9 out W) (hb : Below W.heap.size W W') : EBox ge x wb A m c all A9 m9 c9 out W' := by
  obtain ⟨h1, h2, h3, h4, h5, h6⟩ := h
  exact ⟨h1.step hb, (hb.frozen (p := ⟨ge, 2, none⟩) (show ge < W.heap.size from block_lt_of_cell h1.1)).trans h2, h3, h4, h5, h6.step hb⟩
theorem EBox.duo {ge : Nat} {x : Ac} {wb : World} {A : Option Addr} {m c : Nat} {all : List Ac} {A9 : Option Addr} {m9 c9 : Nat} {out : List Ac} {W : World} (h : EBox ge x wb A m c all A9 m9 c9 out W) : Duo wb A m c all A9 m9 c9 out W := h.2.2.2.2.2
theorem EBox.bel {ge : Nat} {x : Ac} {wb : World} {A : Option Addr} {m c : Nat} {all : List Ac} {A9 : Option Addr} {m9 c9 : Nat} {out : List Ac} {W : World} (h : EBox ge x wb A m c all A9 m9 c9 out W) : Below wb.heap.size wb W := h.2.2.2.2.2.2.2.2
theorem EBox.put {ge : Nat} {x : Ac} {wb : World} {A : Option Addr} {m c : Nat} {all : List Ac} {A9 : Option Addr} {m9 c9 : Nat} {out : List Ac} {W : World} (h : EBox ge x wb A m c all A9 m9 c9 out W) (r : Int) : EBox ge (x.put r) wb A m c all A9 m9 c9 out (W.setCell ⟨ge, 2, none⟩ (.int .i64 r)) := by
  obtain ⟨⟨k0, k1, k2, k3, k4⟩, h2, h3, h4, h5, h6, h7, h8, h9⟩ := h
  have o : ∀ (t : Nat) (u : Value), t ≠ 2 → W.cell? ⟨ge, t, none⟩ = some u → (W.setCell ⟨ge, 2, none⟩ (.int .i64 r)).cell? ⟨ge, t, none⟩ = some u := fun t u ht hu => by
    rw [World.cell?_setCell_other _ _ _ _ (fun e => ht (by injection e with _ e2; exact e2.symm))]; exact hu
  exact ⟨⟨o 0 _ (by decide) k0, o 1 _ (by decide) k1, World.cell?_setCell_same W ⟨ge, 2, none⟩ _ k2, o 3 _ (by decide) k3, o 4 _ (by decide) k4⟩, by simpa only [World.frozen?_setCell] using h2, h3, h4, h5,
    own_other h6 (p := ⟨ge, 2, none⟩) h4 _, own_other h7 (p := ⟨ge, 2, none⟩) h5 _, h8, h9.setCell (p := ⟨ge, 2, none⟩) h3 _⟩
theorem put_put (x : Ac) (r s : Int) : (x.put r).put s = x.put s := rfl

set_option maxRecDepth 20000 in
set_option maxHeartbeats 8000000 in
theorem rmerge_main (A0 A1 A2 : Option Addr) (n0 c0 n1 c1 n2 c2 : Nat) (base mine theirs : List Ac) (h0 : base.length = n0) (l0 : n0 ≤ 12) (h1 : mine.length = n1) (l1 : n1 ≤ 12) (h2 : theirs.length = n2) (l2 : n2 ≤ 12)
    (G0 : Ap.Good base) (G1 : Ap.Good mine) (G2 : Ap.Good theirs) (s1 : A1 = none → n1 = 0 ∧ c1 = 0) (ne1 : ¬ mine = base) (ne2 : ¬ theirs = base) (ne3 : ¬ mine = theirs) (w : World) (a0 : Aces w A0 base) (a1 : Aces w A1 mine) (a2 : Aces w A2 theirs) :
    Calls Try.prog 28 #[.slice A0 n0 c0, .slice A1 n1 c1, .slice A2 n2 c2] w (MRes (refM base mine theirs) w) := by
  obtain ⟨i0, hi, hz0, hz1, hz2⟩ := info_parts info_ace
  have cS := fun W (hb : Below w.heap.size w W) => rsame_any A1 A0 n1 n0 c1 c0 mine base h1 h0 (by omega) (by omega) W (a1.below hb) (a0.below hb)
  have cT := fun W (hb : Below w.heap.size w W) => rsame_any A2 A0 n2 n0 c2 c0 theirs base h2 h0 (by omega) (by omega) W (a2.below hb) (a0.below hb)
  have cU := fun W (hb : Below w.heap.size w W) => rsame_any A1 A2 n1 n2 c1 c2 mine theirs h1 h2 (by omega) (by omega) W (a1.below hb) (a2.below hb)
  rw [decide_eq_false ne1] at cS
  rw [decide_eq_false ne2] at cT
  rw [decide_eq_false ne3] at cU
  have KT := Lib.hid (fun (A : Option Addr) (n c : Nat) (l : List Ac) (e : Ac) (h1 : l.length = n) (h2 : n ≤ 1000) W (h : Aces W A l) => at_any A n c l e h1 h2 W h)
  have CS := Lib.hid cS
  have CT := Lib.hid cT
  have CU := Lib.hid cU
  have H0 := Lib.hid h0
  have H1 := Lib.hid h1
  have H2 := Lib.hid h2
  have S1 := Lib.hid s1
  have J0 := Lib.hid G0
  have J1 := Lib.hid G1
  have J2 := Lib.hid G2
  have B0 := Lib.hid (show Below w.heap.size w (w.alloc (.cells #[.slice none 0 0, .bool false] 42)) from (Below.refl _ w).alloc (Nat.le_refl _) _)
  have Z0 := Lib.hid a0
  have Z1 := Lib.hid a1
  have Z2 := Lib.hid a2
  clear cS cT cU h0 h1 h2 s1 G0 G1 G2 ne1 ne2 ne3 a0 a1 a2
  go_enter Try.func28, Try.ntmps28
  go_upto_region 5 with (go_at_call 20; first
    | ((with_reducible refine (CS.out _ B0.out).mono ?_); rintro y w1 ⟨rfl, hb1⟩; obtain ⟨h0, h1, f0, f1, hlt⟩ := after2 hb1; have HB := Lib.hid (below_new hb1); clear hb1)
    | ((with_reducible refine (CT.out _ HB.out).mono ?_); rintro y w2 ⟨rfl, hb2⟩; have HB2 := Lib.hid (HB.out.trans (hb2.mono HB.out.size)); have k0 := (hb2.cell (p := ⟨w.heap.size, 0, none⟩) hlt).trans h0; have k1 := (hb2.cell (p := ⟨w.heap.size, 1, none⟩) hlt).trans h1; have g0 := (hb2.frozen (p := ⟨w.heap.size, 0, none⟩) hlt).trans f0; have g1 := (hb2.frozen (p := ⟨w.heap.size, 1, none⟩) hlt).trans f1; have hlt2 := Nat.lt_of_lt_of_le hlt hb2.size; clear hb2)
    | ((with_reducible refine (CU.out _ HB2.out).mono ?_); rintro y w3 ⟨rfl, hb3⟩; have HB3 := Lib.hid (HB2.out.trans (hb3.mono HB2.out.size)); have HRES := Lib.hid (show Res w.heap.size w3 from ⟨⟨_, (hb3.cell (p := ⟨w.heap.size, 0, none⟩) hlt2).trans k0⟩, ⟨_, (hb3.cell (p := ⟨w.heap.size, 1, none⟩) hlt2).trans k1⟩, (hb3.frozen (p := ⟨w.heap.size, 0, none⟩) hlt2).trans g0, (hb3.frozen (p := ⟨w.heap.size, 1, none⟩) hlt2).trans g1, Nat.lt_of_lt_of_le hlt2 hb3.size⟩); clear hb3))
  obtain ⟨wb, hwb⟩ : ∃ W, W = w3 := ⟨_, rfl⟩
  subst hwb
  have HA0 := Lib.hid (Z0.out.below HB3.out)
  have HA1 := Lib.hid (Z1.out.below HB3.out)
  have HA2 := Lib.hid (Z2.out.below HB3.out)
  have HBB := Lib.hid HB3.out
  clear Z0 Z1 Z2 h0 h1 f0 f1 hlt HB HB2 HB3 k0 k1 g0 g1 hlt2 CS CT CU B0
  go_cut [7] (fun s7 wx => ∃ (A7 : Option Addr) (c7 : Nat), s7 = .slice A7 n1 c7 ∧ wx.ownsRow wb.heap.size 31 5 (.slice A7 n1 c7) n1 (encs mine) ∧ Below wb.heap.size wb wx)
  case first =>
    go_wp2_with (at_builtin; refine wpList_append_two rfl _ _ rfl wb.heap.size rfl (l1 := []) (own_empty wb _ 5) rfl (HA1.out.below ((Below.refl _ wb).alloc (Nat.le_refl _) _)) H1.out S1.out (by omega) (by simp) ?_; intro A3 c3 w9 hown' hgrow)
    rw [Nat.zero_add, List.nil_append] at hown'
    go_meet
    exact ⟨A3, c3, by simp, hown', ((Below.refl _ wb).alloc (Nat.le_refl _) _).grown hgrow (by simp) (fun j hj => by cases hj; exact Nat.le_refl _)⟩
  case rest =>
    obtain ⟨A7, c7, rfl, hown, hbw⟩ := hcut
    have HO := Lib.hid hown
    have HBW := Lib.hid hbw
    clear hown hbw
    go_wp2
    go_loopw [7, 8] (fun s7 s8 wz => ∃ (i : Nat) (A : Option Addr) (m c : Nat), i ≤ n2 ∧ s8 = .int .i64 i ∧ s7 = .slice A m c ∧ m ≤ n1 + i ∧ wz.ownsRow wb.heap.size 31 5 (.slice A m c) m (encs (mine ++ newL mine (theirs.take i))) ∧ Below wb.heap.size wb wz) (fun _ s8 _ => n2 - (intOf s8).toNat)
    case atStart => exact ⟨0, A7, n1, c7, Nat.zero_le _, rfl, rfl, by omega, by simpa [newL] using HO.out, HBW.out⟩
    case round =>
      obtain ⟨i, A, m, c, hi9, rfl, rfl, hm, hown, hbw⟩ := hrel
      have hsz := hbw.size
      by_cases hlt : i < n2
      · have hil : i < theirs.length := by rw [H2.out]; exact hlt
        obtain ⟨g, o, hAe, hg, hc⟩ := (HA2.out.below hbw) (List.ne_nil_of_length_pos (by omega))
        subst hAe
        have hxat := hc i theirs[i] (List.getElem?_eq_getElem hil)
        have hst := newL_succ (m := mine) hil
        obtain ⟨x, hx⟩ : ∃ y, theirs[i] = y := ⟨_, rfl⟩
        rw [hx] at hxat hst
        have ca := fun W (h : Aces W A1 mine) => KT.out A1 n1 c1 mine x H1.out (by omega) W h
        obtain ⟨r, hr⟩ : ∃ r, atL mine x = r := ⟨_, rfl⟩
        rw [hr] at ca hst
        obtain ⟨xw, xl, xr, xe, xg⟩ := x
        unfold av at ca
        dsimp only at ca
        have CA := Lib.hid ca
        have HX := Lib.hid hxat
        have HOW := Lib.hid hown
        have HB1 := Lib.hid hbw
        obtain ⟨q0, q1, q2, q3, q4⟩ := hxat
        dsimp only at q0 q1 q2 q3 q4
        have k0 : (0 : Int) ≤ (i : Int) := by omega
        have k1 : (i : Int) < (n2 : Int) := by omega
        clear hc hx hr ca hown hbw
        by_cases h0 : r = 0
        · rw [if_pos h0] at hst
          have HST := Lib.hid hst
          have br : (r == 0) = true := by simp [h0]
          clear hst h0
          go_wp2_with (first | (go_at_call 31; (with_reducible refine (CA.out _ (HA1.out.below HB1.out)).mono ?_); rintro y w4 ⟨rfl, hb4⟩; have HOW4 := Lib.hid (own_keep HOW.out hb4); have HB4 := Lib.hid (HB1.out.trans (hb4.mono HB1.out.size)); have hs4 := HB4.out.size; obtain ⟨q0, q1, q2, q3, q4⟩ := HX.out.below hb4; dsimp only at q0 q1 q2 q3 q4; clear hb4) | (at_builtin; refine wpList_append_own _ rfl _ _ 22 rfl wb.heap.size 31 i0 _ 5 40 Try.underlying22 hi hz0 hz1 hz2 rfl (by decide) _ _ _ rfl (HOW4.out.alloc _) ⟨w4.heap.size, 0, none⟩ 1 1 (enc ⟨xw, xl, xr, xe, xg⟩) rfl rfl (cells_new w4 _ _) (enc_one _) (by unfold maxLen; omega) (by omega) (by simp; omega) ?_; intro v' w5 hown' hgrow _; obtain ⟨g', cap', rfl⟩ := ownsRow_succ hown'))
          go_roundw
          case rel =>
            refine ⟨i + 1, some ⟨g', 0, none⟩, m + 1, cap', by omega, by go_num, rfl, by omega, ?_, (HB4.out.alloc hs4 _).grown hgrow (by simp; omega) (fun j hj => (HOW4.out.lt j hj).1)⟩
            rw [HST.out, ← List.append_assoc, encs_append, encs_one]; exact hown'
          case measure => simp [intOf]; omega
        · rw [if_neg h0] at hst
          have HST := Lib.hid hst
          have br : (r == 0) = false := by simp [h0]
          clear hst h0
          go_wp2_with (go_at_call 31; (with_reducible refine (CA.out _ (HA1.out.below HB1.out)).mono ?_); rintro y w4 ⟨rfl, hb4⟩; have HOW4 := Lib.hid (own_keep HOW.out hb4); have HB4 := Lib.hid (HB1.out.trans (hb4.mono HB1.out.size)); clear hb4)
          go_roundw
          case rel => exact ⟨i + 1, A, m, c, by omega, by go_num, rfl, by omega, by rw [HST.out]; exact HOW4.out, HB4.out⟩
          case measure => simp [intOf]; omega
      · obtain rfl : i = n2 := by omega
        have hfull : theirs.take i = theirs := List.take_of_length_le (by rw [H2.out]; exact Nat.le_refl _)
        rw [hfull] at hown
        obtain ⟨L, hL⟩ : ∃ L, mine ++ newL mine theirs = L := ⟨_, rfl⟩
        rw [hL] at hown
        have hLr : ∀ a ∈ L, Ap.right a = true := fun a ha => by
          rw [← hL] at ha
          rcases List.mem_append.1 ha with h | h
          · exact J1.out.right a h
          · exact J2.out.right a (List.mem_filter.1 h).1
        have HLR := Lib.hid hLr
        have HL := Lib.hid hL
        have HO2 := Lib.hid hown
        have HB2 := Lib.hid hbw
        clear hfull hown hbw hL hLr HO HBW
        go_wp2
        go_loopw [7, 9] (fun s7 s9 wz => ∃ (j : Nat) (A' : Option Addr) (m' c' : Nat), j ≤ n0 ∧ s9 = .int .i64 j ∧ s7 = .slice A' m' c' ∧ m' ≤ n1 + i + j ∧ wz.ownsRow wb.heap.size 31 5 (.slice A' m' c') m' (encs (L ++ newL L (base.take j))) ∧ Below wb.heap.size wb wz) (fun _ s9 _ => n0 - (intOf s9).toNat)
        case atStart => exact ⟨0, A, m, c, Nat.zero_le _, rfl, rfl, by omega, by simpa [newL] using HO2.out, HB2.out⟩
        case round =>
          obtain ⟨j, A', m', c', hj9, rfl, rfl, hm', hown, hbw⟩ := hrel
          have hsz := hbw.size
          by_cases hlt2 : j < n0
          · have hjl : j < base.length := by rw [H0.out]; exact hlt2
            obtain ⟨g, o, hAe, hg, hc⟩ := (HA0.out.below hbw) (List.ne_nil_of_length_pos (by omega))
            subst hAe
            have hxat := hc j base[j] (List.getElem?_eq_getElem hjl)
            have hst := newL_succ (m := L) hjl
            have hnw := atL_new HLR.out J0.out hjl
            obtain ⟨x, hx⟩ : ∃ y, base[j] = y := ⟨_, rfl⟩
            rw [hx] at hxat hst hnw
            have hln := own_len hown
            have ca := fun W (h : Aces W A' (L ++ newL L (base.take j))) => KT.out A' m' c' (L ++ newL L (base.take j)) x hln (by omega) W h
            obtain ⟨r, hr⟩ : ∃ r, atL (L ++ newL L (base.take j)) x = r := ⟨_, rfl⟩
            rw [hr] at ca hnw
            have hst' : newL L (base.take (j + 1)) = if r = 0 then newL L (base.take j) ++ [x] else newL L (base.take j) := by
              rw [hst]
              by_cases h0 : r = 0
              · rw [if_pos (hnw.1 h0), if_pos h0]
              · rw [if_neg (fun h => h0 (hnw.2 h)), if_neg h0]
            obtain ⟨xw, xl, xr, xe, xg⟩ := x
            unfold av at ca
            dsimp only at ca
            have CA := Lib.hid ca
            have HX := Lib.hid hxat
            have HOW := Lib.hid hown
            have HB1 := Lib.hid hbw
            obtain ⟨q0, q1, q2, q3, q4⟩ := hxat
            dsimp only at q0 q1 q2 q3 q4
            have k0 : (0 : Int) ≤ (j : Int) := by omega
            have k1 : (j : Int) < (n0 : Int) := by omega
            clear hc hx hr ca hown hbw hst hnw hln
            by_cases h0 : r = 0
            · rw [if_pos h0] at hst'
              have HST := Lib.hid hst'
              have br : (r == 0) = true := by simp [h0]
              clear hst' h0
              go_wp2_with (first | (go_at_call 31; (with_reducible refine (CA.out _ (Aces.of_own HOW.out)).mono ?_); rintro y w4 ⟨rfl, hb4⟩; have HOW4 := Lib.hid (own_keep HOW.out hb4); have HB4 := Lib.hid (HB1.out.trans (hb4.mono HB1.out.size)); have hs4 := HB4.out.size; obtain ⟨q0, q1, q2, q3, q4⟩ := HX.out.below hb4; dsimp only at q0 q1 q2 q3 q4; clear hb4) | (at_builtin; refine wpList_append_own _ rfl _ _ 22 rfl wb.heap.size 31 i0 _ 5 40 Try.underlying22 hi hz0 hz1 hz2 rfl (by decide) _ _ _ rfl (HOW4.out.alloc _) ⟨w4.heap.size, 0, none⟩ 1 1 (enc ⟨xw, xl, xr, xe, xg⟩) rfl rfl (cells_new w4 _ _) (enc_one _) (by unfold maxLen; omega) (by omega) (by simp; omega) ?_; intro v' w5 hown' hgrow _; obtain ⟨g', cap', rfl⟩ := ownsRow_succ hown'))
              go_roundw
              case rel =>
                refine ⟨j + 1, some ⟨g', 0, none⟩, m' + 1, cap', by omega, by go_num, rfl, by omega, ?_, (HB4.out.alloc hs4 _).grown hgrow (by simp; omega) (fun j hj => (HOW4.out.lt j hj).1)⟩
                rw [HST.out, ← List.append_assoc, encs_append, encs_one]; exact hown'
              case measure => simp [intOf]; omega
            · rw [if_neg h0] at hst'
              have HST := Lib.hid hst'
              have br : (r == 0) = false := by simp [h0]
              clear hst' h0
              go_wp2_with (go_at_call 31; (with_reducible refine (CA.out _ (Aces.of_own HOW.out)).mono ?_); rintro y w4 ⟨rfl, hb4⟩; have HOW4 := Lib.hid (own_keep HOW.out hb4); have HB4 := Lib.hid (HB1.out.trans (hb4.mono HB1.out.size)); clear hb4)
              go_roundw
              case rel => exact ⟨j + 1, A', m', c', by omega, by go_num, rfl, by omega, by rw [HST.out]; exact HOW4.out, HB4.out⟩
              case measure => simp [intOf]; omega
          · obtain rfl : j = n0 := by omega
            have hfull : base.take j = base := List.take_of_length_le (by rw [H0.out]; exact Nat.le_refl _)
            rw [hfull, show L ++ newL L base = allM base mine theirs by rw [← HL.out]; rfl] at hown
            obtain ⟨all, hall⟩ : ∃ l, allM base mine theirs = l := ⟨_, rfl⟩
            rw [hall] at hown
            have HALL := Lib.hid hall
            have HNA := Lib.hid (own_len hown)
            have HO3 := Lib.hid hown
            have HB3 := Lib.hid hbw
            have hmm : m' ≤ 36 := by omega
            clear hfull hown hbw hall HL HLR HO2 HB2 hm' hm
            go_upto_region 16 with fail
            go_cut [10] (fun s10 wx => ∃ (A10 : Option Addr) (c10 : Nat), s10 = .slice A10 0 c10 ∧ Duo wb A' m' c' all A10 0 c10 [] wx)
            case first =>
              go_wp2
              go_meet
              exact ⟨some ⟨wr.heap.size, 0, none⟩, 0, rfl, HO3.out.alloc _, own_mono (own_empty _ _ _) hsz, fun k hk e => by have := (HO3.out.lt k hk).2; injection e with e; simp at e; omega, HB3.out.alloc hsz _⟩
            case rest =>
              obtain ⟨A10, c10, rfl, hduo⟩ := hcut
              have HD0 := Lib.hid hduo
              clear hduo HO3 HB3 hsz
              go_wp2
              go_loopw [10, 11, 12, 13, 14, 15] (fun s10 s11 _ _ _ _ wz => ∃ (k : Nat) (A9 : Option Addr) (m9 c9 : Nat), k ≤ m' ∧ s11 = .int .i64 k ∧ s10 = .slice A9 m9 c9 ∧ m9 ≤ k ∧ (∀ e ∈ all.take k, clashE base mine theirs e = false) ∧ Duo wb A' m' c' all A9 m9 c9 (wantL base mine theirs (all.take k)) wz) (fun _ s11 _ _ _ _ _ => m' - (intOf s11).toNat)
              case atStart => exact ⟨0, A10, 0, c10, Nat.zero_le _, rfl, rfl, Nat.le_refl _, by simp, HD0.out⟩
              case round =>
                obtain ⟨k, A9, m9, c9, hk, rfl, rfl, hm9, hnc, hduo⟩ := hrel
                by_cases hlt3 : k < m'
                · have hkl : k < all.length := by rw [HNA.out]; exact hlt3
                  obtain ⟨g', cap', hv, hg1, hg2⟩ := hduo.r1.form (by omega)
                  obtain ⟨rfl, rfl⟩ : A' = some ⟨g', 0, none⟩ ∧ c' = cap' := by injection hv with h1 h2 h3; exact ⟨h1, h3⟩
                  obtain ⟨x, hy, q0, q1, q2, q3, q4⟩ := own_at hduo.r1 k hlt3
                  have hxo : all[k] = x := by rw [List.getElem?_eq_getElem hkl] at hy; injection hy
                  have hws := wantL_succ (b := base) (m := mine) (t := theirs) hkl
                  have htk : all.take (k + 1) = all.take k ++ [all[k]] := List.take_succ_eq_append_getElem hkl
                  have hmem : all[k] ∈ all := List.getElem_mem hkl
                  rw [hxo] at hws htk hmem
                  obtain ⟨bE, hbE⟩ : ∃ r, atL base x = r := ⟨_, rfl⟩
                  obtain ⟨mE, hmE⟩ : ∃ r, atL mine x = r := ⟨_, rfl⟩
                  obtain ⟨tE, htE⟩ : ∃ r, atL theirs x = r := ⟨_, rfl⟩
                  have hcl : clashE base mine theirs x = clashR bE mE tE := by unfold clashE; rw [hbE, hmE, htE]
                  obtain ⟨wE, hwE⟩ : ∃ r, wantR bE mE tE = r := ⟨_, rfl⟩
                  have hwe : wantE base mine theirs x = wE := by unfold wantE; rw [hbE, hmE, htE, hwE]
                  rw [hwe] at hws
                  have hnc2 : clashR bE mE tE = false → ∀ e ∈ all.take (k + 1), clashE base mine theirs e = false := fun h e he => by
                    rw [htk] at he
                    rcases List.mem_append.1 he with h1 | h1
                    · exact hnc e h1
                    · simp at h1; rw [h1, hcl]; exact h
                  have hbad : clashR bE mE tE = true → refM base mine theirs = ([], false) := fun h => by
                    unfold refM
                    rw [if_pos ⟨x, by rw [HALL.out]; exact hmem, by rw [hcl]; exact h⟩]
                  have cb := fun W (h : Below wb.heap.size wb W) => KT.out _ j c0 base x H0.out (by omega) W (HA0.out.below h)
                  have cm := fun W (h : Below wb.heap.size wb W) => KT.out _ n1 c1 mine x H1.out (by omega) W (HA1.out.below h)
                  have ct := fun W (h : Below wb.heap.size wb W) => KT.out _ i c2 theirs x H2.out (by omega) W (HA2.out.below h)
                  rw [hbE] at cb
                  rw [hmE] at cm
                  rw [htE] at ct
                  obtain ⟨xw, xl, xr, xe, xg⟩ := x
                  unfold av at cb cm ct
                  dsimp only at cb cm ct q0 q1 q2 q3 q4
                  dsimp only [Ac.put] at hws
                  have CB := Lib.hid cb
                  have CM := Lib.hid cm
                  have CT := Lib.hid ct
                  have HWS := Lib.hid hws
                  have HNC := Lib.hid hnc2
                  have HBAD := Lib.hid hbad
                  have HWE := Lib.hid hwE
                  have HD := Lib.hid hduo
                  have j0 : (0 : Int) ≤ (k : Int) := by omega
                  have j1 : (k : Int) < (m' : Int) := by omega
                  clear hy hxo hws htk hmem hbE hmE htE hcl hwE hwe hnc hnc2 hbad cb cm ct hduo hv HD0
                  go_upto_region 20 with fail
                  go_cut [12] (fun s12 wx => ∃ ge, s12 = .pointer (some ⟨ge, 0, none⟩) ∧ EBox ge ⟨xw, xl, xr, xe, xg⟩ wb (some ⟨g', 0, none⟩) m' c' all A9 m9 c9 (wantL base mine theirs (all.take k)) wx)
                  case first =>
                    go_wp2
                    go_meet
                    exact ⟨wr.heap.size, rfl, alloc_box, frozen_of_row _ wr.heap.size 2 _ _ (heap_alloc_new wr (.cells #[.int .i64 xw, .bool xl, .int .i64 xr, .int .i64 xe, .bool xg] 31)), HD.out.bel.size, own_ne2 HD.out.r1 (Nat.le_refl _), own_ne2 HD.out.r2 (Nat.le_refl _), HD.out.step ((Below.refl _ wr).alloc (Nat.le_refl _) _)⟩
                  case rest =>
                    obtain ⟨ge, rfl, hE⟩ := hcut
                    have HE := Lib.hid hE
                    clear hE HD q0 q1 q2 q3 q4
                    go_upto_region 21 with fail
                    go_cut [13, 14, 15] (fun s13 s14 s15 wx => s13 = .int .i64 bE ∧ s14 = .int .i64 mE ∧ s15 = .int .i64 tE ∧ EBox ge ⟨xw, xl, xr, xe, xg⟩ wb (some ⟨g', 0, none⟩) m' c' all A9 m9 c9 (wantL base mine theirs (all.take k)) wx)
                    case first =>
                      refine wp_region_held_drew (S := (fun W' => W'.cell? ⟨ge, 0, none⟩ = some (.int .i64 xw) ∧ W'.cell? ⟨ge, 1, none⟩ = some (.bool xl) ∧ W'.cell? ⟨ge, 2, none⟩ = some (.int .i64 xr) ∧ W'.cell? ⟨ge, 3, none⟩ = some (.int .i64 xe) ∧ W'.cell? ⟨ge, 4, none⟩ = some (.bool xg))) (by kernel_rfl) (by exact (HE.out.step (Below.refl _ _).drew).1) (fun hHeld => ?_)
                      refine wpAnyH_take (i := 0) (oi := { dst := some 85, op := Op.move (Operand.tmp 0), type := 22, pos := "ref.go:174", after := #[], guard := none }) (v := ?_) rfl (by kernel_rfl) (by kernel_rfl) (by kernel_rfl) (fun _ _ _ h => h) (Or.inl ⟨by rfl, ?_⟩) (by assumption) ?_
                      rotate_left
                      · ((intro w' hSw); (try dsimp only at hSw); go_simp; all_goals (with_reducible rfl))
                      simp only [Act.put, List.setIfInBounds_toArray, List.set_cons_zero, List.set_cons_succ]
                      refine wpAnyH_take (i := 1) (oi := { dst := some 86, op := Op.load 31 (Operand.tmp 12), type := 31, pos := "ref.go:174", after := #[], guard := none }) (v := ?_) rfl (by kernel_rfl) (by kernel_rfl) (by kernel_rfl) (fun _ _ _ h => h) (Or.inl ⟨by rfl, ?_⟩) (by assumption) ?_
                      rotate_left
                      · ((intro w' hSw); (try dsimp only at hSw); go_simp; all_goals (with_reducible rfl))
                      simp only [Act.put, List.setIfInBounds_toArray, List.set_cons_zero, List.set_cons_succ]
                      refine wpAnyH_take (i := 3) (oi := { dst := some 88, op := Op.move (Operand.tmp 1), type := 22, pos := "ref.go:174", after := #[], guard := none }) (v := ?_) rfl (by kernel_rfl) (by kernel_rfl) (by kernel_rfl) (fun _ _ _ h => h) (Or.inl ⟨by rfl, ?_⟩) (by assumption) ?_
                      rotate_left
                      · ((intro w' hSw); (try dsimp only at hSw); go_simp; all_goals (with_reducible rfl))
                      simp only [Act.put, List.setIfInBounds_toArray, List.set_cons_zero, List.set_cons_succ]
                      refine wpAnyH_take (i := 4) (oi := { dst := some 89, op := Op.load 31 (Operand.tmp 12), type := 31, pos := "ref.go:174", after := #[], guard := none }) (v := ?_) rfl (by kernel_rfl) (by kernel_rfl) (by kernel_rfl) (fun _ _ _ h => h) (Or.inl ⟨by rfl, ?_⟩) (by assumption) ?_
                      rotate_left
                      · ((intro w' hSw); (try dsimp only at hSw); go_simp; all_goals (with_reducible rfl))
                      simp only [Act.put, List.setIfInBounds_toArray, List.set_cons_zero, List.set_cons_succ]
                      refine wpAnyH_take (i := 6) (oi := { dst := some 91, op := Op.move (Operand.tmp 2), type := 22, pos := "ref.go:174", after := #[], guard := none }) (v := ?_) rfl (by kernel_rfl) (by kernel_rfl) (by kernel_rfl) (fun _ _ _ h => h) (Or.inl ⟨by rfl, ?_⟩) (by assumption) ?_
                      rotate_left
                      · ((intro w' hSw); (try dsimp only at hSw); go_simp; all_goals (with_reducible rfl))
                      simp only [Act.put, List.setIfInBounds_toArray, List.set_cons_zero, List.set_cons_succ]
                      refine wpAnyH_take (i := 7) (oi := { dst := some 92, op := Op.load 31 (Operand.tmp 12), type := 31, pos := "ref.go:174", after := #[], guard := none }) (v := ?_) rfl (by kernel_rfl) (by kernel_rfl) (by kernel_rfl) (fun _ _ _ h => h) (Or.inl ⟨by rfl, ?_⟩) (by assumption) ?_
                      rotate_left
                      · ((intro w' hSw); (try dsimp only at hSw); go_simp; all_goals (with_reducible rfl))
                      simp only [Act.put, List.setIfInBounds_toArray, List.set_cons_zero, List.set_cons_succ]
                      refine wpAnyH_ready (rs := [2]) (by kernel_rfl) (by simp) ?_
                      refine AllReadyH.cons rfl (fun K hK => ?_) AllReadyH.nil
                      go_simp
                      go_wp2_with (go_at_call 31; (with_reducible refine (CB.out _ (HE.out.step (Below.refl _ _).drew).bel).mono ?_); rintro y w5 ⟨rfl, hb⟩; have HE5 := Lib.hid ((HE.out.step (Below.refl _ _).drew).step hb); clear hb)
                      refine hK.out _ _ ?_ (fun hHeld => ?_)
                      · exact HE5.out.1
                      clear hK K
                      refine wpAnyH_ready (rs := [5]) (by kernel_rfl) (by simp) ?_
                      refine AllReadyH.cons rfl (fun K hK => ?_) AllReadyH.nil
                      go_simp
                      go_wp2_with (go_at_call 31; (with_reducible refine (CM.out _ HE5.out.bel).mono ?_); rintro y w6 ⟨rfl, hb⟩; have HE6 := Lib.hid (HE5.out.step hb); clear hb)
                      refine hK.out _ _ ?_ (fun hHeld => ?_)
                      · exact HE6.out.1
                      clear hK K
                      refine wpAnyH_ready (rs := [8]) (by kernel_rfl) (by simp) ?_
                      refine AllReadyH.cons rfl (fun K hK => ?_) AllReadyH.nil
                      go_simp
                      go_wp2_with (go_at_call 31; (with_reducible refine (CT.out _ HE6.out.bel).mono ?_); rintro y w7 ⟨rfl, hb⟩; have HE7 := Lib.hid (HE6.out.step hb); clear hb)
                      refine hK.out _ _ ?_ (fun hHeld => ?_)
                      · exact HE7.out.1
                      clear hK K
                      refine wpAnyH_take (i := 9) (oi := { dst := some 13, op := Op.assign (Operand.tmp 87), type := 3, pos := "ref.go:174", after := #[{ on := 2, ground := Ground.data }, { on := 8, ground := Ground.chain }, { on := 0, ground := Ground.phase }, { on := 1, ground := Ground.phase }, { on := 2, ground := Ground.phase }, { on := 3, ground := Ground.textOnly Departure.lateStores }, { on := 4, ground := Ground.textOnly Departure.lateStores }, { on := 5, ground := Ground.textOnly Departure.lateStoresUnsure }, { on := 6, ground := Ground.textOnly Departure.lateStores }, { on := 7, ground := Ground.textOnly Departure.lateStores }, { on := 8, ground := Ground.textOnly Departure.lateStoresUnsure }], guard := none }) (v := ?_) rfl (by kernel_rfl) (by kernel_rfl) (by kernel_rfl) (fun _ _ _ h => h) (Or.inl ⟨by rfl, ?_⟩) (by assumption) ?_
                      rotate_left
                      · ((intro w' hSw); (try dsimp only at hSw); go_simp; all_goals (with_reducible rfl))
                      simp only [Act.put, List.setIfInBounds_toArray, List.set_cons_zero, List.set_cons_succ]
                      refine wpAnyH_take (i := 10) (oi := { dst := some 14, op := Op.assign (Operand.tmp 90), type := 3, pos := "ref.go:174", after := #[{ on := 5, ground := Ground.data }, { on := 9, ground := Ground.chain }, { on := 0, ground := Ground.phase }, { on := 1, ground := Ground.phase }, { on := 2, ground := Ground.phase }, { on := 3, ground := Ground.phase }, { on := 4, ground := Ground.phase }, { on := 5, ground := Ground.phase }, { on := 6, ground := Ground.textOnly Departure.lateStores }, { on := 7, ground := Ground.textOnly Departure.lateStores }, { on := 8, ground := Ground.textOnly Departure.lateStoresUnsure }, { on := 9, ground := Ground.phase }], guard := none }) (v := ?_) rfl (by kernel_rfl) (by kernel_rfl) (by kernel_rfl) (fun _ _ _ h => h) (Or.inl ⟨by rfl, ?_⟩) (by assumption) ?_
                      rotate_left
                      · ((intro w' hSw); (try dsimp only at hSw); go_simp; all_goals (with_reducible rfl))
                      simp only [Act.put, List.setIfInBounds_toArray, List.set_cons_zero, List.set_cons_succ]
                      refine wpAnyH_take (i := 11) (oi := { dst := some 15, op := Op.assign (Operand.tmp 93), type := 3, pos := "ref.go:174", after := #[{ on := 8, ground := Ground.data }, { on := 10, ground := Ground.chain }, { on := 0, ground := Ground.phase }, { on := 1, ground := Ground.phase }, { on := 2, ground := Ground.phase }, { on := 3, ground := Ground.phase }, { on := 4, ground := Ground.phase }, { on := 5, ground := Ground.phase }, { on := 6, ground := Ground.phase }, { on := 7, ground := Ground.phase }, { on := 8, ground := Ground.phase }, { on := 9, ground := Ground.phase }, { on := 10, ground := Ground.phase }], guard := none }) (v := ?_) rfl (by kernel_rfl) (by kernel_rfl) (by kernel_rfl) (fun _ _ _ h => h) (Or.inl ⟨by rfl, ?_⟩) (by assumption) ?_
                      rotate_left
                      · ((intro w' hSw); (try dsimp only at hSw); go_simp; all_goals (with_reducible rfl))
                      simp only [Act.put, List.setIfInBounds_toArray, List.set_cons_zero, List.set_cons_succ]
                      refine wpAnyH_done (by kernel_rfl) ?_ _
                      all_goals (go_wp2_with fail; go_meet)
                      all_goals exact ⟨rfl, rfl, rfl, HE7.out⟩
                    case rest =>
                      obtain ⟨rfl, rfl, rfl, hE⟩ := hcut
                      have HE8 := Lib.hid hE
                      clear hE HE CB CM CT
                      go_upto_region 22 with fail
                      go_cut [106] (fun s106 wx => s106 = .bool (clashR bE mE tE) ∧ EBox ge ⟨xw, xl, xr, xe, xg⟩ wb (some ⟨g', 0, none⟩) m' c' all A9 m9 c9 (wantL base mine theirs (all.take k)) wx)
                      case first =>
                        obtain ⟨p1, hp1⟩ : ∃ v, (mE != bE) = v := ⟨_, rfl⟩
                        obtain ⟨p2, hp2⟩ : ∃ v, (tE != bE) = v := ⟨_, rfl⟩
                        obtain ⟨p3, hp3⟩ : ∃ v, (mE != tE) = v := ⟨_, rfl⟩
                        have HC := Lib.hid (clashR_bools hp1 hp2 hp3)
                        cases p1
                        · go_wp2
                          go_meet
                          exact ⟨by rw [HC.out]; rfl, HE8.out⟩
                        · cases p2
                          · go_wp2
                            go_meet
                            exact ⟨by rw [HC.out]; rfl, HE8.out⟩
                          · cases p3
                            all_goals (go_wp2; go_meet; exact ⟨by rw [HC.out]; rfl, HE8.out⟩)
                      case rest =>
                        obtain ⟨rfl, hE⟩ := hcut
                        have HE9 := Lib.hid hE
                        clear hE HE8
                        obtain ⟨v, hv⟩ : ∃ v, clashR bE mE tE = v := ⟨_, rfl⟩
                        have hnc := HNC.out
                        have hbad := HBAD.out
                        rw [hv] at hnc hbad ⊢
                        cases v
                        · have HNC2 := Lib.hid (hnc rfl)
                          clear hnc hbad hv HNC HBAD
                          obtain ⟨⟨k0, k1, k2, k3, k4⟩, fz, _⟩ := HE9.out
                          dsimp only at k0 k1 k2 k3 k4
                          go_upto_if 112 with fail
                          go_cut [10] (fun s10 wx => s10 = .slice A9 m9 c9 ∧ EBox ge ⟨xw, xl, wE, xe, xg⟩ wb (some ⟨g', 0, none⟩) m' c' all A9 m9 c9 (wantL base mine theirs (all.take k)) wx)
                          case first =>
                            by_cases hmb : mE = bE
                            · have HW := Lib.hid (show tE = wE by rw [← HWE.out]; unfold wantR; rw [if_pos hmb])
                              have bm : (mE == bE) = true := by simp [hmb]
                              clear hmb
                              go_wp2
                              go_meet
                              exact ⟨rfl, by rw [← HW.out]; exact (HE9.out.put mE).put tE⟩
                            · have HW := Lib.hid (show mE = wE by rw [← HWE.out]; unfold wantR; rw [if_neg hmb])
                              have bm : (mE == bE) = false := by simp [hmb]
                              clear hmb
                              go_wp2
                              go_meet
                              exact ⟨rfl, by rw [← HW.out]; exact HE9.out.put mE⟩
                          case rest =>
                            obtain ⟨rfl, hE⟩ := hcut
                            have HF := Lib.hid hE
                            clear hE HE9 k0 k1 k2 k3 k4 fz
                            have hsz := HF.out.bel.size
                            obtain ⟨k0, k1, k2, k3, k4⟩ := HF.out.1
                            dsimp only at k0 k1 k2 k3 k4
                            by_cases h0 : wE = 0
                            · have HP2 := Lib.hid (show wantL base mine theirs (all.take (k + 1)) = wantL base mine theirs (all.take k) by rw [HWS.out, if_pos h0])
                              have br : (wE != 0) = false := by simp [h0]
                              clear h0
                              go_wp2
                              go_roundw
                              case rel => exact ⟨k + 1, A9, m9, c9, by omega, by go_num, rfl, by omega, HNC2.out, by rw [HP2.out]; exact HF.out.duo⟩
                              case measure => simp [intOf]; omega
                            · have HP2 := Lib.hid (show wantL base mine theirs (all.take (k + 1)) = wantL base mine theirs (all.take k) ++ [⟨xw, xl, wE, xe, xg⟩] by rw [HWS.out, if_neg h0])
                              have br : (wE != 0) = true := by simp [h0]
                              clear h0
                              go_wp2_with (at_builtin; refine wpList_append_own_at _ rfl _ _ 22 rfl wb.heap.size 31 i0 _ 5 40 Try.underlying22 hi hz0 hz1 hz2 rfl (by decide) _ _ _ rfl (HF.out.duo.r2.alloc _) ⟨wc.heap.size, 0, none⟩ 1 1 (enc ⟨xw, xl, wE, xe, xg⟩) rfl rfl (cells_new wc _ _) (enc_one _) (by unfold maxLen; omega) (by omega) (by simp; omega) ?_; intro v' w9 hown' hgrow _ hloc; obtain ⟨g5, cap5, rfl⟩ := ownsRow_succ hown')
                              go_roundw
                              case rel => exact ⟨k + 1, some ⟨g5, 0, none⟩, m9 + 1, cap5, by omega, by go_num, rfl, by omega, HNC2.out, Duo.grow2 (HF.out.duo.step ((Below.refl _ wc).alloc (Nat.le_refl _) _)) (by rw [HP2.out, encs_append, encs_one]; exact hown') hgrow (Nat.le_refl _) hloc⟩
                              case measure => simp [intOf]; omega
                        · have HR := Lib.hid (hbad rfl)
                          obtain ⟨⟨u0, h0⟩, ⟨u1, h1⟩, f0, f1, hlt⟩ := HRES.out.step HE9.out.bel
                          have BW := Lib.hid (HBB.out.trans (HE9.out.bel.mono HBB.out.size))
                          clear hnc hbad hv HNC HBAD
                          go_wp2
                          have hbl := (BW.out.setCell (p := ⟨w.heap.size, 0, none⟩) (Nat.le_refl _) (.slice none 0 0)).setCell (p := ⟨w.heap.size, 1, none⟩) (Nat.le_refl _) (.bool false)
                          exact bodyPost_ret (v := .agg #[.slice none 0 0, .bool false]) (by simp [results, Try.results28, go_sem, h0, h1]) rfl (by rw [HR.out]; exact ⟨none, 0, 0, rfl, Aces.nil _ _, rfl, hbl⟩)
                · obtain rfl : k = m' := by omega
                  have hfull : all.take k = all := List.take_of_length_le (by rw [HNA.out]; exact Nat.le_refl _)
                  rw [hfull] at hduo hnc
                  obtain ⟨out, hout⟩ : ∃ o, wantL base mine theirs all = o := ⟨_, rfl⟩
                  rw [hout] at hduo
                  have HRM := Lib.hid (show refM base mine theirs = if 16 < (ownL out false ++ ownL out true).length then ([], false) else (ownL out false ++ ownL out true, true) by
                    unfold refM
                    rw [if_neg (by rintro ⟨e, he, hc⟩; rw [HALL.out] at he; rw [hnc e he] at hc; cases hc), HALL.out, hout])
                  have hol := own_len hduo.r2
                  have HF := Lib.hid (fun W (h : Aces W A9 out) => rown_any A9 m9 c9 out hol (by omega) false W h)
                  have HT := Lib.hid (fun W (h : Aces W A9 out) => rown_any A9 m9 c9 out hol (by omega) true W h)
                  have l1 := ownL_len out false
                  have l2 := ownL_len out true
                  rw [hol] at l1 l2
                  have HD := Lib.hid hduo
                  have HRW := Lib.hid (HRES.out.step hduo.bel)
                  have BW := Lib.hid (HBB.out.trans (hduo.bel.mono HBB.out.size))
                  have hbr := HRW.out.2.2.2.2
                  clear hfull hout hnc hduo hol HD0
                  go_upto_region 30 with (first
                    | (at_builtin; refine wpList_append_two rfl _ _ rfl wr.heap.size rfl HR1'.out rfl (Aces.of_own HR2.out) hm2 (own_none HR2.out) (by omega) hs2 ?_; intro A5 c5 w7 hown' hgrow; have HB7 := Lib.hid (HB2.out.grown hgrow hs2 (fun j hj => (HR1'.out.lt j hj).1)))
                    | (go_at_call 30; first
                      | ((with_reducible refine (HF.out _ (Aces.of_own HD.out.r2)).mono ?_); rintro y w5 ⟨A1', m1', c1', rfl, hr1, hb1⟩; have HR1 := Lib.hid hr1; have hm1 := own_len hr1; have HD5 := Lib.hid (HD.out.step hb1); have HB1 := Lib.hid hb1; clear hr1 hb1)
                      | ((with_reducible refine (HT.out _ (Aces.of_own HD5.out.r2)).mono ?_); rintro y w6 ⟨A2', m2', c2', rfl, hr2, hb2⟩; have HR2 := Lib.hid hr2; have hm2 := own_len hr2; have HR1' := Lib.hid (own_keep HR1.out hb2); have HB2 := Lib.hid (HB1.out.trans (hb2.mono HB1.out.size)); have hs2 := HB2.out.size; clear hr2 hb2)))
                  have HO := Lib.hid hown'
                  have HLEN := Lib.hid (own_len hown')
                  obtain ⟨⟨u0, h0⟩, ⟨u1, h1⟩, f0, f1, hlt⟩ := HRW.out.step HB7.out
                  have BW7 := Lib.hid (BW.out.trans (HB7.out.mono BW.out.size))
                  clear hown' hgrow hm1 hm2
                  by_cases h16 : 16 < m1' + m2'
                  · have HR := Lib.hid (show refM base mine theirs = ([], false) by rw [HRM.out, if_pos (by rw [HLEN.out]; exact h16)])
                    have b16 : decide (16 < (m1' : Int) + (m2' : Int)) = true := by simp; omega
                    clear h16
                    go_wp2
                    have hbl := (BW7.out.setCell (p := ⟨w.heap.size, 0, none⟩) (Nat.le_refl _) (.slice none 0 0)).setCell (p := ⟨w.heap.size, 1, none⟩) (Nat.le_refl _) (.bool false)
                    exact bodyPost_ret (v := .agg #[.slice none 0 0, .bool false]) (by simp [results, Try.results28, go_sem, h0, h1]) rfl (by rw [HR.out]; exact ⟨none, 0, 0, rfl, Aces.nil _ _, rfl, hbl⟩)
                  · have HR := Lib.hid (show refM base mine theirs = (ownL out false ++ ownL out true, true) by rw [HRM.out, if_neg (by rw [HLEN.out]; exact h16)])
                    have b16 : decide (16 < (m1' : Int) + (m2' : Int)) = false := by simp; omega
                    clear h16
                    go_wp2
                    have hbl := (BW7.out.setCell (p := ⟨w.heap.size, 0, none⟩) (Nat.le_refl _) (.slice A5 (m1' + m2') c5)).setCell (p := ⟨w.heap.size, 1, none⟩) (Nat.le_refl _) (.bool true)
                    exact bodyPost_ret (v := .agg #[.slice A5 (m1' + m2') c5, .bool true]) (by simp [results, Try.results28, go_sem, h0, h1]) rfl (by rw [HR.out]; exact ⟨A5, m1' + m2', c5, rfl, Aces.of_own (own_set (own_set HO.out (p := ⟨w.heap.size, 0, none⟩) hbr _) (p := ⟨w.heap.size, 1, none⟩) hbr _), HLEN.out, hbl⟩)
end Go.Proofs.Ytkpedfigaofloaa
