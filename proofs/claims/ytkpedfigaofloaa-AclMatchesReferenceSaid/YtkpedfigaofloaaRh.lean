/-
  Walk of the reference's Put.
-/
import Derived.Test.YtkpedfigaofloaaRg
import Derived.Test.YtkpedfigaofloaaPq
namespace Go.Proofs.Ytkpedfigaofloaa
open Go.RowKit Ap
set_option maxHeartbeats 400000

/-- The entry that is tried for being right. -/
def oneR (e : Ac) : Ac := if e.rights = 0 then e.put 1 else e
theorem right_oneR (e : Ac) : right (oneR e) = inR e := by
  unfold oneR
  by_cases h : e.rights = 0
  · rw [if_pos h]
    show right ⟨e.who, e.allow, 1, e.reach, e.given⟩ = inR e
    unfold right inR
    rw [h]
    rfl
  · rw [if_neg h]
    have h3 : decide (1 ≤ e.rights) = decide (0 ≤ e.rights) := by
      rw [Bool.eq_iff_iff]; simp only [decide_eq_true_eq]; omega
    unfold right inR
    rw [h3]
/-- The first k entries have got their rights. -/
def midL (own : List Ac) (e : Ac) (k : Nat) : List Ac := (own.take k).map (setR e) ++ own.drop k
theorem midL_zero (own : List Ac) (e : Ac) : midL own e 0 = own := by simp [midL]
theorem midL_get {own : List Ac} {e : Ac} {k : Nat} (hk : k < own.length) : (midL own e k)[k]? = some own[k] := by
  unfold midL
  rw [List.getElem?_append_right (by simp; omega)]
  simp [Nat.min_eq_left (Nat.le_of_lt hk), hk]
theorem midL_set {own : List Ac} {e : Ac} {k : Nat} (hk : k < own.length) : midL own e (k + 1) = (midL own e k).set k (setR e own[k]) := by
  unfold midL
  rw [List.take_succ_eq_append_getElem hk, List.drop_eq_getElem_cons hk, List.map_append, List.append_assoc]
  have hl : ((own.take k).map (setR e)).length = k := by simp; omega
  rw [List.set_append_right _ _ (by omega), hl, Nat.sub_self, List.set_cons_zero]
  simp
theorem midL_same {own : List Ac} {e : Ac} {k : Nat} (hk : k < own.length) (h : setR e own[k] = own[k]) : midL own e (k + 1) = midL own e k := by
  unfold midL
  rw [List.take_succ_eq_append_getElem hk, List.drop_eq_getElem_cons hk, List.map_append, List.append_assoc]
  simp [h]
theorem putF_succ {own : List Ac} {e : Ac} {k : Nat} (hk : k < own.length) : putF e (own.take (k + 1)) = if (setR e own[k]).rights = 0 then putF e (own.take k) else putF e (own.take k) ++ [setR e own[k]] := by
  rw [List.take_succ_eq_append_getElem hk, putF_append]
  unfold putF keepR
  by_cases h : (setR e own[k]).rights = 0 <;> simp [h]
/-- Two rows of the call's own, beside each other. -/
def Duo (wb : World) (A7 : Option Addr) (m7 c7 : Nat) (own : List Ac) (A8 : Option Addr) (m8 c8 : Nat) (out : List Ac) (W : World) : Prop :=
  W.ownsRow wb.heap.size 31 5 (.slice A7 m7 c7) m7 (encs own) ∧ W.ownsRow wb.heap.size 31 5 (.slice A8 m8 c8) m8 (encs out) ∧ Apart (.slice A7 m7 c7) (.slice A8 m8 c8) ∧ Below wb.heap.size wb W
theorem Duo.step {wb : World} {A7 : Option Addr} {m7 c7 : Nat} {own : List Ac} {A8 : Option Addr} {m8 c8 : Nat} {out : List Ac} {W W' : World} (h : Duo wb A7 m7 c7 own A8 m8 c8 out W) (hb : Below W.heap.size W W') : Duo wb A7 m7 c7 own A8 m8 c8 out W' :=
  ⟨own_keep h.1 hb, own_keep h.2.1 hb, h.2.2.1, h.2.2.2.trans (hb.mono h.2.2.2.size)⟩
theorem Duo.bel {wb : World} {A7 : Option Addr} {m7 c7 : Nat} {own : List Ac} {A8 : Option Addr} {m8 c8 : Nat} {out : List Ac} {W : World} (h : Duo wb A7 m7 c7 own A8 m8 c8 out W) : Below wb.heap.size wb W := h.2.2.2
theorem Duo.cells {wb : World} {g m7 c7 : Nat} {own : List Ac} {A8 : Option Addr} {m8 c8 : Nat} {out : List Ac} {W : World} (h : Duo wb (some ⟨g, 0, none⟩) m7 c7 own A8 m8 c8 out W) {j : Nat} {y : Ac} (hy : own[j]? = some y) (hj : j < m7) :
    True ∧ W.cell? ⟨g, j * 5, none⟩ = some (.int .i64 y.who) ∧ W.cell? ⟨g, j * 5 + 1, none⟩ = some (.bool y.allow) ∧ W.cell? ⟨g, j * 5 + 2, none⟩ = some (.int .i64 y.rights) ∧ W.cell? ⟨g, j * 5 + 3, none⟩ = some (.int .i64 y.reach) ∧ W.cell? ⟨g, j * 5 + 4, none⟩ = some (.bool y.given) := by
  obtain ⟨y', hy', h0⟩ := own_at h.1 j hj
  rw [hy] at hy'
  injection hy' with hy'
  subst hy'
  exact ⟨trivial, h0⟩
theorem Duo.r1 {wb : World} {A7 : Option Addr} {m7 c7 : Nat} {own : List Ac} {A8 : Option Addr} {m8 c8 : Nat} {out : List Ac} {W : World} (h : Duo wb A7 m7 c7 own A8 m8 c8 out W) : W.ownsRow wb.heap.size 31 5 (.slice A7 m7 c7) m7 (encs own) := h.1
theorem Duo.r2 {wb : World} {A7 : Option Addr} {m7 c7 : Nat} {own : List Ac} {A8 : Option Addr} {m8 c8 : Nat} {out : List Ac} {W : World} (h : Duo wb A7 m7 c7 own A8 m8 c8 out W) : W.ownsRow wb.heap.size 31 5 (.slice A8 m8 c8) m8 (encs out) := h.2.1
/-- Behind an append to the first row, or to the second. -/
theorem Duo.grow1 {wb W W' : World} {A7 : Option Addr} {m7 c7 : Nat} {own : List Ac} {A8 : Option Addr} {m8 c8 : Nat} {out : List Ac} (h : Duo wb A7 m7 c7 own A8 m8 c8 out W) {A : Option Addr} {m c b : Nat} {own' : List Ac} (ho : W'.ownsRow wb.heap.size 31 5 (.slice A m c) m (encs own')) (hg : W.grownBy W' (Value.slice A7 m7 c7).ownBlock) (hb : W.heap.size ≤ b) (hloc : (Value.slice A m c).ownBlock = (Value.slice A7 m7 c7).ownBlock ∨ (Value.slice A m c).ownBlock = some b) : Duo wb A m c own' A8 m8 c8 out W' :=
  ⟨ho, h.2.1.kept hg h.2.2.1.symm.kept, (Apart.moved h.2.2.1.symm h.2.1 hb hloc).symm, h.2.2.2.grown hg h.2.2.2.size (fun j hj => (h.1.lt j hj).1)⟩
theorem Duo.grow2 {wb W W' : World} {A7 : Option Addr} {m7 c7 : Nat} {own : List Ac} {A8 : Option Addr} {m8 c8 : Nat} {out : List Ac} (h : Duo wb A7 m7 c7 own A8 m8 c8 out W) {A : Option Addr} {m c b : Nat} {out' : List Ac} (ho : W'.ownsRow wb.heap.size 31 5 (.slice A m c) m (encs out')) (hg : W.grownBy W' (Value.slice A8 m8 c8).ownBlock) (hb : W.heap.size ≤ b) (hloc : (Value.slice A m c).ownBlock = (Value.slice A8 m8 c8).ownBlock ∨ (Value.slice A m c).ownBlock = some b) : Duo wb A7 m7 c7 own A m c out' W' :=
  ⟨h.1.kept hg h.2.2.1.kept, ho, Apart.moved h.2.2.1 h.1 hb hloc, h.2.2.2.grown hg h.2.2.2.size (fun j hj => (h.2.1.lt j hj).1)⟩
theorem own_other {w : World} {base : Nat} {e : TypeId} {s : Nat} {v : Value} {n : Nat} {xs : List Value} (h : w.ownsRow base e s v n xs) {p : Addr} (hp : v.ownBlock ≠ some p.block) (u : Value) : (w.setCell p u).ownsRow base e s v n xs := by
  obtain ⟨h1, h2⟩ := h
  refine ⟨h1, ?_⟩
  rcases h2 with h2 | ⟨g, cap, cur, hv, hg, hc, hr⟩
  · exact .inl h2
  · refine .inr ⟨g, cap, cur, hv, hg, ?_, hr⟩
    show (w.heap.modify p.block _)[g]? = _
    rw [Array.getElem?_modify, if_neg (fun hpg => hp (by rw [hv, hpg]; rfl))]
    exact hc
/-- What stands before the own entries are taken. -/
def PreP (be bx : Nat) (e x : Ac) (w W : World) : Prop := Mk be e W ∧ Mk bx x W ∧ Below w.heap.size w W
theorem PreP.step {be bx : Nat} {e x : Ac} {w W W' : World} (h : PreP be bx e x w W) (hb : Below W.heap.size W W') : PreP be bx e x w W' := ⟨h.1.step hb, h.2.1.step hb, h.2.2.trans (hb.mono h.2.2.size)⟩
theorem PreP.bel {be bx : Nat} {e x : Ac} {w W : World} (h : PreP be bx e x w W) : Below w.heap.size w W := h.2.2
theorem preP_new {e x : Ac} {w : World} {t : TypeId} : PreP w.heap.size (w.heap.size + 1) e x w ((w.alloc (.cells #[.int .i64 e.who, .bool e.allow, .int .i64 e.rights, .int .i64 e.reach, .bool e.given] t)).alloc (.cells #[.int .i64 x.who, .bool x.allow, .int .i64 x.rights, .int .i64 x.reach, .bool x.given] t)) := by
  have n1 := heap_alloc_new w (.cells #[.int .i64 e.who, .bool e.allow, .int .i64 e.rights, .int .i64 e.reach, .bool e.given] t)
  have n2 := heap_alloc_new (w.alloc (.cells #[.int .i64 e.who, .bool e.allow, .int .i64 e.rights, .int .i64 e.reach, .bool e.given] t)) (.cells #[.int .i64 x.who, .bool x.allow, .int .i64 x.rights, .int .i64 x.reach, .bool x.given] t)
  have s1 : (w.alloc (.cells #[.int .i64 e.who, .bool e.allow, .int .i64 e.rights, .int .i64 e.reach, .bool e.given] t)).heap.size = w.heap.size + 1 := by simp
  rw [s1] at n2
  have k := fun i => cell_of_row _ (w.heap.size + 1) i _ t (0, 0) n2
  exact ⟨⟨alloc_keep (cell_of_row _ w.heap.size 0 _ t (0, 0) n1), alloc_keep (cell_of_row _ w.heap.size 1 _ t (0, 0) n1), alloc_keep (cell_of_row _ w.heap.size 2 _ t (0, 0) n1), alloc_keep (cell_of_row _ w.heap.size 3 _ t (0, 0) n1), alloc_keep (cell_of_row _ w.heap.size 4 _ t (0, 0) n1)⟩, ⟨k 0, k 1, k 2, k 3, k 4⟩, ((Below.refl _ w).alloc (Nat.le_refl _) _).alloc (by simp) _⟩

set_option maxHeartbeats 4000000 in
theorem rput_any (A : Option Addr) (n c : Nat) (l : List Ac) (e : Ac) (hn : l.length = n) (hl : n ≤ 1000) (w : World) (hA : Aces w A l) :
    Calls Try.prog 26 #[.slice A n c, av e] w fun x w' => ∃ A' m c', x = .returned (.tuple #[.slice A' m c', .int .i64 (putL l e).2]) ∧ w'.ownsRow w.heap.size 31 5 (.slice A' m c') m (encs (putL l e).1) ∧ Below w.heap.size w w' := by
  obtain ⟨i0, hi, hz0, hz1, hz2⟩ := info_parts info_ace
  rw [← refPut_eq]
  have HV := Lib.hid (fun W (hb : Below w.heap.size w W) => rvalid_any A n c l hn hl W (hA.below hb))
  have HO := Lib.hid (fun W (hb : Below w.heap.size w W) (g : Bool) => rown_any A n c l hn hl g W (hA.below hb))
  obtain ⟨x, hx⟩ : ∃ x, oneR e = x := ⟨_, rfl⟩
  have hxr := right_oneR e
  rw [hx] at hxr
  have CR := Lib.hid (fun W => right_any x W)
  have CT := Lib.hid (fun (A : Option Addr) (n c : Nat) (l : List Ac) (h1 : l.length = n) (h2 : n ≤ 1000) W (h : Aces W A l) => at_any A n c l e h1 h2 W h)
  have CM := Lib.hid (fun (y : Ac) W => marked_any y e W)
  have HX := Lib.hid hx
  have HXR := Lib.hid hxr
  have HN := Lib.hid hn
  clear hx hxr hn hA
  obtain ⟨ew, el, er, ee, eg⟩ := e
  obtain ⟨xw, xl, xr, xe, xg⟩ := x
  have CR' := CR.out
  have CT' := CT.out
  have CM' := CM.out
  unfold av at CR' CT' CM' ⊢
  dsimp only at CR' CT' ⊢
  have KR := Lib.hid CR'
  have KT := Lib.hid CT'
  have KM := Lib.hid CM'
  clear CR CT CM CR' CT' CM'
  go_enter Try.func26, Try.ntmps26
  go_upto_if 13 with fail
  go_cut [3, 4, 6] (fun s3 s4 s6 wx => ∃ be bx, s3 = .pointer (some ⟨be, 0, none⟩) ∧ s4 = .slice none 0 0 ∧ s6 = .pointer (some ⟨bx, 0, none⟩) ∧ PreP be bx ⟨ew, el, er, ee, eg⟩ ⟨xw, xl, xr, xe, xg⟩ w wx)
  case first =>
    by_cases h0 : er = 0
    · subst h0
      have hx1 := HX.out
      unfold oneR Ac.put at hx1
      rw [if_pos rfl] at hx1
      injection hx1 with q0 q1 q2 q3 q4
      subst q0 q1 q2 q3 q4
      go_wp2
      go_meet
      exact ⟨_, _, rfl, rfl, rfl, preP_new⟩
    · have hx1 := HX.out
      unfold oneR at hx1
      rw [if_neg h0] at hx1
      injection hx1 with q0 q1 q2 q3 q4
      subst q0 q1 q2 q3 q4
      have b0 : (er == 0) = false := by simp [h0]
      go_wp2
      go_meet
      exact ⟨_, _, rfl, rfl, rfl, preP_new⟩
  case rest =>
    obtain ⟨be, bx, rfl, rfl, rfl, hpre⟩ := hcut
    have HP := Lib.hid hpre
    clear hpre HX
    obtain ⟨⟨m0, m1, m2, m3, m4⟩, ⟨z0, z1, z2, z3, z4⟩, _⟩ := HP.out
    dsimp only at m0 m1 m2 m3 m4 z0 z1 z2 z3 z4
    go_upto_region 4 with fail
    go_cut [26] (fun s26 wx => s26 = .bool (putBad l ⟨ew, el, er, ee, eg⟩) ∧ PreP be bx ⟨ew, el, er, ee, eg⟩ ⟨xw, xl, xr, xe, xg⟩ w wx)
    case first =>
      obtain ⟨v, hv⟩ : ∃ v, validB l = v := ⟨_, rfl⟩
      obtain ⟨r, hr⟩ : ∃ r, inR ⟨ew, el, er, ee, eg⟩ = r := ⟨_, rfl⟩
      have hpb : putBad l ⟨ew, el, er, ee, eg⟩ = (!v || eg || !r) := by unfold putBad; rw [hv, hr]
      have hvv := HV.out
      rw [hv] at hvv
      have hrr := KR.out
      rw [HXR.out, hr] at hrr
      have HVV := Lib.hid hvv
      have HRR := Lib.hid hrr
      have HPB := Lib.hid hpb
      clear hvv hrr hpb hv hr HV KR HXR
      cases v
      · go_wp2_with (go_at_call 14; (with_reducible refine (HVV.out _ HP.out.bel).mono ?_); rintro y w2 ⟨rfl, hb2⟩)
        go_meet
        exact ⟨by rw [HPB.out]; rfl, HP.out.step hb2⟩
      · cases eg
        · cases r
          all_goals
            go_wp2_with (first | (go_at_call 14; (with_reducible refine (HVV.out _ HP.out.bel).mono ?_); rintro y w2 ⟨rfl, hb2⟩; have HP2 := Lib.hid (HP.out.step hb2); clear hb2; obtain ⟨⟨m0, m1, m2, m3, m4⟩, ⟨z0, z1, z2, z3, z4⟩, _⟩ := HP2.out; dsimp only at m0 m1 m2 m3 m4 z0 z1 z2 z3 z4) | (go_at_call 35; (with_reducible refine (HRR.out _).mono ?_); rintro y w3 ⟨rfl, hb3⟩))
            go_meet
            exact ⟨by rw [HPB.out]; rfl, HP2.out.step hb3⟩
        · go_wp2_with (go_at_call 14; (with_reducible refine (HVV.out _ HP.out.bel).mono ?_); rintro y w2 ⟨rfl, hb2⟩; have HP2 := Lib.hid (HP.out.step hb2); clear hb2; obtain ⟨⟨m0, m1, m2, m3, m4⟩, ⟨z0, z1, z2, z3, z4⟩, _⟩ := HP2.out; dsimp only at m0 m1 m2 m3 m4 z0 z1 z2 z3 z4)
          go_meet
          exact ⟨by rw [HPB.out]; rfl, HP2.out⟩
    case rest =>
      obtain ⟨rfl, hpre⟩ := hcut
      have HP := Lib.hid hpre
      clear hpre m0 m1 m2 m3 m4 z0 z1 z2 z3 z4 HV KR HXR
      obtain ⟨wb, hwb⟩ : ∃ W, W = wc := ⟨_, rfl⟩
      subst hwb
      cases hbad : putBad l ⟨ew, el, er, ee, eg⟩ with
      | true =>
        have HRP := Lib.hid (show refPut l ⟨ew, el, er, ee, eg⟩ = ([], 20) by unfold refPut; rw [if_pos hbad])
        clear hbad
        go_wp2
        go_ret2
        rw [HRP.out]
        exact ⟨none, 0, 0, rfl, World.ownsRow_nil _ _ _ _, HP.out.bel⟩
      | false =>
        have hvl : validB l = true := by
          unfold putBad at hbad
          simp only [Bool.or_eq_false_iff, Bool.not_eq_false'] at hbad
          exact hbad.1.1
        have hl16 := (valid_good hvl).2
        rw [HN.out] at hl16
        obtain ⟨own, hown⟩ : ∃ o, ownL l false = o := ⟨_, rfl⟩
        obtain ⟨giv, hgiv⟩ : ∃ o, ownL l true = o := ⟨_, rfl⟩
        obtain ⟨own1, hown1⟩ : ∃ o, (if atL own ⟨ew, el, er, ee, eg⟩ = 0 then own ++ [⟨ew, el, er, ee, eg⟩] else own) = o := ⟨_, rfl⟩
        have HRP := Lib.hid (show refPut l ⟨ew, el, er, ee, eg⟩ = if 16 < (putF ⟨ew, el, er, ee, eg⟩ own1 ++ giv).length then ([], 2) else (putF ⟨ew, el, er, ee, eg⟩ own1 ++ giv, 0) by unfold refPut; rw [if_neg (by rw [hbad]; simp), hown, hgiv]; dsimp only; rw [hown1])
        have lown : own.length ≤ 16 := by have := ownL_len l false; rw [hown, HN.out] at this; omega
        have lgiv : giv.length ≤ 16 := by have := ownL_len l true; rw [hgiv, HN.out] at this; omega
        have LOWN := Lib.hid lown
        have LGIV := Lib.hid lgiv
        have hf := fun W hb => HO.out W hb false
        rw [hown] at hf
        have ht := fun W hb => HO.out W hb true
        rw [hgiv] at ht
        have HF := Lib.hid hf
        have HT := Lib.hid ht
        have HO1 := Lib.hid hown1
        clear hbad hvl hown hgiv hown1 lown lgiv hf ht HO hl16
        go_upto_region 6 with fail
        go_cut [7, 8] (fun s7 s8 wx => ∃ (A7 : Option Addr) (m7 c7 : Nat) (A8 : Option Addr) (c8 : Nat), s7 = .slice A7 m7 c7 ∧ s8 = .slice A8 0 c8 ∧ Duo wb A7 m7 c7 own A8 0 c8 [] wx)
        case first =>
          go_wp2_with (go_at_call 30; (with_reducible refine (HF.out _ HP.out.bel).mono ?_); rintro y w2 ⟨A7, m7, c7, rfl, hr7, hb2⟩; have HR7 := Lib.hid hr7; have HB2 := Lib.hid hb2; clear hr7 hb2)
          go_meet
          exact ⟨A7, m7, c7, some ⟨w2.heap.size, 0, none⟩, 0, rfl, rfl, HR7.out.alloc _, own_mono (own_empty _ _ _) HB2.out.size, fun k hk e => by have := (HR7.out.lt k hk).2; injection e with e; simp at e; omega, HB2.out.alloc HB2.out.size _⟩
        case rest =>
          obtain ⟨A7, m7, c7, A8, c8, rfl, rfl, hduo⟩ := hcut
          have HDU := Lib.hid hduo
          have hm7 : m7 ≤ 16 := by have := own_len hduo.1; have := LOWN.out; omega
          obtain ⟨r, hr⟩ : ∃ r, atL own ⟨ew, el, er, ee, eg⟩ = r := ⟨_, rfl⟩
          have ca := fun W (h : Aces W A7 own) => KT.out A7 m7 c7 own (own_len hduo.1) (by omega) W h
          rw [hr] at ca
          have ho1 := HO1.out
          rw [hr] at ho1
          have CA := Lib.hid ca
          have HO2 := Lib.hid ho1
          clear HF ca ho1 HO1 hr hduo
          obtain ⟨m0, m1, m2, m3, m4⟩ := HP.out.1.step HDU.out.bel
          dsimp only at m0 m1 m2 m3 m4
          go_upto_if 33 with (go_at_call 31; (with_reducible refine (CA.out _ (Aces.of_own HDU.out.r1)).mono ?_); rintro y w3 ⟨rfl, hb3⟩; have HD3 := Lib.hid (HDU.out.step hb3); clear hb3)
          go_cut [7] (fun s7 wx => ∃ (A : Option Addr) (m c : Nat), s7 = .slice A m c ∧ m ≤ 17 ∧ Duo wb A m c own1 A8 0 c8 [] wx)
          case first =>
            clear m0 m1 m2 m3 m4
            obtain ⟨m0, m1, m2, m3, m4⟩ := HP.out.1.step HD3.out.bel
            dsimp only at m0 m1 m2 m3 m4
            have hs3 := HD3.out.bel.size
            by_cases h0 : r = 0
            · have HO3 := Lib.hid (show own1 = own ++ [⟨ew, el, er, ee, eg⟩] by rw [← HO2.out, if_pos h0])
              have br : (r == 0) = true := by simp [h0]
              clear h0
              go_wp2_with (at_builtin; refine wpList_append_own_at _ rfl _ _ 22 rfl wb.heap.size 31 i0 _ 5 40 Try.underlying22 hi hz0 hz1 hz2 rfl (by decide) _ _ _ rfl (HD3.out.r1.alloc _) ⟨w3.heap.size, 0, none⟩ 1 1 (enc ⟨ew, el, er, ee, eg⟩) rfl rfl (cells_new w3 _ _) (enc_one _) (by unfold maxLen; omega) (by omega) (by simp; omega) ?_; intro v' w9 hown' hgrow _ hloc; obtain ⟨g', cap', rfl⟩ := ownsRow_succ hown')
              go_meet
              exact ⟨_, _, cap', rfl, by omega, Duo.grow1 (HD3.out.step ((Below.refl _ w3).alloc (Nat.le_refl _) _)) (by rw [HO3.out, encs_append, encs_one]; exact hown') hgrow (Nat.le_refl _) hloc⟩
            · have HO3 := Lib.hid (show own1 = own by rw [← HO2.out, if_neg h0])
              have br : (r == 0) = false := by simp [h0]
              clear h0
              go_wp2
              go_meet
              exact ⟨A7, m7, c7, rfl, by omega, by rw [HO3.out]; exact HD3.out⟩
          case rest =>
            clear HDU hm7 CA HO2 m0 m1 m2 m3 m4 HD3
            obtain ⟨A7', m7', c7', rfl, hm17, hduo⟩ := hcut
            have HML := Lib.hid (own_len hduo.1)
            have HDU := Lib.hid hduo
            clear hduo
            go_wp2
            go_loopw [8, 9] (fun s8 s9 wz => ∃ (i : Nat) (A8 : Option Addr) (m8 c8 : Nat), i ≤ m7' ∧ s9 = .int .i64 i ∧ s8 = .slice A8 m8 c8 ∧ m8 ≤ i ∧ Duo wb A7' m7' c7' (midL own1 ⟨ew, el, er, ee, eg⟩ i) A8 m8 c8 (putF ⟨ew, el, er, ee, eg⟩ (own1.take i)) wz) (fun _ s9 _ => m7' - (intOf s9).toNat)
            case atStart => exact ⟨0, A8, 0, c8, Nat.zero_le _, rfl, rfl, Nat.le_refl _, by rw [midL_zero]; exact HDU.out⟩
            case round =>
              obtain ⟨i, A9, m9, c9, hi9, rfl, rfl, hm9, hduo⟩ := hrel
              by_cases hlt : i < m7'
              · have hil : i < own1.length := by rw [HML.out]; exact hlt
                obtain ⟨g', cap', hv, hg1, hg2⟩ := hduo.1.form (by omega)
                obtain ⟨rfl, rfl⟩ : A7' = some ⟨g', 0, none⟩ ∧ c7' = cap' := by injection hv with h1 h2 h3; exact ⟨h1, h3⟩
                obtain ⟨y, hy, c0, c1, c2, c3, c4⟩ := own_at hduo.1 i hlt
                have hyo : own1[i] = y := by rw [midL_get hil] at hy; injection hy
                have hset := midL_set (e := ⟨ew, el, er, ee, eg⟩) hil
                have hsame := midL_same (e := ⟨ew, el, er, ee, eg⟩) hil
                have hput := putF_succ (e := ⟨ew, el, er, ee, eg⟩) hil
                rw [hyo] at hset hsame hput
                have cM := fun W => KM.out y W
                obtain ⟨mv, hmv⟩ : ∃ v, marked y ⟨ew, el, er, ee, eg⟩ = v := ⟨_, rfl⟩
                have hsr : setR ⟨ew, el, er, ee, eg⟩ y = if mv = true then y.put er else y := by unfold setR; rw [hmv]
                obtain ⟨z, hz⟩ : ∃ z, setR ⟨ew, el, er, ee, eg⟩ y = z := ⟨_, rfl⟩
                rw [hmv] at cM
                rw [hz] at hset hsame hput hsr
                have HY := Lib.hid hy
                have HSET := Lib.hid hset
                have HSAME := Lib.hid hsame
                have HPUT := Lib.hid hput
                have HSR := Lib.hid hsr
                have HD := Lib.hid hduo
                have HNX := Lib.hid (show (midL own1 ⟨ew, el, er, ee, eg⟩ (i + 1))[i]? = some z by rw [hset, List.getElem?_set_self (by have := own_len hduo.1; omega)])
                obtain ⟨m0, m1, m2, m3, m4⟩ := HP.out.1.step hduo.bel
                obtain ⟨yw, yl, yr, ye, yg⟩ := y
                dsimp only at cM c0 c1 c2 c3 c4 m0 m1 m2 m3 m4
                have CM := Lib.hid cM
                have j0 : (0 : Int) ≤ (i : Int) := by omega
                have j1 : (i : Int) < (m7' : Int) := by omega
                clear hy hyo hset hsame hput hsr hz hmv cM hduo hv
                go_upto_region 12 with fail
                first | (go_region_held (fun W' => W'.cell? ⟨g', i * 5, none⟩ = some (.int .i64 yw) ∧ W'.cell? ⟨g', i * 5 + 1, none⟩ = some (.bool yl) ∧ W'.cell? ⟨g', i * 5 + 2, none⟩ = some (.int .i64 yr) ∧ W'.cell? ⟨g', i * 5 + 3, none⟩ = some (.int .i64 ye) ∧ W'.cell? ⟨g', i * 5 + 4, none⟩ = some (.bool yg) ∧ W'.cell? ⟨be, 0, none⟩ = some (.int .i64 ew) ∧ W'.cell? ⟨be, 1, none⟩ = some (.bool el) ∧ W'.cell? ⟨be, 2, none⟩ = some (.int .i64 er) ∧ W'.cell? ⟨be, 3, none⟩ = some (.int .i64 ee) ∧ W'.cell? ⟨be, 4, none⟩ = some (.bool eg))
                  (exact ⟨c0, c1, c2, c3, c4, m0, m1, m2, m3, m4⟩)
                  (first | (go_at_call 32; (with_reducible refine (CM.out _).mono ?_); rintro q w4 ⟨rfl, hb4⟩; have HD4 := Lib.hid (HD.out.step (Below.trans (Below.refl _ wr).drew hb4)); clear hb4; obtain ⟨_, c0, c1, c2, c3, c4⟩ := HD4.out.cells HY.out hlt; obtain ⟨m0, m1, m2, m3, m4⟩ := HP.out.1.step HD4.out.bel; dsimp only at c0 c1 c2 c3 c4 m0 m1 m2 m3 m4))) | fail
                clear HD
                go_upto_if 49 with fail
                go_cut [8] (fun s8 wx => s8 = .slice A9 m9 c9 ∧ Duo wb (some ⟨g', 0, none⟩) m7' c7' (midL own1 ⟨ew, el, er, ee, eg⟩ (i + 1)) A9 m9 c9 (putF ⟨ew, el, er, ee, eg⟩ (own1.take i)) wx)
                case first =>
                  cases mv
                  · have HZ := Lib.hid (show z = ⟨yw, yl, yr, ye, yg⟩ by rw [HSR.out, if_neg (by simp)])
                    go_wp2
                    go_meet
                    exact ⟨rfl, by rw [HSAME.out HZ.out]; exact HD4.out⟩
                  · have HZ := Lib.hid (show z = (⟨yw, yl, yr, ye, yg⟩ : Ac).put er by rw [HSR.out, if_pos rfl])
                    have hfz := HD4.out.r1.frozenAt (i * 5 + 2)
                    go_wp2
                    go_meet
                    refine ⟨rfl, ?_, own_other HD4.out.r2 (p := ⟨g', i * 5 + 2, none⟩) (HD4.out.2.2.1 g' rfl) _, HD4.out.2.2.1, HD4.out.bel.setCell (p := ⟨g', i * 5 + 2, none⟩) hg1 _⟩
                    have h := HD4.out.r1.stored (i * 5 + 2) (.int .i64 er)
                    rw [encs_set _ i _ _ HY.out] at h
                    rw [HSET.out, HZ.out]
                    exact h.1
                case rest =>
                  obtain ⟨rfl, hduo⟩ := hcut
                  clear HD4 HY HSET HSAME HSR CM c0 c1 c2 c3 c4 m0 m1 m2 m3 m4
                  have HD := Lib.hid hduo
                  have hsz := hduo.bel.size
                  obtain ⟨_, c0, c1, c2, c3, c4⟩ := hduo.cells HNX.out hlt
                  obtain ⟨zw, zl, zr, ze, zg⟩ := z
                  dsimp only at c0 c1 c2 c3 c4
                  clear hduo
                  by_cases h0 : zr = 0
                  · have HP2 := Lib.hid (show putF ⟨ew, el, er, ee, eg⟩ (own1.take (i + 1)) = putF ⟨ew, el, er, ee, eg⟩ (own1.take i) by rw [HPUT.out, if_pos h0])
                    have br : (zr != 0) = false := by simp [h0]
                    clear h0
                    go_wp2
                    go_roundw
                    case rel => exact ⟨i + 1, A9, m9, c9, by omega, by go_num, rfl, by omega, by rw [HP2.out]; exact HD.out⟩
                    case measure => simp [intOf]; omega
                  · have HP2 := Lib.hid (show putF ⟨ew, el, er, ee, eg⟩ (own1.take (i + 1)) = putF ⟨ew, el, er, ee, eg⟩ (own1.take i) ++ [⟨zw, zl, zr, ze, zg⟩] by rw [HPUT.out, if_neg h0])
                    have br : (zr != 0) = true := by simp [h0]
                    clear h0
                    go_wp2_with (at_builtin; refine wpList_append_own_at _ rfl _ _ 22 rfl wb.heap.size 31 i0 _ 5 40 Try.underlying22 hi hz0 hz1 hz2 rfl (by decide) _ _ _ rfl (HD.out.r2.alloc _) ⟨wc.heap.size, 0, none⟩ 1 1 (enc ⟨zw, zl, zr, ze, zg⟩) rfl rfl (cells_new wc _ _) (enc_one _) (by unfold maxLen; omega) (by omega) (by simp; omega) ?_; intro v' w9 hown' hgrow _ hloc; obtain ⟨g5, cap5, rfl⟩ := ownsRow_succ hown')
                    go_roundw
                    case rel => exact ⟨i + 1, some ⟨g5, 0, none⟩, m9 + 1, cap5, by omega, by go_num, rfl, by omega, Duo.grow2 (HD.out.step ((Below.refl _ wc).alloc (Nat.le_refl _) _)) (by rw [HP2.out, encs_append, encs_one]; exact hown') hgrow (Nat.le_refl _) hloc⟩
                    case measure => simp [intOf]; omega
              · obtain rfl : i = m7' := by omega
                have hfull : own1.take i = own1 := List.take_of_length_le (by rw [HML.out]; exact Nat.le_refl _)
                rw [hfull] at hduo
                have HD := Lib.hid hduo
                have HL9 := Lib.hid (own_len hduo.2.1)
                have BW := Lib.hid (HP.out.bel.trans (hduo.bel.mono HP.out.bel.size))
                clear hfull hduo
                have lg := LGIV.out
                go_upto_region 17 with (first | (go_at_call 30; (with_reducible refine (HT.out _ BW.out).mono ?_); rintro y w5 ⟨A5, m5, c5, rfl, hr5, hb5⟩; have HR5 := Lib.hid hr5; have hm5 : m5 ≤ 16 := (by have := own_len hr5; omega); have HD5 := Lib.hid (HD.out.step hb5); have hs5 := HD5.out.bel.size; clear hr5 hb5) | (at_builtin; refine wpList_append_two rfl _ _ rfl wb.heap.size rfl HD5.out.r2 rfl (Aces.of_own HR5.out) (own_len HR5.out) (own_none HR5.out) (by omega) hs5 ?_; intro A' c' w9 hown' hgrow))
                have HR9 := Lib.hid hown'
                have HB9 := Lib.hid (HP.out.bel.trans ((HD5.out.bel.grown hgrow hs5 (fun j hj => (HD5.out.r2.lt j hj).1)).mono HP.out.bel.size))
                have hlen := own_len hown'
                have HLEN := Lib.hid hlen
                clear hown' hgrow hlen
                by_cases h16 : 16 < m9 + m5
                · have HR := Lib.hid (show refPut l ⟨ew, el, er, ee, eg⟩ = ([], 2) by rw [HRP.out, if_pos (by rw [HLEN.out]; exact h16)])
                  have b16 : decide (16 < (m9 : Int) + (m5 : Int)) = true := by simp; omega
                  clear h16
                  go_wp2
                  go_ret2
                  rw [HR.out]
                  exact ⟨none, 0, 0, rfl, World.ownsRow_nil _ _ _ _, HB9.out⟩
                · have HR := Lib.hid (show refPut l ⟨ew, el, er, ee, eg⟩ = (putF ⟨ew, el, er, ee, eg⟩ own1 ++ giv, 0) by rw [HRP.out, if_neg (by rw [HLEN.out]; exact h16)])
                  have b16 : decide (16 < (m9 : Int) + (m5 : Int)) = false := by simp; omega
                  clear h16
                  go_wp2
                  go_ret2
                  rw [HR.out]
                  exact ⟨A', m9 + m5, c', rfl, own_mono HR9.out HP.out.bel.size, HB9.out⟩
end Go.Proofs.Ytkpedfigaofloaa
