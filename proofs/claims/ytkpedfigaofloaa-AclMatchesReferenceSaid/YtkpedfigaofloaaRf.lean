/-
  Walk of the reference's Child.
-/
import Derived.Test.YtkpedfigaofloaaRe
namespace Go.Proofs.Ytkpedfigaofloaa
open Go.RowKit Ap
set_option maxHeartbeats 400000

def jn (e a : Ac) : Ac := if a.mk0 = e.mk0 then a.join e else a
/-- The first k entries are joined with e where they bear its mark. -/
def jnL (out : List Ac) (e : Ac) (k : Nat) : List Ac := (out.take k).map (jn e) ++ out.drop k
theorem jnL_zero (out : List Ac) (e : Ac) : jnL out e 0 = out := by simp [jnL]
theorem jnL_len {out : List Ac} {e : Ac} {k : Nat} (hk : k ≤ out.length) : (jnL out e k).length = out.length := by simp [jnL]; omega
theorem jnL_get {out : List Ac} {e : Ac} {k : Nat} (hk : k < out.length) : (jnL out e k)[k]? = some out[k] := by
  unfold jnL
  rw [List.getElem?_append_right (by simp; omega)]
  simp [Nat.min_eq_left (Nat.le_of_lt hk), hk]
theorem jnL_other {out : List Ac} {e : Ac} {k : Nat} (hk : k < out.length) (h : out[k].mk0 ≠ e.mk0) : jnL out e (k + 1) = jnL out e k := by
  unfold jnL
  rw [List.take_succ_eq_append_getElem hk, List.drop_eq_getElem_cons hk, List.map_append, List.append_assoc]
  simp [jn, h]
theorem jnL_set {out : List Ac} {e : Ac} {k : Nat} (hk : k < out.length) (h : out[k].mk0 = e.mk0) : jnL out e (k + 1) = (jnL out e k).set k (out[k].join e) := by
  unfold jnL
  rw [List.take_succ_eq_append_getElem hk, List.drop_eq_getElem_cons hk, List.map_append, List.append_assoc]
  have hl : ((out.take k).map (jn e)).length = k := by simp; omega
  rw [List.set_append_right _ _ (by omega), hl, Nat.sub_self, List.set_cons_zero]
  simp [jn, h]
theorem addC_jn {out : List Ac} {e : Ac} {f : Bool} (hf : f = decide (e.mk0 ∈ out.map Ac.mk0)) : addC out e = if f = true then jnL out e out.length else jnL out e out.length ++ [e] := by
  have hj : jnL out e out.length = out.map (jn e) := by simp [jnL]
  rw [hj]
  unfold addC
  by_cases h : e.mk0 ∈ out.map Ac.mk0
  · rw [if_pos h, if_pos (by rw [hf]; simpa using h)]; rfl
  · rw [if_neg h, if_neg (by rw [hf]; simpa using h)]
    congr 1
    conv => lhs; rw [← List.map_id out]
    refine List.map_congr_left fun a ha => ?_
    unfold jn
    rw [if_neg]
    · rfl
    · exact fun he => h (List.mem_map.2 ⟨a, ha, he⟩)
theorem found_succ {out : List Ac} {e : Ac} {k : Nat} (hk : k < out.length) {f : Bool} (hf : f = decide (e.mk0 ∈ (out.take k).map Ac.mk0)) : (f || decide (out[k].mk0 = e.mk0)) = decide (e.mk0 ∈ (out.take (k + 1)).map Ac.mk0) := by
  rw [hf, List.take_succ_eq_append_getElem hk, List.map_append, Bool.eq_iff_iff]
  simp only [Bool.or_eq_true, decide_eq_true_eq, List.mem_append, List.map_cons, List.map_nil, List.mem_singleton]
  constructor
  · rintro (h | h)
    · exact .inl h
    · exact .inr h.symm
  · rintro (h | h)
    · exact .inl h
    · exact .inr h.symm
theorem Mk.far {W : World} {g b i : Nat} {e : Ac} {v : Value} (h : Mk g e W) (hne : b ≠ g) : Mk g e (W.setCell ⟨b, i, none⟩ v) := by
  obtain ⟨h0, h1, h2, h3, h4⟩ := h
  have o : ∀ (t : Nat) (u : Value), W.cell? ⟨g, t, none⟩ = some u → (W.setCell ⟨b, i, none⟩ v).cell? ⟨g, t, none⟩ = some u := fun t u hu => by
    rw [World.cell?_setCell_other _ _ _ _ (fun e => hne (by injection e))]; exact hu
  exact ⟨o _ _ h0, o _ _ h1, o _ _ h2, o _ _ h3, o _ _ h4⟩
/-- What stands while the inner loop runs. -/
def Inn (b ge m : Nat) (A' : Option Addr) (c' : Nat) (out : List Ac) (e : Ac) (w W : World) : Prop := W.ownsRow b 31 5 (.slice A' m c') m (encs out) ∧ Mk ge e W ∧ Below w.heap.size w W

theorem Inn.step {b ge m : Nat} {A' : Option Addr} {c' : Nat} {out : List Ac} {e : Ac} {w W W' : World} (h : Inn b ge m A' c' out e w W) (hb : Below W.heap.size W W') : Inn b ge m A' c' out e w W' :=
  ⟨own_keep h.1 hb, h.2.1.step hb, h.2.2.trans (hb.mono h.2.2.size)⟩
theorem Inn.cells {b ge m g c : Nat} {out : List Ac} {e y : Ac} {w W : World} (h : Inn b ge m (some ⟨g, 0, none⟩) c out e w W) {j : Nat} (hy : out[j]? = some y) (hj : j < m) :
    True ∧ W.cell? ⟨g, j * 5, none⟩ = some (.int .i64 y.who) ∧ W.cell? ⟨g, j * 5 + 1, none⟩ = some (.bool y.allow) ∧ W.cell? ⟨g, j * 5 + 2, none⟩ = some (.int .i64 y.rights) ∧ W.cell? ⟨g, j * 5 + 3, none⟩ = some (.int .i64 y.reach) ∧ W.cell? ⟨g, j * 5 + 4, none⟩ = some (.bool y.given) := by
  obtain ⟨y', hy', h0⟩ := own_at h.1 j hj
  rw [hy] at hy'
  injection hy' with hy'
  subst hy'
  exact ⟨trivial, h0⟩

set_option maxHeartbeats 4000000 in
theorem rchild_any (A : Option Addr) (n c : Nat) (l : List Ac) (hn : l.length = n) (hl : n ≤ 1000) (dir : Bool) (w : World) (hA : Aces w A l) :
    Calls Try.prog 22 #[.slice A n c, .bool dir] w fun e w' => ∃ A' m c', e = .returned (.slice A' m c') ∧ w'.ownsRow w.heap.size 31 5 (.slice A' m c') m (encs (childL l (rcOf dir))) ∧ Below w.heap.size w w' := by
  obtain ⟨i0, hi, hz0, hz1, hz2⟩ := info_parts info_ace
  obtain ⟨rc, hrc⟩ : ∃ rc, rcOf dir = rc := ⟨_, rfl⟩
  have HD := Lib.hid (show (dir = true ∧ rc = 2) ∨ (dir = false ∧ rc = 1) by rw [← hrc]; cases dir <;> simp [rcOf])
  rw [hrc]
  have HN := Lib.hid hn
  have SA := Lib.hid hA
  clear hn hA hrc
  go_enter Try.func22, Try.ntmps22
  go_wp2
  go_loopw [5, 6, 7, 8, 9] (fun s5 s6 _ _ _ wr => ∃ (k m : Nat) (A' : Option Addr) (c' : Nat) (out : List Ac), k ≤ n ∧ s6 = .int .i64 k ∧ s5 = .slice A' m c' ∧ m ≤ k ∧ childL (l.take k) rc = out ∧ wr.ownsRow w.heap.size 31 5 (.slice A' m c') m (encs out) ∧ Below w.heap.size w wr) (fun _ s6 _ _ _ _ => n - (intOf s6).toNat)
  case atStart => exact ⟨0, 0, some ⟨w.heap.size, 0, none⟩, 0, [], Nat.zero_le _, rfl, rfl, Nat.le_refl _, rfl, own_empty _ _ _, by go_grown⟩
  case round =>
    obtain ⟨k, m, A', c', out, hk, rfl, rfl, hm, hout, hown, hbw⟩ := hrel
    have hbs := hbw.size
    by_cases hlt : k < n
    · have hkl : k < l.length := by rw [HN.out]; exact hlt
      obtain ⟨g, o, rfl, hg, hc⟩ := (SA.out.below hbw) (List.ne_nil_of_length_pos (by omega))
      obtain ⟨q0, q1, q2, q3, q4⟩ := hc k l[k] (List.getElem?_eq_getElem hkl)
      have hst : childL (l.take (k + 1)) rc = stepC rc out l[k] := by rw [List.take_succ_eq_append_getElem hkl, childL_snoc, hout]
      obtain ⟨x, hx⟩ : ∃ a, l[k] = a := ⟨_, rfl⟩
      rw [hx] at q0 q1 q2 q3 q4 hst
      obtain ⟨aw, al, ri, re, ag⟩ := x
      dsimp only at q0 q1 q2 q3 q4
      unfold stepC at hst
      dsimp only [toC] at hst
      have HOWN := Lib.hid hown
      have HBW := Lib.hid hbw
      have HML := Lib.hid (own_len hown)
      have k0 : (0 : Int) ≤ (k : Int) := by omega
      have k1 : (k : Int) < (n : Int) := by omega
      clear hc hx hown hout
      by_cases h23 : re = 2 ∨ re = 3
      · rw [if_pos h23] at hst
        have HST := Lib.hid hst
        have H23 := Lib.hid h23
        clear hst h23 hbw
        go_upto_region 6 with fail
        go_cut [28] (fun s28 wx => s28 = .bool false ∧ wx = wr.alloc (.cells #[.int .i64 aw, .bool al, .int .i64 ri, .int .i64 re, .bool ag] 31))
        case first =>
          rcases H23.out with rfl | rfl
          all_goals
            go_wp2
            go_meet
            exact ⟨rfl, rfl⟩
        case rest =>
          obtain ⟨rfl, rfl⟩ := hcut
          go_upto_if 31 with fail
          go_cut [7] (fun s7 wx => ∃ ge, s7 = .pointer (some ⟨ge, 0, none⟩) ∧ (∀ g' o', A' = some ⟨g', o', none⟩ → 0 < m → g' ≠ ge) ∧ Inn w.heap.size ge m A' c' out ⟨aw, al, ri, rc, true⟩ w wx)
          case first =>
            have hfar : ∀ g' o', A' = some ⟨g', o', none⟩ → 0 < m → g' ≠ wr.heap.size := fun g' o' h hm0 => by
              obtain ⟨g2, cap, hv, _, hlt⟩ := HOWN.out.form hm0
              injection hv with h1
              rw [h] at h1
              injection h1 with h1
              injection h1 with h1
              omega
            rcases HD.out with ⟨rfl, rfl⟩ | ⟨rfl, rfl⟩
            all_goals
              go_wp2
              go_meet
              exact ⟨_, rfl, hfar, HOWN.out.alloc _, alloc_box, HBW.out.alloc hbs _⟩
          case rest =>
            obtain ⟨ge, rfl, hfar, hinn⟩ := hcut
            obtain ⟨hown, hmk, hbw⟩ := hinn
            have HFAR := Lib.hid hfar
            clear hfar q0 q1 q2 q3 q4 HOWN HBW hbs
            have HINN := Lib.hid (show Inn w.heap.size ge m A' c' (jnL out ⟨aw, al, ri, rc, true⟩ 0) ⟨aw, al, ri, rc, true⟩ w wc by rw [jnL_zero]; exact ⟨hown, hmk, hbw⟩)
            clear hown hmk hbw
            go_wp2
            go_loopw [8, 9] (fun s8 s9 wz => ∃ (j : Nat) (fnd : Bool), j ≤ m ∧ s9 = .int .i64 j ∧ s8 = .bool fnd ∧ fnd = decide ((⟨aw, al, ri, rc, true⟩ : Ac).mk0 ∈ (out.take j).map Ac.mk0) ∧ Inn w.heap.size ge m A' c' (jnL out ⟨aw, al, ri, rc, true⟩ j) ⟨aw, al, ri, rc, true⟩ w wz) (fun _ s9 _ => m - (intOf s9).toNat)
            case atStart => exact ⟨0, false, Nat.zero_le _, rfl, rfl, by simp, HINN.out⟩
            case round =>
              obtain ⟨j, fnd, hj, rfl, rfl, hf, hown, hmk, hbw⟩ := hrel
              have HF0 := Lib.hid hf
              clear hf HINN
              by_cases hjm : j < m
              · have hjl : j < out.length := by rw [HML.out]; exact hjm
                obtain ⟨g', cap', hv, hg1, hg2⟩ := hown.form (by omega)
                obtain ⟨rfl, rfl⟩ : A' = some ⟨g', 0, none⟩ ∧ c' = cap' := by injection hv with h1 h2 h3; exact ⟨h1, h3⟩
                have hne : g' ≠ ge := HFAR.out g' 0 rfl (by omega)
                obtain ⟨y, hy, c0, c1, c2, c3, c4⟩ := own_at hown j hjm
                have hyo : out[j] = y := by rw [jnL_get hjl] at hy; injection hy
                have cM := fun W => marked_any y ⟨aw, al, ri, rc, true⟩ W
                have hmi := marked_iff y ⟨aw, al, ri, rc, true⟩
                have hfs := found_succ (e := ⟨aw, al, ri, rc, true⟩) hjl HF0.out
                have hoth : y.mk0 ≠ (⟨aw, al, ri, rc, true⟩ : Ac).mk0 → jnL out ⟨aw, al, ri, rc, true⟩ (j + 1) = jnL out ⟨aw, al, ri, rc, true⟩ j := fun h => jnL_other hjl (by rw [hyo]; exact h)
                have hset : y.mk0 = (⟨aw, al, ri, rc, true⟩ : Ac).mk0 → jnL out ⟨aw, al, ri, rc, true⟩ (j + 1) = (jnL out ⟨aw, al, ri, rc, true⟩ j).set j (y.join ⟨aw, al, ri, rc, true⟩) := fun h => by
                  have := jnL_set (e := ⟨aw, al, ri, rc, true⟩) hjl (by rw [hyo]; exact h)
                  rw [hyo] at this
                  exact this
                rw [hyo] at hfs
                obtain ⟨mv, hmv⟩ : ∃ v, marked y ⟨aw, al, ri, rc, true⟩ = v := ⟨_, rfl⟩
                rw [hmv] at cM hmi
                have HY := Lib.hid hy
                have HMI := Lib.hid hmi
                have HFS := Lib.hid hfs
                have HOTH := Lib.hid hoth
                have HSET := Lib.hid hset
                have HIN := Lib.hid (show Inn w.heap.size ge m (some ⟨g', 0, none⟩) c' (jnL out ⟨aw, al, ri, rc, true⟩ j) ⟨aw, al, ri, rc, true⟩ w wr from ⟨hown, hmk, hbw⟩)
                obtain ⟨yw, yl, yr, ye, yg⟩ := y
                unfold av at cM
                dsimp only at cM c0 c1 c2 c3 c4
                have CM := Lib.hid cM
                obtain ⟨m0, m1, m2, m3, m4⟩ := hmk
                dsimp only at m0 m1 m2 m3 m4
                have j0 : (0 : Int) ≤ (j : Int) := by omega
                have j1 : (j : Int) < (m : Int) := by omega
                clear hy hyo hmi hfs hoth hset hmv cM hown hbw hv
                go_upto_region 14 with fail
                first | (go_region_held (fun W' => W'.cell? ⟨g', j * 5, none⟩ = some (.int .i64 yw) ∧ W'.cell? ⟨g', j * 5 + 1, none⟩ = some (.bool yl) ∧ W'.cell? ⟨g', j * 5 + 2, none⟩ = some (.int .i64 yr) ∧ W'.cell? ⟨g', j * 5 + 3, none⟩ = some (.int .i64 ye) ∧ W'.cell? ⟨g', j * 5 + 4, none⟩ = some (.bool yg) ∧ W'.cell? ⟨ge, 0, none⟩ = some (.int .i64 aw) ∧ W'.cell? ⟨ge, 1, none⟩ = some (.bool al) ∧ W'.cell? ⟨ge, 2, none⟩ = some (.int .i64 ri) ∧ W'.cell? ⟨ge, 3, none⟩ = some (.int .i64 rc) ∧ W'.cell? ⟨ge, 4, none⟩ = some (.bool true))
                  (exact ⟨c0, c1, c2, c3, c4, m0, m1, m2, m3, m4⟩)
                  (first | (go_at_call 32; (with_reducible refine (CM.out _).mono ?_); rintro q w4 ⟨rfl, hb4⟩; have HIN4 := Lib.hid (HIN.out.step (Below.trans (Below.refl _ wr).drew hb4)); clear hb4; obtain ⟨_, c0, c1, c2, c3, c4⟩ := HIN4.out.cells HY.out hjm; obtain ⟨m0, m1, m2, m3, m4⟩ := HIN4.out.2.1; dsimp only at c0 c1 c2 c3 c4 m0 m1 m2 m3 m4))) | fail
                cases mv
                · have HNE := Lib.hid (show (⟨yw, yl, yr, ye, yg⟩ : Ac).mk0 ≠ (⟨aw, al, ri, rc, true⟩ : Ac).mk0 by have := HMI.out; simpa using this.symm)
                  go_wp2
                  go_roundw
                  case rel => exact ⟨j + 1, fnd, by omega, by go_num, rfl, by rw [← HFS.out, decide_eq_false HNE.out, Bool.or_false], by rw [HOTH.out HNE.out]; exact HIN4.out⟩
                  case measure => simp [intOf]; omega
                · have HEQ := Lib.hid (show (⟨yw, yl, yr, ye, yg⟩ : Ac).mk0 = (⟨aw, al, ri, rc, true⟩ : Ac).mk0 by have := HMI.out; simpa using this.symm)
                  have hfz := HIN4.out.1.frozenAt (j * 5 + 2)
                  go_upto_region 15 with fail
                  go_region
                  go_wp2
                  go_roundw
                  case rel =>
                    refine ⟨j + 1, true, by omega, by go_num, rfl, by rw [← HFS.out, decide_eq_true HEQ.out, Bool.or_true], ?_, ?_, ?_⟩
                    · have h := HIN4.out.1.stored (j * 5 + 2) (.int .i64 (bits .or .i64 yr ri))
                      rw [encs_set _ j _ _ HY.out] at h
                      rw [HSET.out HEQ.out, show (⟨yw, yl, yr, ye, yg⟩ : Ac).join ⟨aw, al, ri, rc, true⟩ = (⟨yw, yl, yr, ye, yg⟩ : Ac).put (bits .or .i64 yr ri) by rw [bits_or]; rfl]
                      exact h.1.drew
                    · exact Mk.step (HIN4.out.2.1.far hne) (Below.refl _ _).drew
                    · exact (HIN4.out.2.2.setCell (p := ⟨g', j * 5 + 2, none⟩) hg1 _).drew
                  case measure => simp [intOf]; omega
              · obtain rfl : j = m := by omega
                have hj1 : j = out.length := HML.out.symm
                have hadd := addC_jn (out := out) (e := ⟨aw, al, ri, rc, true⟩) (f := fnd) (by rw [HF0.out, List.take_of_length_le (by omega)])
                rw [← hj1] at hadd
                have HADD := Lib.hid hadd
                have HIN := Lib.hid (show Inn w.heap.size ge j A' c' (jnL out ⟨aw, al, ri, rc, true⟩ j) ⟨aw, al, ri, rc, true⟩ w wr from ⟨hown, hmk, hbw⟩)
                obtain ⟨m0, m1, m2, m3, m4⟩ := hmk
                dsimp only at m0 m1 m2 m3 m4
                have hsz := hbw.size
                clear hj1 hadd hown hbw
                cases fnd
                · go_wp2_with (at_builtin; refine wpList_append_own _ rfl _ _ 22 rfl w.heap.size 31 i0 _ 5 40 Try.underlying22 hi hz0 hz1 hz2 rfl (by decide) _ _ _ rfl (HIN.out.1.alloc _) ⟨wr.heap.size, 0, none⟩ 1 1 (enc ⟨aw, al, ri, rc, true⟩) rfl rfl (cells_new wr _ _) (enc_one _) (by unfold maxLen; omega) (by omega) (by simp; omega) ?_; intro v' w5 hown' hgrow _; obtain ⟨g', cap', rfl⟩ := ownsRow_succ hown')
                  go_roundw
                  case rel =>
                    refine ⟨k + 1, j + 1, some ⟨g', 0, none⟩, cap', _, by omega, by go_num, rfl, by omega, HST.out.trans HADD.out, ?_, ?_⟩
                    · rw [if_neg (by simp), encs_append, encs_one]; exact hown'
                    · exact (HIN.out.2.2.alloc hsz _).grown hgrow (by simp; omega) (fun j hj => (HIN.out.1.lt j hj).1)
                  case measure => simp [intOf]; omega
                · go_wp2
                  go_roundw
                  case rel => exact ⟨k + 1, j, A', c', _, by omega, by go_num, rfl, by omega, HST.out.trans HADD.out, by rw [if_pos rfl]; exact HIN.out.1, HIN.out.2.2⟩
                  case measure => simp [intOf]; omega
      · rw [if_neg h23] at hst
        have HST := Lib.hid hst
        have n2 : (re != 2) = true := by simp; omega
        have n3 : (re != 3) = true := by simp; omega
        clear hst h23 hbw
        go_wp2
        go_roundw
        case rel => exact ⟨k + 1, m, A', c', out, by omega, by go_num, rfl, by omega, HST.out, HOWN.out.alloc _, HBW.out.alloc hbs _⟩
        case measure => simp [intOf]; omega
    · obtain rfl : k = n := by omega
      have hfull : l.take k = l := List.take_of_length_le (by rw [HN.out]; exact Nat.le_refl _)
      rw [hfull] at hout
      have HOUT := Lib.hid hout
      have HOWN := Lib.hid hown
      clear hfull hout hown
      go_wp2
      go_ret
      exact ⟨A', m, c', rfl, by rw [HOUT.out]; exact HOWN.out, hbw⟩
end Go.Proofs.Ytkpedfigaofloaa
