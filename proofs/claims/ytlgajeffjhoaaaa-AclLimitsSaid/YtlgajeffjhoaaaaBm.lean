/-
  The walk of the law AclLimits.
-/
import Derived.Test.YtlgajeffjhoaaaaBl
import Derived.Test.YtlgajeffjhoaaaaAw
namespace Go.Proofs.Ytlgajeffjhoaaaa
open Go.RowKit Ap
set_option maxHeartbeats 400000

theorem ace_cells (e : Ac) : (encs [e]).toArray = #[.int .i64 e.who, .bool e.allow, .int .i64 e.rights, .int .i64 e.reach, .bool e.given] := by simp [encs, enc]
/-- The entry's block, kept by what is made behind it. -/
theorem mk_far {B : Nat} {e : Ac} {W W' : World} (h : Mk B e W) (hb : Below (B + 1) W W') : Mk B e W' :=
  ⟨(hb.cell (p := ⟨B, 0, none⟩) (Nat.lt_succ_self B)).trans h.1, (hb.cell (p := ⟨B, 1, none⟩) (Nat.lt_succ_self B)).trans h.2.1, (hb.cell (p := ⟨B, 2, none⟩) (Nat.lt_succ_self B)).trans h.2.2.1, (hb.cell (p := ⟨B, 3, none⟩) (Nat.lt_succ_self B)).trans h.2.2.2.1, (hb.cell (p := ⟨B, 4, none⟩) (Nat.lt_succ_self B)).trans h.2.2.2.2⟩

/-- AN APPEND AT A STEP OF A REGION THAT DRAWS ITS ORDER, guarded. -/
theorem step_append_gs {wc W : World} {H : Nat} {rs : List Rw} (h : Rs wc W H rs) (i : Nat) {ops : Array Oper} {o : Oper} {a : Act} {K : Act → World → Prop} {Q : Exit → Act → World → Prop} {E : Prop} (hw : Region.wanted o (yielded ops a.tmps) = true) (s x : Operand)
    (ho : o.op = .call { callee := .builtin .append, args := #[s, x], argTypes := #[22, 22] }) {A A2 : Option Addr} {n c m c2 k : Nat} {l1 l2 : List Ac} (hs : a.eval s = .slice A n c) (hi : rs[i]? = some ⟨A, n, c, l1⟩)
    (hx : a.eval x = .slice A2 m c2) (hA2 : Aces W A2 l2) (hl2 : l2.length = m) (hn2 : A2 = none → m = 0 ∧ c2 = 0) (hk : n + m = k) (hsz : k ≤ 4000) (d : Nat) (hdst : o.dst = some d)
    (hK : ∀ A' c' w', Rs wc w' w'.heap.size (rs.set i ⟨A', k, c', l1 ++ l2⟩) → K (a.put (some d) (.slice A' k c')) w') :
    if Region.wanted o (yielded ops a.tmps) = true then Oper.wp Try.prog o a W K Q else E := by
  rw [if_pos hw]
  rw [← hdst] at hK
  subst hk
  obtain ⟨i0, hi0, hz0, hz1, hz2⟩ := info_parts info_ace
  have hown := h.row _ (List.mem_of_getElem? hi)
  dsimp only at hown
  have hrun : ∃ A' c' w', (Builtin.append_ #[22, 22] o.type #[.slice A n c, .slice A2 m c2]).run Try.prog W = .ok (.slice A' (n + m) c') w' ∧ w'.ownsRow wc.heap.size 31 5 (.slice A' (n + m) c') (n + m) (encs (l1 ++ l2)) ∧ W.grownBy w' (Value.slice A n c).ownBlock ∧ ((Value.slice A' (n + m) c').ownBlock = (Value.slice A n c).ownBlock ∨ (Value.slice A' (n + m) c').ownBlock = some W.heap.size) := by
    cases A2 with
    | none =>
      obtain ⟨rfl, rfl⟩ := hn2 rfl
      obtain rfl := List.length_eq_zero_iff.1 hl2
      have hr := run_append_owned_none (P := Try.prog) (w := W) wc.heap.size 22 o.type 31 i0 5 Try.underlying22 hi0 (.slice A n c) n (encs l1) hown
      exact ⟨A, c, W, hr, by simpa using hown, World.grownBy.refl _ _, .inl rfl⟩
    | some ad =>
      have hnews : ∀ j u, (encs l2)[j]? = some u → W.cell? (ad.add j) = some u := by
        by_cases hn0 : l2 = []
        · subst hn0; intro j u hu; cases hu
        · obtain ⟨g, o, hAe, _, hc⟩ := hA2 hn0
          obtain rfl : ad = ⟨g, o, none⟩ := by injection hAe
          exact Aces.cells hc
      obtain ⟨v', w', hr, hown', hg, _, hat⟩ := run_append_own_at (P := Try.prog) W wc.heap.size 22 o.type 31 i0 _ 5 40 Try.underlying22 hi0 hz0 hz1 hz2 rfl (by decide) (.slice A n c) n (encs l1) hown ad m c2 (encs l2) (by rw [encs_length, hl2]) hnews (encs_one' l2) (by unfold maxLen; omega) (by omega) h.below.size
      obtain ⟨A', c', rfl⟩ := own_form hown'
      exact ⟨A', c', w', hr, by rw [encs_append]; exact hown', hg, hat⟩
  obtain ⟨A', c', w', hr, hown', hg, hat⟩ := hrun
  unfold Oper.wp execOp
  simp only [ho, resolve, invoke, builtin, Sem.run_bind, Sem.run_pure, Result.andThen_ok, List.map_toArray, List.map_cons, List.map_nil, hs, hx, hr]
  exact hK A' c' w' (rs_append h i hi hown' hg hat)
/-- The same, where what is appended is another of them. -/
theorem step_append_gr {wc W : World} {H : Nat} {rs : List Rw} (h : Rs wc W H rs) (i j : Nat) {ops : Array Oper} {o : Oper} {a : Act} {K : Act → World → Prop} {Q : Exit → Act → World → Prop} {E : Prop} (hw : Region.wanted o (yielded ops a.tmps) = true) (s x : Operand)
    (ho : o.op = .call { callee := .builtin .append, args := #[s, x], argTypes := #[22, 22] }) {A A2 : Option Addr} {n c m c2 k : Nat} {l1 l2 : List Ac} (hs : a.eval s = .slice A n c) (hi : rs[i]? = some ⟨A, n, c, l1⟩)
    (hx : a.eval x = .slice A2 m c2) (hj : rs[j]? = some ⟨A2, m, c2, l2⟩) (hk : n + m = k) (hsz : k ≤ 4000) (d : Nat) (hdst : o.dst = some d)
    (hK : ∀ A' c' w', Rs wc w' w'.heap.size (rs.set i ⟨A', k, c', l1 ++ l2⟩) → K (a.put (some d) (.slice A' k c')) w') :
    if Region.wanted o (yielded ops a.tmps) = true then Oper.wp Try.prog o a W K Q else E := by
  have hown := h.row _ (List.mem_of_getElem? hj)
  dsimp only at hown
  exact step_append_gs h i hw s x ho hs hi hx (Aces.of_own hown) (own_len hown) (own_none hown) hk hsz d hdst hK
/-- The cells that are read: the entry's block, the list's last and first entry. -/
theorem lim_S {B g k j c : Nat} {e : Ac} {W : World} (hM : Mk B e W) (ho : W.ownsRow (B + 1) 31 5 (.slice (some ⟨g, 0, none⟩) k c) k (encs (limL k))) (hj : k = j + 1) :
    (W.cell? ⟨B, 0, none⟩ = some (.int .i64 e.who) ∧ W.cell? ⟨B, 1, none⟩ = some (.bool e.allow) ∧ W.cell? ⟨B, 2, none⟩ = some (.int .i64 e.rights) ∧ W.cell? ⟨B, 3, none⟩ = some (.int .i64 e.reach) ∧ W.cell? ⟨B, 4, none⟩ = some (.bool e.given)) ∧
    (W.cell? ⟨g, j * 5, none⟩ = some (.int .i64 (limE j).who) ∧ W.cell? ⟨g, j * 5 + 1, none⟩ = some (.bool (limE j).allow) ∧ W.cell? ⟨g, j * 5 + 2, none⟩ = some (.int .i64 (limE j).rights) ∧ W.cell? ⟨g, j * 5 + 3, none⟩ = some (.int .i64 (limE j).reach) ∧ W.cell? ⟨g, j * 5 + 4, none⟩ = some (.bool (limE j).given)) ∧
    (W.cell? ⟨g, 0, none⟩ = some (.int .i64 (limE 0).who) ∧ W.cell? ⟨g, 1, none⟩ = some (.bool (limE 0).allow) ∧ W.cell? ⟨g, 2, none⟩ = some (.int .i64 (limE 0).rights) ∧ W.cell? ⟨g, 3, none⟩ = some (.int .i64 (limE 0).reach) ∧ W.cell? ⟨g, 4, none⟩ = some (.bool (limE 0).given)) := by
  obtain ⟨y, hy, hc⟩ := own_at ho j (by omega)
  obtain ⟨z, hz, hd⟩ := own_at ho 0 (by omega)
  rw [limL_get (by omega)] at hy hz
  obtain rfl := Option.some.inj hy
  obtain rfl := Option.some.inj hz
  exact ⟨hM, hc, by simpa using hd⟩

set_option maxRecDepth 20000 in
set_option maxHeartbeats 8000000 in
theorem lawLimits_any (x : UInt8) (e : Ac) (he : e.ok) (w : World) :
    Calls Try.prog 9 #[.int .u8 x.toNat, av e] w fun r w' => r = .returned (.bool true) ∧ Below w.heap.size w w' := by
  obtain ⟨N, hN⟩ : ∃ N : Nat, (x.toNat : Int) % 20 = (N : Int) := ⟨x.toNat % 20, by omega⟩
  have hN20 : N < 20 := by omega
  have x01 := u8_cast x
  obtain ⟨i0, hi, hz0, hz1, hz2⟩ := info_parts info_ace
  obtain ⟨ew, el, er, ee, eg⟩ := e
  have HE := Lib.hid he
  obtain ⟨r, hr⟩ : ∃ r, right ⟨ew, el, er, ee, eg⟩ = r := ⟨_, rfl⟩
  unfold av
  dsimp only
  clear he
  have B0 : Mk w.heap.size ⟨ew, el, er, ee, eg⟩ (w.alloc (.cells #[.int .i64 ew, .bool el, .int .i64 er, .int .i64 ee, .bool eg] 31)) := alloc_box
  have BB0 := (Below.refl w.heap.size w).alloc (Nat.le_refl _) (.cells #[.int .i64 ew, .bool el, .int .i64 er, .int .i64 ee, .bool eg] 31)
  have HB0 := Lib.hid B0
  have HBB0 := Lib.hid BB0
  clear B0 BB0
  go_enter Try.func9, Try.ntmps9
  go_upto_region 3 with (go_at_call 10; refine (sanity_any _).mono ?_; rintro r w1 ⟨rfl, hb1⟩; have HM1 := Lib.hid (HB0.out.step hb1); have HB1 := Lib.hid (HBB0.out.trans (hb1.mono HBB0.out.size)); clear hb1)
  go_wp2
  have hs1 := HB1.out.size
  have hl1 : w.heap.size < w1.heap.size := HM1.out.lt
  go_loopw [6, 7] (fun l i wr => ∃ (k : Nat) (A' : Option Addr) (c' : Nat), k ≤ N ∧ i = .int .i64 k ∧ l = .slice A' k c' ∧ wr.ownsRow (w.heap.size + 1) 31 5 (.slice A' k c') k (encs (limL k)) ∧ Below (w.heap.size + 1) w1 wr) (fun _ i _ => N - (intOf i).toNat)
  case atStart => exact ⟨0, _, _, Nat.zero_le _, rfl, rfl, own_mono (own_empty w1 31 5) hl1, (Below.refl _ w1).alloc hl1 _⟩
  case round =>
    obtain ⟨k, A', c', hk, rfl, rfl, hown, hbw⟩ := hrel
    have hbs := hbw.size
    by_cases hlt : k < N
    · clear hr
      go_wp2_with (at_builtin; refine wpList_append_own _ rfl _ _ 22 rfl (w.heap.size + 1) 31 i0 _ 5 40 Try.underlying22 hi hz0 hz1 hz2 rfl (by decide) _ _ _ rfl (hown.alloc _) ⟨wr.heap.size, 0, none⟩ 1 1 (enc (limE k)) rfl rfl (cells_new wr _ _) (enc_one _) (by unfold maxLen; omega) (by omega) (by simp; omega) ?_; intro v' w2 hown' hgrow _; obtain ⟨g', cap', rfl⟩ := ownsRow_succ hown')
      have hb2 : Below (w.heap.size + 1) w1 w2 := (hbw.alloc (by omega) _).grown hgrow (by simp; omega) (fun j hj => (hown.lt j hj).1)
      go_roundw
      case rel => exact ⟨k + 1, some ⟨g', 0, none⟩, cap', by omega, by go_num, rfl, by rw [limL_succ, encs_append, encs_one]; exact hown', hb2⟩
      case measure => simp [intOf]; omega
    · obtain rfl : k = N := by omega
      have HOWN := Lib.hid hown
      have HM2 := Lib.hid (mk_far HM1.out hbw)
      have HB2 := Lib.hid (HB1.out.trans (hbw.mono (Nat.le_succ _)))
      have NIL := Lib.hid (own_none hown)
      have lv : validB (limL k) = decide (k ≤ 16) := lim_valid ⟨k, hN20⟩
      obtain ⟨b16, hb16⟩ : ∃ b, decide (k ≤ 16) = b := ⟨_, rfl⟩
      rw [hb16] at lv
      have V1 := Lib.hid (fun W (h : Aces W A' (limL k)) => by
        have := valid_any A' k c' (limL k) (limL_len k) (by omega) (limL_ok hN20) W h
        rw [lv] at this; exact this)
      have V2 := Lib.hid (fun (W : World) (b : Nat) (h : Aces W (some ⟨b, 0, none⟩) [⟨ew, el, er, ee, eg⟩]) => by
        have := valid_any (some ⟨b, 0, none⟩) 1 1 [⟨ew, el, er, ee, eg⟩] rfl (by omega) (by simpa using HE.out) W h
        rw [valid_one, hr] at this; exact this)
      have AL : Hid (∀ W : World, Aces (W.alloc (.cells #[.int .i64 ew, .bool el, .int .i64 er, .int .i64 ee, .bool eg] 31)) (some ⟨W.heap.size, 0, none⟩) [⟨ew, el, er, ee, eg⟩]) := Lib.hid (fun W => Aces.lit W [⟨ew, el, er, ee, eg⟩] 31)
      have PQ := lim_put ⟨k, hN20⟩
      dsimp only at PQ
      obtain ⟨q, hq⟩ : ∃ q, (putL (limL k) putE).2 = q := ⟨_, rfl⟩
      rw [hq] at PQ
      have V4 : Hid (∀ W : World, Aces W A' (limL k) → Calls Try.prog 25 #[.slice A' k c', .agg #[.int .i64 1, .bool false, .int .i64 1, .int .i64 1, .bool false]] W fun y w' => ∃ A5 m5 c5, y = .returned (.tuple #[.slice A5 m5 c5, .int .i64 q]) ∧ Below W.heap.size W w') := Lib.hid (fun W h => (put_any A' k c' (limL k) putE (limL_len k) (by omega) (limL_ok hN20) NIL.out W h).mono fun y w' ⟨A5, m5, c5, h1, _, h3⟩ => ⟨A5, m5, c5, by rw [← hq]; exact h1, h3⟩)
      have c16 : decide ((k : Int) ≤ 16) = b16 := by rw [← hb16, decide_eq_decide]; omega
      have HC16 := Lib.hid hb16
      have HPQ := Lib.hid PQ
      clear hown hbw lv hq PQ hb16 hbs hs1 hlt hk
      obtain ⟨m0, m1, m2, m3, m4⟩ := HM2.out
      dsimp only at m0 m1 m2 m3 m4
      go_upto_region 7 with fail
      go_cut [8] (fun s8 wx => s8 = .bool r ∧ wx = wr)
      case first =>
        unfold right at hr
        dsimp only at hr
        cases h1 : decide (-2 ≤ ew)
        · rw [h1] at hr; simp only [Bool.false_and] at hr; subst hr
          go_wp2; go_meet; exact ⟨rfl, rfl⟩
        cases h2 : decide (ew ≤ 999)
        · rw [h1, h2] at hr; simp only [Bool.false_and, Bool.and_false] at hr; subst hr
          go_wp2; go_meet; exact ⟨rfl, rfl⟩
        cases h3 : decide (1 ≤ er)
        · rw [h1, h2, h3] at hr; simp only [Bool.false_and, Bool.and_false] at hr; subst hr
          go_wp2; go_meet; exact ⟨rfl, rfl⟩
        cases h4 : decide (er ≤ 15)
        · rw [h1, h2, h3, h4] at hr; simp only [Bool.false_and, Bool.and_false] at hr; subst hr
          go_wp2; go_meet; exact ⟨rfl, rfl⟩
        cases h5 : decide (1 ≤ ee)
        · rw [h1, h2, h3, h4, h5] at hr; simp only [Bool.false_and, Bool.and_false] at hr; subst hr
          go_wp2; go_meet; exact ⟨rfl, rfl⟩
        cases h6 : decide (ee ≤ 3)
        all_goals
          rw [h1, h2, h3, h4, h5, h6] at hr; simp only [Bool.true_and, Bool.and_false, Bool.and_true] at hr; subst hr
          go_wp2; go_meet; exact ⟨rfl, rfl⟩
      case rest =>
        obtain ⟨rfl, rfl⟩ := hcut
        clear hr m0 m1 m2 m3 m4
        have rr : (r != r) = false := by simp
        have bb : (b16 != b16) = false := by simp
        go_upto_region 8 with fail
        go_cut [95] (fun s95 wx => s95 = .bool false ∧ Aces wx A' (limL k) ∧ Below w.heap.size w wx)
        case first =>
          by_cases h10 : 10 < k
          · have d10 : decide (10 < (k : Int)) = true := by simp; omega
            obtain ⟨g, cap, hv, _, _⟩ := HOWN.out.form (by omega)
            obtain ⟨rfl, rfl⟩ : A' = some ⟨g, 0, none⟩ ∧ c' = cap := by injection hv with h1 h2 h3; exact ⟨h1, h3⟩
            obtain ⟨j, hkj⟩ : ∃ j, k = j + 1 := ⟨k - 1, by omega⟩
            have V3 := Lib.hid (fun (W : World) (A : Option Addr) (c : Nat) (h : Aces W A ([limE j] ++ [limE 0])) => by
              have := valid_any A 2 c ([limE j] ++ [limE 0]) rfl (by omega) (by
                intro a ha
                simp at ha
                rcases ha with rfl | rfl
                · exact limE_ok (by omega)
                · exact limE_ok (by omega)) W h
              rw [show validB ([limE j] ++ [limE 0]) = false by have := lim_two ⟨k, hN20⟩ h10; rw [show k - 1 = j by omega] at this; exact this] at this
              exact this)
            have kj : (k : Int) - 1 = (j : Int) := by omega
            have kw : IntKind.i64.wrap ((k : Int) - 1) = (j : Int) := by rw [IntWalk.i64_in _ (by omega)]; omega
            have kw2 : IntKind.i64.wrap (j : Int) = (j : Int) := IntWalk.i64_in _ (by omega)
            have j0 : (0 : Int) ≤ (j : Int) := by omega
            have jk : (j : Int) < (k : Int) := by omega
            have k0 : (0 : Int) < (k : Int) := by omega
            have HKJ := Lib.hid hkj
            clear hkj
            (first | (go_region_held_law (fun W' => (W'.cell? ⟨w.heap.size, 0, none⟩ = some (.int .i64 ew) ∧ W'.cell? ⟨w.heap.size, 1, none⟩ = some (.bool el) ∧ W'.cell? ⟨w.heap.size, 2, none⟩ = some (.int .i64 er) ∧ W'.cell? ⟨w.heap.size, 3, none⟩ = some (.int .i64 ee) ∧ W'.cell? ⟨w.heap.size, 4, none⟩ = some (.bool eg)) ∧ (W'.cell? ⟨g, j * 5, none⟩ = some (.int .i64 (limE j).who) ∧ W'.cell? ⟨g, j * 5 + 1, none⟩ = some (.bool (limE j).allow) ∧ W'.cell? ⟨g, j * 5 + 2, none⟩ = some (.int .i64 (limE j).rights) ∧ W'.cell? ⟨g, j * 5 + 3, none⟩ = some (.int .i64 (limE j).reach) ∧ W'.cell? ⟨g, j * 5 + 4, none⟩ = some (.bool (limE j).given)) ∧ (W'.cell? ⟨g, 0, none⟩ = some (.int .i64 (limE 0).who) ∧ W'.cell? ⟨g, 1, none⟩ = some (.bool (limE 0).allow) ∧ W'.cell? ⟨g, 2, none⟩ = some (.int .i64 (limE 0).rights) ∧ W'.cell? ⟨g, 3, none⟩ = some (.int .i64 (limE 0).reach) ∧ W'.cell? ⟨g, 4, none⟩ = some (.bool (limE 0).given)))
              (first | exact lim_S HM2.out HOWN.out HKJ.out | exact lim_S HM3.out HO3.out HKJ.out | exact lim_S (HM3.out.step ((Below.refl _ w3).alloc (Nat.le_refl _) _)) (HO3.out.alloc _) HKJ.out | exact lim_S HM4.out HO4.out HKJ.out | exact lim_S (HM4.out.step (rs_one R.out).below) (own_keep HO4.out (rs_one R.out).below) HKJ.out | exact lim_S (HM4.out.step (rs_one (rs_one R.out)).below) (own_keep HO4.out (rs_one (rs_one R.out)).below) HKJ.out | exact lim_S (HM4.out.step R.out.below) (own_keep HO4.out R.out.below) HKJ.out | exact lim_S HM6.out HO6.out HKJ.out)
              (first | (go_at_call 13; first | ((with_reducible refine (V1.out _ (Aces.of_own HOWN.out.drew)).mono ?_); rintro q w3 ⟨rfl, hb3⟩; have HM3 := Lib.hid (HM2.out.step (Below.trans (Below.refl _ wc).drew hb3)); have HO3 := Lib.hid (own_keep HOWN.out.drew hb3); have HB3 := Lib.hid (HB2.out.drew.trans (hb3.mono HB2.out.size)); clear hb3) | ((with_reducible refine (V2.out (w3.alloc (.cells #[.int .i64 ew, .bool el, .int .i64 er, .int .i64 ee, .bool eg] 31)) w3.heap.size (AL.out w3)).mono ?_); rintro q w4 ⟨rfl, hb4⟩; have HM4 := Lib.hid (HM3.out.step (below_new hb4)); have HO4 := Lib.hid (own_keep HO3.out (below_new hb4)); have HB4 := Lib.hid (HB3.out.trans ((below_new hb4).mono HB3.out.size)); have R := Lib.hid (rs_start (W := w4) (Below.refl _ w4) rfl); clear hb4) | ((with_reducible refine (V3.out w5 A5 c5 HA5.out).mono ?_); rintro q w6 ⟨rfl, hb6⟩; have HM6 := Lib.hid ((HM4.out.step R.out.below).step hb6); have HO6 := Lib.hid (own_keep (own_keep HO4.out R.out.below) hb6); have HB6 := Lib.hid (HB4.out.trans ((R.out.below.trans (hb6.mono R.out.below.size)).mono HB4.out.size)); clear hb6)) | (refine step_append_gr (k := 2) (rs_one (rs_one R.out)) 1 0 (by rfl) _ _ (by rfl) (by rfl) (by rfl) (by rfl) (by rfl) (by omega) (by omega) 92 (by rfl) ?_; intro A5 c5 w5 R1; have HA5 : Hid (Aces w5 A5 ([limE j] ++ [limE 0])) := Lib.hid (rs_aces R1 1 rfl); have R := Lib.hid R1; clear R1) | (refine step_append_gr (k := 2) (rs_one (rs_one R.out)) 0 1 (by rfl) _ _ (by rfl) (by rfl) (by rfl) (by rfl) (by rfl) (by omega) (by omega) 92 (by rfl) ?_; intro A5 c5 w5 R1; have HA5 : Hid (Aces w5 A5 ([limE j] ++ [limE 0])) := Lib.hid (rs_aces R1 0 rfl); have R := Lib.hid R1; clear R1))))
            all_goals (go_wp2_with fail; go_meet)
            all_goals exact ⟨rfl, Aces.of_own HO6.out, HB6.out⟩
          · have d10 : decide (10 < (k : Int)) = false := by simp; omega
            refine wp_region_held_drew (S := (fun W' => W'.cell? ⟨w.heap.size, 0, none⟩ = some (.int .i64 ew) ∧ W'.cell? ⟨w.heap.size, 1, none⟩ = some (.bool el) ∧ W'.cell? ⟨w.heap.size, 2, none⟩ = some (.int .i64 er) ∧ W'.cell? ⟨w.heap.size, 3, none⟩ = some (.int .i64 ee) ∧ W'.cell? ⟨w.heap.size, 4, none⟩ = some (.bool eg))) (by kernel_rfl) (by exact HM2.out) (fun hHeld => ?_)
            refine wpAnyH_take (i := 0) (oi := { dst := some 63, op := Op.move (Operand.tmp 6), type := 22, pos := "law.go:190", after := #[], guard := none }) (v := ?_) rfl (by kernel_rfl) (by kernel_rfl) (by kernel_rfl) (fun _ _ _ h => h) (Or.inl ⟨by rfl, ?_⟩) (by assumption) ?_
            rotate_left
            · ((intro w' hSw); (try dsimp only at hSw); go_simp; all_goals (with_reducible rfl))
            simp only [Act.put, List.setIfInBounds_toArray, List.set_cons_zero, List.set_cons_succ]
            refine wpAnyH_take (i := 2) (oi := { dst := some 65, op := Op.move (Operand.tmp 6), type := 22, pos := "law.go:190", after := #[], guard := none }) (v := ?_) rfl (by kernel_rfl) (by kernel_rfl) (by kernel_rfl) (fun _ _ _ h => h) (Or.inl ⟨by rfl, ?_⟩) (by assumption) ?_
            rotate_left
            · ((intro w' hSw); (try dsimp only at hSw); go_simp; all_goals (with_reducible rfl))
            simp only [Act.put, List.setIfInBounds_toArray, List.set_cons_zero, List.set_cons_succ]
            refine wpAnyH_take (i := 3) (oi := { dst := some 66, op := Op.call { callee := Callee.builtin Builtin.len, args := #[Operand.tmp 65], argTypes := #[22] }, type := 3, pos := "law.go:190", after := #[{ on := 2, ground := Ground.data }], guard := none }) (v := ?_) rfl (by kernel_rfl) (by kernel_rfl) (by kernel_rfl) (fun _ _ _ h => h) (Or.inl ⟨by rfl, ?_⟩) (by assumption) ?_
            rotate_left
            · ((intro w' hSw); (try dsimp only at hSw); go_simp; all_goals (with_reducible rfl))
            simp only [Act.put, List.setIfInBounds_toArray, List.set_cons_zero, List.set_cons_succ]
            refine wpAnyH_take (i := 4) (oi := { dst := some 67, op := Op.binOp BinOp.leq 3 (Operand.tmp 66) (Operand.const (Value.int IntKind.i64 16)) 3, type := 4, pos := "law.go:190", after := #[{ on := 3, ground := Ground.data }], guard := none }) (v := ?_) rfl (by kernel_rfl) (by kernel_rfl) (by kernel_rfl) (fun _ _ _ h => h) (Or.inl ⟨by rfl, ?_⟩) (by assumption) ?_
            rotate_left
            · ((intro w' hSw); (try dsimp only at hSw); go_simp; all_goals (with_reducible rfl))
            simp only [Act.put, List.setIfInBounds_toArray, List.set_cons_zero, List.set_cons_succ]
            refine wpAnyH_ready (rs := [1]) (by kernel_rfl) (by simp) ?_
            refine AllReadyH.cons rfl (fun K hK => ?_) AllReadyH.nil
            go_simp
            go_wp2_with (go_at_call 13; (with_reducible refine (V1.out _ (Aces.of_own HOWN.out.drew)).mono ?_); rintro q w3 ⟨rfl, hb3⟩; have HM3 := Lib.hid (HM2.out.step (Below.trans (Below.refl _ wc).drew hb3)); have HO3 := Lib.hid (own_keep HOWN.out.drew hb3); have HB3 := Lib.hid (HB2.out.drew.trans (hb3.mono HB2.out.size)); clear hb3)
            refine hK.out _ _ ?_ (fun hHeld => ?_)
            · exact HM3.out
            clear hK K
            refine wpAnyH_take (i := 5) (oi := { dst := some 68, op := Op.binOp BinOp.neq 4 (Operand.tmp 64) (Operand.tmp 67) 4, type := 4, pos := "law.go:190", after := #[{ on := 1, ground := Ground.data }, { on := 4, ground := Ground.data }], guard := none }) (v := ?_) rfl (by kernel_rfl) (by kernel_rfl) (by kernel_rfl) (fun _ _ _ h => h) (Or.inl ⟨by rfl, ?_⟩) (by assumption) ?_
            rotate_left
            · ((intro w' hSw); (try dsimp only at hSw); go_simp; all_goals (with_reducible rfl))
            simp only [Act.put, List.setIfInBounds_toArray, List.set_cons_zero, List.set_cons_succ]
            refine wpAnyH_take (i := 6) (oi := { dst := some 69, op := Op.move (Operand.tmp 68), type := 4, pos := "law.go:190", after := #[{ on := 5, ground := Ground.data }, { on := 1, ground := Ground.chain }], guard := none }) (v := ?_) rfl (by kernel_rfl) (by kernel_rfl) (by kernel_rfl) (fun _ _ _ h => h) (Or.inl ⟨by rfl, ?_⟩) (by assumption) ?_
            rotate_left
            · ((intro w' hSw); (try dsimp only at hSw); go_simp; all_goals (with_reducible rfl))
            simp only [Act.put, List.setIfInBounds_toArray, List.set_cons_zero, List.set_cons_succ]
            refine wpAnyH_take (i := 7) (oi := { dst := some 70, op := Op.load 31 (Operand.tmp 3), type := 31, pos := "law.go:190", after := #[{ on := 6, ground := Ground.guard }], guard := some (6, false) }) (v := ?_) rfl (by kernel_rfl) (by kernel_rfl) (by kernel_rfl) (fun _ _ _ h => h) (Or.inl ⟨by rfl, ?_⟩) (by assumption) ?_
            rotate_left
            · ((intro w' hSw); (try dsimp only at hSw); go_simp; all_goals (with_reducible rfl))
            simp only [Act.put, List.setIfInBounds_toArray, List.set_cons_zero, List.set_cons_succ]
            refine wpAnyH_take (i := 10) (oi := { dst := some 73, op := Op.move (Operand.tmp 8), type := 4, pos := "law.go:190", after := #[{ on := 6, ground := Ground.guard }], guard := some (6, false) }) (v := ?_) rfl (by kernel_rfl) (by kernel_rfl) (by kernel_rfl) (fun _ _ _ h => h) (Or.inl ⟨by rfl, ?_⟩) (by assumption) ?_
            rotate_left
            · ((intro w' hSw); (try dsimp only at hSw); go_simp; all_goals (with_reducible rfl))
            simp only [Act.put, List.setIfInBounds_toArray, List.set_cons_zero, List.set_cons_succ]
            refine wpAnyH_ready (rs := [8]) (by kernel_rfl) (by simp) ?_
            refine AllReadyH.cons rfl (fun K hK => ?_) AllReadyH.nil
            go_simp
            refine hK.out _ _ ?_ (fun hHeld => ?_)
            · exact HM3.out.step ((Below.refl _ w3).alloc (Nat.le_refl _) _)
            clear hK K
            refine wpAnyH_ready (rs := [9]) (by kernel_rfl) (by simp) ?_
            refine AllReadyH.cons rfl (fun K hK => ?_) AllReadyH.nil
            go_simp
            go_wp2_with (go_at_call 13; (with_reducible refine (V2.out (w3.alloc (.cells #[.int .i64 ew, .bool el, .int .i64 er, .int .i64 ee, .bool eg] 31)) w3.heap.size (AL.out w3)).mono ?_); rintro q w4 ⟨rfl, hb4⟩; have HM4 := Lib.hid (HM3.out.step (below_new hb4)); have HO4 := Lib.hid (own_keep HO3.out (below_new hb4)); have HB4 := Lib.hid (HB3.out.trans ((below_new hb4).mono HB3.out.size)); clear hb4)
            refine hK.out _ _ ?_ (fun hHeld => ?_)
            · exact HM4.out
            clear hK K
            refine wpAnyH_take (i := 11) (oi := { dst := some 74, op := Op.binOp BinOp.neq 4 (Operand.tmp 72) (Operand.tmp 73) 4, type := 4, pos := "law.go:190", after := #[{ on := 9, ground := Ground.data }, { on := 10, ground := Ground.data }, { on := 6, ground := Ground.guard }], guard := some (6, false) }) (v := ?_) rfl (by kernel_rfl) (by kernel_rfl) (by kernel_rfl) (fun _ _ _ h => h) (Or.inl ⟨by rfl, ?_⟩) (by assumption) ?_
            rotate_left
            · ((intro w' hSw); (try dsimp only at hSw); go_simp; all_goals (with_reducible rfl))
            simp only [Act.put, List.setIfInBounds_toArray, List.set_cons_zero, List.set_cons_succ]
            refine wpAnyH_take (i := 12) (oi := { dst := some 75, op := Op.pick (Operand.tmp 69) (Operand.const (Value.bool true)) (Operand.tmp 74), type := 4, pos := "law.go:190", after := #[{ on := 6, ground := Ground.data }, { on := 11, ground := Ground.data }], guard := none }) (v := ?_) rfl (by kernel_rfl) (by kernel_rfl) (by kernel_rfl) (fun _ _ _ h => h) (Or.inl ⟨by rfl, ?_⟩) (by assumption) ?_
            rotate_left
            · ((intro w' hSw); (try dsimp only at hSw); go_simp; all_goals (with_reducible rfl))
            simp only [Act.put, List.setIfInBounds_toArray, List.set_cons_zero, List.set_cons_succ]
            refine wpAnyH_take (i := 13) (oi := { dst := some 76, op := Op.move (Operand.tmp 75), type := 4, pos := "law.go:190", after := #[{ on := 12, ground := Ground.data }, { on := 9, ground := Ground.chain }], guard := none }) (v := ?_) rfl (by kernel_rfl) (by kernel_rfl) (by kernel_rfl) (fun _ _ _ h => h) (Or.inl ⟨by rfl, ?_⟩) (by assumption) ?_
            rotate_left
            · ((intro w' hSw); (try dsimp only at hSw); go_simp; all_goals (with_reducible rfl))
            simp only [Act.put, List.setIfInBounds_toArray, List.set_cons_zero, List.set_cons_succ]
            refine wpAnyH_take (i := 14) (oi := { dst := some 77, op := Op.move (Operand.tmp 6), type := 22, pos := "law.go:190", after := #[{ on := 13, ground := Ground.guard }], guard := some (13, false) }) (v := ?_) rfl (by kernel_rfl) (by kernel_rfl) (by kernel_rfl) (fun _ _ _ h => h) (Or.inl ⟨by rfl, ?_⟩) (by assumption) ?_
            rotate_left
            · ((intro w' hSw); (try dsimp only at hSw); go_simp; all_goals (with_reducible rfl))
            simp only [Act.put, List.setIfInBounds_toArray, List.set_cons_zero, List.set_cons_succ]
            refine wpAnyH_take (i := 15) (oi := { dst := some 78, op := Op.call { callee := Callee.builtin Builtin.len, args := #[Operand.tmp 77], argTypes := #[22] }, type := 3, pos := "law.go:190", after := #[{ on := 14, ground := Ground.data }, { on := 13, ground := Ground.guard }], guard := some (13, false) }) (v := ?_) rfl (by kernel_rfl) (by kernel_rfl) (by kernel_rfl) (fun _ _ _ h => h) (Or.inl ⟨by rfl, ?_⟩) (by assumption) ?_
            rotate_left
            · ((intro w' hSw); (try dsimp only at hSw); go_simp; all_goals (with_reducible rfl))
            simp only [Act.put, List.setIfInBounds_toArray, List.set_cons_zero, List.set_cons_succ]
            refine wpAnyH_take (i := 16) (oi := { dst := some 79, op := Op.binOp BinOp.gtr 3 (Operand.tmp 78) (Operand.const (Value.int IntKind.i64 10)) 3, type := 4, pos := "law.go:190", after := #[{ on := 15, ground := Ground.data }, { on := 13, ground := Ground.guard }], guard := some (13, false) }) (v := ?_) rfl (by kernel_rfl) (by kernel_rfl) (by kernel_rfl) (fun _ _ _ h => h) (Or.inl ⟨by rfl, ?_⟩) (by assumption) ?_
            rotate_left
            · ((intro w' hSw); (try dsimp only at hSw); go_simp; all_goals (with_reducible rfl))
            simp only [Act.put, List.setIfInBounds_toArray, List.set_cons_zero, List.set_cons_succ]
            refine wpAnyH_take (i := 17) (oi := { dst := some 80, op := Op.move (Operand.tmp 79), type := 4, pos := "law.go:190", after := #[{ on := 16, ground := Ground.data }, { on := 13, ground := Ground.chain }, { on := 13, ground := Ground.guard }], guard := some (13, false) }) (v := ?_) rfl (by kernel_rfl) (by kernel_rfl) (by kernel_rfl) (fun _ _ _ h => h) (Or.inl ⟨by rfl, ?_⟩) (by assumption) ?_
            rotate_left
            · ((intro w' hSw); (try dsimp only at hSw); go_simp; all_goals (with_reducible rfl))
            simp only [Act.put, List.setIfInBounds_toArray, List.set_cons_zero, List.set_cons_succ]
            refine wpAnyH_take (i := 18) (oi := { dst := some 81, op := Op.move (Operand.tmp 6), type := 22, pos := "law.go:190", after := #[{ on := 17, ground := Ground.guard }], guard := some (17, true) }) (v := undef) rfl (by kernel_rfl) (by kernel_rfl) (by kernel_rfl) (fun _ _ _ h => h) (Or.inr ⟨by rfl, rfl⟩) (by assumption) ?_
            simp only [Act.put, List.setIfInBounds_toArray, List.set_cons_zero, List.set_cons_succ]
            refine wpAnyH_take (i := 19) (oi := { dst := some 82, op := Op.move (Operand.tmp 6), type := 22, pos := "law.go:190", after := #[{ on := 17, ground := Ground.guard }], guard := some (17, true) }) (v := undef) rfl (by kernel_rfl) (by kernel_rfl) (by kernel_rfl) (fun _ _ _ h => h) (Or.inr ⟨by rfl, rfl⟩) (by assumption) ?_
            simp only [Act.put, List.setIfInBounds_toArray, List.set_cons_zero, List.set_cons_succ]
            refine wpAnyH_take (i := 20) (oi := { dst := some 83, op := Op.call { callee := Callee.builtin Builtin.len, args := #[Operand.tmp 82], argTypes := #[22] }, type := 3, pos := "law.go:190", after := #[{ on := 19, ground := Ground.data }, { on := 17, ground := Ground.guard }], guard := some (17, true) }) (v := undef) rfl (by kernel_rfl) (by kernel_rfl) (by kernel_rfl) (fun _ _ _ h => h) (Or.inr ⟨by rfl, rfl⟩) (by assumption) ?_
            simp only [Act.put, List.setIfInBounds_toArray, List.set_cons_zero, List.set_cons_succ]
            refine wpAnyH_take (i := 21) (oi := { dst := some 84, op := Op.binOp BinOp.sub 3 (Operand.tmp 83) (Operand.const (Value.int IntKind.i64 1)) 3, type := 3, pos := "law.go:190", after := #[{ on := 20, ground := Ground.data }, { on := 17, ground := Ground.guard }], guard := some (17, true) }) (v := undef) rfl (by kernel_rfl) (by kernel_rfl) (by kernel_rfl) (fun _ _ _ h => h) (Or.inr ⟨by rfl, rfl⟩) (by assumption) ?_
            simp only [Act.put, List.setIfInBounds_toArray, List.set_cons_zero, List.set_cons_succ]
            refine wpAnyH_take (i := 22) (oi := { dst := some 85, op := Op.indexAddr 22 (Operand.tmp 81) (Operand.tmp 84), type := 0, pos := "law.go:190", after := #[{ on := 18, ground := Ground.data }, { on := 21, ground := Ground.data }, { on := 17, ground := Ground.guard }], guard := some (17, true) }) (v := undef) rfl (by kernel_rfl) (by kernel_rfl) (by kernel_rfl) (fun _ _ _ h => h) (Or.inr ⟨by rfl, rfl⟩) (by assumption) ?_
            simp only [Act.put, List.setIfInBounds_toArray, List.set_cons_zero, List.set_cons_succ]
            refine wpAnyH_take (i := 23) (oi := { dst := some 86, op := Op.load 31 (Operand.tmp 85), type := 31, pos := "law.go:190", after := #[{ on := 22, ground := Ground.data }, { on := 17, ground := Ground.guard }], guard := some (17, true) }) (v := undef) rfl (by kernel_rfl) (by kernel_rfl) (by kernel_rfl) (fun _ _ _ h => h) (Or.inr ⟨by rfl, rfl⟩) (by assumption) ?_
            simp only [Act.put, List.setIfInBounds_toArray, List.set_cons_zero, List.set_cons_succ]
            refine wpAnyH_take (i := 24) (oi := { dst := some 87, op := Op.buildSlice 22 1 #[(0, Operand.tmp 86)], type := 22, pos := "law.go:190", after := #[{ on := 23, ground := Ground.data }, { on := 17, ground := Ground.guard }], guard := some (17, true) }) (v := undef) rfl (by kernel_rfl) (by kernel_rfl) (by kernel_rfl) (fun _ _ _ h => h) (Or.inr ⟨by rfl, rfl⟩) (by assumption) ?_
            simp only [Act.put, List.setIfInBounds_toArray, List.set_cons_zero, List.set_cons_succ]
            refine wpAnyH_take (i := 25) (oi := { dst := some 88, op := Op.move (Operand.tmp 6), type := 22, pos := "law.go:190", after := #[{ on := 17, ground := Ground.guard }], guard := some (17, true) }) (v := undef) rfl (by kernel_rfl) (by kernel_rfl) (by kernel_rfl) (fun _ _ _ h => h) (Or.inr ⟨by rfl, rfl⟩) (by assumption) ?_
            simp only [Act.put, List.setIfInBounds_toArray, List.set_cons_zero, List.set_cons_succ]
            refine wpAnyH_take (i := 26) (oi := { dst := some 89, op := Op.indexAddr 22 (Operand.tmp 88) (Operand.const (Value.int IntKind.i64 0)), type := 0, pos := "law.go:190", after := #[{ on := 25, ground := Ground.data }, { on := 17, ground := Ground.guard }], guard := some (17, true) }) (v := undef) rfl (by kernel_rfl) (by kernel_rfl) (by kernel_rfl) (fun _ _ _ h => h) (Or.inr ⟨by rfl, rfl⟩) (by assumption) ?_
            simp only [Act.put, List.setIfInBounds_toArray, List.set_cons_zero, List.set_cons_succ]
            refine wpAnyH_take (i := 27) (oi := { dst := some 90, op := Op.load 31 (Operand.tmp 89), type := 31, pos := "law.go:190", after := #[{ on := 26, ground := Ground.data }, { on := 17, ground := Ground.guard }], guard := some (17, true) }) (v := undef) rfl (by kernel_rfl) (by kernel_rfl) (by kernel_rfl) (fun _ _ _ h => h) (Or.inr ⟨by rfl, rfl⟩) (by assumption) ?_
            simp only [Act.put, List.setIfInBounds_toArray, List.set_cons_zero, List.set_cons_succ]
            refine wpAnyH_take (i := 28) (oi := { dst := some 91, op := Op.buildSlice 22 1 #[(0, Operand.tmp 90)], type := 22, pos := "law.go:190", after := #[{ on := 27, ground := Ground.data }, { on := 17, ground := Ground.guard }], guard := some (17, true) }) (v := undef) rfl (by kernel_rfl) (by kernel_rfl) (by kernel_rfl) (fun _ _ _ h => h) (Or.inr ⟨by rfl, rfl⟩) (by assumption) ?_
            simp only [Act.put, List.setIfInBounds_toArray, List.set_cons_zero, List.set_cons_succ]
            refine wpAnyH_take (i := 29) (oi := { dst := some 92, op := Op.call { callee := Callee.builtin Builtin.append, args := #[Operand.tmp 87, Operand.tmp 91], argTypes := #[22, 22] }, type := 22, pos := "law.go:190", after := #[{ on := 24, ground := Ground.data }, { on := 28, ground := Ground.data }, { on := 17, ground := Ground.chain }, { on := 17, ground := Ground.guard }], guard := some (17, true) }) (v := undef) rfl (by kernel_rfl) (by kernel_rfl) (by kernel_rfl) (fun _ _ _ h => h) (Or.inr ⟨by rfl, rfl⟩) (by assumption) ?_
            simp only [Act.put, List.setIfInBounds_toArray, List.set_cons_zero, List.set_cons_succ]
            refine wpAnyH_take (i := 30) (oi := { dst := some 93, op := Op.call { callee := Callee.value (Operand.func 13), args := #[Operand.tmp 92], argTypes := #[22] }, type := 4, pos := "law.go:190", after := #[{ on := 29, ground := Ground.data }, { on := 29, ground := Ground.chain }, { on := 17, ground := Ground.guard }], guard := some (17, true) }) (v := undef) rfl (by kernel_rfl) (by kernel_rfl) (by kernel_rfl) (fun _ _ _ h => h) (Or.inr ⟨by rfl, rfl⟩) (by assumption) ?_
            simp only [Act.put, List.setIfInBounds_toArray, List.set_cons_zero, List.set_cons_succ]
            refine wpAnyH_take (i := 31) (oi := { dst := some 94, op := Op.pick (Operand.tmp 80) (Operand.tmp 93) (Operand.const (Value.bool false)), type := 4, pos := "law.go:190", after := #[{ on := 17, ground := Ground.data }, { on := 30, ground := Ground.data }, { on := 13, ground := Ground.guard }], guard := some (13, false) }) (v := ?_) rfl (by kernel_rfl) (by kernel_rfl) (by kernel_rfl) (fun _ _ _ h => h) (Or.inl ⟨by rfl, ?_⟩) (by assumption) ?_
            rotate_left
            · ((intro w' hSw); (try dsimp only at hSw); go_simp; all_goals (with_reducible rfl))
            simp only [Act.put, List.setIfInBounds_toArray, List.set_cons_zero, List.set_cons_succ]
            refine wpAnyH_take (i := 32) (oi := { dst := some 95, op := Op.pick (Operand.tmp 76) (Operand.const (Value.bool true)) (Operand.tmp 94), type := 4, pos := "law.go:190", after := #[{ on := 13, ground := Ground.data }, { on := 31, ground := Ground.data }], guard := none }) (v := ?_) rfl (by kernel_rfl) (by kernel_rfl) (by kernel_rfl) (fun _ _ _ h => h) (Or.inl ⟨by rfl, ?_⟩) (by assumption) ?_
            rotate_left
            · ((intro w' hSw); (try dsimp only at hSw); go_simp; all_goals (with_reducible rfl))
            simp only [Act.put, List.setIfInBounds_toArray, List.set_cons_zero, List.set_cons_succ]
            refine wpAnyH_done (by kernel_rfl) ?_ _
            all_goals (go_wp2_with fail; go_meet)
            all_goals exact ⟨rfl, Aces.of_own HO4.out, HB4.out⟩
        case rest =>
          obtain ⟨rfl, hA, hB⟩ := hcut
          have HA := Lib.hid hA
          have HBX := Lib.hid hB
          clear hA hB V1 V2 HOWN HM2 HB2 rr bb c16
          have hq := HPQ.out
          by_cases h16 : k = 16
          · rw [if_pos h16] at hq
            subst hq
            have d1 : ((k : Int) == 16) = true := by simp; omega
            clear h16
            go_wp2_with (go_at_call 25; (with_reducible refine (V4.out _ HA.out).mono ?_); rintro y w5 ⟨A5, m5, c5, rfl, hb5⟩)
            go_ret
            exact ⟨rfl, HBX.out.trans (hb5.mono HBX.out.size)⟩
          · rw [if_neg h16] at hq
            have d1 : ((k : Int) == 16) = false := by simp; omega
            clear h16
            by_cases h17 : 16 < k
            · rw [if_pos h17] at hq
              subst hq
              have d2 : decide (16 < (k : Int)) = true := by simp; omega
              go_wp2_with (go_at_call 25; (with_reducible refine (V4.out _ HA.out).mono ?_); rintro y w5 ⟨A5, m5, c5, rfl, hb5⟩)
              go_ret
              exact ⟨rfl, HBX.out.trans (hb5.mono HBX.out.size)⟩
            · rw [if_neg h17] at hq
              subst hq
              have d2 : decide (16 < (k : Int)) = false := by simp; omega
              go_wp2_with (go_at_call 25; (with_reducible refine (V4.out _ HA.out).mono ?_); rintro y w5 ⟨A5, m5, c5, rfl, hb5⟩)
              go_ret
              exact ⟨rfl, HBX.out.trans (hb5.mono HBX.out.size)⟩
end Go.Proofs.Ytlgajeffjhoaaaa
