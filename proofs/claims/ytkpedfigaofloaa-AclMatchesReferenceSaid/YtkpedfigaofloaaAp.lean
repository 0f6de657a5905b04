/-
  Walk of the program's Merge.
-/
import Derived.Test.YtkpedfigaofloaaAo
namespace Go.Proofs.Ytkpedfigaofloaa
open Go.RowKit Ap
set_option maxHeartbeats 400000

theorem merge_eq1 (A0 A1 A2 : Option Addr) (n0 c0 n1 c1 n2 c2 : Nat) (base mine theirs : List Ac) (h0 : base.length = n0) (l0 : n0 ≤ 1000) (h1 : mine.length = n1) (l1 : n1 ≤ 1000) (h2 : theirs.length = n2) (l2 : n2 ≤ 1000) (s2 : A2 = none → n2 = 0 ∧ c2 = 0) (he : mine = base) (w : World) (a0 : Aces w A0 base) (a1 : Aces w A1 mine) (a2 : Aces w A2 theirs) :
    Calls Try.prog 45 #[.slice A0 n0 c0, .slice A1 n1 c1, .slice A2 n2 c2] w fun e w' => ∃ A' c', e = .returned (.tuple #[.slice A' n2 c', .bool true]) ∧ w'.ownsRow w.heap.size 31 5 (.slice A' n2 c') n2 (encs theirs) ∧ Below w.heap.size w w' := by
  have C1 := Lib.hid (same_any A1 A0 n1 n0 c1 c0 mine base h1 h0 l1 l0 w a1 a0)
  have C2 := Lib.hid (fun W (hb : Below w.heap.size w W) => clone_any A2 n2 c2 theirs h2 l2 s2 W (a2.below hb))
  rw [decide_eq_true he] at C1
  clear h0 h1 h2 s2 he a0 a1 a2
  go_enter Try.func45, Try.ntmps45
  go_wp2_with (first | (go_at_call 19; refine C1.out.mono ?_; rintro x w1 ⟨rfl, hb1⟩) | (go_at_call 40; refine (C2.out _ hb1).mono ?_; rintro x w2 ⟨A', c', rfl, hr2, hb2⟩; have HR2 := Lib.hid (own_mono hr2 hb1.size); clear hr2))
  go_ret2
  exact ⟨A', c', rfl, HR2.out, hb1.trans (hb2.mono hb1.size)⟩

theorem merge_eq2 (A0 A1 A2 : Option Addr) (n0 c0 n1 c1 n2 c2 : Nat) (base mine theirs : List Ac) (h0 : base.length = n0) (l0 : n0 ≤ 1000) (h1 : mine.length = n1) (l1 : n1 ≤ 1000) (h2 : theirs.length = n2) (l2 : n2 ≤ 1000) (s1 : A1 = none → n1 = 0 ∧ c1 = 0) (hne : ¬ mine = base) (he : theirs = base ∨ mine = theirs) (w : World) (a0 : Aces w A0 base) (a1 : Aces w A1 mine) (a2 : Aces w A2 theirs) :
    Calls Try.prog 45 #[.slice A0 n0 c0, .slice A1 n1 c1, .slice A2 n2 c2] w fun e w' => ∃ A' c', e = .returned (.tuple #[.slice A' n1 c', .bool true]) ∧ w'.ownsRow w.heap.size 31 5 (.slice A' n1 c') n1 (encs mine) ∧ Below w.heap.size w w' := by
  have cS := fun W (hb : Below w.heap.size w W) => same_any A1 A0 n1 n0 c1 c0 mine base h1 h0 l1 l0 W (a1.below hb) (a0.below hb)
  have cT := fun W (hb : Below w.heap.size w W) => same_any A2 A0 n2 n0 c2 c0 theirs base h2 h0 l2 l0 W (a2.below hb) (a0.below hb)
  have cU := fun W (hb : Below w.heap.size w W) => same_any A1 A2 n1 n2 c1 c2 mine theirs h1 h2 l1 l2 W (a1.below hb) (a2.below hb)
  have cC := fun W (hb : Below w.heap.size w W) => clone_any A1 n1 c1 mine h1 l1 s1 W (a1.below hb)
  rw [decide_eq_false hne] at cS
  obtain ⟨t, ht⟩ : ∃ t, decide (theirs = base) = t := ⟨_, rfl⟩
  obtain ⟨u, hu⟩ : ∃ u, decide (mine = theirs) = u := ⟨_, rfl⟩
  rw [ht] at cT
  rw [hu] at cU
  have tu : t = true ∨ (t = false ∧ u = true) := by
    rcases he with he | he
    · exact .inl (by rw [← ht]; simp [he])
    · by_cases e : theirs = base
      · exact .inl (by rw [← ht]; simp [e])
      · exact .inr ⟨by rw [← ht]; simp [e], by rw [← hu]; simp [he]⟩
  have CS := Lib.hid cS
  have CT := Lib.hid cT
  have CU := Lib.hid cU
  have CC := Lib.hid cC
  have B0 := Lib.hid (Below.refl w.heap.size w)
  clear cS cT cU cC h0 h1 h2 s1 hne he a0 a1 a2 ht hu
  rcases tu with rfl | ⟨rfl, rfl⟩
  all_goals
    go_enter Try.func45, Try.ntmps45
    go_wp2_with (first | (go_at_call 19; first | ((with_reducible refine (CS.out _ B0.out).mono ?_); rintro x w1 ⟨rfl, hb1⟩) | ((with_reducible refine (CT.out _ hb1).mono ?_); rintro x w2 ⟨rfl, hb2⟩; have hb2 := hb1.trans (hb2.mono hb1.size)) | ((with_reducible refine (CU.out _ hb2).mono ?_); rintro x w3 ⟨rfl, hb3⟩; have hb2 := hb2.trans (hb3.mono hb2.size))) | (go_at_call 40; refine (CC.out _ hb2).mono ?_; rintro x w4 ⟨A', c', rfl, hr2, hb4⟩; have HR2 := Lib.hid (own_mono hr2 hb2.size); clear hr2))
    go_ret2
    exact ⟨A', c', rfl, HR2.out, hb2.trans (hb4.mono hb2.size)⟩

theorem below_drewN (W : World) (n : Nat) : Below W.heap.size W (W.drewN n) :=
  have h := Below.refl W.heap.size W
  ⟨h.os, h.tape, h.output, h.size, h.block⟩
theorem outcome_quiet (b m t r : Int) (s : Bool) (h : outc b m t = (r, s)) (w : World) :
    Calls Try.prog 51 #[.int .i64 b, .int .i64 m, .int .i64 t] w fun e w' => e = .returned (.tuple #[.int .i64 r, .bool s]) ∧ w' = w :=
  (outcome_any b m t w).mono fun _ _ ⟨he, hw⟩ => ⟨by rw [he, h], hw.symm⟩
/-- The three maps of rights. -/
def Maps3 (b0 b1 b2 n0 n1 n2 : Nat) (base mine theirs : List Ac) (W : World) : Prop := IntM W b0 n0 (rOf base) ∧ IntM W b1 n1 (rOf mine) ∧ IntM W b2 n2 (rOf theirs)
theorem Maps3.below {b0 b1 b2 n0 n1 n2 : Nat} {base mine theirs : List Ac} {W W' : World} (h : Maps3 b0 b1 b2 n0 n1 n2 base mine theirs W) (hb : Below W.heap.size W W') : Maps3 b0 b1 b2 n0 n1 n2 base mine theirs W' :=
  ⟨h.1.below hb, h.2.1.below hb, h.2.2.below hb⟩
theorem rAt_look {w : World} {b n : Nat} {l : List Ac} (h : IntM w b n (rOf l)) {aw re : Int} {al ag : Bool} (hm : (⟨aw, al, 0, re, ag⟩ : Ac).ok) :
    (Instr.lookup 62 (.map (some b)) (.agg #[.int .i64 aw, .bool al, .int .i64 0, .int .i64 re, .bool ag]) false).run Try.prog w = .ok (.int .i64 (rAt l ⟨aw, al, 0, re, ag⟩)) w := h.look hm

/-- Two slices lie in different blocks. -/
def Apart (u v : Value) : Prop := ∀ k, u.ownBlock = some k → v.ownBlock ≠ some k
theorem Apart.symm {u v : Value} (h : Apart u v) : Apart v u := fun k hk e => h k e hk
theorem Apart.kept {u v : Value} (h : Apart u v) : u.ownBlock = none ∨ u.ownBlock ≠ v.ownBlock := by
  cases hu : u.ownBlock with
  | none => exact .inl rfl
  | some k => exact .inr (fun e => h k hu e.symm)
theorem Apart.moved {w : World} {base : Nat} {e : TypeId} {s n : Nat} {xs : List Value} {u v v' : Value} (h : Apart u v) (hu : w.ownsRow base e s u n xs) {b : Nat} (hb : w.heap.size ≤ b) (hloc : v'.ownBlock = v.ownBlock ∨ v'.ownBlock = some b) : Apart u v' := fun k hk e => by
  rcases hloc with h1 | h1
  · exact h k hk (h1 ▸ e)
  · rw [h1] at e
    have := (hu.lt k hk).2
    injection e with e
    omega
theorem apart_nil (v : Value) : Apart (.slice none 0 0) v := fun k hk => by cases hk
theorem chain3 {wr w8 : World} {o : Obj} {n : Nat} (hb : Below ((wr.alloc o).drewN n).heap.size ((wr.alloc o).drewN n) w8) : Below wr.heap.size wr w8 :=
  (((Below.refl _ wr).alloc (Nat.le_refl _) o).trans ((below_drewN (wr.alloc o) n).mono (by simp))).trans (hb.mono (by show wr.heap.size ≤ (wr.alloc o).heap.size; simp))
theorem chain2 (wr : World) (o : Obj) (n : Nat) : Below wr.heap.size wr ((wr.alloc o).drewN n) :=
  ((Below.refl _ wr).alloc (Nat.le_refl _) o).trans ((below_drewN (wr.alloc o) n).mono (by simp))

set_option maxHeartbeats 8000000 in
theorem merge_main (A0 A1 A2 : Option Addr) (n0 c0 n1 c1 n2 c2 : Nat) (base mine theirs : List Ac) (h0 : base.length = n0) (l0 : n0 ≤ 1000) (h1 : mine.length = n1) (l1 : n1 ≤ 1000) (h2 : theirs.length = n2) (l2 : n2 ≤ 1000)
    (o0 : ∀ a ∈ base, a.ok) (o1 : ∀ a ∈ mine, a.ok) (o2 : ∀ a ∈ theirs, a.ok) (ne1 : ¬ mine = base) (ne2 : ¬ theirs = base) (ne3 : ¬ mine = theirs) (w : World) (a0 : Aces w A0 base) (a1 : Aces w A1 mine) (a2 : Aces w A2 theirs) :
    Calls Try.prog 45 #[.slice A0 n0 c0, .slice A1 n1 c1, .slice A2 n2 c2] w fun e w' => ∃ A' m c', e = .returned (.tuple #[.slice A' m c', .bool (mergeM base mine theirs).2]) ∧ w'.ownsRow w.heap.size 31 5 (.slice A' m c') m (encs (mergeM base mine theirs).1) ∧ Below w.heap.size w w' := by
  obtain ⟨i0, hi, hz0, hz1, hz2⟩ := info_parts info_ace
  have cS := fun W (hb : Below w.heap.size w W) => same_any A1 A0 n1 n0 c1 c0 mine base h1 h0 l1 l0 W (a1.below hb) (a0.below hb)
  have cT := fun W (hb : Below w.heap.size w W) => same_any A2 A0 n2 n0 c2 c0 theirs base h2 h0 l2 l0 W (a2.below hb) (a0.below hb)
  have cU := fun W (hb : Below w.heap.size w W) => same_any A1 A2 n1 n2 c1 c2 mine theirs h1 h2 l1 l2 W (a1.below hb) (a2.below hb)
  rw [decide_eq_false ne1] at cS
  rw [decide_eq_false ne2] at cT
  rw [decide_eq_false ne3] at cU
  have c0' := fun W (hb : Below w.heap.size w W) => rightsOf_any A0 n0 c0 base h0 l0 o0 W (a0.below hb)
  have c1' := fun W (hb : Below w.heap.size w W) => rightsOf_any A1 n1 c1 mine h1 l1 o1 W (a1.below hb)
  have c2' := fun W (hb : Below w.heap.size w W) => rightsOf_any A2 n2 c2 theirs h2 l2 o2 W (a2.below hb)
  have cK := fun W (hb : Below w.heap.size w W) => marks_any A1 A2 n1 c1 n2 c2 mine theirs h1 l1 o1 h2 l2 o2 W (a1.below hb) (a2.below hb)
  have hkok := marksL_ok (l := mine ++ theirs) (fun a ha => (List.mem_append.1 ha).elim (o1 a) (o2 a))
  have hklen := marksL_len (mine ++ theirs)
  rw [List.length_append, h1, h2] at hklen
  obtain ⟨ks, hks⟩ : ∃ ks, marksL (mine ++ theirs) = ks := ⟨_, rfl⟩
  rw [hks] at cK hkok hklen
  have HMM := Lib.hid (show mergeM base mine theirs = match mergeGo (rAt base) (rAt mine) (rAt theirs) ks [] [] with | none => ([], false) | some (o, g) => if 16 < o.length + g.length then ([], false) else (o ++ g, true) by rw [← hks]; rfl)
  have CS := Lib.hid cS
  have CT := Lib.hid cT
  have CU := Lib.hid cU
  have C0 := Lib.hid c0'
  have C1 := Lib.hid c1'
  have C2 := Lib.hid c2'
  have CK := Lib.hid cK
  have HKO := Lib.hid hkok
  have B0 := Lib.hid (Below.refl w.heap.size w)
  clear cS cT cU c0' c1' c2' cK h0 h1 h2 ne1 ne2 ne3 a0 a1 a2 o0 o1 o2 hks hkok
  go_enter Try.func45, Try.ntmps45
  go_wp2_with (first | (go_at_call 19; first | ((with_reducible refine (CS.out _ B0.out).mono ?_); rintro x w1 ⟨rfl, hb1⟩) | ((with_reducible refine (CT.out _ hb1).mono ?_); rintro x w2 ⟨rfl, hb2⟩; have hb2 := hb1.trans (hb2.mono hb1.size)) | ((with_reducible refine (CU.out _ hb2).mono ?_); rintro x w3 ⟨rfl, hb3⟩; have hb3 := hb2.trans (hb3.mono hb2.size))) | (go_at_call 49; first | ((with_reducible refine (C0.out _ hb3).mono ?_); rintro x w4 ⟨rfl, q0, hb4⟩; have q0 := Lib.hid q0; have hb4' := hb3.trans (hb4.mono hb3.size)) | ((with_reducible refine (C1.out _ hb4').mono ?_); rintro x w5 ⟨rfl, q1, hb5⟩; have q1 := Lib.hid q1; have q0 := Lib.hid (q0.out.below hb5); have hb5' := hb4'.trans (hb5.mono hb4'.size)) | ((with_reducible refine (C2.out _ hb5').mono ?_); rintro x w6 ⟨rfl, q2, hb6⟩; have q2 := Lib.hid q2; have q1 := Lib.hid (q1.out.below hb6); have q0 := Lib.hid (q0.out.below hb6); have hb6' := hb5'.trans (hb6.mono hb5'.size))) | (go_at_call 50; refine (CK.out _ hb6').mono ?_; rintro x w7 ⟨AK, nk, ck, rfl, hrk, hb7⟩; have HQ := Lib.hid (Maps3.below ⟨q0.out, q1.out, q2.out⟩ hb7); have HRK := Lib.hid hrk; have hnk := own_len hrk; have HB7 := Lib.hid (hb6'.trans (hb7.mono hb6'.size))))
  clear q0 q1 q2
  have HAK := Lib.hid (Aces.of_own HRK.out)
  obtain ⟨GO, hGO⟩ : ∃ GO, mergeGo (rAt base) (rAt mine) (rAt theirs) ks [] [] = GO := ⟨_, rfl⟩
  rw [hGO] at HMM
  have HGO := Lib.hid hGO
  have HNK := Lib.hid hnk
  have nk2 : nk ≤ 2000 := by omega
  clear hGO hnk hklen
  go_loopw [11, 12, 14, 15, 16, 43] (fun o g _ _ _ i wr => ∃ (t mo mg : Nat) (Ao Ag : Option Addr) (co cg : Nat) (ol gl : List Ac), t ≤ nk ∧ i = .int .i64 t ∧ o = .slice Ao mo co ∧ g = .slice Ag mg cg ∧ mo + mg ≤ t ∧ wr.ownsRow w7.heap.size 31 5 (.slice Ao mo co) mo (encs ol) ∧ wr.ownsRow w7.heap.size 31 5 (.slice Ag mg cg) mg (encs gl) ∧ Apart (.slice Ao mo co) (.slice Ag mg cg) ∧ GO = mergeGo (rAt base) (rAt mine) (rAt theirs) (ks.drop t) ol gl ∧ Below w7.heap.size w7 wr) (fun _ _ _ _ _ i _ => nk - (intOf i).toNat)
  case atStart => exact ⟨0, 0, 0, none, none, 0, 0, [], [], Nat.zero_le _, rfl, rfl, rfl, Nat.le_refl _, World.ownsRow_nil _ _ _ _, World.ownsRow_nil _ _ _ _, apart_nil _, HGO.out.symm, Below.refl _ _⟩
  case round =>
    obtain ⟨t, mo, mg, Ao, Ag, co, cg, ol, gl, ht, rfl, rfl, rfl, hmm, hro, hrg, hap, hgo, hbw⟩ := hrel
    have hbs := hbw.size
    by_cases hlt : t < nk
    · have htl : t < ks.length := by rw [HNK.out]; exact hlt
      obtain ⟨g, o, hAe, hg, hc⟩ := (HAK.out.below hbw) (List.ne_nil_of_length_pos (by omega))
      subst hAe
      obtain ⟨c0, c1, c2, c3, c4⟩ := hc t ks[t] (List.getElem?_eq_getElem htl)
      obtain ⟨hxo, hx0⟩ := HKO.out _ (List.getElem_mem htl)
      rw [List.drop_eq_getElem_cons htl, mergeGo] at hgo
      obtain ⟨x, hx⟩ : ∃ y, ks[t] = y := ⟨_, rfl⟩
      rw [hx] at c0 c1 c2 c3 c4 hgo hxo hx0
      obtain ⟨aw, al, ri, re, ag⟩ := x
      obtain rfl : ri = 0 := by have := congrArg Ac.rights hx0; simpa [Ac.mk0] using this.symm
      dsimp only at c0 c1 c2 c3 c4
      obtain ⟨⟨r, u⟩, hru⟩ : ∃ p, outc (rAt base ⟨aw, al, 0, re, ag⟩) (rAt mine ⟨aw, al, 0, re, ag⟩) (rAt theirs ⟨aw, al, 0, re, ag⟩) = p := ⟨_, rfl⟩
      have cO := fun W => outcome_quiet _ _ _ r u hru W
      rw [hru] at hgo
      dsimp only at hgo
      have cW := fun W => with_any ⟨aw, al, 0, re, ag⟩ r W
      unfold av at cW
      dsimp only [Ac.put] at cW
      have hq : ∀ k, Maps3 w3.heap.size w4.heap.size w5.heap.size n0 n1 n2 base mine theirs ((wr.alloc (.cells #[.int .i64 aw, .bool al, .int .i64 0, .int .i64 re, .bool ag] 58)).drewN k) := fun k => HQ.out.below (hbw.trans ((chain2 wr _ k).mono hbs))
      have k0 := fun k => rAt_look (hq k).1 hxo
      have k1 := fun k => rAt_look (hq k).2.1 hxo
      have k2 := fun k => rAt_look (hq k).2.2 hxo
      have CO := Lib.hid cO
      have CW := Lib.hid cW
      have HRO := Lib.hid hro
      have HRG := Lib.hid hrg
      have HAP := Lib.hid hap
      have HGX := Lib.hid hgo
      clear hc hx hxo hx0 hru cO cW hq hro hrg hap hgo
      cases u
      · go_wp2
        go_quiet ((go_at_call 51; exact Calls.quiet_of_same (CO.out _)))
        go_wp2
        go_ret2
        have hM : mergeM base mine theirs = ([], false) := by rw [HMM.out, HGX.out]; rfl
        rw [hM]
        exact ⟨none, 0, 0, rfl, World.ownsRow_nil _ _ _ _, HB7.out.trans ((hbw.trans ((chain2 wr _ _).mono hbs)).mono HB7.out.size)⟩
      · by_cases hr : r = 0
        · have HGX := Lib.hid (show GO = mergeGo (rAt base) (rAt mine) (rAt theirs) (ks.drop (t + 1)) ol gl by rw [HGX.out, if_neg (by simp), if_pos hr])
          have br : (r == 0) = true := by simp [hr]
          clear hr
          go_wp2
          go_quiet ((go_at_call 51; exact Calls.quiet_of_same (CO.out _)))
          go_wp2
          go_roundw
          case rel => exact ⟨t + 1, mo, mg, Ao, Ag, co, cg, ol, gl, by omega, by go_num, rfl, rfl, by omega, own_keep HRO.out (chain2 wr _ _), own_keep HRG.out (chain2 wr _ _), HAP.out, HGX.out, hbw.trans ((chain2 wr _ _).mono hbs)⟩
          case measure => simp [intOf]; omega
        · have br : (r == 0) = false := by simp [hr]
          cases ag
          · have HGX := Lib.hid (show GO = mergeGo (rAt base) (rAt mine) (rAt theirs) (ks.drop (t + 1)) (ol ++ [⟨aw, al, r, re, false⟩]) gl by rw [HGX.out, if_neg (by simp), if_neg hr, if_neg (by simp)]; rfl)
            clear hr
            go_wp2
            go_quiet ((go_at_call 51; exact Calls.quiet_of_same (CO.out _)))
            go_wp2_with (first | (go_at_call 52; refine (CW.out _).mono ?_; rintro x w8 ⟨rfl, hb8⟩; have HB8 := Lib.hid (chain3 hb8); have HRO8 := Lib.hid (own_keep HRO.out HB8.out); have HRG8 := Lib.hid (own_keep HRG.out HB8.out); have hs8 := HB8.out.size) | (at_builtin; refine wpList_append_own_at _ rfl _ _ 22 rfl w7.heap.size 31 i0 _ 5 40 Try.underlying22 hi hz0 hz1 hz2 rfl (by decide) _ _ _ rfl (HRO8.out.alloc _) ⟨w8.heap.size, 0, none⟩ 1 1 (enc ⟨aw, al, r, re, false⟩) rfl rfl (cells_new w8 _ _) (enc_one _) (by unfold maxLen; omega) (by omega) (by simp; omega) ?_; intro v' w9 hown' hgrow _ hloc; obtain ⟨g', cap', rfl⟩ := ownsRow_succ hown'))
            go_roundw
            case rel =>
              refine ⟨t + 1, mo + 1, mg, some ⟨g', 0, none⟩, Ag, cap', cg, ol ++ [⟨aw, al, r, re, false⟩], gl, by omega, by go_num, rfl, rfl, by omega, by rw [encs_append, encs_one]; exact hown', (HRG8.out.alloc _).kept hgrow HAP.out.symm.kept, ?_, HGX.out, (hbw.trans ((HB8.out.trans ((Below.refl _ w8).alloc (Nat.le_refl _) _ |>.mono hs8)).mono hbs)).grown hgrow (by simp; omega) (fun j hj => (HRO8.out.lt j hj).1)⟩
              exact (Apart.moved HAP.out.symm (HRG8.out.alloc _) (Nat.le_refl _) hloc).symm
            case measure => simp [intOf]; omega
          · have hgx : GO = mergeGo (rAt base) (rAt mine) (rAt theirs) (ks.drop (t + 1)) ol (gl ++ [⟨aw, al, r, re, true⟩]) := by
              have h := HGX.out
              rw [if_neg (by simp), if_neg hr, if_pos (by simp)] at h
              exact h
            have HGY := Lib.hid hgx
            clear hgx HGX
            clear hr
            go_wp2
            go_quiet ((go_at_call 51; exact Calls.quiet_of_same (CO.out _)))
            go_wp2_with (first | (go_at_call 52; refine (CW.out _).mono ?_; rintro x w8 ⟨rfl, hb8⟩; have HB8 := Lib.hid (chain3 hb8); have HRO8 := Lib.hid (own_keep HRO.out HB8.out); have HRG8 := Lib.hid (own_keep HRG.out HB8.out); have hs8 := HB8.out.size) | (at_builtin; refine wpList_append_own_at _ rfl _ _ 22 rfl w7.heap.size 31 i0 _ 5 40 Try.underlying22 hi hz0 hz1 hz2 rfl (by decide) _ _ _ rfl (HRG8.out.alloc _) ⟨w8.heap.size, 0, none⟩ 1 1 (enc ⟨aw, al, r, re, true⟩) rfl rfl (cells_new w8 _ _) (enc_one _) (by unfold maxLen; omega) (by omega) (by simp; omega) ?_; intro v' w9 hown' hgrow _ hloc; obtain ⟨g', cap', rfl⟩ := ownsRow_succ hown'))
            go_roundw
            case rel =>
              refine ⟨t + 1, mo, mg + 1, Ao, some ⟨g', 0, none⟩, co, cap', ol, gl ++ [⟨aw, al, r, re, true⟩], by omega, by go_num, rfl, rfl, by omega, (HRO8.out.alloc _).kept hgrow HAP.out.kept, by rw [encs_append, encs_one]; exact hown', ?_, HGY.out, (hbw.trans ((HB8.out.trans ((Below.refl _ w8).alloc (Nat.le_refl _) _ |>.mono hs8)).mono hbs)).grown hgrow (by simp; omega) (fun j hj => (HRG8.out.lt j hj).1)⟩
              exact Apart.moved HAP.out (HRO8.out.alloc _) (Nat.le_refl _) hloc
            case measure => simp [intOf]; omega
    · obtain rfl : t = nk := by omega
      have hdr : ks.drop t = [] := List.drop_of_length_le (by rw [HNK.out]; exact Nat.le_refl _)
      rw [hdr] at hgo
      have HGX := Lib.hid (show GO = some (ol, gl) from hgo)
      have hol := own_len hro
      have hgl := own_len hrg
      have HRO := Lib.hid hro
      have HRG := Lib.hid hrg
      have hsz : w7.heap.size ≤ wr.heap.size := hbs
      clear hgo hdr hap hro hrg
      by_cases h16 : 16 < mo + mg
      · have hM := Lib.hid (show mergeM base mine theirs = ([], false) by rw [HMM.out, HGX.out]; simp only; rw [if_pos (by omega)])
        have b16 : decide (16 < (mo : Int) + (mg : Int)) = true := by simp; omega
        clear hol hgl h16
        go_wp2_with (at_builtin; refine wpList_append_two rfl _ _ rfl w7.heap.size rfl HRO.out rfl (Aces.of_own HRG.out) (own_len HRG.out) (own_none HRG.out) (by omega) hsz ?_; intro A' c' w9 hown' hgrow)
        go_ret2
        rw [hM.out]
        exact ⟨none, 0, 0, rfl, World.ownsRow_nil _ _ _ _, HB7.out.trans ((hbw.grown hgrow hbs (fun j hj => (HRO.out.lt j hj).1)).mono HB7.out.size)⟩
      · have hM := Lib.hid (show mergeM base mine theirs = (ol ++ gl, true) by rw [HMM.out, HGX.out]; simp only; rw [if_neg (by omega)])
        have b16 : decide (16 < (mo : Int) + (mg : Int)) = false := by simp; omega
        clear hol hgl h16
        go_wp2_with (at_builtin; refine wpList_append_two rfl _ _ rfl w7.heap.size rfl HRO.out rfl (Aces.of_own HRG.out) (own_len HRG.out) (own_none HRG.out) (by omega) hsz ?_; intro A' c' w9 hown' hgrow)
        go_ret2
        rw [hM.out]
        exact ⟨A', mo + mg, c', rfl, own_mono hown' HB7.out.size, HB7.out.trans ((hbw.grown hgrow hbs (fun j hj => (HRO.out.lt j hj).1)).mono HB7.out.size)⟩
end Go.Proofs.Ytkpedfigaofloaa
