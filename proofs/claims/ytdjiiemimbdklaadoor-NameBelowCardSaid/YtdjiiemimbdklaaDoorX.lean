/-
  Walk of the law NameBelow: it returns true for every two lists of numbers and two numbers. The world must hold the program's table of kinds, and the numbers.
-/
import Derived.Test.YtdjiiemimbdklaaDoorW
import Derived.Test.YtdjiiemimbdklaaDoorI
import Derived.Test.YtdjiiemimbdklaaDoorJ
import Derived.Test.YtdjiiemimbdklaaDoorPw
import Derived.Test.YtdjiiemimbdklaaDoorPt
namespace Go.Proofs.YtdjiiemimbdklaaDoor
open Go.RowKit Pl
set_option maxHeartbeats 400000

/-- The law's own box, and the old world below it. -/
def Box2 (w : World) (k j : UInt8) (W : World) : Prop :=
  W.cell? ⟨w.heap.size, 0, none⟩ = some (.int .u8 k.toNat) ∧ W.cell? ⟨w.heap.size, 1, none⟩ = some (.int .u8 j.toNat) ∧ Below w.heap.size w W
theorem Box2.step {w : World} {k j : UInt8} {W W' : World} (h : Box2 w k j W) (hb : Below W.heap.size W W') : Box2 w k j W' :=
  ⟨(hb.cell (block_lt_of_cell h.1)).trans h.1, (hb.cell (block_lt_of_cell h.2.1)).trans h.2.1, h.2.2.trans (hb.mono h.2.2.size)⟩
theorem box2_start (w : World) (k j : UInt8) : Box2 w k j (w.alloc (.cells #[.int .u8 k.toNat, .int .u8 j.toNat] 51)) :=
  ⟨heap_first w _ _ _, heap_second w _ _ _, (Below.refl _ w).alloc (Nat.le_refl _) _⟩

theorem rem_fit (n : Nat) (hn : n ≤ 9223372036854775807) (k : UInt8) : ∃ (M : Int) (r : Nat), IntKind.i64.wrap ((n : Int) + 1) = M ∧ M ≠ 0 ∧ r ≤ n ∧ (k.toNat : Int).tmod M = (r : Int) := by
  obtain ⟨k0, k1⟩ := u8_cast k
  by_cases h : n = 9223372036854775807
  · subst h
    refine ⟨-9223372036854775808, k.toNat, by decide, by decide, by omega, ?_⟩
    rw [Int.tmod_neg]; exact Int.tmod_eq_of_lt k0 (by omega)
  · have h1 := Int.tmod_nonneg ((n : Int) + 1) k0
    have h2 := Int.tmod_lt_of_pos (k.toNat : Int) (show (0 : Int) < (n : Int) + 1 by omega)
    exact ⟨(n : Int) + 1, ((k.toNat : Int).tmod ((n : Int) + 1)).toNat, IntWalk.i64_in _ (by omega), by omega, by omega, by omega⟩

set_option maxRecDepth 100000 in
set_option maxHeartbeats 4000000 in
theorem belows_any (A0 : Option Addr) (n0 c0 : Nat) (l0 : List UInt8) (e0 : l0.length = n0) (b0 : n0 ≤ 9223372036854775807) (f0 : n0 ≤ c0) (g0 : c0 ≤ 9223372036854775807)
    (A1 : Option Addr) (n1 c1 : Nat) (l1 : List UInt8) (e1 : l1.length = n1) (b1 : n1 ≤ 9223372036854775807) (_ : n1 ≤ c1) (_ : c1 ≤ 9223372036854775807)
    (k j : UInt8) (w : World) (hE : Env w) (y0 : Byts w A0 l0) (y1 : Byts w A1 l1) :
    Calls Tryd.prog 6 #[.slice A0 n0 c0, .slice A1 n1 c1, .agg #[.int .u8 k.toNat, .int .u8 j.toNat]] w fun e w' => e = .returned (.bool true) ∧ Below w.heap.size w w' := by
  have B0 := Lib.hid (box2_start w k j)
  obtain ⟨p, hp⟩ : ∃ p, mk (longS l0) = p := ⟨_, rfl⟩
  obtain ⟨q, hq⟩ : ∃ q, mk (longS l1) = q := ⟨_, rfl⟩
  have hps : p.size ≤ 170 := by rw [← hp, mk_size]; exact long_len l0
  have hqs : q.size ≤ 170 := by rw [← hq, mk_size]; exact long_len l1
  have L0 := fun W hb => long_any A0 n0 c0 l0 e0 b0 W hb
  have L1 := fun W hb => long_any A1 n1 c1 l1 e1 b1 W hb
  rw [hp] at L0
  rw [hq] at L1
  have H0 := Lib.hid L0
  have H1 := Lib.hid L1
  clear L0 L1
  have cI := fun (s : ByteArray) (hs : s.size ≤ 170) W => ispath_any s (by omega) W
  have cC := fun (s : ByteArray) (hs : s.size ≤ 170) W => rcut_any s (by omega) W
  have CI := Lib.hid cI
  have CC := Lib.hid cC
  clear cI cC
  cases hip : isPath p.data.toList
  · have HIP := Lib.hid hip
    clear hip hp hq e0 e1
    go_enter Tryd.func6, Tryd.ntmps6
    go_wp2_with (first | (go_at_call 11; refine (sanity_any _ (hE.below B0.out.2.2)).mono ?_; rintro e w1 ⟨rfl, hb1'⟩; have x1 := Lib.hid (B0.out.step hb1')) | (go_at_call 12; first | (refine (H1.out _ (y1.below x2.out.2.2)).mono ?_; rintro e w3 ⟨rfl, hb3'⟩; have x3 := Lib.hid (x2.out.step hb3')) | (refine (H0.out _ (y0.below x1.out.2.2)).mono ?_; rintro e w2 ⟨rfl, hb2'⟩; have x2 := Lib.hid (x1.out.step hb2'))) | (go_at_call 31; first | (have x4q := x4; refine (CI.out q hqs _).mono ?_; rintro e w5 ⟨he, hb5'⟩; have x5 := Lib.hid (x4.out.step hb5'); rw [HIQ.out] at he; subst he) | (refine (CI.out p hps _).mono ?_; rintro e w4 ⟨he, hb4'⟩; have x4 := Lib.hid (x3.out.step hb4'); rw [HIP.out] at he; subst he)))
    go_ret
    exact ⟨rfl, x4.out.2.2⟩
  · cases hiq : isPath q.data.toList
    · have HIP := Lib.hid hip
      have HIQ := Lib.hid hiq
      clear hip hiq hp hq e0 e1
      go_enter Tryd.func6, Tryd.ntmps6
      go_wp2_with (first | (go_at_call 11; refine (sanity_any _ (hE.below B0.out.2.2)).mono ?_; rintro e w1 ⟨rfl, hb1'⟩; have x1 := Lib.hid (B0.out.step hb1')) | (go_at_call 12; first | (refine (H1.out _ (y1.below x2.out.2.2)).mono ?_; rintro e w3 ⟨rfl, hb3'⟩; have x3 := Lib.hid (x2.out.step hb3')) | (refine (H0.out _ (y0.below x1.out.2.2)).mono ?_; rintro e w2 ⟨rfl, hb2'⟩; have x2 := Lib.hid (x1.out.step hb2'))) | (go_at_call 31; first | (have x4q := x4; refine (CI.out q hqs _).mono ?_; rintro e w5 ⟨he, hb5'⟩; have x5 := Lib.hid (x4.out.step hb5'); rw [HIQ.out] at he; subst he) | (refine (CI.out p hps _).mono ?_; rintro e w4 ⟨he, hb4'⟩; have x4 := Lib.hid (x3.out.step hb4'); rw [HIP.out] at he; subst he)))
      go_ret
      exact ⟨rfl, x5.out.2.2⟩
    · obtain ⟨La, hLa⟩ : ∃ L, cut p.data.toList = L := ⟨_, rfl⟩
      obtain ⟨Lb, hLb⟩ : ∃ L, cut q.data.toList = L := ⟨_, rfl⟩
      obtain ⟨na, hna⟩ : ∃ n, La.length = n := ⟨_, rfl⟩
      obtain ⟨nb, hnb⟩ : ∃ n, Lb.length = n := ⟨_, rfl⟩
      have ha171 : na ≤ 171 := by rw [← hna, ← hLa]; have := cut_len p.data.toList; rw [← Lib.size_eq] at this; omega
      have hb171 : nb ≤ 171 := by rw [← hnb, ← hLb]; have := cut_len q.data.toList; rw [← Lib.size_eq] at this; omega
      have HP := Lib.hid (show longS l0 = p.data.toList by rw [← hp, mk_data])
      have HIP := Lib.hid hip
      have HIQ := Lib.hid hiq
      have HLA := Lib.hid hLa
      have HLB := Lib.hid hLb
      have HNA := Lib.hid hna
      have HNB := Lib.hid hnb
      clear hip hiq hLa hLb hna hnb hp hq e1
      go_enter Tryd.func6, Tryd.ntmps6
      go_wp2_with (first | (go_at_call 11; refine (sanity_any _ (hE.below B0.out.2.2)).mono ?_; rintro e w1 ⟨rfl, hb1'⟩; have x1 := Lib.hid (B0.out.step hb1')) | (go_at_call 12; first | (refine (H1.out _ (y1.below x2.out.2.2)).mono ?_; rintro e w3 ⟨rfl, hb3'⟩; have x3 := Lib.hid (x2.out.step hb3')) | (refine (H0.out _ (y0.below x1.out.2.2)).mono ?_; rintro e w2 ⟨rfl, hb2'⟩; have x2 := Lib.hid (x1.out.step hb2'))) | (go_at_call 31; first | (have x4q := x4; refine (CI.out q hqs _).mono ?_; rintro e w5 ⟨he, hb5'⟩; have x5 := Lib.hid (x4.out.step hb5'); rw [HIQ.out] at he; subst he) | (refine (CI.out p hps _).mono ?_; rintro e w4 ⟨he, hb4'⟩; have x4 := Lib.hid (x3.out.step hb4'); rw [HIP.out] at he; subst he)) | (go_at_call 32; first | (have x6' := x6; refine (CC.out q hqs _).mono ?_; rw [HLB.out, HNB.out]; rintro e w7 ⟨Ab, cb, rfl, sb, hb7'⟩; have x7 := Lib.hid (x6.out.step hb7')) | (refine (CC.out p hps _).mono ?_; rw [HLA.out, HNA.out]; rintro e w6 ⟨Aa, ca, rfl, sa, hb6'⟩; have x6 := Lib.hid (x5.out.step hb6'))))
      have x7b := x7
      go_loopw [12, 13] (fun hd i wr => ∃ (t : Nat) (v : Bool), t ≤ na ∧ t ≤ nb ∧ i = .int .i64 t ∧ hd = .bool v ∧ (v = true ↔ (nb ≤ na ∧ La.take t = Lb.take t)) ∧ Below w7.heap.size w7 wr) (fun _ i _ => na - (intOf i).toNat)
      case atStart => exact ⟨0, _, Nat.zero_le _, Nat.zero_le _, rfl, rfl, by simp, Below.refl _ _⟩
      case round =>
        obtain ⟨t, v, hta, htb, rfl, rfl, hv, hbw⟩ := hrel
        have HV := Lib.hid hv
        clear hv
        have ht0 : (0 : Int) ≤ (t : Int) := by omega
        by_cases hlt : t < na ∧ t < nb
        · obtain ⟨h1, h2⟩ := hlt
          have i1 : (t : Int) < (na : Int) := by omega
          have i2 : (t : Int) < (nb : Int) := by omega
          have hkl : t < La.length := by rw [HNA.out]; exact h1
          have hkl' : t < Lb.length := by rw [HNB.out]; exact h2
          obtain ⟨g, rfl, _, _, hcg⟩ := ((sa.below hb7').below hbw) (List.ne_nil_of_length_pos (by omega))
          obtain ⟨g', rfl, _, _, hcg'⟩ := (sb.below hbw) (List.ne_nil_of_length_pos (by omega))
          have hx := hcg t La[t] (List.getElem?_eq_getElem hkl)
          have hy := hcg' t Lb[t] (List.getElem?_eq_getElem hkl')
          obtain ⟨x, hxe⟩ : ∃ x, La[t] = x := ⟨_, rfl⟩
          obtain ⟨y, hye⟩ : ∃ y, Lb[t] = y := ⟨_, rfl⟩
          rw [hxe] at hx
          rw [hye] at hy
          have HX := Lib.hid hxe
          have HY := Lib.hid hye
          have SA := Lib.hid sa
          have SB := Lib.hid sb
          clear hxe hye hcg hcg' sa sb
          have step : ∀ u : Bool, (u = true ↔ (v = true ∧ x = y)) → (u = true ↔ (nb ≤ na ∧ La.take (t + 1) = Lb.take (t + 1))) := by
            intro u hu
            rw [hu, HV.out, List.take_succ_eq_append_getElem hkl, List.take_succ_eq_append_getElem hkl', HX.out, HY.out]
            constructor
            · rintro ⟨⟨h3, h4⟩, h5⟩; exact ⟨h3, by rw [h4, h5]⟩
            · rintro ⟨h3, h4⟩
              obtain ⟨h5, h6⟩ := List.append_inj h4 (by simp; omega)
              exact ⟨⟨h3, h5⟩, by simpa using h6⟩
          have STEP := Lib.hid step
          clear step
          cases v
          · go_wp2
            go_quiet (fail)
            go_wp2
            go_roundw
            case rel => exact ⟨t + 1, false, by omega, by omega, by go_num, rfl, STEP.out false (by simp), ⟨hbw.os, hbw.tape, hbw.output, hbw.size, hbw.block⟩⟩
            case measure => simp [intOf]; omega
          · by_cases hxy : x = y
            · have bxy : (x == y) = true := beq_iff_eq.2 hxy
              have HXY := Lib.hid hxy
              clear hxy
              go_wp2
              go_quiet (fail)
              go_wp2
              go_roundw
              case rel => exact ⟨t + 1, true, by omega, by omega, by go_num, rfl, STEP.out true (by simp [HXY.out]), ⟨hbw.os, hbw.tape, hbw.output, hbw.size, hbw.block⟩⟩
              case measure => simp [intOf]; omega
            · have bxy : (x == y) = false := beq_eq_false_iff_ne.2 hxy
              have HXY := Lib.hid hxy
              clear hxy
              go_wp2
              go_quiet (fail)
              go_wp2
              go_roundw
              case rel => exact ⟨t + 1, false, by omega, by omega, by go_num, rfl, STEP.out false (by simp [HXY.out]), ⟨hbw.os, hbw.tape, hbw.output, hbw.size, hbw.block⟩⟩
              case measure => simp [intOf]; omega
        · have hbv : belowB p.data.toList q.data.toList = v := by
            rw [below_cut, HLA.out, HLB.out, Bool.eq_iff_iff, HV.out, List.isPrefixOf_iff_prefix]
            have hna := HNA.out
            have hnb := HNB.out
            constructor
            · intro h
              have hl := h.length_le
              refine ⟨by omega, ?_⟩
              obtain ⟨C, hC⟩ := h
              rw [← hC, List.take_append_of_le_length (by omega)]
            · rintro ⟨h3, h4⟩
              obtain rfl : t = nb := by omega
              rw [List.take_of_length_le (l := Lb) (by omega)] at h4
              rw [← h4]; exact List.take_prefix _ _
          have F1 := Lib.hid hbv
          have F2 := Lib.hid (below_refl p.data.toList)
          have F3 := Lib.hid (show belowB p.data.toList (⟨#[]⟩ : ByteArray).data.toList = true from below_nil _)
          clear hbv sa sb
          have bvv : (v != v) = false := by simp
          have x8 := Lib.hid (x7.out.step hbw)
          have Y0 := Lib.hid (y0.below x8.out.2.2)
          obtain ⟨t0, t1, bw⟩ := x8.out
          obtain ⟨k0, k1⟩ := u8_cast k
          obtain ⟨j0, j1⟩ := u8_cast j
          have wk : IntKind.i64.wrap (k.toNat : Int) = (k.toNat : Int) := IntWalk.i64_in _ (by omega)
          have wj : IntKind.i64.wrap (j.toNat : Int) = (j.toNat : Int) := IntWalk.i64_in _ (by omega)
          have hbranch : ((t : Int) < (na : Int) ∧ ¬ (t : Int) < (nb : Int)) ∨ ¬ (t : Int) < (na : Int) := by omega
          rcases hbranch with ⟨i1, i2⟩ | i1
          all_goals
            go_wp2_with (first | (go_at_call 24; refine (below_any _ _ _).mono ?_; rintro e w9 ⟨he, rfl⟩; (first | rw [F1.out] at he | rw [F2.out] at he | rw [F3.out] at he); subst he))
            obtain ⟨M, r, wM, hM, hr, hr'⟩ := rem_fit n0 b0 k
            obtain ⟨M', r2, wM', _, hr2, hr2'⟩ := rem_fit n0 b0 j
            obtain rfl : M = M' := wM.symm.trans wM'
            have bM : (M == 0) = false := beq_eq_false_iff_ne.2 hM
            have wr1 : IntKind.i64.wrap (r : Int) = (r : Int) := IntWalk.i64_in _ (by omega)
            have wr2 : IntKind.i64.wrap (r2 : Int) = (r2 : Int) := IntWalk.i64_in _ (by omega)
            have q1 : (0 : Int) ≤ (r : Int) := by omega
            have q2 : (0 : Int) ≤ (r2 : Int) := by omega
            have q3 : (r : Int) ≤ (c0 : Int) := by omega
            have q4 : (r2 : Int) ≤ (c0 : Int) := by omega
            obtain ⟨X, hX⟩ : ∃ X, mk (longS (l0.take r)) = X := ⟨_, rfl⟩
            obtain ⟨Y, hY⟩ : ∃ Y, mk (longS (l0.take r2)) = Y := ⟨_, rfl⟩
            have hXd : longS (l0.take r) = X.data.toList := by rw [← hX, mk_data]
            have hYd : longS (l0.take r2) = Y.data.toList := by rw [← hY, mk_data]
            have hPX := below_take l0 r
            have hPY := below_take l0 r2
            have hone := below_one l0 r r2
            rw [hXd, HP.out] at hPX
            rw [hYd, HP.out] at hPY
            rw [hXd, hYd] at hone
            have htr : belowB q.data.toList p.data.toList = true → belowB q.data.toList X.data.toList = true := fun h => below_trans h hPX
            have F4 := Lib.hid hPX
            have F5 := Lib.hid hPY
            have FT := Lib.hid htr
            have FO := Lib.hid hone
            have HX := Lib.hid hX
            have HY := Lib.hid hY
            have cL := fun (i : Nat) (hi : i ≤ n0) (W : World) (hx : Box2 w k j W) => (long_any A0 i c0 (l0.take i) (by rw [List.length_take]; omega) (by omega) W ((y0.below hx.2.2).take i)).mono (R' := fun e w' => e = .returned (.string (mk (longS (l0.take i)))) ∧ Box2 w k j w') fun _ _ ⟨he, hb⟩ => ⟨he, hx.step hb⟩
            have CL := Lib.hid cL
            clear cL wM' hX hY hXd hYd hPX hPY hone htr
            go_region_held (fun W' => W'.cell? ⟨w.heap.size, 0, none⟩ = some (.int .u8 k.toNat) ∧ W'.cell? ⟨w.heap.size, 1, none⟩ = some (.int .u8 j.toNat) ∧ Below w.heap.size w W') (first | exact ⟨t0, t1, bw.drew⟩ | exact ⟨t0, t1, bw⟩ | exact Box2.step ⟨t0, t1, bw⟩ (Below.refl _ _).drew | go_keep) (first | (go_at_call 12; refine (CL.out _ (by assumption) _ ?_).mono ?_; (first | exact Box2.step ⟨t0, t1, bw⟩ (Below.refl _ _).drew | exact ⟨t0, t1, bw⟩ | (refine ⟨?_, ?_, ?_⟩ <;> first | assumption | simp [*])); rintro e w9 ⟨he, t0, t1, bw⟩; (first | rw [HX.out] at he | rw [HY.out] at he); subst he))
            have fin : (belowB q.data.toList p.data.toList = false ∨ (belowB q.data.toList p.data.toList = true ∧ belowB q.data.toList X.data.toList = true)) ∧ (belowB X.data.toList Y.data.toList = true ∨ (belowB X.data.toList Y.data.toList = false ∧ belowB Y.data.toList X.data.toList = true)) := by
              constructor
              · cases h : belowB q.data.toList p.data.toList
                · exact .inl rfl
                · exact .inr ⟨rfl, FT.out h⟩
              · cases h : belowB X.data.toList Y.data.toList
                · exact .inr ⟨rfl, (FO.out.resolve_left (by rw [h]; simp))⟩
                · exact .inl rfl
            obtain ⟨fa, fb⟩ := fin
            rcases fa with fa | ⟨fa, fa2⟩ <;> rcases fb with fb | ⟨fb, fb2⟩
            all_goals
              have G1 := Lib.hid fa
              have G2 := Lib.hid fb
              try have G3 := Lib.hid fa2
              try have G4 := Lib.hid fb2
              clear fa fb
              try clear fa2
              try clear fb2
              go_wp2_with (first | (go_at_call 24; refine (below_any _ _ _).mono ?_; rintro e w10 ⟨he, rfl⟩; (first | rw [F4.out] at he | rw [F5.out] at he | rw [G1.out] at he | rw [G2.out] at he | rw [G3.out] at he | rw [G4.out] at he); subst he))
              go_ret
              exact ⟨rfl, bw⟩
end Go.Proofs.YtdjiiemimbdklaaDoor
