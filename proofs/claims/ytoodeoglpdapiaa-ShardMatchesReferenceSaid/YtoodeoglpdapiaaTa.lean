/-
  Walk of the law ShardMatchesReference.
-/
import Derived.Test.YtoodeoglpdapiaaSz
namespace Go.Proofs.Ytoodeoglpdapiaa
open Go.RowKit Gf
set_option maxHeartbeats 400000

theorem wf_small {x : Int} (h0 : -128 ≤ x) (h1 : x ≤ 1000) : (Lit.int .i64 x).wf = true := by
  have e0 : IntKind.i64.min = -9223372036854775808 := by decide
  have e1 : IntKind.i64.max = 9223372036854775807 := by decide
  simp only [Lit.wf, e0, e1]
  simp
  omega
theorem short_enc (b : List UInt8) (k n : Int) (hl : b.length ≤ 100) : Short (EncR b k n).1 := by
  unfold EncR
  split
  · rename_i h
    intro r hr
    have h1 := encL_lens (show 1 ≤ k.toNat by omega) (show k.toNat ≤ 256 by omega) r hr
    have h2 := (longN_le b.length k.toNat (by omega)).2
    show r.length ≤ 100
    omega
  · intro r hr; cases hr
theorem same_self (A A2 : Option Addr) (m c c2 : Nat) (l : List UInt8) (e : Int) (w : World) (hn : l.length = m) (hA : Byts w A l) (hA2 : Byts w A2 l) :
    Calls Try.prog 14 #[.agg #[.slice A m c, .int .i64 e], .agg #[.slice A2 m c2, .int .i64 e]] w fun d w' => d = .returned (.bool true) ∧ Below w.heap.size w w' := by
  have := Same_any A A2 m c m c2 l l hn hn e e w hA hA2
  simpa using this
theorem shards_self (A A2 : Option Addr) (n c c2 : Nat) (ls : List (List UInt8)) (hn : ls.length = n) (hl : n ≤ 9223372036854775806) (w : World) (hA : Lists w A ls) (hA2 : Lists w A2 ls) :
    Calls Try.prog 13 #[.slice A n c, .slice A2 n c2] w fun d w' => d = .returned (.bool true) ∧ Below w.heap.size w w' := by
  refine (SameShards_any A A2 n c n c2 ls ls hn hn hl w hA hA2).mono ?_
  rintro e w' ⟨rfl, m, rfl⟩
  exact ⟨by simp, below_drewN w m⟩

theorem matS_below {bx m c4 : Nat} {A4 : Option Addr} {wZ W W' : World} (h : W.cell? ⟨bx, 0, none⟩ = some (.slice A4 m c4) ∧ Below wZ.heap.size wZ W) (hb : Below W.heap.size W W') : W'.cell? ⟨bx, 0, none⟩ = some (.slice A4 m c4) ∧ Below wZ.heap.size wZ W' :=
  ⟨(hb.cell (block_lt_of_cell h.1)).trans h.1, h.2.trans (hb.mono h.2.size)⟩
theorem matS_end {bx m c4 : Nat} {A4 : Option Addr} {wZ W w : World} (h : W.cell? ⟨bx, 0, none⟩ = some (.slice A4 m c4) ∧ Below wZ.heap.size wZ W) (hB : Below w.heap.size w wZ) : Below w.heap.size w W := hB.trans (h.2.mono hB.size)

set_option maxHeartbeats 8000000 in
set_option maxRecDepth 20000 in
theorem lawMatches_any {Env : World → Prop} (P : Prg Env) (S : SanOk Env) (A A2 : Option Addr) (nb cb n2 c2 : Nat) (b : List UInt8) (ls : List (List UInt8)) (x y z : Int) (hx : -128 ≤ x ∧ x ≤ 127) (hy : -128 ≤ y ∧ y ≤ 127) (hz : -128 ≤ z ∧ z ≤ 127) (w : World) (hE : Env w)
    (hA : Slb (· < w.heap.size) w A nb cb b) (hA2 : Sll (· < w.heap.size) (· < w.heap.size) w A2 n2 c2 ls) :
    Calls Try.prog 3 #[.slice A nb cb, .slice A2 n2 c2, .agg #[.int .i8 x, .int .i8 y, .int .i8 z]] w fun e w' => e = .returned (.bool true) ∧ Below w.heap.size w w' := by
  have HS := Lib.hid (show ∀ W, Env W → Calls Try.prog 10 #[] W fun e w' => e = .returned (.bool true) ∧ Below W.heap.size W w' from S)
  have HP := Lib.hid P
  have HA := Lib.hid hA
  have HA2 := Lib.hid hA2
  have hB0 : Below w.heap.size w (w.alloc (.cells #[.int .i8 x, .int .i8 y, .int .i8 z] 25)) := by go_grown
  have hE0 := P.env hE hB0
  have k0 : (w.alloc (.cells #[.int .i8 x, .int .i8 y, .int .i8 z] 25)).cell? ⟨w.heap.size, 0, none⟩ = some (.int .i8 x) := by simp [go_sem]
  have k1 : (w.alloc (.cells #[.int .i8 x, .int .i8 y, .int .i8 z] 25)).cell? ⟨w.heap.size, 1, none⟩ = some (.int .i8 y) := by simp [go_sem]
  have k2 : (w.alloc (.cells #[.int .i8 x, .int .i8 y, .int .i8 z] 25)).cell? ⟨w.heap.size, 2, none⟩ = some (.int .i8 z) := by simp [go_sem]
  have KB := Lib.hid (fun W (h : Below (w.alloc (.cells #[.int .i8 x, .int .i8 y, .int .i8 z] 25)).heap.size (w.alloc (.cells #[.int .i8 x, .int .i8 y, .int .i8 z] 25)) W) => show W.cell? ⟨w.heap.size, 0, none⟩ = some (.int .i8 x) ∧ W.cell? ⟨w.heap.size, 1, none⟩ = some (.int .i8 y) ∧ W.cell? ⟨w.heap.size, 2, none⟩ = some (.int .i8 z) from ⟨(h.cell (block_lt_of_cell k0)).trans k0, (h.cell (block_lt_of_cell k1)).trans k1, (h.cell (block_lt_of_cell k2)).trans k2⟩)
  clear S P k0 k1 k2 hA hA2
  by_cases h60 : 40 < nb ∨ (¬ 40 < nb ∧ 14 < n2)
  · rcases h60 with h60 | ⟨h60, h14⟩
    · have h60' : (40 : Int) < (nb : Int) := by omega
      go_enter Try.func3, Try.ntmps3
      go_wp2_with (go_at_call 10; with_reducible refine (HS.out _ hE0).mono ?_; rintro e w2 ⟨rfl, hb2⟩)
      go_ret
      exact ⟨rfl, hB0.trans (hb2.mono hB0.size)⟩
    · have h60' : ¬ (40 : Int) < (nb : Int) := by omega
      have h14' : (14 : Int) < (n2 : Int) := by omega
      go_enter Try.func3, Try.ntmps3
      go_wp2_with (go_at_call 10; with_reducible refine (HS.out _ hE0).mono ?_; rintro e w2 ⟨rfl, hb2⟩)
      go_ret
      exact ⟨rfl, hB0.trans (hb2.mono hB0.size)⟩
  · have h60' : ¬ (40 : Int) < (nb : Int) := by omega
    have h14' : ¬ (14 : Int) < (n2 : Int) := by omega
    go_enter Try.func3, Try.ntmps3
    go_wp2_with (go_at_call 10; with_reducible refine (HS.out _ hE0).mono ?_; rintro e w2 ⟨rfl, hb2⟩)
    have hB2 := hB0.trans (hb2.mono hB0.size)
    have HE2 := Lib.hid (HP.out.env hE0 hb2)
    have HB2 := Lib.hid hB2
    have HL := Lib.hid (HA2.out.lists.lists.below hB2)
    have KB2 := Lib.hid (KB.out _ hb2)
    clear hE0 hb2 hB2 hB0 KB
    go_loopw [6, 8] (fun _ i wr => ∃ q : Nat, q ≤ n2 ∧ i = .int .i64 q ∧ (∀ r ∈ ls.take q, r.length ≤ 20) ∧ wr = w2) (fun _ i _ => n2 - (intOf i).toNat)
    case atStart => exact ⟨0, Nat.zero_le _, rfl, by simp, rfl⟩
    case round =>
      obtain ⟨q, hq, rfl, hsh, rfl⟩ := hrel
      by_cases hlt : q < n2
      · have qn : (q : Int) < (n2 : Int) := by omega
        have q0 : (0 : Int) ≤ (q : Int) := by omega
        have hql : q < ls.length := by rw [HA2.out.len]; exact hlt
        obtain ⟨g, o, rfl, hg, hc⟩ := HL.out (List.ne_nil_of_length_pos (by omega))
        obtain ⟨B, cbb, q1, _, _, _, _⟩ := hc q ls[q] (List.getElem?_eq_getElem hql)
        have hst : ls[q].length ≤ 20 → ∀ r ∈ ls.take (q + 1), r.length ≤ 20 := fun h r hr => by
          rw [List.take_succ_eq_append_getElem hql] at hr
          rcases List.mem_append.1 hr with hr | hr
          · exact hsh r hr
          · rw [List.mem_singleton.1 hr]; exact h
        obtain ⟨nr, hnr⟩ : ∃ n, ls[q].length = n := ⟨_, rfl⟩
        rw [hnr] at q1 hst
        have HST := Lib.hid hst
        clear hc hst hnr hsh
        by_cases h20 : 20 < nr
        · have h20' : (20 : Int) < (nr : Int) := by omega
          go_wp2
          go_ret
          exact ⟨rfl, HB2.out⟩
        · have h20' : ¬ (20 : Int) < (nr : Int) := by omega
          go_wp2
          go_roundw
          case rel => exact ⟨q + 1, by omega, by go_num, HST.out (by omega), trivial⟩
          case measure => simp [intOf]; omega
      · obtain rfl : q = n2 := by omega
        have hshort : Short ls := fun r hr => Nat.le_trans (hsh r (by rw [List.take_of_length_le (by rw [HA2.out.len]; exact Nat.le_refl _)]; exact hr)) (by decide)
        have HSH := Lib.hid hshort
        obtain ⟨y0, y1, y2⟩ := KB2.out
        clear hsh hshort
        go_wp2
        go_quiet (fail)
        have wfx := wf_small hx.1 (show x ≤ 1000 by omega)
        have wfy := wf_small hy.1 (show y ≤ 1000 by omega)
        have wfz := wf_small hz.1 (show z ≤ 1000 by omega)
        have hbq : nb ≤ 100 := by omega
        have hsR := short_enc b x y (by rw [HA.out.len]; exact hbq)
        have KE := fun W (h : Below wr.heap.size wr W) => encU HP.out _ A nb cb b x y W (HP.out.env HE2.out h) (HA.out.below (HB2.out.trans (h.mono HB2.out.size))) hbq wfx wfy
        have KV := fun W (h : Below wr.heap.size wr W) => encV A nb cb b x y W (HA.out.below (HB2.out.trans (h.mono HB2.out.size))).byts.byts HA.out.len hbq
        obtain ⟨R, hR⟩ : ∃ R, (EncR b x y).1 = R := ⟨_, rfl⟩
        obtain ⟨er, her⟩ : ∃ R, (EncR b x y).2 = R := ⟨_, rfl⟩
        rw [hR] at KE KV hsR
        rw [her] at KE KV
        obtain ⟨m, hm⟩ : ∃ m, R.length = m := ⟨_, rfl⟩
        rw [hm] at KE KV
        have HKE := Lib.hid KE
        have HKV := Lib.hid KV
        have HSR := Lib.hid hsR
        have HM := Lib.hid hm
        have hm12 : m ≤ 12 := by
          rw [← hm, ← hR]
          unfold EncR
          split
          · rw [encL_len]; omega
          · exact Nat.zero_le _
        have KD := Lib.hid (fun W (h : Below wr.heap.size wr W) => decU HP.out _ _ A2 q c2 ls x y W (HP.out.env HE2.out h) (HA2.out.below (HB2.out.trans (h.mono HB2.out.size))) (by omega) wfx wfy)
        have KD2 := Lib.hid (fun W (h : Below wr.heap.size wr W) => decV A2 q c2 ls x y W (HA2.out.below (HB2.out.trans (h.mono HB2.out.size))).plain HA2.out.len (by omega))
        have KR := Lib.hid (fun W (h : Below wr.heap.size wr W) => rebU HP.out _ _ A2 q c2 ls x z W (HP.out.env HE2.out h) (HA2.out.below (HB2.out.trans (h.mono HB2.out.size))) HSH.out wfx wfz)
        have KR2 := Lib.hid (fun W (h : Below wr.heap.size wr W) => rebV A2 q c2 ls x z W (HA2.out.below (HB2.out.trans (h.mono HB2.out.size))).plain HA2.out.len HSH.out)
        have KC := Lib.hid (fun W (h : Below wr.heap.size wr W) => chkU HP.out _ _ A2 q c2 ls x W (HP.out.env HE2.out h) (HA2.out.below (HB2.out.trans (h.mono HB2.out.size))) HSH.out wfx)
        have KC2 := Lib.hid (fun W (h : Below wr.heap.size wr W) => chkV A2 q c2 ls x W (HA2.out.below (HB2.out.trans (h.mono HB2.out.size))).plain HA2.out.len HA2.out.cap HSH.out)
        have WF := Lib.hid (And.intro wfx wfz)
        have hB := below_drewN wr nq
        clear KE KV hsR hR her hm wfx wfy wfz hx hy hz y0 y1 y2
        go_wp2_with (first
          | (go_at_call 11; with_reducible refine (HKE.out _ hB).mono ?_; rintro e w3 ⟨A3, c3, rfl, hL3, hb⟩; have hB := hB.trans (hb.mono hB.size))
          | (go_at_call 12; with_reducible refine (HKV.out _ hB).mono ?_; rintro e w4 ⟨A4, c4, rfl, hS4, hb⟩; have hL3 := (hL3.below hb).below (((Below.refl _ w4).alloc (Nat.le_refl _) (.cells #[.slice A3 m c3, .int .i64 er] 29)).alloc (by simp) (.cells #[.slice A4 m c4, .int .i64 er] 29)); have hbb := ((Below.refl _ w4).alloc (Nat.le_refl _) (.cells #[.slice A3 m c3, .int .i64 er] 29)).alloc (by simp) (.cells #[.slice A4 m c4, .int .i64 er] 29); have HS4 := Lib.hid (hS4.below hbb); have hB := (hB.trans (hb.mono hB.size)); have hB := hB.trans (hbb.mono hB.size); have HBY := Lib.hid hB; have hY := Below.refl ((w4.alloc (.cells #[.slice A3 m c3, .int .i64 er] 29)).alloc (.cells #[.slice A4 m c4, .int .i64 er] 29)).heap.size ((w4.alloc (.cells #[.slice A3 m c3, .int .i64 er] 29)).alloc (.cells #[.slice A4 m c4, .int .i64 er] 29)))
          | (go_at_call 13; with_reducible refine (shards_self A3 A4 m c3 c4 R HM.out (by omega) _ hL3 HS4.out.plain).mono ?_; rintro e w5 ⟨rfl, hb⟩; have hB := hB.trans (hb.mono hB.size); have hY := hY.trans (hb.mono hY.size))
          | (go_at_call 15; with_reducible refine (KD.out _ hB).mono ?_; rintro e w5 ⟨A5, m5, c5, rfl, hm5, hx5, hb⟩; obtain rfl := hm5; have hB := hB.trans (hb.mono hB.size); have hY := hY.trans (hb.mono hY.size))
          | (go_at_call 16; with_reducible refine (KD2.out _ hB).mono ?_; rintro e w6 ⟨A6, m6, c6, rfl, hm6, hx6, hb⟩; obtain rfl := hm6; have hx5 := hx5.below hb; have hB := hB.trans (hb.mono hB.size); have hY := hY.trans (hb.mono hY.size))
          | (go_at_call 17; with_reducible refine (KR.out _ hB).mono ?_; rintro e w5 ⟨A5, m5, c5, rfl, hm5, hx5, hb⟩; obtain rfl := hm5; have hB := hB.trans (hb.mono hB.size); have hY := hY.trans (hb.mono hY.size))
          | (go_at_call 18; with_reducible refine (KR2.out _ hB).mono ?_; rintro e w6 ⟨A6, m6, c6, rfl, hm6, hx6, hb⟩; obtain rfl := hm6; have hx5 := hx5.below hb; have hB := hB.trans (hb.mono hB.size); have hY := hY.trans (hb.mono hY.size))
          | (go_at_call 14; with_reducible refine (same_self A5 A6 _ c5 c6 _ _ _ rfl hx5 hx6).mono ?_; rintro e w7 ⟨rfl, hb⟩; have hB := hB.trans (hb.mono hB.size); have hY := hY.trans (hb.mono hY.size))
          | (go_at_call 19; with_reducible refine (KC.out _ hB).mono ?_; rintro e w7 ⟨rfl, hb⟩; have hB := hB.trans (hb.mono hB.size); have hY := hY.trans (hb.mono hY.size))
          | (go_at_call 20; with_reducible refine (KC2.out _ hB).mono ?_; rintro e w7 ⟨rfl, hb⟩; have hB := hB.trans (hb.mono hB.size); have hY := hY.trans (hb.mono hY.size)))
        obtain ⟨wZ, hwZ⟩ : ∃ W, W = w7 := ⟨_, rfl⟩
        subst hwZ
        have HBZ := Lib.hid hB
        have HSZ := Lib.hid (HS4.out.below hY)
        have yc : ((w4.alloc (.cells #[.slice A3 m c3, .int .i64 er] 29)).alloc (.cells #[.slice A4 m c4, .int .i64 er] 29)).cell? ⟨w4.heap.size + 1, 0, none⟩ = some (.slice A4 m c4) := by simp [go_sem]
        have ZC := Lib.hid (show wZ.cell? ⟨w4.heap.size + 1, 0, none⟩ = some (.slice A4 m c4) ∧ Below wZ.heap.size wZ wZ from ⟨(hY.cell (block_lt_of_cell yc)).trans yc, Below.refl _ _⟩)
        have HEND := Lib.hid (HB2.out.trans (hB.mono HB2.out.size))
        have KDY := Lib.hid (fun W (h : W.cell? ⟨w4.heap.size + 1, 0, none⟩ = some (.slice A4 m c4) ∧ Below wZ.heap.size wZ W) => decU HP.out _ _ A4 m c4 R x nb W (HP.out.env HE2.out (HBZ.out.trans (h.2.mono HBZ.out.size))) (HSZ.out.below h.2) (by omega) WF.out.1 (wf_small (by omega) (by omega)))
        have KDY2 := Lib.hid (fun W (h : W.cell? ⟨w4.heap.size + 1, 0, none⟩ = some (.slice A4 m c4) ∧ Below wZ.heap.size wZ W) => decV A4 m c4 R x nb W (HSZ.out.below h.2).plain HM.out (by omega))
        have KRY := Lib.hid (fun W (h : W.cell? ⟨w4.heap.size + 1, 0, none⟩ = some (.slice A4 m c4) ∧ Below wZ.heap.size wZ W) => rebU HP.out _ _ A4 m c4 R x z W (HP.out.env HE2.out (HBZ.out.trans (h.2.mono HBZ.out.size))) (HSZ.out.below h.2) HSR.out WF.out.1 WF.out.2)
        have KRY2 := Lib.hid (fun W (h : W.cell? ⟨w4.heap.size + 1, 0, none⟩ = some (.slice A4 m c4) ∧ Below wZ.heap.size wZ W) => rebV A4 m c4 R x z W (HSZ.out.below h.2).plain HM.out HSR.out)
        clear hB hY yc
        first | (go_region_held (fun W => W.cell? ⟨w4.heap.size + 1, 0, none⟩ = some (.slice A4 m c4) ∧ Below wZ.heap.size wZ W) (first | with_reducible exact matS_below ZC.out (Below.refl _ _).drew | with_reducible exact matS_below (by assumption) hb)
          (first
            | (go_at_call 15; with_reducible refine (KDY.out _ (by assumption)).mono ?_; rintro e w8 ⟨A5, m5, c5, rfl, hm5, hx5, hb⟩; obtain rfl := hm5)
            | (go_at_call 16; with_reducible refine (KDY2.out _ (by assumption)).mono ?_; rintro e w9 ⟨A6, m6, c6, rfl, hm6, hx6, hb⟩; obtain rfl := hm6; have hx5 := hx5.below hb)
            | (go_at_call 17; with_reducible refine (KRY.out _ (by assumption)).mono ?_; rintro e w8 ⟨A5, m5, c5, rfl, hm5, hx5, hb⟩; obtain rfl := hm5)
            | (go_at_call 18; with_reducible refine (KRY2.out _ (by assumption)).mono ?_; rintro e w9 ⟨A6, m6, c6, rfl, hm6, hx6, hb⟩; obtain rfl := hm6; have hx5 := hx5.below hb)
            | (go_at_call 14; with_reducible refine (same_self A5 A6 _ c5 c6 _ _ _ rfl hx5 hx6).mono ?_; rintro e w10 ⟨rfl, hb⟩))) | fail
        all_goals
          go_wp2
          go_ret
          exact ⟨rfl, matS_end (by assumption) HEND.out⟩
end Go.Proofs.Ytoodeoglpdapiaa
