/-
  Contracts of the landed package: the iterator over pieces of which some are erased.
-/
import Derived.Test.YtggnklcjhbahhaaFe
namespace Go.Proofs.Ytggnklcjhbahhaa
open Go.RowKit Go.Shelf Ex
attribute [local go_sem] Oper.semAt_some
set_option maxHeartbeats 400000
set_option maxRecDepth 100000

/-- The variable gone, at G. -/
def GoneAt (W : World) (G : Nat) (f : Nat → Bool) : Prop := ∀ j, j < 4096 → W.cell? ⟨G, j, none⟩ = some (.bool (f j))
theorem GoneAt.below {W W' : World} {G : Nat} {f : Nat → Bool} (h : GoneAt W G f) (hb : Below W.heap.size W W') : GoneAt W' G f := fun j hj => (hb.cell (block_lt_of_cell (h j hj))).trans (h j hj)
def isG (f : Nat → Bool) (p : Pc) : Bool := chunkB p.id && f p.id.toNat
def eraP (f : Nat → Bool) (p : Pc) : Pc := if isG f p = true then ⟨-1, 0, p.n⟩ else p
theorem era_right {f : Nat → Bool} {p : Pc} (h : rightB p = true) : rightB (eraP f p) = true := by
  unfold eraP
  split
  · have := right_iff.1 h
    exact right_iff.2 ⟨this.1, this.2.1, Int.le_refl _, .inl ⟨.inr rfl, rfl⟩⟩
  · exact h
set_option maxHeartbeats 1000000 in
theorem erase1_any (G : Nat) (f : Nat → Bool) (p : Pc) (w : World) (hG : GoneAt w G f) :
    Calls Try.prog 43 #[.agg #[.int .i64 p.id, .int .i64 p.fr, .int .i64 p.n], .pointer (some ⟨G, 0, none⟩)] w fun e w' => e = .returned (.bool (isG f p)) ∧ Below w.heap.size w w' := by
  obtain ⟨r, hr⟩ : ∃ r, chunkB p.id = r := ⟨_, rfl⟩
  have CC := Lib.hid (chunk_c hr)
  have HG := Lib.hid (fun j hj => ((Below.refl w.heap.size w).alloc (Nat.le_refl _) (.cells #[.int .i64 p.id, .int .i64 p.fr, .int .i64 p.n] 66)).cell (block_lt_of_cell (hG j hj)) |>.trans (hG j hj))
  have HV := Lib.hid (show isG f p = (r && f p.id.toNat) from by unfold isG; rw [hr])
  clear hG
  cases r
  · clear hr
    go_enter Try.func43, Try.ntmps43
    go_wp2_with (go_at_call 41; (with_reducible refine (CC.out _).mono ?_); rintro e w1 ⟨rfl, rfl⟩)
    go_ret
    exact ⟨ret_bool (by rw [HV.out]; rfl), by go_grown⟩
  · obtain ⟨h1, h2⟩ := chunk_iff.1 hr
    obtain ⟨k, hk⟩ : ∃ k : Nat, p.id = k := ⟨p.id.toNat, by omega⟩
    have hck := HG.out k (by omega)
    have hv : isG f p = f k := by rw [HV.out, hk]; simp
    have HV2 := Lib.hid hv
    obtain ⟨u, hu⟩ : ∃ u, f k = u := ⟨_, rfl⟩
    have k0 : (0 : Int) ≤ (k : Int) := Int.natCast_nonneg k
    have k1 : (k : Int) < 4096 := by omega
    rw [hk] at CC hck ⊢
    rw [hu] at hck
    have HU := Lib.hid hu
    clear hr hk hv hu HG
    go_enter Try.func43, Try.ntmps43
    go_wp2_with (go_at_call 41; (with_reducible refine (CC.out _).mono ?_); rintro e w1 ⟨rfl, rfl⟩)
    go_ret
    exact ⟨ret_bool (by rw [HV2.out, HU.out]), by go_grown⟩

set_option maxHeartbeats 4000000 in
theorem without1_in (n : Nat) (hn : 1 ≤ n) (l Bb Bf G : Nat) (w0 : World) (f : Nat → Bool) (A : Option Addr) (k0 c : Nat) (b : List Pc)
    (ys : List Rp) (hys : vals ys = b.map (eraP f)) (hlen : b.length = k0) (hk0 : k0 ≤ 9223372036854775807) (hrb : ∀ p ∈ b, rightB p = true)
    (hc : w0.cell? ⟨Bb, 0, none⟩ = some (.slice A k0 c)) (hcf : w0.cell? ⟨Bf, 0, none⟩ = some (.func (.func 43) #[] #[.pointer (some ⟨G, 0, none⟩)])) (hG : GoneAt w0 G f) (hA : Pcs w0 A b) (J Jx : List Rp → World → Prop)
    (hY : ∀ (pre : List Rp) (x : Rp) W, J pre W → pre.length < ys.length → YieldAt Fence.wide (n - 1) Try.prog l (encs x) W fun e W' =>
      (e = .returned (.bool true) ∧ J (pre ++ [x]) W' ∧ Below w0.heap.size W W') ∨ (e = .returned (.bool false) ∧ Jx (pre ++ [x]) W'))
    (W : World) (hJ : AbidesFrom W.heap.size J) (hW : Below w0.heap.size w0 W) (h0 : J [] W) :
    CallsIn Fence.wide n Try.prog 55 #[.func (.yield l) #[] #[], .pointer (some ⟨Bb, 0, none⟩), .pointer (some ⟨Bf, 0, none⟩)] W fun e W' => (∃ v, e = .returned v) ∧
      ((∃ zs, zs = ys ∧ J zs W') ∨ (∃ pre, True ∧ Jx pre W')) := by
  have HJg := Lib.hid (fun s (X Y : World) (h : W.heap.size ≤ X.heap.size ∧ J s X) (hg : Below X.heap.size X Y) => show W.heap.size ≤ Y.heap.size ∧ J s Y from
    ⟨Nat.le_trans h.1 hg.size, hJ s X Y none h.2 ⟨hg.os, hg.tape, hg.output, hg.size, fun k hk _ => hg.block k hk⟩ (fun r e => by cases e)⟩)
  have HY := Lib.hid hY
  have SA := Lib.hid hA
  have HYS := Lib.hid hys
  have HRB := Lib.hid hrb
  have hcW := (hW.cell (block_lt_of_cell hc)).trans hc
  have HCF := Lib.hid (fun X (h : Below w0.heap.size w0 X) => (h.cell (block_lt_of_cell hcf)).trans hcf)
  have HG := Lib.hid (fun X (h : Below w0.heap.size w0 X) => hG.below h)
  clear hJ hY hA hrb hc hcf hG
  have h53 : Fence.wide.fn 55 := trivial
  refine callsIn_of_wp Try.func55 rfl h53 ?_ rfl
  simp only [Try.ntmps55, List.size_toArray, List.length_cons, List.length_nil, Nat.reduceAdd, Nat.reduceSub, Array.replicate_succ, Array.replicate_zero, List.push_toArray, List.append_toArray, List.nil_append, List.cons_append]
  gi_wp2
  gi_loopw [8] (fun i wr => ∃ (k : Nat) (pre : List Rp), k ≤ k0 ∧ i = .int .i64 k ∧ vals pre = (b.take k).map (eraP f) ∧ (W.heap.size ≤ wr.heap.size ∧ J pre wr) ∧ Below w0.heap.size w0 wr)
    (fun i _ => k0 - (intOf i).toNat)
  case atStart => exact ⟨0, [], Nat.zero_le _, rfl, rfl, ⟨Nat.le_refl _, h0⟩, hW⟩
  case round =>
    obtain ⟨k, pre, hk, rfl, hpre, hJs, hbw⟩ := hrel
    by_cases hlt : k < k0
    · have hkl : k < b.length := by rw [hlen]; exact hlt
      have hg : b[k]? = some b[k] := List.getElem?_eq_getElem hkl
      obtain ⟨p, hp⟩ : ∃ p, b[k] = p := ⟨_, rfl⟩
      rw [hp] at hg
      have hpr := HRB.out p (List.mem_of_getElem? hg)
      obtain ⟨g, o, hA', hgw, q0, q1, q2⟩ := (SA.out.below hbw).at_ hg
      subst hA'
      have hts : (b.take (k + 1)).map (eraP f) = (b.take k).map (eraP f) ++ [eraP f p] := by
        rw [List.take_succ_eq_append_getElem hkl, List.map_append, hp]; rfl
      have hpl : pre.length < ys.length := by
        have h1 := congrArg List.length hpre
        have h2 := congrArg List.length HYS.out
        rw [vals_len, List.length_map, List.length_take] at h1
        rw [vals_len, List.length_map] at h2
        omega
      have kn : (k : Int) < (k0 : Int) := Int.ofNat_lt.2 hlt
      have k00 : (0 : Int) ≤ (k : Int) := Int.natCast_nonneg k
      obtain ⟨WB, hWB⟩ : ∃ WB, wr.alloc (.cells #[.int .i64 p.id, .int .i64 p.fr, .int .i64 p.n] 66) = WB := ⟨_, rfl⟩
      have hbB : Below wr.heap.size wr WB := by rw [← hWB]; exact (Below.refl _ wr).alloc (Nat.le_refl _) _
      have hbBx : Below w0.heap.size w0 WB := hbw.trans (hbB.mono hbw.size)
      have cf := HCF.out WB hbBx
      have T0 := box_tri wr p
      rw [hWB] at T0
      have hz : ∀ j, WB.frozen? ⟨wr.heap.size, j, none⟩ = false := fun j => by rw [← hWB]; exact frozen_of_row _ _ j _ _ (heap_alloc_new wr _)
      have CE := Lib.hid (erase1_any G f p WB (HG.out WB hbBx))
      have HJB := Lib.hid (fun X (h : Below wr.heap.size wr X) => HJg.out pre wr X hJs h)
      have HBW := Lib.hid hbw
      have HBB := Lib.hid hbB
      have HTS := Lib.hid hts
      have HPRE := Lib.hid hpre
      have HPR := Lib.hid hpr
      have HPL := Lib.hid hpl
      have hwz : wr.heap.size < WB.heap.size := by rw [← hWB]; simp
      have HT0 := Lib.hid T0
      have HZ := Lib.hid (fun W1 (h : Below WB.heap.size WB W1) => show W1.frozen? ⟨wr.heap.size, 0, none⟩ = false ∧ W1.frozen? ⟨wr.heap.size, 1, none⟩ = false ∧ W1.frozen? ⟨wr.heap.size, 2, none⟩ = false from ⟨(h.frozen hwz).trans (hz 0), (h.frozen hwz).trans (hz 1), (h.frozen hwz).trans (hz 2)⟩)
      obtain ⟨b0, b1, b2⟩ := T0
      replace b0 : WB.cell? ⟨wr.heap.size, 0, none⟩ = some (.int .i64 p.id) := b0
      replace b1 : WB.cell? ⟨wr.heap.size, 1, none⟩ = some (.int .i64 p.fr) := b1
      replace b2 : WB.cell? ⟨wr.heap.size, 2, none⟩ = some (.int .i64 p.n) := b2
      clear hp hg hlt hkl hz hbB hts hpre hpl hJs hbw hgw hlen hys hpr
      cases hE : isG f p
      · have hera : eraP f p = p := by unfold eraP; rw [hE, if_neg (by decide)]
        have HER := Lib.hid hera
        rw [hE] at CE
        have HR1 := Lib.hid (fun W1 (h : Below wr.heap.size wr W1) => HY.out pre ⟨p, HPR.out⟩ W1 (HJB.out _ h).2 HPL.out)
        have HS := Lib.hid (show vals (pre ++ [⟨p, HPR.out⟩]) = (b.take (k + 1)).map (eraP f) from by rw [vals_snoc, HPRE.out, HTS.out, hera])
        clear hE hera
        gi_wp2_with ((refine ⟨trivial, ?_⟩); gi_at_call 43; refine (callsIn_wide.2 CE.out).mono ?_; rintro e w1 ⟨rfl, hb1⟩; obtain ⟨d0, d1, d2⟩ := HT0.out.below hb1; have HB1 := Lib.hid (HBB.out.trans (hb1.mono HBB.out.size)); clear b0 b1 b2; obtain ⟨fn, tmps, assign, body, hy, hR⟩ := HR1.out w1 HB1.out; replace d0 : w1.cell? ⟨wr.heap.size, 0, none⟩ = some (.int .i64 p.id) := d0; replace d1 : w1.cell? ⟨wr.heap.size, 1, none⟩ = some (.int .i64 p.fr) := d1; replace d2 : w1.cell? ⟨wr.heap.size, 2, none⟩ = some (.int .i64 p.n) := d2)
        have HS2 := Lib.hid (HJB.out _ HB1.out).1
        refine hR.mono ?_
        rintro e W3 (⟨rfl, hJ3, hk3⟩ | ⟨rfl, hJx3⟩)
        · have HS3 := Lib.hid (Nat.le_trans HS2.out hk3.size)
          have HB3 := Lib.hid ((HBW.out.trans (HB1.out.mono HBW.out.size)).trans hk3)
          gi_wp2
          go_roundw
          case rel => exact ⟨k + 1, pre ++ [⟨p, HPR.out⟩], by omega, by go_num, HS.out, ⟨HS3.out, hJ3⟩, HB3.out⟩
          case measure => simp [intOf]; omega
        · gi_wp2
          refine bodyPost_ret (results_none rfl _ _ _) rfl ?_
          exact ⟨⟨_, rfl⟩, .inr ⟨_, trivial, hJx3⟩⟩
      · have hera : eraP f p = ⟨-1, 0, p.n⟩ := by unfold eraP; rw [hE, if_pos rfl]
        have hxr : rightB ⟨-1, 0, p.n⟩ = true := by rw [← hera]; exact era_right HPR.out
        rw [hE] at CE
        have HR1 := Lib.hid (fun W1 (h : Below wr.heap.size wr W1) => HY.out pre ⟨⟨-1, 0, p.n⟩, hxr⟩ W1 (HJB.out _ h).2 HPL.out)
        have HS := Lib.hid (show vals (pre ++ [⟨⟨-1, 0, p.n⟩, hxr⟩]) = (b.take (k + 1)).map (eraP f) from by rw [vals_snoc, HPRE.out, HTS.out, hera])
        have HST := Lib.hid (fun w1 (h : Below wr.heap.size wr w1) => show Below wr.heap.size wr (((w1.setCell ⟨wr.heap.size, 0, none⟩ (.int .i64 (-1))).setCell ⟨wr.heap.size, 1, none⟩ (.int .i64 0)).setCell ⟨wr.heap.size, 2, none⟩ (.int .i64 p.n)) from
          ((h.setCell (p := ⟨wr.heap.size, 0, none⟩) (Nat.le_refl _) _).setCell (p := ⟨wr.heap.size, 1, none⟩) (Nat.le_refl _) _).setCell (p := ⟨wr.heap.size, 2, none⟩) (Nat.le_refl _) _)
        clear hE hera
        gi_wp2_with ((refine ⟨trivial, ?_⟩); gi_at_call 43; refine (callsIn_wide.2 CE.out).mono ?_; rintro e w1 ⟨rfl, hb1⟩; obtain ⟨d0, d1, d2⟩ := HT0.out.below hb1; obtain ⟨z0, z1, z2⟩ := HZ.out w1 hb1; have HB1 := Lib.hid (HST.out _ (HBB.out.trans (hb1.mono HBB.out.size))); clear b0 b1 b2; obtain ⟨fn, tmps, assign, body, hy, hR⟩ := HR1.out _ HB1.out; replace d0 : w1.cell? ⟨wr.heap.size, 0, none⟩ = some (.int .i64 p.id) := d0; replace d1 : w1.cell? ⟨wr.heap.size, 1, none⟩ = some (.int .i64 p.fr) := d1; replace d2 : w1.cell? ⟨wr.heap.size, 2, none⟩ = some (.int .i64 p.n) := d2)
        have HS2 := Lib.hid (HJB.out _ HB1.out).1
        refine hR.mono ?_
        rintro e W3 (⟨rfl, hJ3, hk3⟩ | ⟨rfl, hJx3⟩)
        · have HS3 := Lib.hid (Nat.le_trans HS2.out hk3.size)
          have HB3 := Lib.hid ((HBW.out.trans (HB1.out.mono HBW.out.size)).trans hk3)
          gi_wp2
          go_roundw
          case rel => exact ⟨k + 1, pre ++ [⟨⟨-1, 0, p.n⟩, hxr⟩], by omega, by go_num, HS.out, ⟨HS3.out, hJ3⟩, HB3.out⟩
          case measure => simp [intOf]; omega
        · gi_wp2
          refine bodyPost_ret (results_none rfl _ _ _) rfl ?_
          exact ⟨⟨_, rfl⟩, .inr ⟨_, trivial, hJx3⟩⟩
    · obtain rfl : k = k0 := by omega
      have HP := Lib.hid (show pre = ys from vals_inj (by rw [hpre, HYS.out, List.take_of_length_le (by omega)]))
      gi_wp2
      go_end0
      exact ⟨⟨_, rfl⟩, .inl ⟨pre, HP.out, hJs.2⟩⟩
theorem without_gives (w : World) (Bb Bf G : Nat) (f : Nat → Bool) (A : Option Addr) (k0 c : Nat) (b : List Pc) (hr : ∀ p ∈ b, rightB p = true) (hlen : b.length = k0) (hk0 : k0 ≤ 9223372036854775807)
    (hc : w.cell? ⟨Bb, 0, none⟩ = some (.slice A k0 c)) (hcf : w.cell? ⟨Bf, 0, none⟩ = some (.func (.func 43) #[] #[.pointer (some ⟨G, 0, none⟩)])) (hG : GoneAt w G f) (hA : Pcs w A b) :
    Gives w (.func (.func 55) #[] #[.pointer (some ⟨Bb, 0, none⟩), .pointer (some ⟨Bf, 0, none⟩)]) (b.map (eraP f)) := by
  obtain ⟨ys, hys⟩ := vals_of (b.map (eraP f)) (fun q hq => by obtain ⟨p, hp, rfl⟩ := List.mem_map.1 hq; exact era_right (hr p hp))
  refine ⟨_, _, ys, rfl, enters_of Try.func55 (by kernel_rfl) rfl, hys, fun W n hn hW l J Jx W' hW' hJ _ hY h0 => ?_⟩
  exact without1_in n hn l Bb Bf G w f A k0 c b ys hys hlen hk0 hr hc hcf hG hA J Jx hY W' hJ (hW.trans (hW'.mono hW.size)) h0
end Go.Proofs.Ytggnklcjhbahhaa
