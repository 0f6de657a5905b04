/-
  Contracts of the landed package: the iterator over a part of the bytes of a list of pieces.
-/
import Derived.Test.YtggnklcjhbahhaaFd
import Derived.Lib.MinMax
import Derived.Sort.QuietTacIn
namespace Go.Proofs.Ytggnklcjhbahhaa
open Go.RowKit Go.Shelf Ex
attribute [local go_sem] Oper.semAt_some
set_option maxHeartbeats 400000
set_option maxRecDepth 100000

/-- What a piece that lies from s on has between lo and hi. -/
def clip (lo hi s : Int) (p : Pc) : List Pc :=
  if min (hi - s) p.n ≤ max (lo - s) 0 then [] else [{ id := p.id, fr := if chunkB p.id then p.fr + max (lo - s) 0 else p.fr, n := min (hi - s) p.n - max (lo - s) 0 }]
def withinL (lo hi : Int) : Int → List Pc → List Pc
  | _, [] => []
  | s, p :: l => clip lo hi s p ++ withinL lo hi (s + p.n) l
theorem within_snoc (lo hi : Int) (p : Pc) : ∀ (l : List Pc) (s : Int), withinL lo hi s (l ++ [p]) = withinL lo hi s l ++ clip lo hi (s + sizeL l) p
  | [], s => by simp [withinL, sizeL]
  | q :: l, s => by
    show clip lo hi s q ++ withinL lo hi (s + q.n) (l ++ [p]) = (clip lo hi s q ++ withinL lo hi (s + q.n) l) ++ _
    rw [within_snoc lo hi p l, List.append_assoc]
    simp only [sizeL]
    rw [show s + q.n + sizeL l = s + (q.n + sizeL l) by omega]
theorem clip_right {lo hi s : Int} {p : Pc} (hr : rightB p = true) : ∀ q ∈ clip lo hi s p, rightB q = true := by
  intro q hq
  unfold clip at hq
  split at hq
  · cases hq
  · rename_i hlt
    rw [List.mem_singleton] at hq
    subst hq
    have h := right_iff.1 hr
    rw [right_iff]
    cases hc : chunkB p.id
    · have := chunk_not.1 hc
      simp only [Bool.false_eq_true, if_false]
      omega
    · have := chunk_iff.1 hc
      simp only [if_true]
      omega
theorem within_right {lo hi : Int} : ∀ {l : List Pc} {s : Int}, (∀ p ∈ l, rightB p = true) → ∀ q ∈ withinL lo hi s l, rightB q = true
  | [], _, _, q, hq => by cases hq
  | p :: l, s, h, q, hq => by
    rcases List.mem_append.1 hq with hq | hq
    · exact clip_right (h p (by simp)) q hq
    · exact within_right (fun r hr => h r (by simp [hr])) q hq
theorem within_len (lo hi : Int) : ∀ (l m : List Pc) (s : Int), (withinL lo hi s l).length ≤ (withinL lo hi s (l ++ m)).length
  | [], _, _ => by simp [withinL]
  | p :: l, m, s => by
    show (clip lo hi s p ++ withinL lo hi (s + p.n) l).length ≤ (clip lo hi s p ++ withinL lo hi (s + p.n) (l ++ m)).length
    rw [List.length_append, List.length_append]
    have := within_len lo hi l m (s + p.n)
    omega

set_option maxHeartbeats 4000000 in
theorem within1_in (n : Nat) (hn : 1 ≤ n) (l Bb Bl Bh : Nat) (w0 : World) (A : Option Addr) (k0 c : Nat) (b : List Pc) (lo hi : Int) (hlo : 0 ≤ lo) (hlo' : lo ≤ 9223372036854775807) (hhi : 0 ≤ hi) (hhi' : hi ≤ 9223372036854775807)
    (hrb : ∀ p ∈ b, rightB p = true) (hsb : sizeL b ≤ 1048576)
    (ys : List Rp) (hys : vals ys = withinL lo hi 0 b) (hlen : b.length = k0) (hk0 : k0 ≤ 9223372036854775807)
    (hc : w0.cell? ⟨Bb, 0, none⟩ = some (.slice A k0 c)) (hcl : w0.cell? ⟨Bl, 0, none⟩ = some (.int .i64 lo)) (hch : w0.cell? ⟨Bh, 0, none⟩ = some (.int .i64 hi)) (hA : Pcs w0 A b) (J Jx : List Rp → World → Prop)
    (hY : ∀ (pre : List Rp) (x : Rp) W, J pre W → pre.length < ys.length → YieldAt Fence.wide (n - 1) Try.prog l (encs x) W fun e W' =>
      (e = .returned (.bool true) ∧ J (pre ++ [x]) W' ∧ Below w0.heap.size W W') ∨ (e = .returned (.bool false) ∧ Jx (pre ++ [x]) W'))
    (W : World) (hJ : AbidesFrom W.heap.size J) (hW : Below w0.heap.size w0 W) (h0 : J [] W) :
    CallsIn Fence.wide n Try.prog 51 #[.func (.yield l) #[] #[], .pointer (some ⟨Bb, 0, none⟩), .pointer (some ⟨Bl, 0, none⟩), .pointer (some ⟨Bh, 0, none⟩)] W fun e W' => (∃ v, e = .returned v) ∧
      ((∃ zs, zs = ys ∧ J zs W') ∨ (∃ pre, True ∧ Jx pre W')) := by
  have HJg := Lib.hid (fun s (X Y : World) (h : W.heap.size ≤ X.heap.size ∧ J s X) (hg : Below X.heap.size X Y) => show W.heap.size ≤ Y.heap.size ∧ J s Y from
    ⟨Nat.le_trans h.1 hg.size, hJ s X Y none h.2 ⟨hg.os, hg.tape, hg.output, hg.size, fun k hk _ => hg.block k hk⟩ (fun r e => by cases e)⟩)
  have HY := Lib.hid hY
  have SA := Lib.hid hA
  have HYS := Lib.hid hys
  have HRB := Lib.hid hrb
  have HSB := Lib.hid (fun k => sizeL_le (l := b) (fun p hp => by have := (right_iff.1 (hrb p hp)).1; omega) k)
  have hcW := (hW.cell (block_lt_of_cell hc)).trans hc
  have HCL := Lib.hid (fun X (h : Below w0.heap.size w0 X) => (h.cell (block_lt_of_cell hcl)).trans hcl)
  have HCH := Lib.hid (fun X (h : Below w0.heap.size w0 X) => (h.cell (block_lt_of_cell hch)).trans hch)
  clear hJ hY hA hrb hc hcl hch
  have h53 : Fence.wide.fn 51 := trivial
  refine callsIn_of_wp Try.func51 rfl h53 ?_ rfl
  simp only [Try.ntmps51, List.size_toArray, List.length_cons, List.length_nil, Nat.reduceAdd, Nat.reduceSub, Array.replicate_succ, Array.replicate_zero, List.push_toArray, List.append_toArray, List.nil_append, List.cons_append]
  gi_wp2
  gi_loopw [5, 12] (fun a i wr => ∃ (k : Nat) (pre : List Rp), k ≤ k0 ∧ i = .int .i64 k ∧ a = .int .i64 (sizeL (b.take k)) ∧ vals pre = withinL lo hi 0 (b.take k) ∧ (W.heap.size ≤ wr.heap.size ∧ J pre wr) ∧ Below w0.heap.size w0 wr)
    (fun _ i _ => k0 - (intOf i).toNat)
  case atStart => exact ⟨0, [], Nat.zero_le _, rfl, rfl, rfl, ⟨Nat.le_refl _, h0⟩, hW⟩
  case round =>
    obtain ⟨k, pre, hk, rfl, rfl, hpre, hJs, hbw⟩ := hrel
    by_cases hlt : k < k0
    · have hkl : k < b.length := by rw [hlen]; exact hlt
      have hg : b[k]? = some b[k] := List.getElem?_eq_getElem hkl
      obtain ⟨p, hp⟩ : ∃ p, b[k] = p := ⟨_, rfl⟩
      rw [hp] at hg
      have hpr := HRB.out p (List.mem_of_getElem? hg)
      have hpb := right_iff.1 hpr
      obtain ⟨g, o, hA', hgw, q0, q1, q2⟩ := (SA.out.below hbw).at_ hg
      subst hA'
      have hsn := sizeL_take hg
      have h1 := HSB.out k
      have h2 := HSB.out (k + 1)
      have hts : withinL lo hi 0 (b.take (k + 1)) = withinL lo hi 0 (b.take k) ++ clip lo hi (sizeL (b.take k)) p := by
        rw [List.take_succ_eq_append_getElem hkl, within_snoc, hp, Int.zero_add]
      have hle : (withinL lo hi 0 (b.take (k + 1))).length ≤ ys.length := by
        rw [← vals_len ys, HYS.out]
        have := within_len lo hi (b.take (k + 1)) (b.drop (k + 1)) 0
        rwa [List.take_append_drop] at this
      have hcr := clip_right (lo := lo) (hi := hi) (s := sizeL (b.take k)) hpr
      obtain ⟨s, hs⟩ : ∃ s, sizeL (b.take k) = s := ⟨_, rfl⟩
      rw [hs] at hsn h1 hts hcr
      rw [hsn] at h2
      rw [hs]
      have HSN := Lib.hid hsn
      obtain ⟨f, hf⟩ : ∃ f, max (lo - s) 0 = f := ⟨_, rfl⟩
      obtain ⟨t, ht⟩ : ∃ t, min (hi - s) p.n = t := ⟨_, rfl⟩
      have w1 : IntKind.i64.wrap (lo - s) = lo - s := IntWalk.i64_in _ (by omega)
      have w2 : IntKind.i64.wrap (hi - s) = hi - s := IntWalk.i64_in _ (by omega)
      have kn : (k : Int) < (k0 : Int) := Int.ofNat_lt.2 hlt
      have k00 : (0 : Int) ≤ (k : Int) := Int.natCast_nonneg k
      have HQ := Lib.hid (show ∀ X, Below w0.heap.size w0 X → X.cell? ⟨Bl, 0, none⟩ = some (.int .i64 lo) ∧ X.cell? ⟨Bh, 0, none⟩ = some (.int .i64 hi) from fun X h => ⟨HCL.out X h, HCH.out X h⟩)
      obtain ⟨WB, hWB⟩ : ∃ WB, wr.alloc (.cells #[.int .i64 p.id, .int .i64 p.fr, .int .i64 p.n] 66) = WB := ⟨_, rfl⟩
      have hbB : Below wr.heap.size wr WB := by rw [← hWB]; exact (Below.refl _ wr).alloc (Nat.le_refl _) _
      have hbBx : Below w0.heap.size w0 WB := hbw.trans (hbB.mono hbw.size)
      obtain ⟨cl, ch⟩ := HQ.out WB hbBx
      have T0 := box_tri wr p
      rw [hWB] at T0
      obtain ⟨b0, b1, b2⟩ := T0
      replace b0 : WB.cell? ⟨wr.heap.size, 0, none⟩ = some (.int .i64 p.id) := b0
      replace b1 : WB.cell? ⟨wr.heap.size, 1, none⟩ = some (.int .i64 p.fr) := b1
      replace b2 : WB.cell? ⟨wr.heap.size, 2, none⟩ = some (.int .i64 p.n) := b2
      have hz : ∀ j, WB.frozen? ⟨wr.heap.size, j, none⟩ = false := fun j => by rw [← hWB]; exact frozen_of_row _ _ j _ _ (heap_alloc_new wr _)
      have z1 := hz 1
      have z2 := hz 2
      have HJB := Lib.hid (fun X (h : Below wr.heap.size wr X) => HJg.out pre wr X hJs h)
      have HBW := Lib.hid hbw
      have HBB := Lib.hid hbB
      have HTS := Lib.hid hts
      have HCR := Lib.hid hcr
      have HPRE := Lib.hid hpre
      have HLE := Lib.hid hle
      have hP : pre.length + (clip lo hi s p).length ≤ ys.length := by
        have := hle
        rw [hts, List.length_append, ← hpre, vals_len] at this
        exact this
      have HP := Lib.hid hP
      have hsp : IntKind.i64.wrap (s + p.n) = s + p.n := IntWalk.i64_in _ (by omega)
      clear hp hg hs hsn hlt hkl hz hbB hts hcr hpre hle hP hJs hbw HQ HCL HCH hlen hys
      gi_wp2
      gi_quiet_th (fail)
      obtain ⟨WQ, hWQ⟩ : ∃ X, WB.drewN nq = X := ⟨_, rfl⟩
      have hbQ : Below wr.heap.size wr WQ := by rw [← hWQ]; exact HBB.out.trans ((below_drewN WB nq).mono HBB.out.size)
      have c0 : WQ.cell? ⟨wr.heap.size, 0, none⟩ = some (.int .i64 p.id) := by rw [← hWQ]; exact b0
      have c1 : WQ.cell? ⟨wr.heap.size, 1, none⟩ = some (.int .i64 p.fr) := by rw [← hWQ]; exact b1
      have c2 : WQ.cell? ⟨wr.heap.size, 2, none⟩ = some (.int .i64 p.n) := by rw [← hWQ]; exact b2
      have y1 : WQ.frozen? ⟨wr.heap.size, 1, none⟩ = false := by rw [← hWQ]; exact z1
      have y2 : WQ.frozen? ⟨wr.heap.size, 2, none⟩ = false := by rw [← hWQ]; exact z2
      rw [hWQ]
      have HBQ := Lib.hid hbQ
      clear hWQ hWB b0 b1 b2 z1 z2 cl ch w1 w2 hbBx HBB hbQ
      have hpn : p.n ≤ 1048576 := hpb.2.1
      have hpf : 0 ≤ p.fr ∧ p.fr ≤ 1048576 := by omega
      have hf0 : 0 ≤ f := by omega
      have htn : t ≤ p.n := by omega
      by_cases htf : t ≤ f
      · have HS := Lib.hid (show vals pre = withinL lo hi 0 (b.take (k + 1)) from by rw [HPRE.out, HTS.out]; unfold clip; rw [hf, ht, if_pos htf, List.append_nil])
        have HJ2 := Lib.hid (HJB.out _ HBQ.out)
        clear hf ht hpb
        gi_wp2
        go_roundw
        case rel => exact ⟨k + 1, pre, by omega, by go_num, by rw [HSN.out], HS.out, HJ2.out, HBW.out.trans (HBQ.out.mono HBW.out.size)⟩
        case measure => simp [intOf]; omega
      · have w3 : IntKind.i64.wrap (t - f) = t - f := IntWalk.i64_in _ (by omega)
        have w4 : IntKind.i64.wrap (p.fr + f) = p.fr + f := IntWalk.i64_in _ (by omega)
        cases hch0 : chunkB p.id
        · have CC := Lib.hid (chunk_c hch0)
          have hclip : clip lo hi s p = [⟨p.id, p.fr, t - f⟩] := by
            unfold clip
            rw [hf, ht, if_neg htf, hch0]
            simp
          have hxr : rightB ⟨p.id, p.fr, t - f⟩ = true := HCR.out _ (by rw [hclip]; simp)
          have HB2 := Lib.hid (show Below wr.heap.size wr (WQ.setCell ⟨wr.heap.size, 2, none⟩ (.int .i64 (t - f))) from HBQ.out.trans ((Below.refl wr.heap.size WQ).setCell (p := ⟨wr.heap.size, 2, none⟩) (Nat.le_refl _) _))
          have hpl : pre.length < ys.length := by
            have := HP.out
            rw [hclip] at this
            exact this
          obtain ⟨fn, tmps, assign, body, hy, hR⟩ := HY.out pre ⟨⟨p.id, p.fr, t - f⟩, hxr⟩ (WQ.setCell ⟨wr.heap.size, 2, none⟩ (.int .i64 (t - f))) (HJB.out _ HB2.out).2 hpl
          have HS := Lib.hid (show vals (pre ++ [⟨⟨p.id, p.fr, t - f⟩, hxr⟩]) = withinL lo hi 0 (b.take (k + 1)) from by rw [vals_snoc, HPRE.out, HTS.out, hclip])
          have HS2 := Lib.hid (HJB.out _ HB2.out).1
          clear hch0 hclip
          gi_wp2_with ((refine ⟨trivial, ?_⟩); gi_at_call 41; refine (callsIn_wide.2 (CC.out _)).mono ?_; rintro e w' ⟨rfl, rfl⟩)
          refine hR.mono ?_
          rintro e W3 (⟨rfl, hJ3, hk3⟩ | ⟨rfl, hJx3⟩)
          · have HS3 := Lib.hid (Nat.le_trans HS2.out hk3.size)
            have HB3 := Lib.hid ((HBW.out.trans (HB2.out.mono HBW.out.size)).trans hk3)
            gi_wp2
            go_roundw
            case rel => exact ⟨k + 1, pre ++ [⟨⟨p.id, p.fr, t - f⟩, hxr⟩], by omega, by go_num, by rw [HSN.out], HS.out, ⟨HS3.out, hJ3⟩, HB3.out⟩
            case measure => simp [intOf]; omega
          · gi_wp2
            refine bodyPost_ret (results_none rfl _ _ _) rfl ?_
            exact ⟨⟨_, rfl⟩, .inr ⟨_, trivial, hJx3⟩⟩
        · have CC := Lib.hid (chunk_c hch0)
          have hclip : clip lo hi s p = [⟨p.id, p.fr + f, t - f⟩] := by
            unfold clip
            rw [hf, ht, if_neg htf, hch0]
            simp
          have hxr : rightB ⟨p.id, p.fr + f, t - f⟩ = true := HCR.out _ (by rw [hclip]; simp)
          have HB2 := Lib.hid (show Below wr.heap.size wr ((WQ.setCell ⟨wr.heap.size, 2, none⟩ (.int .i64 (t - f))).setCell ⟨wr.heap.size, 1, none⟩ (.int .i64 (p.fr + f))) from HBQ.out.trans (((Below.refl wr.heap.size WQ).setCell (p := ⟨wr.heap.size, 2, none⟩) (Nat.le_refl _) _).setCell (p := ⟨wr.heap.size, 1, none⟩) (Nat.le_refl _) _))
          have hpl : pre.length < ys.length := by
            have := HP.out
            rw [hclip] at this
            exact this
          obtain ⟨fn, tmps, assign, body, hy, hR⟩ := HY.out pre ⟨⟨p.id, p.fr + f, t - f⟩, hxr⟩ ((WQ.setCell ⟨wr.heap.size, 2, none⟩ (.int .i64 (t - f))).setCell ⟨wr.heap.size, 1, none⟩ (.int .i64 (p.fr + f))) (HJB.out _ HB2.out).2 hpl
          have HS := Lib.hid (show vals (pre ++ [⟨⟨p.id, p.fr + f, t - f⟩, hxr⟩]) = withinL lo hi 0 (b.take (k + 1)) from by rw [vals_snoc, HPRE.out, HTS.out, hclip])
          have HS2 := Lib.hid (HJB.out _ HB2.out).1
          clear hch0 hclip
          gi_wp2_with ((refine ⟨trivial, ?_⟩); gi_at_call 41; refine (callsIn_wide.2 (CC.out _)).mono ?_; rintro e w' ⟨rfl, rfl⟩)
          refine hR.mono ?_
          rintro e W3 (⟨rfl, hJ3, hk3⟩ | ⟨rfl, hJx3⟩)
          · have HS3 := Lib.hid (Nat.le_trans HS2.out hk3.size)
            have HB3 := Lib.hid ((HBW.out.trans (HB2.out.mono HBW.out.size)).trans hk3)
            gi_wp2
            go_roundw
            case rel => exact ⟨k + 1, pre ++ [⟨⟨p.id, p.fr + f, t - f⟩, hxr⟩], by omega, by go_num, by rw [HSN.out], HS.out, ⟨HS3.out, hJ3⟩, HB3.out⟩
            case measure => simp [intOf]; omega
          · gi_wp2
            refine bodyPost_ret (results_none rfl _ _ _) rfl ?_
            exact ⟨⟨_, rfl⟩, .inr ⟨_, trivial, hJx3⟩⟩
    · obtain rfl : k = k0 := by omega
      have HP := Lib.hid (show pre = ys from vals_inj (by rw [hpre, HYS.out, List.take_of_length_le (by omega)]))
      gi_wp2
      go_end0
      exact ⟨⟨_, rfl⟩, .inl ⟨pre, HP.out, hJs.2⟩⟩
theorem within_gives (w : World) (Bb Bl Bh : Nat) (A : Option Addr) (k0 c : Nat) (b : List Pc) (lo hi : Int) (hlo : 0 ≤ lo) (hlo' : lo ≤ 9223372036854775807) (hhi : 0 ≤ hi) (hhi' : hi ≤ 9223372036854775807)
    (hr : ∀ p ∈ b, rightB p = true) (hs : sizeL b ≤ 1048576) (hlen : b.length = k0) (hk0 : k0 ≤ 9223372036854775807)
    (hc : w.cell? ⟨Bb, 0, none⟩ = some (.slice A k0 c)) (hcl : w.cell? ⟨Bl, 0, none⟩ = some (.int .i64 lo)) (hch : w.cell? ⟨Bh, 0, none⟩ = some (.int .i64 hi)) (hA : Pcs w A b) :
    Gives w (.func (.func 51) #[] #[.pointer (some ⟨Bb, 0, none⟩), .pointer (some ⟨Bl, 0, none⟩), .pointer (some ⟨Bh, 0, none⟩)]) (withinL lo hi 0 b) := by
  obtain ⟨ys, hys⟩ := vals_of (withinL lo hi 0 b) (within_right hr)
  refine ⟨_, _, ys, rfl, enters_of Try.func51 (by kernel_rfl) rfl, hys, fun W n hn hW l J Jx W' hW' hJ _ hY h0 => ?_⟩
  exact within1_in n hn l Bb Bl Bh w A k0 c b lo hi hlo hlo' hhi hhi' hr hs ys hys hlen hk0 hc hcl hch hA J Jx hY W' hJ (hW.trans (hW'.mono hW.size)) h0
end Go.Proofs.Ytggnklcjhbahhaa
