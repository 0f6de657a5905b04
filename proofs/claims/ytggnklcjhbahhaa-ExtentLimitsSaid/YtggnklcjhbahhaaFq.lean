/-
  Contracts of the landed package: Bytes.
-/
import Derived.Test.YtggnklcjhbahhaaFp
import Derived.Laws.CopyOwn
import Derived.StillTailTactics
namespace Go.Proofs.Ytggnklcjhbahhaa
open Go.RowKit Go.Shelf Go.Maps Ex
attribute [local go_sem] Oper.semAt_some
set_option maxHeartbeats 400000
set_option maxRecDepth 100000

/-- 'make([]T, l, c)': a new row, of which the first l elements are the slice's. -/
theorem wpList_make_lc {P : Program} (w : World) {ops : Array Oper} {rest : List Oper} {o : Oper} {a : Act} {Q : Exit → Act → World → Prop}
    (hg : o.guard = none) (l c : Operand) (t : TypeId) (hop : o.op = Op.makeSlice t l c)
    (e : TypeId) (i : TypeInfo) (z : Value) (h1 : P.underlying t = some (.slice e)) (h2 : P.info? e = some i) (h3 : i.zero = some z)
    (kl kc : IntKind) (m n : Nat) (hl : a.eval l = .int kl m) (hc : a.eval c = .int kc n) (b1 : m ≤ n) (b2 : i.bytes * n ≤ 281474976710656) (b3 : n ≤ 9223372036854775807)
    (hK : wpList P ops Q rest (a.put o.dst (.slice (some ⟨w.heap.size, 0, none⟩) m n)) (w.alloc (.cells (madeCells z.cells (n * i.size)) e))) :
    wpList P ops Q (o :: rest) a w := by
  refine wpList_plain hg fun K hK' => ?_
  have hrun := run_make (P := P) w t e i z h1 h2 h3 kl kc (m : Int) (n : Int) (by omega) (by omega) (by rw [← Int.natCast_mul]; omega) (by omega)
  unfold Oper.wp
  simp [execOp, hop, hl, hc, hrun, Result.andThen]
  exact hK' _ _ hK
theorem slice_fromR (g m c j : Nat) (h : j < m) (hc : m ≤ c) (W : World) : (Instr.slice 55 (.slice (some ⟨g, 0, none⟩) m c) (some (.int .i64 (j : Int))) none none).run Try.prog W = .ok (.slice (some ⟨g, j, none⟩) (m - j) (c - j)) W := by
  have h0 : (0 : Int) ≤ (j : Int) := by omega
  have h1 : (j : Int) ≤ (m : Int) := by omega
  have hne : ¬ c = j := by omega
  have hadd : (⟨g, 0, none⟩ : Addr).add j = ⟨g, j, none⟩ := by unfold Addr.add; split <;> simp_all
  rw [run_slice_l _ _ _ _ _ Try.underlying55 _ _ h0 h1]
  simp [go_sem, sliced, hne]
theorem slice_midR (g o m c f n : Nat) (h : 0 < n) (hc : f + n ≤ c) (W : World) : (Instr.slice 55 (.slice (some ⟨g, o, none⟩) m c) (some (.int .i64 (f : Int))) (some (.int .i64 ((f : Int) + (n : Int)))) none).run Try.prog W = .ok (.slice (some ⟨g, o + f, none⟩) n (c - f)) W := by
  have h0 : (0 : Int) ≤ (f : Int) := by omega
  have h1 : (f : Int) ≤ (f : Int) + (n : Int) := by omega
  have h2 : (f : Int) + (n : Int) ≤ (c : Int) := by omega
  have hne : ¬ c = f := by omega
  have hadd : (⟨g, o, none⟩ : Addr).add f = ⟨g, o + f, none⟩ := by unfold Addr.add; split <;> simp_all
  have hn : ((f : Int) + (n : Int)).toNat - f = n := by omega
  rw [run_slice_lh _ _ _ _ _ Try.underlying55 _ _ _ _ h0 h1 h2]
  simp [go_sem, sliced, hne, hn]
/-- 'copy' into a row of the call's own: that row alone has turned. -/
theorem wpList_copy_alone {P : Program} {w : World} {ops : Array Oper} {rest : List Oper} {o : Oper} {a : Act} {Q : Exit → Act → World → Prop} (hgd : o.guard = none) (d s : Operand) (dT sT : TypeId)
    (ho : o.op = .call { callee := .builtin .copy, args := #[d, s], argTypes := #[dT, sT] }) (elem : TypeId) (hu : P.underlying dT = some (.slice elem)) (hsz : (P.info? elem).map (·.size) = some 1)
    (g off dLen dCap : Nat) (ad : Addr) (sLen sCap : Nat) (hd : a.eval d = .slice (some ⟨g, off, none⟩) dLen dCap) (hs : a.eval s = .slice (some ad) sLen sCap)
    (cur : List Value) (t : TypeId) (hg : w.heap[g]? = some (.cells cur.toArray t (0, 0))) (cs : List Value) (hn : cs.length = Nat.min sLen dLen)
    (hsrc : ∀ j v, cs[j]? = some v → w.cell? (ad.add j) = some v) (hfit : off + cs.length ≤ cur.length) (h1 : ∀ v ∈ cs, v.oneCell' = true)
    (h : ∀ w', Hid (w'.heap[g]? = some (.cells (splice cur off cs).toArray t (0, 0))) → Hid (∀ k, k ≠ g → w'.heap[k]? = w.heap[k]?) → Hid (Below g w w') → wpList P ops Q rest (a.put o.dst (goInt cs.length)) w') :
    wpList P ops Q (o :: rest) a w := by
  refine wpList_copy_own hgd d s dT sT ho elem hu hsz g off dLen dCap ad sLen sCap hd hs cur.toArray t hg cs hn hsrc (by simpa using hfit) h1 ?_
  exact h _ (Lib.hid (by simpa [splice] using setRow_heap w g _ _ t _ hg)) (Lib.hid fun k hk => setRow_other w g k _ hk) (Lib.hid (below_setRow (Below.refl _ w) (Nat.le_refl _) _))
theorem Byt.src {w : World} {g o : Nat} {d : List UInt8} (h : Byt w (some ⟨g, o, none⟩) d) (f n : Nat) : ∀ (j : Nat) v, (by8 ((d.drop f).take n))[j]? = some v → w.cell? ((⟨g, o + f, none⟩ : Addr).add j) = some v := fun j v hv => by
  have hadd2 : (⟨g, o + f, none⟩ : Addr).add j = ⟨g, o + f + j, none⟩ := by unfold Addr.add; split <;> simp_all
  rw [hadd2]
  unfold by8 at hv
  rw [List.getElem?_map, List.getElem?_take] at hv
  split at hv
  · rw [List.getElem?_drop] at hv
    obtain ⟨x, hx, rfl⟩ := Option.map_eq_some_iff.1 hv
    obtain ⟨g', o', he, _, hc⟩ := h (List.ne_nil_of_length_pos (by have := (List.getElem?_eq_some_iff.1 hx).1; omega))
    injection he with he
    injection he with e1 e2 _
    subst e1 e2
    have := hc (f + j) x hx
    rwa [← Nat.add_assoc] at this
  · cases hv
theorem by8_append (a b : List UInt8) : by8 (a ++ b) = by8 a ++ by8 b := by simp [by8]
/-- The row of the bytes: those that are made, then zeros. -/
def rowL (out : List UInt8) (z : Nat) : List Value := by8 out ++ List.replicate z (.int .u8 0)
theorem rowL_zeros (out : List UInt8) (z k : Nat) (h : k ≤ z) : rowL out z = rowL (out ++ List.replicate k 0) (z - k) := by
  unfold rowL
  rw [by8_append, List.append_assoc]
  congr 1
  rw [show by8 (List.replicate k 0) = List.replicate k (Value.int .u8 0) by simp [by8], List.replicate_append_replicate]
  congr 1
  omega
theorem rowL_splice (out pb : List UInt8) (z at_ : Nat) (ha : out.length = at_) : splice (rowL out z) at_ (by8 pb) = rowL (out ++ pb) (z - pb.length) := by
  subst ha
  unfold rowL splice
  rw [by8_append, by8_len, List.append_assoc]
  have h1 : (by8 out ++ List.replicate z (Value.int .u8 0)).take out.length = by8 out := by rw [← by8_len out, List.take_left]
  have h2 : (by8 out ++ List.replicate z (Value.int .u8 0)).drop (out.length + pb.length) = List.replicate (z - pb.length) (.int .u8 0) := by
    rw [← List.drop_drop, ← by8_len out, List.drop_left, List.drop_replicate]
  rw [h1, h2]
theorem byt_row {w : World} {g : Nat} {t : TypeId} {out : List UInt8} {z : Nat} (h : w.heap[g]? = some (.cells (rowL out z).toArray t (0, 0))) : Byt w (some ⟨g, 0, none⟩) out := fun _ => by
  refine ⟨g, 0, rfl, (Array.getElem?_eq_some_iff.1 h).1, fun j x hx => ?_⟩
  rw [cell_of_row w g (0 + j) _ _ _ h, Nat.zero_add]
  have hj := (List.getElem?_eq_some_iff.1 hx).1
  simp only [rowL, List.getElem?_toArray]
  rw [List.getElem?_append_left (by rw [by8_len]; exact hj)]
  unfold by8
  rw [List.getElem?_map, hx]
  rfl
theorem box_blob (w : World) (id : Int) (B : Option Addr) (n c : Nat) : (∀ j, (w.alloc (.cells #[.int .i64 id, .slice B n c] 69)).cell? ⟨w.heap.size, j, none⟩ = #[Value.int .i64 id, .slice B n c][j]?) ∧ Below w.heap.size w (w.alloc (.cells #[.int .i64 id, .slice B n c] 69)) :=
  ⟨fun _ => cell_of_row _ _ _ _ _ (0, 0) (heap_alloc_new w _), (Below.refl _ w).alloc (Nat.le_refl _) _⟩

set_option maxHeartbeats 8000000 in
theorem exBytes_any (A A2 : Option Addr) (n c n2 c2 : Nat) (b : List Pc) (l : List Blb) (h : Bod b n) (w : World) (hA : Pcs w A b) (hL : Bl w A2 n2 c2 l) (hn2 : n2 ≤ 100) (hF : ∀ x ∈ l, Fits x) :
    Calls Try.prog 45 #[.slice A n c, .slice A2 n2 c2] w fun e w' => ((bytesErr (eachL b) l = 0 ∧ ∃ B c', e = .returned (.tuple #[.slice B (bytesOut (eachL b) l).length c', .int .i64 0]) ∧ Byt w' B (bytesOut (eachL b) l) ∧ ∀ g o, B = some ⟨g, o, none⟩ → w.heap.size ≤ g) ∨ (bytesErr (eachL b) l ≠ 0 ∧ ∃ B c', e = .returned (.tuple #[.slice B 0 c', .int .i64 (bytesErr (eachL b) l)]))) ∧ Below w.heap.size w w' := by
  obtain ⟨iu, hu, hu0, hu1, hu2⟩ := info_parts info_u8
  have CV := Lib.hid (h.validC A c hA w (Below.refl _ _))
  have CS := Lib.hid (fun W hW => h.sizeC A c hA W hW)
  have CG := Lib.hid (fun W hW => containsGone_any A n c b h.len (by have := h.max; omega) W (hA.below (w' := W) hW))
  have HR := Lib.hid h.right
  have HN := Lib.hid h.len
  have hmx := h.max
  have hs0 := h.size0
  have hs1 := h.size
  have SA := Lib.hid hA
  have SL := Lib.hid hL.cells
  have HN2 := Lib.hid hL.len
  have HFI := Lib.hid hF
  clear hA hL hF h
  obtain ⟨r, hr⟩ : ∃ r, b.any (fun p => p.id == -1) = r := ⟨_, rfl⟩
  rw [hr] at CG
  cases r
  case true =>
    have HE := Lib.hid (show bytesErr (eachL b) l = 60 by unfold bytesErr; rw [gone_each HR.out, hr, if_pos rfl])
    clear hr
    go_enter Try.func45, Try.ntmps45
    go_wp2_with (first | (go_at_call 31; refine CV.out.mono ?_; rintro e w1 ⟨rfl, hb1⟩; have HB1 := Lib.hid hb1; clear hb1) | (go_at_call 58; refine (CG.out _ HB1.out).mono ?_; rintro e w2 ⟨rfl, hb2⟩; have HB2 := Lib.hid (HB1.out.trans (hb2.mono HB1.out.size)); clear hb2))
    refine bodyPost_ret (results_tmp2 rfl _ _ _) rfl ?_
    exact ⟨.inr ⟨by rw [HE.out]; decide, none, 0, by rw [HE.out]; rfl⟩, HB2.out⟩
  case false =>
    have HG := Lib.hid (show ∀ p ∈ b, p.id ≠ -1 from fun p hp e => by
      have := List.any_eq_false.1 hr p hp
      simp [e] at this)
    clear hr
    have hmm := @run_makeMap Try.prog
    obtain ⟨S, hS⟩ : ∃ S : Nat, sizeL b = S := ⟨(sizeL b).toNat, by omega⟩
    rw [hS] at CS hs1
    have HS := Lib.hid hS
    have HB3 := Lib.hid (show iu.bytes * S ≤ 281474976710656 by rw [hu2]; omega)
    have HB4 := Lib.hid (show S ≤ 9223372036854775807 by omega)
    clear hS hs0
    go_enter Try.func45, Try.ntmps45
    go_wp2_with (first | (go_at_call 31; refine CV.out.mono ?_; rintro e w1 ⟨rfl, hb1⟩; have HB1 := Lib.hid hb1; clear hb1) | (go_at_call 58; refine (CG.out _ HB1.out).mono ?_; rintro e w2 ⟨rfl, hb2⟩; have HB2 := Lib.hid (HB1.out.trans (hb2.mono HB1.out.size)); clear hb2))
    have hw2 := HB2.out.size
    go_loopw [24] (fun i wr => ∃ (k : Nat) (F : Int → Option Value), k ≤ n2 ∧ i = .int .i64 k ∧ SlM wr w2.heap.size k F ∧ Firsts w F (l.take k) ∧ Below w.heap.size w wr) (fun i _ => n2 - (intOf i).toNat)
    case atStart => exact ⟨0, _, Nat.zero_le _, rfl, SlM.made w2, Firsts.nil w, HB2.out.alloc hw2 _⟩
    case round =>
      obtain ⟨k, F, hk, rfl, hM, hF, hbw⟩ := hrel
      have HB := Lib.hid hbw
      have HM := Lib.hid hM
      have HF := Lib.hid hF
      have hGw := hM.lt
      clear hM hF
      by_cases hlt : k < n2
      · have hkl : k < l.length := by rw [HN2.out]; exact hlt
        have hg : l[k]? = some l[k] := List.getElem?_eq_getElem hkl
        obtain ⟨x, hx⟩ : ∃ x, l[k] = x := ⟨_, rfl⟩
        rw [hx] at hg
        have HTS := Lib.hid (show l.take (k + 1) = l.take k ++ [x] by rw [List.take_succ_eq_append_getElem hkl, hx])
        obtain ⟨f1, f2, f3⟩ := HFI.out x (List.mem_of_getElem? hg)
        obtain ⟨g, o, hA', hgw, hc⟩ := SL.out (fun e => by rw [e] at hkl; simp at hkl)
        subst hA'
        obtain ⟨q0, B, cB, hcB, q1, hBy⟩ := hc k x hg
        have p0 := (hbw.cell (p := ⟨g, o + k * 2, none⟩) hgw).trans q0
        have p1 := (hbw.cell (p := ⟨g, o + k * 2 + 1, none⟩) hgw).trans q1
        have kn : (k : Int) < (n2 : Int) := Int.ofNat_lt.2 hlt
        have k00 : (0 : Int) ≤ (k : Int) := Int.natCast_nonneg k
        obtain ⟨t0, hbB⟩ := box_blob wr x.1 B x.2.length cB
        obtain ⟨WB, hWB⟩ : ∃ WB, wr.alloc (.cells #[.int .i64 x.1, .slice B x.2.length cB] 69) = WB := ⟨_, rfl⟩
        rw [hWB] at t0 hbB
        have b0 : WB.cell? ⟨wr.heap.size, 0, none⟩ = some (.int .i64 x.1) := t0 0
        have b1 : WB.cell? ⟨wr.heap.size, 1, none⟩ = some (.slice B x.2.length cB) := t0 1
        have HBB := Lib.hid (HB.out.trans (hbB.mono HB.out.size))
        have HMB := Lib.hid (HM.out.keep hbB hGw)
        have hlk := HMB.out.look_ok f2 f3
        have HBY := Lib.hid hBy
        have HCB := Lib.hid hcB
        clear hx hg hkl hgw hc q0 q1 t0 hbB hbw hBy hcB f1
        cases hv : F x.1 with
        | some v =>
          rw [hv] at hlk
          simp only [Option.getD_some, Option.isSome_some] at hlk
          have HF1 := Lib.hid (HTS.out ▸ HF.out.again hv)
          have HM1 := Lib.hid (HMB.out.mono (Nat.le_succ k))
          clear hv
          go_wp2
          go_roundw
          case rel => exact ⟨k + 1, F, by omega, by go_num, HM1.out, HF1.out, HBB.out⟩
          case measure => simp [intOf]; omega
        | none =>
          rw [hv] at hlk
          simp only [Option.getD_none, Option.isSome_none] at hlk
          have HF1 := Lib.hid (HTS.out ▸ HF.out.new hv HCB.out HBY.out)
          obtain ⟨w5, hrun, hM5, hg5⟩ := HMB.out.update (by unfold maxLen; omega) f2 f3 (.slice B x.2.length cB)
          have HM5 := Lib.hid hM5
          have HB5 := Lib.hid (show Below w.heap.size w w5 from ⟨hg5.os.trans HBB.out.os, hg5.tape.trans HBB.out.tape, hg5.output.trans HBB.out.output, Nat.le_trans HBB.out.size hg5.size, fun t ht => (hg5.block t (Nat.lt_of_lt_of_le ht HBB.out.size) (fun e => by injection e with e; omega)).trans (HBB.out.block t ht)⟩)
          clear hv hM5 hg5
          go_wp2
          go_roundw
          case rel => exact ⟨k + 1, _, by omega, by go_num, HM5.out, HF1.out, HB5.out⟩
          case measure => simp [intOf]; omega
      · obtain rfl : k = n2 := by omega
        have HF1 := Lib.hid (show Firsts w F l by have := HF.out; rwa [List.take_of_length_le (by rw [HN2.out]; exact Nat.le_refl _)] at this)
        have hbs := HB.out.size
        clear hbw
        go_wp2_with (first | (go_at_call 19; refine (CS.out _ HB.out).mono ?_; rintro e w4 ⟨rfl, hb4⟩; have HM4 := Lib.hid (HM.out.keep hb4 hGw); have HB4x := Lib.hid (HB.out.trans (hb4.mono hbs)); have hw4 := hb4.size; clear hb4) | (with_reducible refine wpList_make_lc _ rfl _ _ 55 rfl 5 iu _ Try.underlying55 hu hu0 .i64 .i64 S S rfl rfl (Nat.le_refl _) HB3.out HB4.out ?_))
        have hgR : w2.heap.size < w4.heap.size := Nat.lt_of_lt_of_le hGw hw4
        have HR0 := Lib.hid (show (w4.alloc (.cells (madeCells #[.int .u8 0] S) 5)).heap[w4.heap.size]? = some (.cells (rowL [] S).toArray 5 (0, 0)) from by
          rw [heap_alloc_new]
          show _ = some (Obj.cells (List.replicate S (Value.int .u8 0)).toArray _ _)
          rw [← toList_madeCells_one])
        have HM0 := Lib.hid (HM4.out.keep ((Below.refl _ w4).alloc (Nat.le_refl _) (.cells (madeCells #[.int .u8 0] S) 5)) hgR)
        have HB0 := Lib.hid (HB4x.out.alloc (Nat.le_trans hbs hw4) (.cells (madeCells #[.int .u8 0] S) 5))
        have HS1 := Lib.hid (show (Try.prog.info? 5).map (·.size) = some 1 by rw [hu, Option.map_some, hu1])
        have hbs4 : w.heap.size ≤ w4.heap.size := Nat.le_trans hbs hw4
        clear hu hu0 hu1 hu2
        go_loopw [12, 48] (fun a i wr => ∃ t : Nat, t ≤ n ∧ i = .int .i64 t ∧ a = .int .i64 (sizeL (b.take t)) ∧ wr.heap[w4.heap.size]? = some (.cells (rowL (outB l (b.take t)) (S - (sizeL (b.take t)).toNat)).toArray 5 (0, 0)) ∧ (∀ p ∈ b.take t, There l p) ∧ SlM wr w2.heap.size k F ∧ Below w.heap.size w wr) (fun _ i _ => n - (intOf i).toNat)
        case atStart => exact ⟨0, Nat.zero_le _, rfl, rfl, HR0.out, fun p hp => by simp at hp, HM0.out, HB0.out⟩
        case round =>
          obtain ⟨t, ht, rfl, rfl, hrow, hth, hM, hbw⟩ := hrel
          have HRW := Lib.hid hrow
          have HTH := Lib.hid hth
          have HMr := Lib.hid hM
          have HBr := Lib.hid hbw
          have hgr : w4.heap.size < wr.heap.size := (Array.getElem?_eq_some_iff.1 hrow).1
          clear hrow hth hM
          by_cases hlt : t < n
          · have hkl : t < b.length := by rw [HN.out]; exact hlt
            have hg : b[t]? = some b[t] := List.getElem?_eq_getElem hkl
            obtain ⟨p, hp⟩ : ∃ p, b[t] = p := ⟨_, rfl⟩
            rw [hp] at hg
            have hmem := List.mem_of_getElem? hg
            have hpr := HR.out p hmem
            have hrr := right_iff.1 hpr
            obtain ⟨g, o, hA', hgw, q0, q1, q2⟩ := (SA.out.below hbw).at_ hg
            subst hA'
            have HTS := Lib.hid (show b.take (t + 1) = b.take t ++ [p] by rw [List.take_succ_eq_append_getElem hkl, hp])
            have htr : ∀ q ∈ b.take t, rightB q = true := fun q hq => HR.out q (List.mem_of_mem_take hq)
            have hol := outB_len htr HTH.out
            have hsn := sizeL_take hg
            have hle := (sizeL_le (l := b) (fun q hq => by have := (right_iff.1 (HR.out q hq)).1; omega) (t + 1)).2
            rw [HS.out] at hle
            obtain ⟨a, ha⟩ : ∃ a : Nat, sizeL (b.take t) = a := ⟨(outB l (b.take t)).length, hol.symm⟩
            obtain ⟨m, hm⟩ : ∃ m : Nat, p.n = m := ⟨p.n.toNat, by omega⟩
            obtain ⟨fr, hfr⟩ : ∃ fr : Nat, p.fr = fr := ⟨p.fr.toNat, by omega⟩
            rw [ha] at hsn hol HRW
            rw [hm] at hsn q2
            rw [hfr] at q1
            rw [hsn] at hle
            have hol' : (outB l (b.take t)).length = a := by omega
            have hm1 : 1 ≤ m := by omega
            have hmS : a + m ≤ S := by omega
            have HSN := Lib.hid hsn
            have HOL := Lib.hid hol'
            rw [ha]
            have tn : (t : Int) < (n : Int) := Int.ofNat_lt.2 hlt
            have t00 : (0 : Int) ≤ (t : Int) := Int.natCast_nonneg t
            have a00 : (0 : Int) ≤ (a : Int) := Int.natCast_nonneg a
            have f00 : (0 : Int) ≤ (fr : Int) := Int.natCast_nonneg fr
            have m00 : (1 : Int) ≤ (m : Int) := by omega
            have fm1 : (fr : Int) + (m : Int) ≤ 2097152 := by omega
            have am1 : (a : Int) + (m : Int) ≤ (S : Int) := by omega
            have w0 := box_tri wr p
            have hbB := box_keep wr p
            rw [hfr, hm] at w0 hbB
            obtain ⟨WB, hWB⟩ : ∃ WB, wr.alloc (.cells #[.int .i64 p.id, .int .i64 fr, .int .i64 m] 66) = WB := ⟨_, rfl⟩
            rw [hWB] at w0 hbB
            obtain ⟨b0, b1, b2⟩ := w0
            rw [hfr] at b1
            rw [hm] at b2
            replace b0 : WB.cell? ⟨wr.heap.size, 0, none⟩ = some (.int .i64 p.id) := b0
            replace b1 : WB.cell? ⟨wr.heap.size, 1, none⟩ = some (.int .i64 fr) := b1
            replace b2 : WB.cell? ⟨wr.heap.size, 2, none⟩ = some (.int .i64 m) := b2
            have hgWB : w4.heap.size < WB.heap.size := Nat.lt_of_lt_of_le hgr hbB.size
            have hwWB : w.heap.size ≤ WB.heap.size := by omega
            have HBB := Lib.hid (HBr.out.trans (hbB.mono HBr.out.size))
            have HMB := Lib.hid (HMr.out.keep hbB (Nat.lt_trans hgR hgr))
            have HRB := Lib.hid ((hbB.block _ hgr).trans HRW.out)
            obtain ⟨r, hr⟩ : ∃ r, chunkB p.id = r := ⟨_, rfl⟩
            have CC := Lib.hid (chunk_c hr)
            have HP := Lib.hid hpr
            have HPM := Lib.hid hmem
            have HFR := Lib.hid hfr
            have HMM := Lib.hid hm
            clear hp hg hkl hbB hbw hgw hmem hpr hsn hol hol' ha hfr hm htr hle
            cases r
            · have hcn := chunk_not.1 hr
              have HT1 := Lib.hid (show There l p from fun h1 => by omega)
              have HPB := Lib.hid (show pieceB l p = List.replicate m 0 by unfold pieceB; rw [if_neg (by omega), HMM.out, Int.toNat_natCast])
              clear hr hrr hcn
              go_wp2_with (go_at_call 41; refine (CC.out _).mono ?_; rintro e w5 ⟨rfl, hww⟩; obtain rfl := hww.symm)
              go_roundw
              case rel =>
                refine ⟨t + 1, by omega, by go_num, by rw [HSN.out], ?_, fun q hq => ?_, HMB.out, HBB.out⟩
                · rw [HRB.out, HTS.out, outB_snoc, HPB.out, rowL_zeros _ _ m (by omega), ← HTS.out, HSN.out, show S - ((a : Int) + (m : Int)).toNat = S - (a : Int).toNat - m by omega]
                · rw [HTS.out] at hq
                  rcases List.mem_append.1 hq with hq | hq
                  · exact HTH.out q hq
                  · rw [List.mem_singleton.1 hq]; exact HT1.out
              case measure => simp [intOf]; omega
            · obtain ⟨hc1, hc2⟩ := chunk_iff.1 hr
              have hlk := HMB.out.look (x := p.id) (by omega) hc2
              have hfi := HF1.out p.id
              clear hr hrr
              cases hfd : findL l p.id with
              | none =>
                rw [hfd] at hfi
                simp only [] at hfi
                rw [hfi] at hlk
                simp only [Option.getD_none] at hlk
                have HE := Lib.hid (bytes_none HR.out HG.out HPM.out hc1 (l := l) (fun h => by obtain ⟨d, hd, _⟩ := h hc1; rw [hfd] at hd; cases hd))
                have hlt0 : (0 : Int) < (fr : Int) + (m : Int) := by omega
                clear hfi hfd
                go_wp2_with (go_at_call 41; refine (CC.out _).mono ?_; rintro e w5 ⟨rfl, hww⟩; obtain rfl := hww.symm)
                refine bodyPost_ret (results_tmp2 rfl _ _ _) rfl ?_
                exact ⟨.inr ⟨by rw [HE.out]; decide, none, 0, by rw [HE.out]; rfl⟩, HBB.out⟩
              | some d =>
                rw [hfd] at hfi
                simp only [] at hfi
                obtain ⟨B, cB, hFv, hcB, hBy⟩ := hfi
                rw [hFv] at hlk
                simp only [Option.getD_some] at hlk
                by_cases hle : (fr : Int) + (m : Int) ≤ (d.length : Int)
                · have hdl : fr + m ≤ d.length := by omega
                  obtain ⟨gB, oB, hBe, hgB, hcB2⟩ := hBy (List.ne_nil_of_length_pos (by omega))
                  have HBX := Lib.hid (hBy.below (HBB.out.mono (Nat.le_refl _)))
                  subst hBe
                  have HT1 := Lib.hid (show There l p from fun _ => ⟨d, hfd, by rw [HFR.out, HMM.out]; exact hle⟩)
                  have HPB := Lib.hid (show pieceB l p = (d.drop fr).take m by unfold pieceB; rw [if_pos hc1, hfd, Option.getD_some, HFR.out, HMM.out, Int.toNat_natCast, Int.toNat_natCast])
                  have hpl : ((d.drop fr).take m).length = m := by rw [List.length_take, List.length_drop]; omega
                  have hge0 : ¬ (d.length : Int) < (fr : Int) + (m : Int) := by omega
                  have hsl := slice_fromR w4.heap.size S S a (by omega) (Nat.le_refl _)
                  have hsm := slice_midR gB oB d.length cB fr m (by omega) (by omega)
                  have hsum : IntKind.i64.wrap ((fr : Int) + (m : Int)) = (fr : Int) + (m : Int) := IntWalk.i64_in _ (by omega)
                  have HSRC := Lib.hid (show ∀ (j : Nat) v, (by8 ((d.drop fr).take m))[j]? = some v → WB.drew.cell? ((⟨gB, oB + fr, none⟩ : Addr).add j) = some v from HBX.out.src fr m)
                  have HLEN := Lib.hid (show (by8 ((d.drop fr).take m)).length = Nat.min m (S - a) by rw [by8_len, hpl]; exact (Nat.min_eq_left (by omega)).symm)
                  have HFIT := Lib.hid (show a + (by8 ((d.drop fr).take m)).length ≤ (rowL (outB l (b.take t)) (S - (a : Int).toNat)).length by rw [by8_len, hpl]; unfold rowL; rw [List.length_append, by8_len, HOL.out, List.length_replicate]; omega)
                  have HSPL := Lib.hid (show splice (rowL (outB l (b.take t)) (S - (a : Int).toNat)) a (by8 ((d.drop fr).take m)) = rowL (outB l (b.take (t + 1))) (S - (sizeL (b.take (t + 1))).toNat) by
                    rw [rowL_splice _ _ _ _ HOL.out, hpl, HSN.out, show S - ((a : Int) + (m : Int)).toNat = S - (a : Int).toNat - m by omega, HTS.out, outB_snoc, HPB.out])
                  clear hFv hfd hle hBy hgB hcB2 hpl hcB
                  go_upto_region 21 with (go_at_call 41; refine (CC.out _).mono ?_; rintro e w5 ⟨rfl, hww⟩; obtain rfl := hww.symm)
                  have HRD := Lib.hid (show WB.drew.heap[w4.heap.size]? = _ from HRB.out)
                  replace b0 : WB.drew.cell? ⟨wr.heap.size, 0, none⟩ = some (.int .i64 p.id) := b0
                  replace b1 : WB.drew.cell? ⟨wr.heap.size, 1, none⟩ = some (.int .i64 fr) := b1
                  replace b2 : WB.drew.cell? ⟨wr.heap.size, 2, none⟩ = some (.int .i64 m) := b2
                  have HCE := Lib.hid (fun (w3 : World) (h : ∀ k, k ≠ w4.heap.size → w3.heap[k]? = WB.drew.heap[k]?) => show w3.cell? ⟨wr.heap.size, 2, none⟩ = some (.int .i64 m) from by
                    have h2 := h wr.heap.size (by omega)
                    unfold World.cell? at b2 ⊢
                    simp only [] at b2 ⊢
                    rw [h2]
                    exact b2)
                  go_still_tail 12, (by kernel_rfl)
                  change wpList _ _ _ _ _ WB.drew
                  go_wp2_with (with_reducible refine wpList_copy_alone rfl (.tmp 69) (.tmp 78) 55 55 rfl 5 Try.underlying55 HS1.out w4.heap.size a (S - a) (S - a) ⟨gB, oB + fr, none⟩ m (cB - fr) rfl rfl (rowL (outB l (b.take t)) (S - (a : Int).toNat)) 5 HRD.out (by8 ((d.drop fr).take m)) HLEN.out HSRC.out HFIT.out (by8_cells _) ?_; intro w3 HG3 HO3 HB3; have e2 := HCE.out w3 HO3.out)
                  have HM3 := Lib.hid (show SlM w3 w2.heap.size k F from HMB.out.keep (B := w4.heap.size) ((below_drewN WB 1).mono (by omega) |>.trans HB3.out) hgR)
                  have HB3x := Lib.hid (show Below w.heap.size w w3 from HBB.out.trans (((below_drewN WB 1).mono hwWB).trans (HB3.out.mono hbs4)))
                  go_roundw
                  case rel =>
                    refine ⟨t + 1, by omega, by go_num, by rw [HSN.out], ?_, fun q hq => ?_, HM3.out, HB3x.out⟩
                    · rw [HG3.out, HSPL.out]
                    · rw [HTS.out] at hq
                      rcases List.mem_append.1 hq with hq | hq
                      · exact HTH.out q hq
                      · rw [List.mem_singleton.1 hq]; exact HT1.out
                  case measure => simp [intOf]; omega
                · have HE := Lib.hid (bytes_none HR.out HG.out HPM.out hc1 (l := l) (fun h => by obtain ⟨d', hd, hl⟩ := h hc1; rw [hfd] at hd; injection hd with hd; subst hd; rw [HFR.out, HMM.out] at hl; exact hle hl))
                  have hlt0 : (d.length : Int) < (fr : Int) + (m : Int) := by omega
                  clear hFv hfd hle
                  go_wp2_with (go_at_call 41; refine (CC.out _).mono ?_; rintro e w5 ⟨rfl, hww⟩; obtain rfl := hww.symm)
                  refine bodyPost_ret (results_tmp2 rfl _ _ _) rfl ?_
                  exact ⟨.inr ⟨by rw [HE.out]; decide, none, 0, by rw [HE.out]; rfl⟩, HBB.out⟩
          · obtain rfl : t = n := by omega
            have hfull : b.take t = b := List.take_of_length_le (by rw [HN.out]; exact Nat.le_refl _)
            have hth := HTH.out
            have hrw := HRW.out
            rw [hfull] at hth hrw
            have HOK := Lib.hid (bytes_ok HR.out HG.out hth)
            have hol := outB_len HR.out hth
            rw [HS.out] at hol
            have HOL := Lib.hid (show (bytesOut (eachL b) l).length = S by rw [HOK.out.2]; omega)
            have HBY := Lib.hid (show Byt wr (some ⟨w4.heap.size, 0, none⟩) (bytesOut (eachL b) l) by rw [HOK.out.2]; exact byt_row hrw)
            clear hth hrw hol hfull hbw
            go_wp2
            refine bodyPost_ret (results_tmp2 rfl _ _ _) rfl ?_
            exact ⟨.inl ⟨HOK.out.1, some ⟨w4.heap.size, 0, none⟩, S, by rw [HOL.out]; rfl, HBY.out, fun g o e => by injection e with e; injection e with e _ _; omega⟩, HBr.out⟩
end Go.Proofs.Ytggnklcjhbahhaa
