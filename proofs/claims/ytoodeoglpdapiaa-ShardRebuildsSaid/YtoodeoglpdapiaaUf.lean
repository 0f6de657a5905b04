/-
  Walk of the closure that the program's through gives: the shard at a point.
-/
import Derived.Test.YtoodeoglpdapiaaUe
namespace Go.Proofs.Ytoodeoglpdapiaa
open Go.RowKit Gf
set_option maxHeartbeats 400000

/-- What the first t known shards make at x. -/
def partL (ls : List (List UInt8)) (pts : List UInt8) (x : UInt8) (L t : Nat) : List UInt8 := (List.range L).map fun j => atTo pts (colL ls pts j) x t
theorem partL_len (ls : List (List UInt8)) (pts : List UInt8) (x : UInt8) (L t : Nat) : (partL ls pts x L t).length = L := by simp [partL]
theorem partL_zero (ls : List (List UInt8)) (pts : List UInt8) (x : UInt8) (L : Nat) : partL ls pts x L 0 = List.replicate L 0 := by
  apply List.ext_getElem?
  intro j
  by_cases h : j < L
  · simp [partL, atTo, h]
  · simp [partL, h]
theorem partL_all (ls : List (List UInt8)) (pts : List UInt8) (x : UInt8) (L : Nat) : partL ls pts x L pts.length = shardTo ls pts x L := by
  unfold partL shardTo
  exact List.map_congr_left fun j _ => by unfold at_; rfl
theorem partL_succ (ls : List (List UInt8)) (pts : List UInt8) (hn : pts.Nodup) (x : UInt8) (L t : Nat) (ht : t < pts.length) : partL ls pts x L (t + 1) = addTo (partL ls pts x L t) (rowOf ls (pts[t]?.getD 0)) (wgt pts (pts[t]?.getD 0) x pts.length) L := by
  apply List.ext_getElem?
  intro j
  by_cases h : j < L
  · rw [addTo_get (by rw [partL_len]; exact h), if_pos h]
    simp only [partL, List.getElem?_map, List.getElem?_range h, Option.map_some, Option.getD_some]
    rw [atTo, ← wgt_term pts hn t ht _ x pts.length (Nat.le_refl _)]
    congr 3
    unfold colL
    rw [List.getElem?_map, List.getElem?_eq_getElem ht]
    rfl
  · rw [List.getElem?_eq_none (l := partL ls pts x L (t + 1)) (by rw [partL_len]; omega), List.getElem?_eq_none (l := addTo _ _ _ _) (by rw [addTo_len, partL_len]; omega)]
theorem bys_zeros (L : Nat) : bys (List.replicate L 0) = (madeCells (Value.int .u8 0).cells (L * 1)).toList := by
  rw [Nat.mul_one, show (Value.int .u8 0).cells = #[.int .u8 0] from rfl, toList_madeCells_one]
  simp [bys]

/-- What the closure has: the box of the list of known shards, and the tables. -/
structure Thru (ok : Nat → Prop) (w : World) (bl p : Nat) (A : Option Addr) (m c : Nat) (ls : List (List UInt8)) (pts : List UInt8) : Prop where
  okb : ok bl
  okp : ok p
  box : w.cell? ⟨bl, 0, none⟩ = some (.slice A m c)
  tab : Tab w p
  kns : Kns ok w A ls pts
theorem Thru.kept {ok : Nat → Prop} {w w' : World} {bl p : Nat} {A : Option Addr} {m c : Nat} {ls : List (List UInt8)} {pts : List UInt8} (h : Thru ok w bl p A m c ls pts) (hk : Kept ok w w') : Thru ok w' bl p A m c ls pts :=
  ⟨h.okb, h.okp, (hk.cell h.okb (block_lt_of_cell h.box)).trans h.box, (hk.2 p h.okp h.tab.lt).trans h.tab, h.kns.kept hk⟩
theorem Thru.below {ok : Nat → Prop} {w w' : World} {bl p : Nat} {A : Option Addr} {m c : Nat} {ls : List (List UInt8)} {pts : List UInt8} (h : Thru ok w bl p A m c ls pts) (hb : Below w.heap.size w w') : Thru ok w' bl p A m c ls pts := h.kept (Kept.of hb)

set_option maxHeartbeats 4000000 in
theorem thru_any (ok : Nat → Prop) (bl p : Nat) (A : Option Addr) (m c : Nat) (ls : List (List UInt8)) (pts : List UInt8) (hm : pts.length = m) (hm1 : 1 ≤ m) (hm2 : m ≤ 255) (hnd : pts.Nodup) (L : Nat) (hL : L ≤ 100000) (hr : ∀ q ∈ pts, (rowOf ls q).length = L) (x : Nat) (hx : x ≤ 255) (w : World) (hT : Thru ok w bl p A m c ls pts) :
    Calls Try.prog 49 #[.int .i64 x, .pointer (some ⟨bl, 0, none⟩), .pointer (some ⟨p, 0, none⟩)] w fun e w' => e = .returned (.slice (some ⟨w.heap.size, 0, none⟩) L L) ∧ w'.ownsRow w.heap.size 5 1 (.slice (some ⟨w.heap.size, 0, none⟩) L L) L (bys (shardL ls pts (UInt8.ofNat x))) ∧ Below w.heap.size w w' := by
  obtain ⟨iu, hu, hu0, hu1, hu2⟩ := info_parts info_u8
  obtain ⟨q0, hq0⟩ : ∃ q, pts[0]'(by omega) = q := ⟨_, rfl⟩
  have e0 : pts[0]? = some q0 := by rw [List.getElem?_eq_getElem (by omega), hq0]
  have hq0m : q0 ∈ pts := by rw [← hq0]; exact List.getElem_mem _
  have HF := Lib.hid (show shardL ls pts (UInt8.ofNat x) = partL ls pts (UInt8.ofNat x) L m by
    unfold shardL
    rw [e0]
    show shardTo _ _ _ (rowOf ls q0).length = _
    rw [hr q0 hq0m, ← partL_all, hm])
  have hbox := hT.box
  obtain ⟨g, rfl, _, hg, hc⟩ := hT.kns (List.ne_nil_of_length_pos (by omega))
  obtain ⟨h1, B, cb, h2, h3, h4⟩ := hc 0 q0 e0
  rw [hr q0 hq0m] at h2
  have h2' : w.cell? ⟨g, 1, none⟩ = some (.slice B L cb) := by simpa using h2
  have HM := Lib.hid hm
  have HR := Lib.hid hr
  have HT := Lib.hid hT
  have HND := Lib.hid hnd
  have HC := Lib.hid hc
  have m0 : (0 : Int) < (m : Int) := by omega
  have hX : ((UInt8.ofNat x).toNat : Int) = (x : Int) := by rw [ofNat_toNat (by omega)]
  have HX := Lib.hid hX
  have hx0 : (x : Int) < 256 := by omega
  have HB2 := Lib.hid (show iu.bytes * L ≤ 281474976710656 by rw [hu2]; omega)
  have HB3 := Lib.hid (show L ≤ maxLen by unfold maxLen; omega)
  have HB4 := Lib.hid (Nat.le_refl w.heap.size)
  clear hm hr hT hnd hc h1 h2 h3 h4 e0 hq0 hq0m hX
  go_enter Try.func49, Try.ntmps49
  go_upto_region 2 with (with_reducible refine wpList_make_full _ rfl _ _ 22 rfl w.heap.size 5 iu _ 1 Try.underlying22 hu hu0 hu1 .i64 .i64 _ _ L rfl rfl rfl rfl HB2.out HB3.out HB4.out ?_; intro w1 hown1 hgrow1)
  have hb1 : Below w.heap.size w w1 := (Below.refl _ w).grown hgrow1 (Nat.le_refl _) (fun k hk => by cases hk)
  rw [← bys_zeros, ← partL_zero ls pts (UInt8.ofNat x) L] at hown1
  have HO1 := Lib.hid hown1
  have hbox1 := (hb1.cell (p := ⟨bl, 0, none⟩) (block_lt_of_cell hbox)).trans hbox
  have HB1 := Lib.hid hb1
  clear hown1 hgrow1 hb1 hbox h2'
  go_wp2
  go_loopw [16] (fun i wr => ∃ t : Nat, t ≤ m ∧ i = .int .i64 t ∧ wr.ownsRow w.heap.size 5 1 (.slice (some ⟨w.heap.size, 0, none⟩) L L) L (bys (partL ls pts (UInt8.ofNat x) L t)) ∧ Below w.heap.size w wr) (fun i _ => m - (intOf i).toNat)
  case atStart => exact ⟨0, Nat.zero_le _, rfl, HO1.out, HB1.out⟩
  case round =>
    obtain ⟨t, ht, rfl, hown, hbw⟩ := hrel
    have hbs := hbw.size
    by_cases hlt : t < m
    · have tm : (t : Int) < (m : Int) := by omega
      have t0 : (0 : Int) ≤ (t : Int) := by omega
      have htl : t < pts.length := by rw [HM.out]; exact hlt
      obtain ⟨q, hq⟩ : ∃ q, pts[t] = q := ⟨_, rfl⟩
      have eq : pts[t]? = some q := by rw [List.getElem?_eq_getElem htl, hq]
      have hqm : q ∈ pts := by rw [← hq]; exact List.getElem_mem _
      obtain ⟨h1, B, cb, h2, _, h4⟩ := HC.out t q eq
      have HRQ := Lib.hid (HR.out q hqm)
      rw [HRQ.out] at h2
      have HNX := Lib.hid (partL_succ ls pts HND.out (UInt8.ofNat x) L t htl)
      rw [eq, HM.out] at HNX
      have e1 := (hbw.cell (p := ⟨g, t * 2, none⟩) hg).trans h1
      have e2 := (hbw.cell (p := ⟨g, t * 2 + 1, none⟩) hg).trans h2
      have HBY := Lib.hid h4.byts
      have HBW := Lib.hid hbw
      have HO := Lib.hid hown
      clear eq hq hqm h1 h2 h4 hbw hown htl hbox1
      go_upto_region 5 with fail
      have hbA : Below wr.heap.size wr (wr.alloc (.cells #[.int .u8 q.toNat, .slice B L cb] 79)) := (Below.refl _ wr).alloc (Nat.le_refl _) _
      have k0 : (wr.alloc (.cells #[.int .u8 q.toNat, .slice B L cb] 79)).drew.cell? ⟨wr.heap.size, 0, none⟩ = some (.int .u8 q.toNat) := by simp [go_sem]
      have k1 : (wr.alloc (.cells #[.int .u8 q.toNat, .slice B L cb] 79)).drew.cell? ⟨wr.heap.size, 1, none⟩ = some (.slice B L cb) := by simp [go_sem]
      have ksz : (wr.alloc (.cells #[.int .u8 q.toNat, .slice B L cb] 79)).heap.size = wr.heap.size + 1 := by simp
      have HOA := Lib.hid (own_drewN (own_keep HO.out hbA) 1)
      have hbA2 : Below wr.heap.size wr (wr.alloc (.cells #[.int .u8 q.toNat, .slice B L cb] 79)).drew := hbA.drew
      obtain ⟨kb, hkb⟩ : ∃ kb, wr.heap.size = kb := ⟨_, rfl⟩
      rw [hkb] at k0 k1 ksz hbA2 hbs ⊢
      generalize wr.alloc (.cells #[.int .u8 q.toNat, .slice B L cb] 79) = W at hbA2 k0 k1 ksz HOA ⊢
      have HBW2 := Lib.hid (HBW.out.trans (hbA2.mono hbs))
      have hT1 := HT.out.below HBW2.out
      have HOB : W.drew.ownsRow w.heap.size 5 1 (.slice (some ⟨w.heap.size, 0, none⟩) L L) L (bys (partL ls pts (UInt8.ofNat x) L t)) := HOA.out
      have hgsW : w.heap.size < W.drew.heap.size := (HOB.lt _ rfl).2
      have hkbs : kb < W.drew.heap.size := by show kb < W.heap.size; omega
      have KS := Lib.hid (fun W' (h : Below W.drew.heap.size W.drew W') => show W'.cell? ⟨bl, 0, none⟩ = some (.slice (some ⟨g, 0, none⟩) m c) ∧ W'.cell? ⟨kb, 0, none⟩ = some (.int .u8 q.toNat) ∧ W'.cell? ⟨kb, 1, none⟩ = some (.slice B L cb) from
        ⟨(h.cell (p := ⟨bl, 0, none⟩) (block_lt_of_cell hT1.box)).trans hT1.box, (h.cell (p := ⟨kb, 0, none⟩) hkbs).trans k0, (h.cell (p := ⟨kb, 1, none⟩) hkbs).trans k1⟩)
      have hwt := weight_any ok p (some ⟨g, 0, none⟩) m c ls pts q (UInt8.ofNat x) HM.out (by omega) W.drew hT1.tab hT1.kns
      rw [HX.out] at hwt
      have HWT := Lib.hid hwt
      obtain ⟨cw, hcw⟩ : ∃ cw, wgt pts q (UInt8.ofNat x) m = cw := ⟨_, rfl⟩
      rw [hcw] at HWT
      have HCW := Lib.hid hcw
      have HAD := Lib.hid (fun W' (h : Below W.drew.heap.size W.drew W') => fadd_any p w.heap.size w.heap.size L L (partL ls pts (UInt8.ofNat x) L t) (rowOf ls q) cw B cb hL HRQ.out W' (hT1.tab.below h hT1.tab.lt) (Nat.ne_of_lt HT.out.tab.lt) (own_keep HOB h) (by
        have := Byts.apart HBY.out (Nat.le_refl _) (own_keep HOB h) (HBW2.out.trans (h.mono (Nat.le_of_lt hgsW)))
        exact this))
      have hwx : IntKind.u8.wrap (x : Int) = x := by rw [IntKind.wrap_u8]; omega
      have hB0 := Below.refl W.drew.heap.size W.drew
      have hgk : w.heap.size < kb := by
        have := (HO.out.lt w.heap.size rfl).2
        omega
      have KG := Lib.hid (fun W' W'' (h : Below W.drew.heap.size W.drew W') (h3 : W'.grownBy W'' (some w.heap.size)) => show W''.cell? ⟨bl, 0, none⟩ = some (.slice (some ⟨g, 0, none⟩) m c) ∧ W''.cell? ⟨kb, 0, none⟩ = some (.int .u8 q.toNat) ∧ W''.cell? ⟨kb, 1, none⟩ = some (.slice B L cb) from
        ⟨h3.cell (KS.out _ h).1 (fun e => absurd (Option.some.inj e) (Nat.ne_of_lt (block_lt_of_cell HT.out.box))), h3.cell (KS.out _ h).2.1 (fun e => absurd (Option.some.inj e) (Nat.ne_of_gt hgk)), h3.cell (KS.out _ h).2.2 (fun e => absurd (Option.some.inj e) (Nat.ne_of_gt hgk))⟩)
      clear hkb ksz hbA2 hbA e1 e2 hT1 hcw hwt
      go_region_held (fun W' => W'.cell? ⟨bl, 0, none⟩ = some (.slice (some ⟨g, 0, none⟩) m c) ∧ W'.cell? ⟨kb, 0, none⟩ = some (.int .u8 q.toNat) ∧ W'.cell? ⟨kb, 1, none⟩ = some (.slice B L cb)) (first | with_reducible exact KS.out _ hB0 | with_reducible exact KS.out _ hb2 | with_reducible exact KG.out _ _ hb2 hgr3) (first | (go_at_call 51; with_reducible refine HWT.out.mono ?_; rintro e w2 ⟨rfl, hb2⟩) | (go_at_call 50; with_reducible refine (HAD.out _ hb2).mono ?_; rintro e w3 ⟨rfl, hown3, hgr3⟩))
      have hb3 : Below w.heap.size w w3 := (HBW2.out.trans (hb2.mono (Nat.le_of_lt hgsW))).grown hgr3 (Nat.le_trans (Nat.le_of_lt hgsW) hb2.size) (fun k hk => Nat.le_of_eq (Option.some.inj hk))
      have HO3 := Lib.hid hown3
      clear hown3 hgr3
      go_wp2
      go_roundw
      case rel =>
        refine ⟨t + 1, by omega, by go_num, ?_, hb3⟩
        rw [HNX.out]
        show World.ownsRow _ _ _ _ _ _ (bys (addTo _ (rowOf ls q) (wgt pts q _ m) L))
        rw [HCW.out]
        exact HO3.out
      case measure => simp [intOf]; omega
    · obtain rfl : t = m := by omega
      rw [← HF.out] at hown
      have HO := Lib.hid hown
      clear hown
      go_wp2
      go_ret
      exact ⟨rfl, HO.out, hbw⟩
end Go.Proofs.Ytoodeoglpdapiaa
