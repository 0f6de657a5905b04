/-
  Walk of the program's Child: the entries that are given on, joined by their marks, with a map of the places.
-/
import Derived.Test.YtkpedfigaofloaaAm
import Derived.Test.YtkpedfigaofloaaPc
import Derived.BigRegion
import Derived.Deep.DeepCutAuto
namespace Go.Proofs.Ytkpedfigaofloaa
open Go.RowKit Ap
set_option maxHeartbeats 400000

theorem own_mono {w : World} {base base' : Nat} {e : TypeId} {s : Nat} {v : Value} {n : Nat} {xs : List Value} (h : w.ownsRow base e s v n xs) (hb : base' ≤ base) : w.ownsRow base' e s v n xs := by
  obtain ⟨h1, h2⟩ := h
  refine ⟨h1, ?_⟩
  rcases h2 with h2 | ⟨g, cap, cur, hv, hg, hr⟩
  · exact .inl h2
  · exact .inr ⟨g, cap, cur, hv, Nat.le_trans hb hg, hr⟩
theorem own_ne {w : World} {b : Nat} {e : TypeId} {s : Nat} {v : Value} {n : Nat} {xs : List Value} (h : w.ownsRow (b + 1) e s v n xs) : v.ownBlock ≠ some b := fun e => by
  have := (h.lt b e).1
  omega
theorem placeI_snoc (out : List Ac) (e : Ac) (h : e.mk0 ∉ out.map Ac.mk0) (m : Ac) : placeI (out ++ [e]) m = if m = e.mk0 then some (out.length : Int) else placeI out m := by
  unfold placeI
  rw [placeN_snoc out e h m]
  split <;> rfl

set_option maxHeartbeats 4000000 in
theorem child_any (A : Option Addr) (n c : Nat) (l : List Ac) (hn : l.length = n) (hl : n ≤ 1000) (hok : ∀ a ∈ l, a.ok) (dir : Bool) (w : World) (hA : Aces w A l) :
    Calls Try.prog 21 #[.slice A n c, .bool dir] w fun e w' => ∃ A' m c', e = .returned (.slice A' m c') ∧ w'.ownsRow w.heap.size 31 5 (.slice A' m c') m (encs (childL l (rcOf dir))) ∧ Below w.heap.size w w' := by
  obtain ⟨i0, hi, hz0, hz1, hz2⟩ := info_parts info_ace
  obtain ⟨rc, hrc⟩ : ∃ rc, rcOf dir = rc := ⟨_, rfl⟩
  have hrc2 : 1 ≤ rc ∧ rc ≤ 2 := by rw [← hrc]; unfold rcOf; split <;> omega
  have HD := Lib.hid (show (dir = true ∧ rc = 2) ∨ (dir = false ∧ rc = 1) by rw [← hrc]; cases dir <;> simp [rcOf])
  rw [hrc]
  have HN := Lib.hid hn
  have SA := Lib.hid hA
  have HOK := Lib.hid hok
  have hmm := @run_makeMap Try.prog
  clear hn hA hok hrc
  go_enter Try.func21, Try.ntmps21
  go_upto_if 13 with (fail)
  go_cut [5] (fun s5 wx => s5 = .int .i64 rc ∧ wx = w)
  case first =>
    rcases HD.out with ⟨rfl, rfl⟩ | ⟨rfl, rfl⟩
    all_goals
      go_wp2_with fail
      go_meet
      exact ⟨rfl, rfl⟩
  case rest =>
    obtain ⟨rfl, rfl⟩ := hcut
    go_wp2
    go_loopw [6, 9, 10, 11, 12, 17] (fun o _ _ _ _ i wr => ∃ (k m : Nat) (A' : Option Addr) (c' : Nat) (out : List Ac), k ≤ n ∧ i = .int .i64 k ∧ o = .slice A' m c' ∧ m ≤ k ∧ childL (l.take k) rc = out ∧ wr.ownsRow (wc.heap.size + 1) 31 5 (.slice A' m c') m (encs out) ∧ IntM wr wc.heap.size k (placeI out) ∧ Below wc.heap.size wc wr) (fun _ _ _ _ _ i _ => n - (intOf i).toNat)
    case atStart => exact ⟨0, 0, none, 0, [], Nat.zero_le _, rfl, rfl, Nat.le_refl _, rfl, World.ownsRow_nil _ _ _ _, (IntM.made wc).congr (fun _ => rfl), (Below.refl _ wc).alloc (Nat.le_refl _) _⟩
    case round =>
      obtain ⟨k, m, A', c', out, hk, rfl, rfl, hm, hout, hown, hmap, hbw⟩ := hrel
      have hbs := hbw.size
      have hB := hmap.lt
      by_cases hlt : k < n
      · have hkl : k < l.length := by rw [HN.out]; exact hlt
        obtain ⟨g, o, rfl, hg, hc⟩ := (SA.out.below hbw) (List.ne_nil_of_length_pos (by omega))
        obtain ⟨c0, c1, c2, c3, c4⟩ := hc k l[k] (List.getElem?_eq_getElem hkl)
        have hxo : l[k].ok := HOK.out _ (List.getElem_mem hkl)
        have hst : childL (l.take (k + 1)) rc = stepC rc out l[k] := by rw [List.take_succ_eq_append_getElem hkl, childL_snoc, hout]
        have hnd : (out.map Ac.mk0).Nodup := by rw [← hout]; exact childL_nodup _ _
        obtain ⟨x, hx⟩ : ∃ a, l[k] = a := ⟨_, rfl⟩
        rw [hx] at c0 c1 c2 c3 c4 hst hxo
        have hmo : (toC rc x).mk0.ok := ⟨hxo.1, by simp [Ac.mk0, toC], by simp only [Ac.mk0, toC]; omega⟩
        have cM := fun W => markOf_any (toC rc x) W
        obtain ⟨aw, al, ri, re, ag⟩ := x
        dsimp only at c0 c1 c2 c3 c4
        unfold stepC at hst
        dsimp only [toC] at hst hmo cM
        unfold av at cM
        dsimp only [Ac.mk0] at cM
        have HOWN := Lib.hid hown
        have HMAP := Lib.hid hmap
        have HOUT := Lib.hid hout
        have HMO := Lib.hid hmo
        have HND := Lib.hid hnd
        have CM := Lib.hid cM
        clear hc hx SA hxo hmo cM hown hmap hout hnd
        by_cases h23 : re = 2 ∨ re = 3
        · rw [if_pos h23] at hst
          cases hpl : placeN out (⟨aw, al, ri, rc, true⟩ : Ac).mk0 with
          | none =>
            have hnm := placeN_none.1 hpl
            rw [addC_new hnm] at hst
            have HPL := Lib.hid (show placeI out (⟨aw, al, ri, rc, true⟩ : Ac).mk0 = none by unfold placeI; rw [hpl]; rfl)
            have HNM := Lib.hid hnm
            have HST := Lib.hid hst
            clear hpl hnm hst
            rcases h23 with rfl | rfl
            all_goals
              go_wp2_with (first | (go_at_call 33; refine (CM.out _).mono ?_; rintro e w1 ⟨rfl, hb1⟩; obtain ⟨h0, h1, h2, h3, h4, _, _, _, _, _, hlt1⟩ := after5 hb1; have hbM := Lib.hid ((below_new hb1).alloc (Nat.le_of_lt hlt1) (.cells #[.int .i64 aw, .bool al, .int .i64 0, .int .i64 rc, .bool true] 58)); have hm1 := Lib.hid (HMAP.out.below hbM.out); have hlk := hm1.out.look_ok_lit HMO.out HPL.out; obtain ⟨w4, hup, hm4, hg4⟩ := hm1.out.update_lit (v := (m : Int)) (by unfold maxLen; omega) HMO.out (by omega); have e0 := grown_cell hg4 (alloc_keep h0) (Nat.ne_of_lt hB); have e1 := grown_cell hg4 (alloc_keep h1) (Nat.ne_of_lt hB); have e2 := grown_cell hg4 (alloc_keep h2) (Nat.ne_of_lt hB); have e3 := grown_cell hg4 (alloc_keep h3) (Nat.ne_of_lt hB); have e4 := grown_cell hg4 (alloc_keep h4) (Nat.ne_of_lt hB); have hr4 := Lib.hid ((own_keep HOWN.out hbM.out).kept hg4 (.inr (own_ne HOWN.out))); have hb4 := Lib.hid ((hbw.trans (hbM.out.mono hbs)).grown hg4 (by have := hbM.out.size; omega) (fun j hj => by cases hj; exact Nat.le_refl _)); have hs4 := hb4.out.size; have hM4 := Lib.hid hm4; have hB4 := hm4.lt; clear hm4 hg4) | (at_builtin; refine wpList_append_own _ rfl _ _ 22 rfl (wc.heap.size + 1) 31 i0 _ 5 40 Try.underlying22 hi hz0 hz1 hz2 rfl (by decide) _ _ _ rfl (hr4.out.alloc _) ⟨w4.heap.size, 0, none⟩ 1 1 (enc ⟨aw, al, ri, rc, true⟩) rfl rfl (cells_new w4 _ _) (enc_one _) (by unfold maxLen; omega) (by omega) (by simp; omega) ?_; intro v' w5 hown' hgrow _; obtain ⟨g', cap', rfl⟩ := ownsRow_succ hown'))
              go_roundw
              case rel =>
                refine ⟨k + 1, m + 1, some ⟨g', 0, none⟩, cap', _, by omega, by go_num, rfl, by omega, HST.out, ?_, ?_, ?_⟩
                · rw [encs_append, encs_one]; exact hown'
                · refine ((hM4.out.below ((Below.refl _ w4).alloc (Nat.le_refl _) _)).grown hgrow (fun e => own_ne hr4.out e.symm)).congr (fun y => ?_)
                  rw [placeI_snoc _ _ HNM.out, own_len HOWN.out]
                · exact (hb4.out.alloc hs4 _).grown hgrow (by simp; omega) (fun j hj => Nat.le_of_succ_le (hr4.out.lt j hj).1)
              case measure => simp [intOf]; omega
          | some j =>
            obtain ⟨hj, hmk⟩ := placeN_some hpl
            have has := addC_set HND.out hj hmk
            have HIN := Lib.hid (show (⟨aw, al, ri, rc, true⟩ : Ac).mk0 ∈ out.map Ac.mk0 from List.mem_map.2 ⟨out[j], List.getElem_mem hj, hmk⟩)
            have hlen := own_len HOWN.out
            have hjm : j < m := by omega
            obtain ⟨g', cap', hv, hg1, hg2⟩ := HOWN.out.form (by omega)
            obtain ⟨rfl, rfl⟩ : A' = some ⟨g', 0, none⟩ ∧ c' = cap' := by injection hv with h1 h2 h3; exact ⟨h1, h3⟩
            obtain ⟨y, hy⟩ : ∃ y, out[j] = y := ⟨_, rfl⟩
            rw [hy] at has
            have HAS := Lib.hid has
            rw [has] at hst
            have hgy : out[j]? = some y := by rw [List.getElem?_eq_getElem hj, hy]
            have HPL := Lib.hid (show placeI out (⟨aw, al, ri, rc, true⟩ : Ac).mk0 = some (j : Int) by unfold placeI; rw [hpl]; rfl)
            have HST := Lib.hid hst
            have HGY := Lib.hid hgy
            have HMK := Lib.hid (show y.mk0 = (⟨aw, al, ri, rc, true⟩ : Ac).mk0 by rw [← hy]; exact hmk)
            have hcy := HOWN.out.cellAt (j * 5 + 2) (by omega)
            rw [encs_get out j 2 y (by omega) hgy] at hcy
            have hcy2 : wr.cell? ⟨g', j * 5 + 2, none⟩ = some (.int .i64 y.rights) := hcy
            have hfy := HOWN.out.frozenAt (j * 5 + 2)
            have HCY := Lib.hid hcy2
            have HFY := Lib.hid hfy
            have j0 : (0 : Int) ≤ (j : Int) := by omega
            have jm : (j : Int) < (m : Int) := by omega
            clear hpl hst has hv hy hgy hmk hcy hcy2 hfy
            rcases h23 with rfl | rfl
            all_goals
              go_wp2_with (first | (go_at_call 33; refine (CM.out _).mono ?_; rintro e w1 ⟨rfl, hb1⟩; obtain ⟨h0, h1, h2, h3, h4, _, _, _, _, _, hlt1⟩ := after5 hb1; have hbM := Lib.hid ((below_new hb1).alloc (Nat.le_of_lt hlt1) (.cells #[.int .i64 aw, .bool al, .int .i64 0, .int .i64 rc, .bool true] 58)); have hm1 := Lib.hid (HMAP.out.below hbM.out); have hlk := hm1.out.look_ok_lit HMO.out HPL.out; have e2 := alloc_keep (o := .cells #[.int .i64 aw, .bool al, .int .i64 0, .int .i64 rc, .bool true] 58) h2; have hcy := (hbM.out.cell (p := ⟨g', j * 5 + 2, none⟩) hg2).trans HCY.out; have hfy := (hbM.out.frozen (p := ⟨g', j * 5 + 2, none⟩) hg2).trans HFY.out))
              go_region
              go_wp2
              go_roundw
              case rel =>
                refine ⟨k + 1, m, some ⟨g', 0, none⟩, c', _, by omega, by go_num, rfl, by omega, HST.out, ?_, ?_, ?_⟩
                · have h := (own_keep HOWN.out hbM.out).stored (j * 5 + 2) (.int .i64 (bits .or .i64 y.rights ri))
                  rw [encs_set out j y _ HGY.out] at h
                  rw [show y.join ⟨aw, al, ri, rc, true⟩ = y.put (bits .or .i64 y.rights ri) by rw [bits_or]; rfl]
                  exact h.1.drew
                · refine (hm1.out.setCell (a := ⟨g', j * 5 + 2, none⟩) (by simp; omega) (.int .i64 (bits .or .i64 y.rights ri))).drew.mono (Nat.le_succ k) |>.congr (fun z => ?_)
                  unfold placeI
                  rw [← HAS.out, placeN_addC HIN.out]
                · exact ((hbw.trans (hbM.out.mono hbs)).setCell (p := ⟨g', j * 5 + 2, none⟩) (by simp; omega) _).drew
              case measure => simp [intOf]; omega
        · rw [if_neg h23] at hst
          have HST := Lib.hid hst
          have n2 : (re != 2) = true := by simp; omega
          have n3 : (re != 3) = true := by simp; omega
          clear hst h23
          go_wp2
          go_roundw
          case rel => exact ⟨k + 1, m, A', c', out, by omega, by go_num, rfl, by omega, HST.out, HOWN.out.alloc _, (HMAP.out.below ((Below.refl _ wr).alloc (Nat.le_refl _) _)).mono (Nat.le_succ k), hbw.alloc hbs _⟩
          case measure => simp [intOf]; omega
      · obtain rfl : k = n := by omega
        have hfull : l.take k = l := List.take_of_length_le (by rw [HN.out]; exact Nat.le_refl _)
        rw [hfull] at hout
        have HOUT := Lib.hid hout
        have HOWN := Lib.hid hown
        clear hfull hout hown hmap
        go_wp2
        go_ret
        exact ⟨A', m, c', rfl, by rw [HOUT.out]; exact own_mono HOWN.out (Nat.le_succ _), hbw⟩
end Go.Proofs.Ytkpedfigaofloaa
