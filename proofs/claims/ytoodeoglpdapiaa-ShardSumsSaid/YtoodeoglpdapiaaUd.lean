/-
  Walk of the program's (*field).add: products of a byte and a row are added to a row of the call's own.
-/
import Derived.Test.YtoodeoglpdapiaaUc
import Derived.Deep.RegionWith
namespace Go.Proofs.Ytoodeoglpdapiaa
open Go.RowKit Gf
set_option maxHeartbeats 400000

/-- The first i bytes with the products added. -/
def addTo (v b : List UInt8) (c : UInt8) (i : Nat) : List UInt8 := (List.range v.length).map fun j => if j < i then v[j]?.getD 0 ^^^ gm c (b[j]?.getD 0) else v[j]?.getD 0
theorem addTo_len (v b : List UInt8) (c : UInt8) (i : Nat) : (addTo v b c i).length = v.length := by simp [addTo]
theorem addTo_zero (v b : List UInt8) (c : UInt8) : addTo v b c 0 = v := by
  apply List.ext_getElem?
  intro j
  by_cases h : j < v.length
  · simp [addTo, h]
  · simp [addTo, h]
theorem addTo_get {v b : List UInt8} {c : UInt8} {i j : Nat} (h : j < v.length) : (addTo v b c i)[j]? = some (if j < i then v[j]?.getD 0 ^^^ gm c (b[j]?.getD 0) else v[j]?.getD 0) := by simp [addTo, h]
theorem addTo_succ (v b : List UInt8) (c : UInt8) (i : Nat) (h : i < v.length) : addTo v b c (i + 1) = (addTo v b c i).set i (v[i]?.getD 0 ^^^ gm c (b[i]?.getD 0)) := by
  apply List.ext_getElem?
  intro j
  rw [List.getElem?_set]
  by_cases hj : j < v.length
  · rw [addTo_get hj, addTo_get hj]
    by_cases e : i = j
    · subst e; simp [addTo_len, h]
    · rw [if_neg e]
      by_cases h2 : j < i
      · rw [if_pos h2, if_pos (by omega)]
      · rw [if_neg h2, if_neg (by omega)]
  · rw [List.getElem?_eq_none (l := addTo v b c (i + 1)) (by rw [addTo_len]; omega), List.getElem?_eq_none (l := addTo v b c i) (by rw [addTo_len]; omega)]
    by_cases e : i = j
    · omega
    · rw [if_neg e]
theorem bys_setU (l : List UInt8) (i : Nat) (x : UInt8) : (bys l).set i (.int .u8 x.toNat) = bys (l.set i x) := by simp [bys, List.map_set]
theorem addTo_none (v b : List UInt8) (i : Nat) : addTo v b 0 i = v := by
  apply List.ext_getElem?
  intro j
  by_cases h : j < v.length
  · simp [addTo_get h, zero_gm, h]
  · rw [List.getElem?_eq_none (by rw [addTo_len]; omega), List.getElem?_eq_none (by omega)]

theorem own_drewN {w : World} {base : Nat} {e : TypeId} {s : Nat} {v : Value} {n : Nat} {xs : List Value} (h : w.ownsRow base e s v n xs) (k : Nat) : (w.drewN k).ownsRow base e s v n xs := h

set_option maxHeartbeats 1000000 in
theorem fadd_any (p gs base L cap : Nat) (v b : List UInt8) (c : UInt8) (B : Option Addr) (cb : Nat) (hL : L ≤ 100000) (hb : b.length = L) (w : World) (hT : Tab w p) (hp : p ≠ gs)
    (hown : w.ownsRow base 5 1 (.slice (some ⟨gs, 0, none⟩) L cap) L (bys v)) (hB : BytsX 0 (some gs) w B b) :
    Calls Try.prog 50 #[.pointer (some ⟨p, 0, none⟩), .slice (some ⟨gs, 0, none⟩) L cap, .slice B L cb, .int .u8 c.toNat] w fun e w' => e = .returned (.tuple #[]) ∧ w'.ownsRow base 5 1 (.slice (some ⟨gs, 0, none⟩) L cap) L (bys (addTo v b c L)) ∧ w.grownBy w' (some gs) := by
  have hv : v.length = L := by have := own_len hown; rwa [bys_length] at this
  by_cases h0 : c.toNat = 0
  · obtain rfl : c = 0 := UInt8.toNat_inj.1 h0
    rw [addTo_none]
    have HO := Lib.hid hown
    have HV := Lib.hid hv
    have HBL := Lib.hid hb
    clear h0 hown hB hT hv hb
    go_enter Try.func50, Try.ntmps50
    go_wp2
    exact bodyPost_ret (v := .tuple #[]) (by simp [results, Try.results50, go_sem]) rfl ⟨rfl, HO.out, World.grownBy.refl _ _⟩
  · have e0 : ((c.toNat : Int) == 0) = false := by simp; omega
    have HV := Lib.hid hv
    have HBL := Lib.hid hb
    have SB := Lib.hid hB
    have HT := Lib.hid hT
    have hO0 := Lib.hid hown
    clear h0 hv hb hB hT hown
    go_enter Try.func50, Try.ntmps50
    go_wp2
    go_loopw [14] (fun i wr => ∃ j : Nat, j ≤ L ∧ i = .int .i64 j ∧ wr.ownsRow base 5 1 (.slice (some ⟨gs, 0, none⟩) L cap) L (bys (addTo v b c j)) ∧ w.grownBy wr (some gs)) (fun i _ => L - (intOf i).toNat)
    case atStart => exact ⟨0, Nat.zero_le _, rfl, by rw [addTo_zero]; exact hO0.out, World.grownBy.refl _ _⟩
    case round =>
      obtain ⟨j, hj, rfl, hown, hgr⟩ := hrel
      by_cases hlt : j < L
      · have jl : (j : Int) < (L : Int) := by omega
        have j0 : (0 : Int) ≤ (j : Int) := by omega
        have hjb : j < b.length := by rw [HBL.out]; exact hlt
        have hjv : j < v.length := by rw [HV.out]; exact hlt
        obtain ⟨g, o, rfl, _, hne, hg, hc⟩ := SB.out (List.ne_nil_of_length_pos (by omega))
        obtain ⟨x, hx⟩ : ∃ x, b[j] = x := ⟨_, rfl⟩
        have hxc := hc j x (by rw [List.getElem?_eq_getElem hjb, hx])
        have hxc' := (hgr.cell_far ⟨g, o + j, none⟩ hg hne).trans hxc
        obtain ⟨y, hy⟩ : ∃ y, v[j] = y := ⟨_, rfl⟩
        have hyc : wr.cell? ⟨gs, j, none⟩ = some (.int .u8 y.toNat) := by
          rw [hown.cellAt j (by omega)]
          simp [bys, addTo_get hjv, List.getElem?_eq_getElem hjv, hy]
        have hyf := hown.frozenAt j
        have HX := Lib.hid (show addTo v b c (j + 1) = (addTo v b c j).set j (y ^^^ gm c x) by
          rw [addTo_succ _ _ _ _ hjv, List.getElem?_eq_getElem hjv, List.getElem?_eq_getElem hjb, hx, hy]; rfl)
        have hTr : Tab wr p := by
          have := HT.out
          exact (hgr.block p this.lt (fun e => hp (Option.some.inj e))).trans this
        have HC := Lib.hid (show Calls Try.prog 39 #[.pointer (some ⟨p, 0, none⟩), .int .u8 c.toNat, .int .u8 x.toNat] wr.drew fun e w' => e = .returned (.int .u8 (gm c x).toNat) ∧ ∃ n, w' = wr.drewN n from (fmul_any p c x wr.drew hTr).mono (by
          rintro e w' ⟨rfl, n, rfl⟩
          exact ⟨rfl, 1 + n, World.drewN_drewN wr 1 n⟩))
        have HO := Lib.hid hown
        have HG := Lib.hid hgr
        have hxy := xor_byte y (gm c x)
        have hcd : ∀ n, (wr.drewN n).cell? ⟨gs, j, none⟩ = some (.int .u8 y.toNat) := fun _ => hyc
        have hfd : ∀ n, (wr.drewN n).frozen? ⟨gs, j, none⟩ = false := fun _ => hyf
        clear hc hx hy hxc hown hgr hTr
        go_upto_region 4 with fail
        go_region_with (first | (go_at_call 39; with_reducible refine HC.out.mono ?_; rintro e w2 ⟨rfl, n, rfl⟩))
        all_goals
          go_wp2
          go_roundw
          case rel =>
            have hs := (own_drewN HO.out n).stored j (.int .u8 (y ^^^ gm c x).toNat)
            rw [bys_setU, ← HX.out] at hs
            refine ⟨j + 1, by omega, by go_num, ?_, ?_⟩
            · have := hs.1
              rwa [UInt8.toNat_xor] at this
            · have h2 : wr.grownBy (wr.drewN n) (some gs) := ⟨rfl, rfl, rfl, Nat.le_refl _, fun _ _ _ => rfl⟩
              have := (HG.out.trans h2).trans hs.2
              rwa [UInt8.toNat_xor] at this
          case measure => simp [intOf]; omega
      · obtain rfl : j = L := by omega
        have HO := Lib.hid hown
        clear hown
        go_wp2
        go_end0
        exact ⟨rfl, HO.out, hgr⟩
end Go.Proofs.Ytoodeoglpdapiaa
