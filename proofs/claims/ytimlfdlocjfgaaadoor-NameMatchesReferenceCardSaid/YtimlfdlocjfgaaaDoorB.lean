/-
  Walks of name.Valid and of validTag: a range over a string, whatever its bytes are (valid UTF-8 or not). The world must hold the program's table of kinds.
-/
import Derived.Test.YtimlfdlocjfgaaaDoorA
import Derived.Lib.OthersKept
import Derived.Lib.TrimU
import Derived.Lib.Hide
namespace Go.Proofs.YtimlfdlocjfgaaaDoor
open Go.RowKit
set_option maxHeartbeats 400000

theorem u8_cast (c : UInt8) : (0 : Int) ≤ c.toNat ∧ (c.toNat : Int) ≤ 255 := by have := c.toNat_lt; omega
theorem u8_eq_iff (c : UInt8) (n : UInt8) : (c == n) = decide ((c.toNat : Int) = n.toNat) := by
  rw [Bool.eq_iff_iff, beq_iff_eq, decide_eq_true_eq]
  constructor
  · intro h; rw [h]
  · intro h; exact UInt8.toNat_inj.1 (by omega)
theorem okb_kind (c : UInt8) : Pl.okb c = !(kindI c.toNat == 0) := by
  have h46 := u8_eq_iff c 46; have h95 := u8_eq_iff c 95; have h45 := u8_eq_iff c 45; have h126 := u8_eq_iff c 126
  unfold Pl.okb Pl.lett
  rw [h46, h95, h45, h126]
  have e46 : ((46 : UInt8).toNat : Int) = 46 := rfl
  have e95 : ((95 : UInt8).toNat : Int) = 95 := rfl
  have e45 : ((45 : UInt8).toNat : Int) = 45 := rfl
  have e126 : ((126 : UInt8).toNat : Int) = 126 := rfl
  rw [e46, e95, e45, e126]
  rw [Bool.eq_iff_iff]
  simp only [Bool.or_eq_true, Bool.and_eq_true, decide_eq_true_eq, Bool.not_eq_true', beq_eq_false_iff_ne, ne_eq]
  unfold kindI
  repeat' split
  all_goals omega
theorem lett_kind (c : UInt8) : Pl.lett c = (kindI c.toNat == 1) := by
  unfold Pl.lett
  rw [Bool.eq_iff_iff]
  simp only [Bool.or_eq_true, Bool.and_eq_true, decide_eq_true_eq, beq_iff_eq]
  unfold kindI
  repeat' split
  all_goals omega
theorem kind_high (r : Int) (h : 128 ≤ r) : kindI r = 0 := by unfold kindI; repeat' split; all_goals omega

/-- The rune at a place of a string: a right byte is its own rune, of one byte; any other makes a rune of no kind. -/
theorem rune_at (s : ByteArray) (pos : Nat) (h : pos < s.size) :
    (Pl.okb (s.data.toList[pos]'(by rw [← Lib.size_eq]; exact h)) = !(kindI (Utf8.decode s pos).1 == 0)) ∧ (Pl.lett (s.data.toList[pos]'(by rw [← Lib.size_eq]; exact h)) = (kindI (Utf8.decode s pos).1 == 1)) ∧ ((kindI (Utf8.decode s pos).1 == 0) = false → (Utf8.decode s pos).2 = 1) := by
  have e : s.data.toList[pos]'(by rw [← Lib.size_eq]; exact h) = s[pos] := by simp [ByteArray.getElem_eq_getElem_data]
  rw [e]
  by_cases ha : (s[pos]).toNat < 128
  · rw [decode_ascii s pos h ha]
    exact ⟨okb_kind _, lett_kind _, fun _ => rfl⟩
  · have hh := decode_high s pos h (by omega)
    have hk := kind_high ((Utf8.decode s pos).1 : Int) (by omega)
    have hk2 := kind_high (s[pos].toNat : Int) (by omega)
    refine ⟨by rw [okb_kind, hk, hk2], by rw [lett_kind, hk, hk2], fun h => by rw [hk] at h; cases h⟩

set_option maxHeartbeats 1000000 in
theorem Valid_any (s : ByteArray) (hs : s.size ≤ maxLen) (w : World) (hE : Env w) :
    Calls Tryd.prog 13 #[.string s] w fun e w' => e = .returned (.bool (Pl.vld s.data.toList)) ∧ Below w.heap.size w w' := by
  unfold maxLen at hs
  have hsz := Lib.size_eq s
  by_cases c : s.data.toList ≠ [] ∧ s.data.toList.length ≤ 16 ∧ s.data.toList ≠ [46] ∧ s.data.toList ≠ [46, 46]
  · have C := Lib.hid c
    rw [← Lib.toList_data] at c
    obtain ⟨c1, c2, c3, c4⟩ := c
    rw [Lib.toList_data, ← hsz] at c2
    have d1 : s.toList.isEmpty = false := by cases h : s.toList with | nil => exact absurd h c1 | cons => rfl
    have d3 : (s.toList == [46]) = false := beq_eq_false_iff_ne.2 c3
    have d4 : (s.toList == [46, 46]) = false := beq_eq_false_iff_ne.2 c4
    have d2 : decide (16 < (s.size : Int)) = false := by simp; omega
    have HS := Lib.hid hsz
    clear hsz c1 c3 c4
    go_enter Tryd.func13, Tryd.ntmps13
    go_wp2
    go_loopw [4] (fun _ wx => ∃ pos : Nat, pos ≤ s.size ∧ wx.heap[w.heap.size]? = some (.stringIter s pos) ∧ Pl.Okto s.data.toList pos ∧ Below w.heap.size w wx) (fun _ wx => s.size - wx.iterPos w.heap.size)
    case atStart => exact ⟨0, Nat.zero_le _, World.iter_heap w s 0, Pl.okto_zero _, (Below.refl _ _).alloc (Nat.le_refl _) _⟩
    case round =>
      obtain ⟨pos, hps, hit, hok, hbw⟩ := hrel
      have hpos : wr.iterPos w.heap.size = pos := by simp [World.iterPos, hit]
      have HP := Lib.hid hpos
      clear hpos
      by_cases hlt : pos < s.size
      · have hnx : ∀ ty, (Instr.next (.pointer (some ⟨w.heap.size, 0, none⟩)) true ty).run Tryd.prog wr = _ := fun ty => Lib.run_next_any_at wr w.heap.size s pos ty hit hlt
        obtain ⟨rk, _, rw1⟩ := rune_at s pos hlt
        have hwd := Lib.width_pos s pos
        have hle := Lib.rune_le s pos
        obtain ⟨R, hR⟩ : ∃ R, (Utf8.decode s pos).1 = R := ⟨_, rfl⟩
        obtain ⟨K, hK⟩ : ∃ K, (Utf8.decode s pos).2 = K := ⟨_, rfl⟩
        rw [hR] at rk rw1 hle
        rw [hK] at rw1 hwd
        rw [hR, hK] at hnx
        have hit2 := Lib.iterAt_heap wr w.heap.size s pos (pos + K) hit
        have hbw2 := Lib.below_iterAt hbw (k := w.heap.size) (Nat.le_refl _) s (pos + K)
        obtain ⟨W, hWd⟩ : ∃ W, wr.iterAt w.heap.size s (pos + K) = W := ⟨_, rfl⟩
        rw [hWd] at hnx hit2 hbw2
        have hEW : Env W := hE.below hbw2
        have cS := kindOf_any (R : Int) (by omega) (by omega) W hEW
        have HR := Lib.hid hR; have HK := Lib.hid hK; have HW := Lib.hid hWd; have HRK := Lib.hid rk; have HRW := Lib.hid rw1
        clear hR hK hWd rk rw1 hit hbw
        cases hk0 : (kindI (R : Int) == 0)
        · have HK0 := Lib.hid hk0
          go_wp2_with (go_at_call 33; refine cS.mono ?_; rintro e W1 ⟨rfl, hb1⟩)
          have hIT : w.heap.size < W.heap.size := (Array.getElem?_eq_some_iff.1 hit2).1
          have hit3 := (hb1.block w.heap.size hIT).trans hit2
          obtain rfl := HRW.out HK0.out
          go_roundw
          case rel =>
            refine ⟨pos + 1, by omega, hit3, Pl.okto_succ hok (by rw [← HS.out]; exact hlt) ?_, hbw2.trans (hb1.mono hbw2.size)⟩
            rw [HRK.out, HK0.out]; rfl
          case measure =>
            rw [HP.out]
            have : W1.iterPos w.heap.size = pos + 1 := by simp [World.iterPos, hit3]
            rw [this]; omega
        · have HK0 := Lib.hid hk0
          go_wp2_with (go_at_call 33; refine cS.mono ?_; rintro e W1 ⟨rfl, hb1⟩)
          go_ret
          refine ⟨ret_bool (Pl.vld_bad (i := pos) (by rw [← HS.out]; exact hlt) ?_).symm, hbw2.trans (hb1.mono hbw2.size)⟩
          rw [HRK.out, HK0.out]; rfl
      · have hnx : ∀ ty, (Instr.next (.pointer (some ⟨w.heap.size, 0, none⟩)) true ty).run Tryd.prog wr = _ := fun ty => Lib.run_next_end_at wr w.heap.size s pos ty hit hlt
        have hbwH := Lib.hid hbw
        clear hit
        go_wp2
        go_ret
        obtain rfl : pos = s.size := by omega
        refine ⟨ret_bool (Pl.vld_yes C.out ?_).symm, hbw⟩
        rw [← HS.out]; exact hok
  · have hv := Pl.vld_no c
    have HV := Lib.hid hv
    have c' : s.data.toList = [] ∨ 16 < s.size ∨ s.data.toList = [46] ∨ s.data.toList = [46, 46] := by
      rw [hsz]
      by_cases e1 : s.data.toList = []
      · exact .inl e1
      · by_cases e2 : 16 < s.data.toList.length
        · exact .inr (.inl e2)
        · by_cases e3 : s.data.toList = [46]
          · exact .inr (.inr (.inl e3))
          · exact .inr (.inr (.inr (Decidable.byContradiction fun e4 => c ⟨e1, by omega, e3, e4⟩)))
    clear hsz hv c
    rcases c' with e | e | e | e
    · obtain rfl : s = ⟨#[]⟩ := by rw [← Lib.mk_data s, e]
      clear e
      go_enter Tryd.func13, Tryd.ntmps13
      go_wp2
      go_ret
      exact ⟨ret_bool HV.out.symm, Below.refl _ _⟩
    · have d2 : decide (16 < (s.size : Int)) = true := by simp; omega
      have d1 : s.toList.isEmpty = false := by
        rw [Lib.toList_data]
        cases h : s.data.toList with
        | nil => rw [Lib.size_eq, h] at e; simp at e
        | cons => rfl
      go_enter Tryd.func13, Tryd.ntmps13
      go_wp2
      go_ret
      exact ⟨ret_bool HV.out.symm, Below.refl _ _⟩
    · obtain rfl : s = ⟨#[46]⟩ := by rw [← Lib.mk_data s, e]
      clear e
      go_enter Tryd.func13, Tryd.ntmps13
      go_wp2
      go_ret
      exact ⟨ret_bool HV.out.symm, Below.refl _ _⟩
    · obtain rfl : s = ⟨#[46, 46]⟩ := by rw [← Lib.mk_data s, e]
      clear e
      go_enter Tryd.func13, Tryd.ntmps13
      go_wp2
      go_ret
      exact ⟨ret_bool HV.out.symm, Below.refl _ _⟩
set_option maxHeartbeats 1000000 in
theorem validTag_any (s : ByteArray) (hs : s.size ≤ maxLen) (w : World) (hE : Env w) :
    Calls Tryd.prog 43 #[.string s] w fun e w' => e = .returned (.bool (Pl.vtag s.data.toList)) ∧ Below w.heap.size w w' := by
  unfold maxLen at hs
  have hsz := Lib.size_eq s
  by_cases c : s.data.toList ≠ [] ∧ s.data.toList.length ≤ 4
  · have C := Lib.hid c
    rw [← Lib.toList_data] at c
    obtain ⟨c1, c2⟩ := c
    rw [Lib.toList_data, ← hsz] at c2
    have d1 : s.toList.isEmpty = false := by cases h : s.toList with | nil => exact absurd h c1 | cons => rfl
    have d2 : decide (4 < (s.size : Int)) = false := by simp; omega
    have HS := Lib.hid hsz
    clear hsz c1
    go_enter Tryd.func43, Tryd.ntmps43
    go_wp2
    go_loopw [4] (fun _ wx => ∃ pos : Nat, pos ≤ s.size ∧ wx.heap[w.heap.size]? = some (.stringIter s pos) ∧ Pl.Letto s.data.toList pos ∧ Below w.heap.size w wx) (fun _ wx => s.size - wx.iterPos w.heap.size)
    case atStart => exact ⟨0, Nat.zero_le _, World.iter_heap w s 0, Pl.letto_zero _, (Below.refl _ _).alloc (Nat.le_refl _) _⟩
    case round =>
      obtain ⟨pos, hps, hit, hok, hbw⟩ := hrel
      have hpos : wr.iterPos w.heap.size = pos := by simp [World.iterPos, hit]
      have HP := Lib.hid hpos
      clear hpos
      by_cases hlt : pos < s.size
      · have hnx : ∀ ty, (Instr.next (.pointer (some ⟨w.heap.size, 0, none⟩)) true ty).run Tryd.prog wr = _ := fun ty => Lib.run_next_any_at wr w.heap.size s pos ty hit hlt
        obtain ⟨_, rk, rw1⟩ := rune_at s pos hlt
        have hwd := Lib.width_pos s pos
        have hle := Lib.rune_le s pos
        obtain ⟨R, hR⟩ : ∃ R, (Utf8.decode s pos).1 = R := ⟨_, rfl⟩
        obtain ⟨K, hK⟩ : ∃ K, (Utf8.decode s pos).2 = K := ⟨_, rfl⟩
        rw [hR] at rk rw1 hle
        rw [hK] at rw1 hwd
        rw [hR, hK] at hnx
        have hit2 := Lib.iterAt_heap wr w.heap.size s pos (pos + K) hit
        have hbw2 := Lib.below_iterAt hbw (k := w.heap.size) (Nat.le_refl _) s (pos + K)
        obtain ⟨W, hWd⟩ : ∃ W, wr.iterAt w.heap.size s (pos + K) = W := ⟨_, rfl⟩
        rw [hWd] at hnx hit2 hbw2
        have hEW : Env W := hE.below hbw2
        have cS := kindOf_any (R : Int) (by omega) (by omega) W hEW
        have HR := Lib.hid hR; have HK := Lib.hid hK; have HW := Lib.hid hWd; have HRK := Lib.hid rk; have HRW := Lib.hid rw1
        clear hR hK hWd rk rw1 hit hbw
        cases hk0 : (kindI (R : Int) == 1)
        · have HK0 := Lib.hid hk0
          have hk1 : (kindI (R : Int) != 1) = true := by simp [bne, hk0]
          clear hk0
          go_wp2_with (go_at_call 33; refine cS.mono ?_; rintro e W1 ⟨rfl, hb1⟩)
          go_ret
          refine ⟨ret_bool (Pl.vtag_bad (i := pos) (by rw [← HS.out]; exact hlt) ?_).symm, hbw2.trans (hb1.mono hbw2.size)⟩
          rw [HRK.out, HK0.out]
        · have HK0 := Lib.hid hk0
          have hk1 : (kindI (R : Int) != 1) = false := by simp [bne, hk0]
          have hk2 : (kindI (R : Int) == 0) = false := by rw [beq_eq_false_iff_ne]; have := beq_iff_eq.1 hk0; omega
          have HK2 := Lib.hid hk2
          clear hk0 hk2
          go_wp2_with (go_at_call 33; refine cS.mono ?_; rintro e W1 ⟨rfl, hb1⟩)
          have hIT : w.heap.size < W.heap.size := (Array.getElem?_eq_some_iff.1 hit2).1
          have hit3 := (hb1.block w.heap.size hIT).trans hit2
          obtain rfl := HRW.out HK2.out
          go_roundw
          case rel =>
            refine ⟨pos + 1, by omega, hit3, Pl.letto_succ hok (by rw [← HS.out]; exact hlt) ?_, hbw2.trans (hb1.mono hbw2.size)⟩
            rw [HRK.out, HK0.out]
          case measure =>
            rw [HP.out]
            have : W1.iterPos w.heap.size = pos + 1 := by simp [World.iterPos, hit3]
            rw [this]; omega
      · have hnx : ∀ ty, (Instr.next (.pointer (some ⟨w.heap.size, 0, none⟩)) true ty).run Tryd.prog wr = _ := fun ty => Lib.run_next_end_at wr w.heap.size s pos ty hit hlt
        have hbwH := Lib.hid hbw
        clear hit
        go_wp2
        go_ret
        obtain rfl : pos = s.size := by omega
        refine ⟨ret_bool (Pl.vtag_yes C.out ?_).symm, hbw⟩
        rw [← HS.out]; exact hok
  · have hv := Pl.vtag_no c
    have HV := Lib.hid hv
    have c' : s.data.toList = [] ∨ 4 < s.size := by
      rw [hsz]
      by_cases e1 : s.data.toList = []
      · exact .inl e1
      · exact .inr (Decidable.byContradiction fun e4 => c ⟨e1, by omega⟩)
    clear hsz hv c
    rcases c' with e | e
    · obtain rfl : s = ⟨#[]⟩ := by rw [← Lib.mk_data s, e]
      clear e
      go_enter Tryd.func43, Tryd.ntmps43
      go_wp2
      go_ret
      exact ⟨ret_bool HV.out.symm, Below.refl _ _⟩
    · have d2 : decide (4 < (s.size : Int)) = true := by simp; omega
      have d1 : s.toList.isEmpty = false := by
        rw [Lib.toList_data]
        cases h : s.data.toList with
        | nil => rw [Lib.size_eq, h] at e; simp at e
        | cons => rfl
      go_enter Tryd.func43, Tryd.ntmps43
      go_wp2
      go_ret
      exact ⟨ret_bool HV.out.symm, Below.refl _ _⟩
end Go.Proofs.YtimlfdlocjfgaaaDoor
