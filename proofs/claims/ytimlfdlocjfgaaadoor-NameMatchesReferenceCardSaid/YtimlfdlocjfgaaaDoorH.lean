/-
  Walks of the reference's functions on bytes: its Valid. Nothing is asked of the world.
-/
import Derived.Test.YtimlfdlocjfgaaaDoorB
namespace Go.Proofs.YtimlfdlocjfgaaaDoor
open Go.RowKit Pl
set_option maxHeartbeats 400000

theorem letter_b (c : UInt8) (b : Bool) (hb : lett c = b) (w : World) :
    Calls Tryd.prog 34 #[.int .u8 c.toNat] w fun e w' => e = .returned (.bool b) ∧ w = w' :=
  (letter_any c w).mono fun _ _ ⟨h1, h2⟩ => ⟨by rw [h1, hb], h2.symm⟩

theorem okb_int {c : UInt8} (hl : lett c = false) : okb c = true ↔ (48 ≤ (c.toNat : Int) ∧ (c.toNat : Int) ≤ 57) ∨ (c.toNat : Int) = 46 ∨ (c.toNat : Int) = 95 ∨ (c.toNat : Int) = 45 ∨ (c.toNat : Int) = 126 := by
  rw [okb_kind]
  rw [lett_kind, beq_eq_false_iff_ne] at hl
  simp only [Bool.not_eq_true', beq_eq_false_iff_ne, ne_eq]
  unfold kindI at *
  repeat' split at hl
  all_goals (repeat' split)
  all_goals omega
set_option maxHeartbeats 1000000 in
theorem rvalid_any (s : ByteArray) (hs : s.size ≤ maxLen) (w : World) :
    Calls Tryd.prog 14 #[.string s] w fun e w' => e = .returned (.bool (vld s.data.toList)) ∧ w = w' := by
  unfold maxLen at hs
  have hsz := Lib.size_eq s
  by_cases c : s.data.toList ≠ [] ∧ s.data.toList.length ≤ 16 ∧ s.data.toList ≠ [46] ∧ s.data.toList ≠ [46, 46]
  · have C := Lib.hid c
    rw [← Lib.toList_data] at c
    obtain ⟨c1, c2, c3, c4⟩ := c
    rw [Lib.toList_data, ← hsz] at c2
    have c1' : 1 ≤ s.size := by
      rw [Lib.toList_data] at c1
      cases h : s.data.toList with
      | nil => exact absurd h c1
      | cons => rw [hsz, h]; simp
    have d3 : (s.toList == [46]) = false := beq_eq_false_iff_ne.2 c3
    have d4 : (s.toList == [46, 46]) = false := beq_eq_false_iff_ne.2 c4
    have d2 : decide (16 < (s.size : Int)) = false := by simp; omega
    have d1 : decide ((s.size : Int) < 1) = false := by simp; omega
    have HS := Lib.hid hsz
    clear hsz c1 c3 c4
    go_enter Tryd.func14, Tryd.ntmps14
    go_wp2
    go_loop [3, 4] (fun i _ => ∃ k : Nat, k ≤ s.size ∧ i = .int .i64 k ∧ Okto s.data.toList k) (fun i _ => s.size - (intOf i).toNat)
    case atStart => exact ⟨0, Nat.zero_le _, rfl, okto_zero _⟩
    case round =>
      obtain ⟨k, hk, rfl, hok⟩ := hrel
      have HO := Lib.hid hok
      clear hok
      by_cases hlt : k < s.size
      · have hu := s[k].toNat_lt
        have e0 : s.data.toList[k]'(by rw [← HS.out]; exact hlt) = s[k] := by simp [ByteArray.getElem_eq_getElem_data]
        have E0 := Lib.hid e0
        clear e0
        cases hl : lett s[k]
        · have cL := fun W => letter_b s[k] false hl W
          have CL := Lib.hid cL
          have OK := okb_int hl
          have OKH := Lib.hid OK
          clear hl cL OK
          go_wp2_with (go_at_call 34; refine (CL.out _).mono ?_; rintro e w1 ⟨rfl, rfl⟩)
          all_goals first
            | (go_round
               case rel =>
                 refine ⟨k + 1, by omega, by go_num, okto_succ HO.out (by rw [← HS.out]; exact hlt) (by rw [E0.out, OKH.out]; (try simp only [ne_eq, bne_eq_false_iff_eq] at *); omega)⟩
               case measure => simp [intOf]; omega)
            | (go_ret
               refine ⟨ret_bool (vld_bad (i := k) (by rw [← HS.out]; exact hlt) ?_).symm, rfl⟩
               rw [E0.out, Bool.eq_false_iff, ne_eq, OKH.out]
               (try simp only [bne_iff_ne, ne_eq] at *)
               omega)
        · have cL := fun W => letter_b s[k] true hl W
          have CL := Lib.hid cL
          have HL := Lib.hid hl
          clear hl cL
          go_wp2_with (go_at_call 34; refine (CL.out _).mono ?_; rintro e w1 ⟨rfl, rfl⟩)
          go_round
          case rel => exact ⟨k + 1, by omega, by go_num, okto_succ HO.out (by rw [← HS.out]; exact hlt) (by rw [E0.out]; simp [okb, HL.out])⟩
          case measure => simp [intOf]; omega
      · go_wp2
        go_ret
        obtain rfl : k = s.size := by omega
        exact ⟨ret_bool (vld_yes C.out (by rw [← HS.out]; exact HO.out)).symm, rfl⟩
  · have hv := vld_no c
    have HV := Lib.hid hv
    have c' : s.data.toList = [] ∨ 16 < s.size ∨ s.data.toList = [46] ∨ s.data.toList = [46, 46] := by
      rw [hsz]
      by_cases e1 : s.data.toList = []
      · exact .inl e1
      · by_cases e2 : 16 < s.data.toList.length
        · exact .inr (.inl e2)
        · by_cases e3 : s.data.toList = [46]
          · exact .inr (.inr (.inl e3))
          · exact .inr (.inr (.inr (Decidable.byContradiction fun e4 => c ⟨e1, by omega, e3, e4⟩)))
    clear hsz hv c
    rcases c' with e | e | e | e
    · obtain rfl : s = ⟨#[]⟩ := by rw [← Lib.mk_data s, e]
      clear e
      go_enter Tryd.func14, Tryd.ntmps14
      go_wp2
      go_ret
      exact ⟨ret_bool HV.out.symm, rfl⟩
    · have d2 : decide (16 < (s.size : Int)) = true := by simp; omega
      have d1 : decide ((s.size : Int) < 1) = false := by simp; omega
      go_enter Tryd.func14, Tryd.ntmps14
      go_wp2
      go_ret
      exact ⟨ret_bool HV.out.symm, rfl⟩
    · obtain rfl : s = ⟨#[46]⟩ := by rw [← Lib.mk_data s, e]
      clear e
      go_enter Tryd.func14, Tryd.ntmps14
      go_wp2
      go_ret
      exact ⟨ret_bool HV.out.symm, rfl⟩
    · obtain rfl : s = ⟨#[46, 46]⟩ := by rw [← Lib.mk_data s, e]
      clear e
      go_enter Tryd.func14, Tryd.ntmps14
      go_wp2
      go_ret
      exact ⟨ret_bool HV.out.symm, rfl⟩
end Go.Proofs.YtimlfdlocjfgaaaDoor
