/-
  Walks of the reference's functions on paths. Nothing is asked of the world.
-/
import Derived.Test.YtimlfdlocjfgaaaDoorH
import Derived.Test.YtimlfdlocjfgaaaDoorI
namespace Go.Proofs.YtimlfdlocjfgaaaDoor
open Go.RowKit Pl
set_option maxHeartbeats 400000

def Vto (l : List Bs) (k : Nat) : Prop := (l.take k).all vld = true

set_option maxHeartbeats 1000000 in
theorem ispath_any (p : ByteArray) (hp : p.size < 4294967281) (w : World) :
    Calls Tryd.prog 31 #[.string p] w fun e w' => e = .returned (.bool (isPath p.data.toList)) ∧ Below w.heap.size w w' := by
  have c1 := rcut_any p hp w
  have hm : ∀ x ∈ cut p.data.toList, x.length ≤ p.data.toList.length := cut_mem_len
  have hn1 := cut_len p.data.toList
  obtain ⟨l, hl⟩ : ∃ l, cut p.data.toList = l := ⟨_, rfl⟩
  have hi : isPath p.data.toList = (l.all vld && decide (l.length ≤ 8)) := by unfold isPath; rw [hl]
  rw [hl] at c1 hm hn1
  rw [← Lib.size_eq] at hn1
  obtain ⟨n, hn⟩ : ∃ n, l.length = n := ⟨_, rfl⟩
  rw [hn] at c1 hi hn1
  rw [hi]
  have HN := Lib.hid hn
  have C1 := Lib.hid c1
  have HM := Lib.hid hm
  clear hi hl hn c1 hm
  go_enter Tryd.func31, Tryd.ntmps31
  go_wp2_with (go_at_call 32; refine C1.out.mono ?_; rintro e w1 ⟨A, c, rfl, hS, hb1⟩)
  have HS := Lib.hid hS
  clear hS
  go_loop [4] (fun i => ∃ k : Nat, k ≤ n ∧ i = .int .i64 k ∧ Vto l k) (fun i => n - (intOf i).toNat)
  case atStart => exact ⟨0, Nat.zero_le _, rfl, rfl⟩
  case round =>
    obtain ⟨k, hk, rfl, hv⟩ := hrel
    have HV := Lib.hid hv
    clear hv
    by_cases hlt : k < n
    · have hkl : k < l.length := by rw [HN.out]; exact hlt
      obtain ⟨g, rfl, _, _, hc⟩ := HS.out (List.ne_nil_of_length_pos (by omega))
      have hx := hc k l[k] (List.getElem?_eq_getElem hkl)
      have hxl := HM.out l[k] (List.getElem_mem hkl)
      have hxs : (mk l[k]).size ≤ maxLen := by rw [mk_size]; unfold maxLen; rw [← Lib.size_eq] at hxl; omega
      have cV := fun W => rvalid_any (mk l[k]) hxs W
      rw [mk_data] at cV
      obtain ⟨x, hxe⟩ : ∃ x, l[k] = x := ⟨_, rfl⟩
      rw [hxe] at cV hx
      obtain ⟨X, hX⟩ : ∃ X, mk x = X := ⟨_, rfl⟩
      rw [hX] at cV hx
      have HXE := Lib.hid hxe
      clear hxe hxl hX hc hxs
      cases hv : vld x
      · rw [hv] at cV
        have CV := Lib.hid cV
        have HVX := Lib.hid hv
        clear hv cV
        go_wp2_with (go_at_call 14; refine (CV.out _).mono ?_; rintro e w2 ⟨rfl, rfl⟩)
        go_ret
        refine ⟨ret_bool ?_, hb1⟩
        have : l.all vld = false := by
          rw [Bool.eq_false_iff]; intro h
          have := List.all_eq_true.1 h _ (List.getElem_mem (show k < l.length by rw [HN.out]; exact hlt))
          rw [HXE.out, HVX.out] at this; cases this
        rw [this]; rfl
      · rw [hv] at cV
        have CV := Lib.hid cV
        have HVX := Lib.hid hv
        clear hv cV
        go_wp2_with (go_at_call 14; refine (CV.out _).mono ?_; rintro e w2 ⟨rfl, rfl⟩)
        go_round
        case rel =>
          refine ⟨k + 1, by omega, by go_num, ?_⟩
          unfold Vto
          rw [List.take_succ_eq_append_getElem (show k < l.length by rw [HN.out]; exact hlt), List.all_append, HXE.out]
          have := HV.out
          unfold Vto at this
          rw [this]; simp [HVX.out]
        case measure => simp [intOf]; omega
    · obtain rfl : k = n := by omega
      go_wp2
      go_ret
      refine ⟨ret_bool ?_, hb1⟩
      have h := HV.out
      unfold Vto at h
      rw [List.take_of_length_le (by rw [HN.out]; exact Nat.le_refl _)] at h
      rw [h, Bool.true_and]
      simp only [decide_eq_decide]
      omega
end Go.Proofs.YtimlfdlocjfgaaaDoor
