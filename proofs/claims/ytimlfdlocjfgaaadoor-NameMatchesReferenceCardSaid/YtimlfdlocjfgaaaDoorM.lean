/-
  Walk of the reference's Copy. Nothing is asked of the world.
-/
import Derived.Test.YtimlfdlocjfgaaaDoorH
import Derived.Test.YtimlfdlocjfgaaaDoorC
import Derived.Laws.IdiomStrings
namespace Go.Proofs.YtimlfdlocjfgaaaDoor
open Go.RowKit Pl
set_option maxHeartbeats 400000

theorem conv1 (b : UInt8) (z : Int) (hz : z = b.toNat) (B : Nat) (W : World) (hB : B = W.heap.size) :
    (convert 23 9 (.slice (some ⟨B, 0, none⟩) 1 1)).run Tryd.prog (W.alloc (.cells #[.int .u8 z] 5)) = .ok (.string (mk [b])) (W.alloc (.cells #[.int .u8 z] 5)) := by
  subst hz; subst hB
  refine run_convert_bytes_back _ 23 9 5 ⟨W.heap.size, 0, none⟩ 1 [b] Tryd.underlying23 Tryd.underlying5 Tryd.underlying9 (fun j hj => ?_)
  have : j = 0 := by simpa using hj
  subst this
  simp [Addr.add]
theorem u8_ofNat {k : Nat} (h : k < 256) : ((k : Nat) : Int) = (UInt8.ofNat k).toNat := by simp; omega

set_option maxRecDepth 100000 in
set_option maxHeartbeats 1000000 in
theorem rcopy_any (n tag : ByteArray) (k : Int) (hn : n.size ≤ maxLen) (ht : tag.size ≤ maxLen) (w : World) :
    Calls Tryd.prog 29 #[.string n, .string tag, .int .i64 k] w fun e w' => e = .returned (.string (mk (copyS n.data.toList tag.data.toList k))) ∧ Below w.heap.size w w' := by
  have c1 := fun W => rvalid_any n hn W
  unfold maxLen at hn ht
  have hts := Lib.size_eq tag
  by_cases hgood : vld n.data.toList = true ∧ 1 ≤ tag.size ∧ tag.size ≤ 4 ∧ 0 ≤ k ∧ k ≤ 99
  · obtain ⟨hv, ht1, ht4, hk0, hk9⟩ := hgood
    obtain ⟨j, rfl⟩ := Int.eq_ofNat_of_zero_le hk0
    rw [hv] at c1
    have hn16 := vld_len hv
    rw [← Lib.size_eq] at hn16
    have HV := Lib.hid hv
    have C1 := Lib.hid c1
    have HTS := Lib.hid hts
    have t1 : decide ((tag.size : Int) < 1) = false := by simp; omega
    have t4 : decide (4 < (tag.size : Int)) = false := by simp; omega
    have k0 : decide ((j : Int) < 0) = false := by simp
    have k9 : decide (99 < (j : Int)) = false := by simp; omega
    clear hv c1 hts
    go_enter Tryd.func29, Tryd.ntmps29
    go_wp2_with (go_at_call 14; refine (C1.out _).mono ?_; rintro e w2 ⟨rfl, rfl⟩)
    go_loop [7] (fun i => ∃ q : Nat, q ≤ tag.size ∧ i = .int .i64 q ∧ Letto tag.data.toList q) (fun i => tag.size - (intOf i).toNat)
    case atStart => exact ⟨0, Nat.zero_le _, rfl, letto_zero _⟩
    case round =>
      obtain ⟨q, hq, rfl, hl⟩ := hrel
      have HL := Lib.hid hl
      clear hl
      by_cases hlt : q < tag.size
      · have e0 : tag.data.toList[q]'(by rw [← HTS.out]; exact hlt) = tag[q] := by simp [ByteArray.getElem_eq_getElem_data]
        have E0 := Lib.hid e0
        clear e0
        cases hc : lett tag[q]
        · have cL := fun W => letter_b tag[q] false hc W
          have CL := Lib.hid cL
          have HC := Lib.hid hc
          clear hc cL
          go_wp2_with (go_at_call 34; refine (CL.out _).mono ?_; rintro e w1 ⟨rfl, rfl⟩)
          go_ret
          have hb := vtag_bad (l := tag.data.toList) (i := q) (by rw [← HTS.out]; exact hlt) (by rw [E0.out]; exact HC.out)
          refine ⟨?_, Below.refl _ _⟩
          unfold copyS
          rw [if_neg (by rintro ⟨_, h, _⟩; rw [hb] at h; cases h)]
          rfl
        · have cL := fun W => letter_b tag[q] true hc W
          have CL := Lib.hid cL
          have HC := Lib.hid hc
          clear hc cL
          go_wp2_with (go_at_call 34; refine (CL.out _).mono ?_; rintro e w1 ⟨rfl, rfl⟩)
          go_round
          case rel => exact ⟨q + 1, by omega, by go_num, letto_succ HL.out (by rw [← HTS.out]; exact hlt) (by rw [E0.out]; exact HC.out)⟩
          case measure => simp [intOf]; omega
      · obtain rfl : q = tag.size := by omega
        have htg : vtag tag.data.toList = true := vtag_yes ⟨fun e => by have h := HTS.out; rw [e, List.length_nil] at h; omega, by rw [← HTS.out]; exact ht4⟩ (by rw [← HTS.out]; exact HL.out)
        have hcp : copyS n.data.toList tag.data.toList (j : Int) = n.data.toList.take (16 - (tag.data.toList.length + 2 + (digs j).length)) ++ (126 :: (tag.data.toList ++ 126 :: digs j)) := by
          unfold copyS; rw [if_pos ⟨HV.out, htg, by omega, by omega⟩]; simp
        have HCP := Lib.hid hcp
        clear htg hcp
        have kc1 := conv1 (UInt8.ofNat (48 + j % 10)) (48 + (j : Int) % 10) (by have := u8_ofNat (k := 48 + j % 10) (by omega); rw [← this]; omega) w.heap.size w rfl
        obtain ⟨D0, hD0⟩ : ∃ D0, mk [UInt8.ofNat (48 + j % 10)] = D0 := ⟨_, rfl⟩
        have hD0s : D0.size = 1 := by rw [← hD0, mk_size]; rfl
        have hd0 : D0.size ≤ 1 := by omega
        rw [hD0] at kc1
        have HD0 := Lib.hid hD0
        have HD0S := Lib.hid hD0s
        clear hD0 hD0s
        by_cases h9 : j ≤ 9
        · have h9b : decide (9 < (j : Int)) = false := by simp; omega
          go_wp2_with fail
          go_ret
          refine ⟨?_, by go_grown⟩
          have hdg : digs j = D0.data.toList := by rw [← HD0.out, mk_data]; unfold digs; rw [if_pos (by omega), Nat.mod_eq_of_lt (by omega)]
          rw [HCP.out, hdg]
          exact congrArg (fun x => Ending.returned (.string x)) (copy_form n tag D0 hn16 ht4 (by omega))
        · have h9b : decide (9 < (j : Int)) = true := by simp; omega
          have kc2 := conv1 (UInt8.ofNat (48 + j / 10)) (48 + (j : Int) / 10) (by have := u8_ofNat (k := 48 + j / 10) (by omega); rw [← this]; omega) (w.heap.size + 1) (w.alloc (.cells #[.int .u8 (48 + (j : Int) % 10)] 5)) (by simp)
          obtain ⟨D1, hD1⟩ : ∃ D1, mk [UInt8.ofNat (48 + j / 10)] = D1 := ⟨_, rfl⟩
          have hD1s : D1.size = 1 := by rw [← hD1, mk_size]; rfl
          have hd1 : D1.size ≤ 1 := by omega
          rw [hD1] at kc2
          have HD1 := Lib.hid hD1
          clear hD1 hD1s
          go_wp2_with fail
          go_ret
          refine ⟨?_, by go_grown⟩
          have hdg : digs j = (D1 ++ D0).data.toList := by rw [append_data, ← HD0.out, ← HD1.out, mk_data, mk_data]; unfold digs; rw [if_neg (by omega)]; rfl
          rw [HCP.out, hdg]
          have hcf := copy_form n tag (D1 ++ D0) hn16 ht4 (by rw [ByteArray.size_append]; omega)
          rw [ByteArray.size_append] at hcf
          exact congrArg (fun x => Ending.returned (.string x)) hcf
  · have hc : copyS n.data.toList tag.data.toList k = [] := by
      unfold copyS
      rw [if_neg]
      rintro ⟨h1, h2, h3, h4⟩
      refine hgood ⟨h1, ?_, ?_, h3, h4⟩
      · simp only [vtag, Bool.and_eq_true, decide_eq_true_eq] at h2; omega
      · have := vtag_len h2; omega
    have HC := Lib.hid hc
    have HTS := Lib.hid hts
    clear hc hts
    cases hv : vld n.data.toList
    · rw [hv] at c1
      have C1 := Lib.hid c1
      clear hgood hv c1
      go_enter Tryd.func29, Tryd.ntmps29
      go_wp2_with (go_at_call 14; refine (C1.out _).mono ?_; rintro e w2 ⟨rfl, rfl⟩)
      go_ret
      exact ⟨by rw [HC.out]; rfl, Below.refl _ _⟩
    · rw [hv] at c1
      have C1 := Lib.hid c1
      clear c1
      have h3 : tag.size < 1 ∨ (1 ≤ tag.size ∧ 4 < tag.size) ∨ (1 ≤ tag.size ∧ tag.size ≤ 4 ∧ k < 0) ∨ (1 ≤ tag.size ∧ tag.size ≤ 4 ∧ 0 ≤ k ∧ 99 < k) := by
        by_cases a1 : tag.size < 1
        · exact .inl a1
        · by_cases a2 : 4 < tag.size
          · exact .inr (.inl ⟨by omega, a2⟩)
          · by_cases a3 : k < 0
            · exact .inr (.inr (.inl ⟨by omega, by omega, a3⟩))
            · exact .inr (.inr (.inr ⟨by omega, by omega, by omega, Decidable.byContradiction fun h => hgood ⟨hv, by omega, by omega, by omega, by omega⟩⟩))
      clear hgood hv
      rcases h3 with h | ⟨h, h'⟩ | ⟨h, h', h''⟩ | ⟨h, h', h'', h3⟩
      · have t1 : decide ((tag.size : Int) < 1) = true := by simp; omega
        go_enter Tryd.func29, Tryd.ntmps29
        go_wp2_with (go_at_call 14; refine (C1.out _).mono ?_; rintro e w2 ⟨rfl, rfl⟩)
        go_ret
        exact ⟨by rw [HC.out]; rfl, Below.refl _ _⟩
      · have t1 : decide ((tag.size : Int) < 1) = false := by simp; omega
        have t4 : decide (4 < (tag.size : Int)) = true := by simp; omega
        go_enter Tryd.func29, Tryd.ntmps29
        go_wp2_with (go_at_call 14; refine (C1.out _).mono ?_; rintro e w2 ⟨rfl, rfl⟩)
        go_ret
        exact ⟨by rw [HC.out]; rfl, Below.refl _ _⟩
      · have t1 : decide ((tag.size : Int) < 1) = false := by simp; omega
        have t4 : decide (4 < (tag.size : Int)) = false := by simp; omega
        go_enter Tryd.func29, Tryd.ntmps29
        go_wp2_with (go_at_call 14; refine (C1.out _).mono ?_; rintro e w2 ⟨rfl, rfl⟩)
        go_ret
        exact ⟨by rw [HC.out]; rfl, Below.refl _ _⟩
      · have t1 : decide ((tag.size : Int) < 1) = false := by simp; omega
        have t4 : decide (4 < (tag.size : Int)) = false := by simp; omega
        go_enter Tryd.func29, Tryd.ntmps29
        go_wp2_with (go_at_call 14; refine (C1.out _).mono ?_; rintro e w2 ⟨rfl, rfl⟩)
        go_ret
        exact ⟨by rw [HC.out]; rfl, Below.refl _ _⟩
end Go.Proofs.YtimlfdlocjfgaaaDoor
