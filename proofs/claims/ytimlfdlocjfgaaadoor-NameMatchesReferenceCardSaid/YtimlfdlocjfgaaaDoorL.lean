/-
  Walks of the reference's functions Parse and SplitOf. Nothing is asked of the world.
-/
import Derived.Test.YtimlfdlocjfgaaaDoorJ
import Derived.RegionTactic
import Derived.BigRegion
namespace Go.Proofs.YtimlfdlocjfgaaaDoor
open Go.RowKit Pl
set_option maxHeartbeats 400000

theorem byte_of (s : ByteArray) (k : Nat) (h : k < s.size) : s.data.toList[k]'(by rw [← Lib.size_eq]; exact h) = s[k] := by simp [ByteArray.getElem_eq_getElem_data]
theorem drop_at (s : ByteArray) (k : Nat) (h : k < s.size) : s.data.toList.drop k = s[k] :: s.data.toList.drop (k + 1) := by
  rw [List.drop_eq_getElem_cons (by rw [← Lib.size_eq]; exact h), byte_of s k h]
theorem byte_47 {c : UInt8} (h : c ≠ 47) : ((c.toNat : Int) == 47) = false := by
  rw [beq_eq_false_iff_ne]; intro e
  exact h (UInt8.toNat_inj.1 (by have : (47 : UInt8).toNat = 47 := rfl; omega))

set_option maxHeartbeats 1000000 in
theorem rparse_any (s : ByteArray) (hs : s.size < 4294967281) (w : World) :
    Calls Tryd.prog 23 #[.string s] w fun e w' => e = .returned (.agg #[.string (mk (parseS s.data.toList).1), .int .i64 (parseS s.data.toList).2]) ∧ Below w.heap.size w w' := by
  unfold parseS
  by_cases h0 : s.size = 0
  · have hd : s.data.toList = [] := List.eq_nil_of_length_eq_zero (by rw [← Lib.size_eq]; exact h0)
    obtain rfl : s = ⟨#[]⟩ := by rw [← Lib.mk_data s, hd]
    rw [if_neg (by rintro ⟨h, _⟩; cases h)]
    clear h0 hd
    go_enter Tryd.func23, Tryd.ntmps23
    go_wp2_with fail
    refine bodyPost_ret (v := .agg #[.string ⟨#[]⟩, .int .i64 3]) (by simp [results, Tryd.results23, go_sem]) rfl ⟨rfl, ?_⟩
    go_grown
  · have hpos : 0 < s.size := by omega
    have hz : ((s.size : Int) == 0) = false := by rw [beq_eq_false_iff_ne]; omega
    have hd := drop_at s 0 hpos
    rw [List.drop_zero] at hd
    by_cases h47 : s[0] = 47
    · have hb : ((s[0].toNat : Int) != 47) = false := by rw [h47]; rfl
      have hpre : Lib.hasPrefix s.data.toList [47] = true := by rw [hd, h47]; simp [Lib.hasPrefix, List.isPrefixOf]
      have hdr : s.data.toList.drop 1 = (s.extract 1 s.size).data.toList := by
        rw [Lib.extract_data, List.take_of_length_le (by rw [List.length_drop, ← Lib.size_eq]; exact Nat.le_refl _)]
      have c1 := ispath_any (s.extract 1 s.size) (by rw [ByteArray.size_extract]; omega) (w.alloc (.cells #[.string ⟨#[]⟩, .int .i64 0] 35))
      rw [hdr]
      cases hi : isPath (s.extract 1 s.size).data.toList
      · rw [hi] at c1
        rw [if_neg (by rintro ⟨_, h⟩; cases h)]
        have C1 := Lib.hid c1
        clear hpre hdr hd h47 hi c1 h0
        go_enter Tryd.func23, Tryd.ntmps23
        go_wp2_with (go_at_call 31; refine C1.out.mono ?_; rintro e w1 ⟨rfl, hb1⟩; obtain ⟨h0, h1, f0, f1, hlt⟩ := after2 hb1)
        refine bodyPost_ret (v := .agg #[.string ⟨#[]⟩, .int .i64 3]) (by simp [results, Tryd.results23, go_sem, h0, h1]) rfl ⟨rfl, ?_⟩
        exact ((below_new hb1).setCell (p := ⟨w.heap.size, 0, none⟩) (Nat.le_refl _) _).setCell (p := ⟨w.heap.size, 1, none⟩) (Nat.le_refl _) _
      · rw [hi] at c1
        rw [if_pos ⟨hpre, rfl⟩]
        have C1 := Lib.hid c1
        clear hpre hdr hd h47 hi c1 h0
        go_enter Tryd.func23, Tryd.ntmps23
        go_wp2_with (go_at_call 31; refine C1.out.mono ?_; rintro e w1 ⟨rfl, hb1⟩; obtain ⟨h0, h1, f0, f1, hlt⟩ := after2 hb1)
        refine bodyPost_ret (v := .agg #[.string (s.extract 1 s.size), .int .i64 0]) (by simp [results, Tryd.results23, go_sem, h0, h1]) rfl ⟨by rw [mk_of], ?_⟩
        exact ((below_new hb1).setCell (p := ⟨w.heap.size, 0, none⟩) (Nat.le_refl _) _).setCell (p := ⟨w.heap.size, 1, none⟩) (Nat.le_refl _) _
    · have hb : ((s[0].toNat : Int) != 47) = true := by unfold bne; rw [byte_47 h47]; rfl
      have hpre : Lib.hasPrefix s.data.toList [47] = false := by rw [hd]; simp [Lib.hasPrefix, List.isPrefixOf]; exact fun e => h47 e.symm
      rw [if_neg (by rintro ⟨h, _⟩; rw [hpre] at h; cases h)]
      clear hpre hd h47 h0
      go_enter Tryd.func23, Tryd.ntmps23
      go_wp2_with fail
      refine bodyPost_ret (v := .agg #[.string ⟨#[]⟩, .int .i64 3]) (by simp [results, Tryd.results23, go_sem]) rfl ⟨rfl, ?_⟩
      go_grown

/-- No slash stands in a text from place k on. -/
def Noslash (p : Bs) (k : Nat) : Prop := 47 ∉ p.drop k

set_option maxHeartbeats 1000000 in
theorem splitOf_any (p : ByteArray) (hs : p.size < 4294967281) (w : World) :
    Calls Tryd.prog 21 #[.string p] w fun e w' => e = .returned (.agg #[.string (mk (splitS p.data.toList).1), .string (mk (splitS p.data.toList).2.1), .int .i64 (splitS p.data.toList).2.2]) ∧ Below w.heap.size w w' := by
  have c1 := ispath_any p hs (w.alloc (.cells #[.string ⟨#[]⟩, .string ⟨#[]⟩, .int .i64 0] 38))
  unfold splitS
  cases hi : isPath p.data.toList
  · rw [hi] at c1
    rw [if_pos rfl]
    clear hi
    go_enter Tryd.func21, Tryd.ntmps21
    go_wp2_with (go_at_call 31; refine c1.mono ?_; rintro e w1 ⟨rfl, hb1⟩; obtain ⟨h0, h1, h2, f0, f1, f2, hlt⟩ := after3 hb1)
    refine bodyPost_ret (v := .agg #[.string ⟨#[]⟩, .string ⟨#[]⟩, .int .i64 10]) (by simp [results, Tryd.results21, go_sem, h0, h1, h2]) rfl ⟨rfl, ?_⟩
    exact (((below_new hb1).setCell (p := ⟨w.heap.size, 0, none⟩) (Nat.le_refl _) _).setCell (p := ⟨w.heap.size, 1, none⟩) (Nat.le_refl _) _).setCell (p := ⟨w.heap.size, 2, none⟩) (Nat.le_refl _) _
  · rw [hi] at c1
    rw [if_neg (by simp)]
    by_cases hpe : p.data.toList = []
    · have e1 := empty_of hpe
      rw [if_pos hpe]
      clear hi hpe
      go_enter Tryd.func21, Tryd.ntmps21
      go_wp2_with (go_at_call 31; refine c1.mono ?_; rintro e w1 ⟨rfl, hb1⟩; obtain ⟨h0, h1, h2, f0, f1, f2, hlt⟩ := after3 hb1)
      refine bodyPost_ret (v := .agg #[.string ⟨#[]⟩, .string ⟨#[]⟩, .int .i64 1]) (by simp [results, Tryd.results21, go_sem, h0, h1, h2]) rfl ⟨rfl, ?_⟩
      exact (((below_new hb1).setCell (p := ⟨w.heap.size, 0, none⟩) (Nat.le_refl _) _).setCell (p := ⟨w.heap.size, 1, none⟩) (Nat.le_refl _) _).setCell (p := ⟨w.heap.size, 2, none⟩) (Nat.le_refl _) _
    · have e1 := nonempty_of hpe
      rw [if_neg hpe]
      have hsz := Lib.size_eq p
      have hpos : 0 < p.size := by rw [hsz]; exact List.length_pos_iff.2 hpe
      have HPE := Lib.hid hpe
      have HS := Lib.hid hsz
      clear hi hpe hsz
      go_enter Tryd.func21, Tryd.ntmps21
      go_wp2_with (go_at_call 31; refine c1.mono ?_; rintro e w1 ⟨rfl, hb1⟩; obtain ⟨h0, h1, h2, f0, f1, f2, hlt⟩ := after3 hb1)
      go_loop [3] (fun i => ∃ k : Nat, k ≤ p.size ∧ i = .int .i64 ((k : Int) - 1) ∧ Noslash p.data.toList k) (fun i => (intOf i + 1).toNat)
      case atStart => exact ⟨p.size, Nat.le_refl _, rfl, by unfold Noslash; rw [List.drop_of_length_le (by rw [← HS.out]; exact Nat.le_refl _)]; simp⟩
      case round =>
        obtain ⟨k, hk, rfl, hno⟩ := hrel
        have HN := Lib.hid hno
        clear hno
        cases k with
        | zero =>
          have z1 : (((0 : Nat) : Int) - 1) = -1 := rfl
          rw [z1]
          go_wp2
          obtain ⟨hd, hl⟩ := split_none HPE.out HN.out
          refine bodyPost_ret (v := .agg #[.string ⟨#[]⟩, .string p, .int .i64 0]) (by simp [results, Tryd.results21, go_sem, h0, h1, h2]) rfl ⟨?_, ?_⟩
          · rw [hd, hl, mk_of]; rfl
          · exact (((below_new hb1).setCell (p := ⟨w.heap.size, 0, none⟩) (Nat.le_refl _) _).setCell (p := ⟨w.heap.size, 1, none⟩) (Nat.le_refl _) _).setCell (p := ⟨w.heap.size, 2, none⟩) (Nat.le_refl _) _
        | succ j =>
          have z1 : (((j + 1 : Nat) : Int) - 1) = (j : Int) := by omega
          rw [z1]
          have hj : j < p.size := by omega
          clear z1
          by_cases h47 : p[j] = 47
          · have hb47 : ((p[j].toNat : Int) == 47) = true := by rw [h47]; rfl
            have H47 := Lib.hid h47
            clear h47
            have hj0 : (0 : Int) ≤ (j : Int) := by omega
            have hj1 : (j : Int) ≤ p.size := by omega
            have hj2 : (j : Int) + 1 ≤ p.size := by omega
            go_wp2
            go_region
            go_wp2
            have hform : p.data.toList = p.data.toList.take j ++ 47 :: p.data.toList.drop (j + 1) := by
              conv => lhs; rw [← List.take_append_drop j p.data.toList, drop_at p j hj, H47.out]
            obtain ⟨hd, hl⟩ := split_at hform HN.out
            have e1 : p.extract 0 j = mk (p.data.toList.take j) := mk_eq (by rw [Lib.extract_data, List.drop_zero, Nat.sub_zero])
            have e2 : p.extract (j + 1) p.size = mk (p.data.toList.drop (j + 1)) := mk_eq (by rw [Lib.extract_data, List.take_of_length_le (by rw [List.length_drop, ← Lib.size_eq]; exact Nat.le_refl _)])
            refine bodyPost_ret (v := .agg #[.string (p.extract 0 j), .string (p.extract (j + 1) p.size), .int .i64 0]) (by simp [results, Tryd.results21, go_sem, h0, h1, h2]) rfl ⟨?_, ?_⟩
            · rw [hd, hl, e1, e2]
            · exact ((((below_new hb1).setCell (p := ⟨w.heap.size, 0, none⟩) (Nat.le_refl _) _).setCell (p := ⟨w.heap.size, 1, none⟩) (Nat.le_refl _) _).setCell (p := ⟨w.heap.size, 2, none⟩) (Nat.le_refl _) _).drew
          · have hb47 := byte_47 h47
            have H47 := Lib.hid h47
            clear h47
            go_wp2
            go_round
            case rel =>
              refine ⟨j, by omega, rfl, ?_⟩
              unfold Noslash
              rw [drop_at p j hj]
              intro h
              rcases List.mem_cons.1 h with h | h
              · exact H47.out h.symm
              · exact HN.out h
            case measure => simp [intOf]
end Go.Proofs.YtimlfdlocjfgaaaDoor
