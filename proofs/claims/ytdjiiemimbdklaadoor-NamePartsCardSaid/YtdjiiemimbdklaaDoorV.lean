/-
  Walk of the law NameParts: it returns true for every text and every list of numbers. The world must hold the program's table of kinds, and the numbers.
-/
import Derived.Test.YtdjiiemimbdklaaDoorQ
import Derived.Test.YtdjiiemimbdklaaDoorO
import Derived.Test.YtdjiiemimbdklaaDoorPs
namespace Go.Proofs.YtdjiiemimbdklaaDoor
open Go.RowKit Pl
set_option maxHeartbeats 400000

theorem field_errV (A : Option Addr) (n c : Nat) (e : Int) (W : World) : (Instr.field 32 (.agg #[.slice A n c, .int .i64 e]) 1).run Tryd.prog W = .ok (.int .i64 e) W := by kernel_rfl

/-- The parts of a text: those of a path, or none. -/
theorem lparts_no (u : ByteArray) (hu : u.size < 4294967281) (hi : isPath u.data.toList = false) (W : World) (hE : Env W) :
    Calls Tryd.prog 16 #[.string u] W fun e w' => ∃ A c, e = .returned (.agg #[.slice A 0 c, .int .i64 10]) ∧ Below W.heap.size W w' := by
  have h := lparts_any u hu W hE
  rw [show partsS u.data.toList = ([], 10) by unfold partsS; rw [if_neg (by rw [hi]; simp)]] at h
  exact h.mono fun _ _ ⟨A, c, he, _, hb⟩ => ⟨A, c, he, hb⟩
theorem lparts_yes (u : ByteArray) (hu : u.size < 4294967281) (L : List Bs) (n : Nat) (hL : cut u.data.toList = L) (hn : L.length = n) (hi : isPath u.data.toList = true) (W : World) (hE : Env W) :
    Calls Tryd.prog 16 #[.string u] W fun e w' => ∃ A c, e = .returned (.agg #[.slice A n c, .int .i64 0]) ∧ Strs W.heap.size w' A L ∧ Below W.heap.size W w' := by
  have h := lparts_any u hu W hE
  rw [show partsS u.data.toList = (L, 0) by unfold partsS; rw [if_pos hi, hL]] at h
  rw [← hn]
  exact h

theorem Below.heap_cell3 {w w3 : World} {b k : Nat} {t : TypeId} {cs : Array Value} (hb : Below w.heap.size w w3) (hlt : b < w.heap.size) (_ : k = k) : (w3.alloc (.cells cs t)).cell? ⟨b, k, none⟩ = w.cell? ⟨b, k, none⟩ :=
  ((hb.alloc hb.size _).cell (p := ⟨b, k, none⟩) hlt)

set_option maxRecDepth 100000 in
set_option maxHeartbeats 2000000 in
theorem nparts_any (s : ByteArray) (hs : s.size ≤ maxLen) (A : Option Addr) (n c : Nat) (l : List UInt8) (hn : l.length = n) (hn63 : n ≤ 9223372036854775807) (_ : n ≤ c) (_ : c ≤ 9223372036854775807) (w : World) (hE : Env w) (hA : Byts w A l) :
    Calls Tryd.prog 4 #[.string s, .slice A n c] w fun e w' => e = .returned (.bool true) ∧ Below w.heap.size w w' := by
  unfold maxLen at hs
  by_cases h200 : s.size ≤ 200
  · have d200 : decide (200 < (s.size : Int)) = false := by simp; omega
    have kf := field_errV
    have hll := long_len l
    obtain ⟨p, hp⟩ : ∃ p, mk (longS l) = p := ⟨_, rfl⟩
    have hpl : longS l = p.data.toList := by rw [← hp, mk_data]
    have hps : p.size ≤ 170 := by rw [Lib.size_eq, ← hpl]; exact hll
    have cL := fun W hb => long_any A n c l hn hn63 W hb
    rw [hp] at cL
    -- the last line's two sides
    have hend : (n ≤ 8 ∧ isPath p.data.toList = true) ∨ (8 < n ∧ isPath p.data.toList = false ∧ p.size ≠ 0) := by
      rw [← hpl, isPath_long, List.length_take, hn]
      by_cases h8 : n ≤ 8
      · exact .inl ⟨h8, by simp; omega⟩
      · refine .inr ⟨by omega, by simp; omega, ?_⟩
        have := long_ne (l := l) (fun e => by rw [e] at hn; simp at hn; omega)
        rw [hpl] at this
        rw [Lib.size_eq]
        have := List.length_pos_iff.2 this
        omega
    have HEND := Lib.hid hend
    have CL := Lib.hid cL
    clear hp hpl hll hn hend cL
    go_enter Tryd.func4, Tryd.ntmps4
    go_wp2_with (first | (go_at_call 11; refine (sanity_any _ hE).mono ?_; rintro e w1 ⟨rfl, hb1⟩) | (go_at_call 12; refine (CL.out _ (hA.below hb1)).mono ?_; rintro e w2 ⟨rfl, hb2'⟩; have hb2 := hb1.trans (hb2'.mono hb1.size); clear hb2'))
    have hs2 := hb2.size
    go_loopw [7] (fun i wr => ∃ k : Nat, k ≤ 2 ∧ i = .int .i64 k ∧ Below w.heap.size w wr ∧ w2.heap.size < wr.heap.size ∧ wr.cell? ⟨w2.heap.size, 0, none⟩ = some (.string s) ∧ wr.cell? ⟨w2.heap.size, 1, none⟩ = some (.string p)) (fun i _ => 2 - (intOf i).toNat)
    case atStart => exact ⟨0, by omega, rfl, hb2.alloc hs2 _, by simp, by go_cell, by go_cell⟩
    case round =>
      obtain ⟨k, hk, rfl, hbr, hsr, t0, t1⟩ := hrel
      obtain ⟨wo, rfl⟩ : ∃ wo : World, wo = wr := ⟨_, rfl⟩
      by_cases hlt : k < 2
      · obtain ⟨u, hus, hcell⟩ : ∃ u : ByteArray, u.size ≤ 200 ∧ wo.cell? ⟨w2.heap.size, k, none⟩ = some (.string u) := by
          match k, hlt with
          | 0, _ => exact ⟨s, h200, t0⟩
          | 1, _ => exact ⟨p, by omega, t1⟩
        have hkl : (k : Int) < 2 := by omega
        have hk0 : (0 : Int) ≤ (k : Int) := by omega
        have hEr := hE.below hbr
        have hwr := hbr.size
        have T0 := Lib.hid t0
        have T1 := Lib.hid t1
        clear t0 t1
        cases hi : isPath u.data.toList
        · have cN := lparts_no u (by omega) hi wo hEr
          have CN := Lib.hid cN
          clear cN hi
          go_wp2_with (go_at_call 16; refine CN.out.mono ?_; rintro e w3 ⟨A3, c3, rfl, hb3⟩)
          go_roundw
          case rel =>
            refine ⟨k + 1, by omega, by go_num, ?_, ?_, ?_, ?_⟩
            · exact (hbr.trans (hb3.mono hwr)).alloc (by have := hb3.size; omega) _
            · have := hb3.size; simp; omega
            · exact (Below.heap_cell3 hb3 hsr rfl).trans T0.out
            · exact (Below.heap_cell3 hb3 hsr rfl).trans T1.out
          case measure => simp [intOf]; omega
        · obtain ⟨L, hL⟩ : ∃ L, cut u.data.toList = L := ⟨_, rfl⟩
          obtain ⟨m, hm⟩ : ∃ m, L.length = m := ⟨_, rfl⟩
          have hvx : ∀ x ∈ L, vld x = true := fun x hx => isPath_mem hi (by rw [hL]; exact hx)
          have h8 : L.length ≤ 8 := by rw [← hL]; exact isPath_len hi
          have hm8 : m ≤ 8 := by omega
          have hju : mk (jn (L.take m)) = u := by rw [List.take_of_length_le (by omega), ← hL, jn_cut, mk_of]
          have cY := lparts_yes u (by omega) L m hL hm hi wo hEr
          have CY := Lib.hid cY
          have HM := Lib.hid hm
          have HV := Lib.hid hvx
          have HJ := Lib.hid hju
          clear cY hi hL hm hvx hju
          go_wp2_with (go_at_call 16; refine CY.out.mono ?_; rintro e w3 ⟨A3, c3, rfl, hS3, hb3⟩)
          have hs3 := hb3.size
          have hb4 : Below wo.heap.size wo (w3.alloc (.cells #[.slice A3 m c3, .int .i64 0] 32)) := hb3.alloc hs3 _
          have hS4 := hS3.below ((Below.refl w3.heap.size w3).alloc (Nat.le_refl _) (.cells #[.slice A3 m c3, .int .i64 0] 32))
          have HS4 := Lib.hid hS4
          clear hS3 hS4
          go_loopw [9, 10] (fun pv i wr => ∃ (j : Nat) (P : ByteArray), j ≤ m ∧ i = .int .i64 j ∧ pv = .string P ∧ P.size ≤ 136 ∧ P = mk (jn (L.take j)) ∧
              Below (w3.heap.size + 1) (w3.alloc (.cells #[.slice A3 m c3, .int .i64 0] 32)) wr ∧ wr.cell? ⟨w3.heap.size, 0, none⟩ = some (.slice A3 m c3)) (fun _ i _ => m - (intOf i).toNat)
          case atStart => exact ⟨0, ⟨#[]⟩, Nat.zero_le _, rfl, rfl, by decide, rfl, Below.refl _ _, by go_cell⟩
          case round =>
            obtain ⟨j, P, hj, rfl, rfl, hP, hPe, hbk, hxc⟩ := hrel
            have HPE := Lib.hid hPe
            clear hPe
            have hsk : w3.heap.size + 1 ≤ wr.heap.size := by have := hbk.size; simpa using this
            have hb4k : Below w.heap.size w wr := (hbr.trans (hb4.mono hwr)).trans (hbk.mono (by omega))
            have hjZ : (0 : Int) ≤ (j : Int) := by omega
            by_cases hjm : j < m
            · have hjl : j < L.length := by rw [HM.out]; exact hjm
              have hjI : (j : Int) < (m : Int) := by omega
              obtain ⟨g, rfl, _, hg4, hcg⟩ := HS4.out (List.ne_nil_of_length_pos (by omega))
              have hgw : g < w3.heap.size + 1 := by simpa using hg4
              have hx := (hbk.cell (p := ⟨g, j, none⟩) hgw).trans (hcg j L[j] (List.getElem?_eq_getElem hjl))
              have hjoin := join_part hjl h8 HV.out
              have hnv := HV.out L[j] (List.getElem_mem hjl)
              have hnl := vld_len hnv
              have hPl := jn_take_len (j + 1) h8 HV.out
              obtain ⟨x, hxe⟩ : ∃ x, L[j] = x := ⟨_, rfl⟩
              rw [hxe] at hx hjoin hnv hnl
              have cJ := ljoin_any P (mk x) (by omega) (by rw [mk_size]; omega) wr (hE.below hb4k)
              rw [HPE.out, mk_data, mk_data, hjoin, ← HPE.out] at cJ
              have cV := fun W hEW => Valid_any (mk x) (by rw [mk_size]; unfold maxLen; omega) W hEW
              rw [mk_data, hnv] at cV
              obtain ⟨X, hX⟩ : ∃ X, mk x = X := ⟨_, rfl⟩
              obtain ⟨Q, hQ⟩ : ∃ Q, mk (jn (L.take (j + 1))) = Q := ⟨_, rfl⟩
              have hQs : Q.size ≤ 136 := by rw [← hQ, mk_size]; exact hPl
              rw [hX] at hx cJ cV
              dsimp only at cJ
              rw [hQ] at cJ
              have CJ := Lib.hid cJ
              have CV := Lib.hid cV
              have HQ := Lib.hid hQ
              clear cJ cV hQ hX hxe hjoin hnv hnl hPl hcg hg4
              go_wp2_with (first | (go_at_call 18; refine CJ.out.mono ?_; rintro e w5 ⟨rfl, hb5⟩; have hxc5 := ((hb5.alloc hb5.size (.cells #[.string Q, .int .i64 0] 35)).cell (p := ⟨w3.heap.size, 0, none⟩) (by show w3.heap.size < _; omega)).trans hxc; have hx5 := ((hb5.alloc hb5.size (.cells #[.string Q, .int .i64 0] 35)).cell (p := ⟨g, j, none⟩) (by show g < _; omega)).trans hx) | (go_at_call 13; refine (CV.out _ (hE.below ((hb4k.trans (hb5.mono hb4k.size)).alloc (Nat.le_trans hb4k.size hb5.size) _))).mono ?_; rintro e w6 ⟨rfl, hb6⟩; obtain ⟨k0, k1, _, _, _⟩ := after2 hb6))
              have hb6k : Below wr.heap.size wr w6 := (hb5.alloc hb5.size _).trans (hb6.mono (by have := hb5.size; simp; omega))
              go_roundw
              case rel =>
                exact ⟨j + 1, Q, by omega, by go_num, rfl, hQs, HQ.out.symm, hbk.trans (hb6k.mono hsk), (hb6k.cell (p := ⟨w3.heap.size, 0, none⟩) (by show w3.heap.size < _; omega)).trans hxc⟩
              case measure => simp [intOf]; omega
            · obtain rfl : j = m := by omega
              obtain rfl : P = u := HPE.out.trans HJ.out
              have hcu : wr.cell? ⟨w2.heap.size, k, none⟩ = some (.string P) := ((hb4.trans (hbk.mono (by have := hb4.size; simp at this; omega))).cell (p := ⟨w2.heap.size, k, none⟩) hsr).trans hcell
              have bPP : (P.toList != P.toList) = false := by simp
              have hm8i : decide (8 < (j : Int)) = false := by simp; omega
              go_wp2
              go_roundw
              case rel =>
                have hbf : Below wo.heap.size wo wr := hb4.trans (hbk.mono (by have := hb4.size; simp at this; omega))
                exact ⟨k + 1, by omega, by go_num, hbr.trans (hbf.mono hwr), Nat.lt_of_lt_of_le hsr hbf.size, (hbf.cell (p := ⟨w2.heap.size, 0, none⟩) hsr).trans T0.out, (hbf.cell (p := ⟨w2.heap.size, 1, none⟩) hsr).trans T1.out⟩
              case measure => simp [intOf]; omega
      · have hEr := hE.below hbr
        have hwr := hbr.size
        have T0 := Lib.hid t0
        clear t0
        rcases HEND.out with ⟨h8, hi⟩ | ⟨h8, hi, hne⟩
        · have h8b : decide ((n : Int) ≤ 8) = true := by simp; omega
          have cY := lparts_yes p (by omega) _ _ rfl rfl hi wo hEr
          obtain ⟨m, hm⟩ : ∃ m, (cut p.data.toList).length = m := ⟨_, rfl⟩
          rw [hm] at cY
          have CY := Lib.hid cY
          clear cY hi hm
          go_wp2_with (go_at_call 16; refine CY.out.mono ?_; rintro e w3 ⟨A3, c3, rfl, _, hb3⟩)
          go_ret
          exact ⟨rfl, hbr.trans (hb3.mono hwr)⟩
        · have h8b : decide ((n : Int) ≤ 8) = false := by simp; omega
          have cN := lparts_no p (by omega) hi wo hEr
          have CN := Lib.hid cN
          have hz : ((p.size : Int) == 0) = false := by rw [beq_eq_false_iff_ne]; omega
          have t1' : ∀ (A : Option Addr) (c : Nat), True := fun _ _ => trivial
          clear cN hi hne t1'
          go_wp2_with (go_at_call 16; refine CN.out.mono ?_; rintro e w3 ⟨A3, c3, rfl, hb3⟩; have t3 := (hb3.cell (p := ⟨w2.heap.size, 1, none⟩) hsr).trans t1)
          go_ret
          exact ⟨rfl, hbr.trans (hb3.mono hwr)⟩
  · have d200 : decide (200 < (s.size : Int)) = true := by simp; omega
    go_enter Tryd.func4, Tryd.ntmps4
    go_wp2_with (go_at_call 11; refine (sanity_any _ hE).mono ?_; rintro e w1 ⟨rfl, hb1⟩)
    go_ret
    exact ⟨rfl, hb1⟩
end Go.Proofs.YtdjiiemimbdklaaDoor
