/-
  Walk of the law NameTyped: it returns true for every text and every list of numbers. The world must hold the program's table of kinds, and the numbers.
-/
import Derived.Test.YtdjiiemimbdklaaDoorQ
import Derived.Test.YtdjiiemimbdklaaDoorL
import Derived.Test.YtdjiiemimbdklaaDoorO
import Derived.Deep.RegionHeld3
import Derived.Deep.RegionWith
namespace Go.Proofs.YtdjiiemimbdklaaDoor
open Go.RowKit Pl
set_option maxHeartbeats 400000

theorem ispath_keep (p : ByteArray) (hp : p.size < 4294967281) (b : Bool) (hb : isPath p.data.toList = b) (W : World) (a1 a2 : Addr) (v1 v2 : Value) (h1 : W.cell? a1 = some v1) (h2 : W.cell? a2 = some v2) :
    Calls Tryd.prog 31 #[.string p] W fun e w' => e = .returned (.bool b) ∧ w'.cell? a1 = some v1 ∧ w'.cell? a2 = some v2 ∧ Below W.heap.size W w' :=
  (ispath_any p hp W).mono fun _ _ ⟨he, hbw⟩ => ⟨by rw [he, hb], (hbw.cell (block_lt_of_cell h1)).trans h1, (hbw.cell (block_lt_of_cell h2)).trans h2, hbw⟩
theorem field_err (A : Option Addr) (n c : Nat) (e : Int) (W : World) : (Instr.field 32 (.agg #[.slice A n c, .int .i64 e]) 1).run Tryd.prog W = .ok (.int .i64 e) W := by kernel_rfl

/-- What is read from a typed text: the path behind its slash; or nothing. -/
theorem parse_cases (s : Bs) : (∃ q, s = 47 :: q ∧ isPath q = true ∧ parseS s = (q, 0)) ∨ parseS s = ([], 3) := by
  unfold parseS
  by_cases h : Lib.hasPrefix s [47] = true ∧ isPath (s.drop 1) = true
  · rw [if_pos h]
    refine .inl ⟨s.drop 1, ?_, h.2, rfl⟩
    obtain ⟨r, hr⟩ : [47] <+: s := by simpa [Lib.hasPrefix] using h.1
    rw [← hr]; rfl
  · rw [if_neg h]; exact .inr rfl

set_option maxRecDepth 100000 in
set_option maxHeartbeats 4000000 in
theorem typed_any (s : ByteArray) (hs : s.size ≤ maxLen) (A : Option Addr) (n c : Nat) (l : List UInt8) (hn : l.length = n) (hn63 : n ≤ 9223372036854775807) (_ : n ≤ c) (_ : c ≤ 9223372036854775807) (w : World) (hE : Env w) (hA : Byts w A l) :
    Calls Tryd.prog 9 #[.string s, .slice A n c] w fun e w' => e = .returned (.bool true) ∧ Below w.heap.size w w' := by
  unfold maxLen at hs
  by_cases h200 : s.size ≤ 200
  · have HN := Lib.hid hn
    have hll := long_len l
    obtain ⟨p, hp⟩ : ∃ p, mk (longS l) = p := ⟨_, rfl⟩
    have hpl : longS l = p.data.toList := by rw [← hp, mk_data]
    have hps : p.size ≤ 170 := by rw [Lib.size_eq, ← hpl]; exact hll
    have cL := fun W hb => long_any A n c l hn hn63 W hb
    rw [hp] at cL
    have cPr := fun W => print_any p W (by omega)
    have cPa := fun W hEW => lparse_any (mk (47 :: p.data.toList)) (by rw [mk_size, List.length_cons, ← Lib.size_eq]; omega) W hEW
    have hpv : parseS (mk (47 :: p.data.toList)).data.toList = if isPath p.data.toList = true then (p.data.toList, 0) else ([], 3) := by
      rw [mk_data]; unfold parseS; simp [Lib.hasPrefix, List.isPrefixOf]
    rw [hpv] at cPa
    have cPs := fun W hEW => lparse_any s (by omega) W hEW
    have cIs := fun W => ispath_keep p (by omega) _ rfl W
    have kf := field_err
    clear hp hpl hpv hll hn
    have CL := Lib.hid cL
    have CPr := Lib.hid cPr
    clear cL cPr
    -- the first text's two ways, then the second's
    have ways : ∃ (P : ByteArray) (er : Int), (∀ W, Env W → Calls Tryd.prog 22 #[.string (mk (47 :: p.data.toList))] W fun e w' => e = .returned (.agg #[.string P, .int .i64 er]) ∧ Below W.heap.size W w') ∧
        ((isPath p.data.toList = true ∧ P = p ∧ er = 0) ∨ (isPath p.data.toList = false ∧ er = 3)) := by
      cases hip : isPath p.data.toList
      · rw [hip, if_neg (by simp)] at cPa
        exact ⟨_, _, cPa, .inr ⟨rfl, rfl⟩⟩
      · rw [hip, if_pos rfl] at cPa
        exact ⟨_, _, cPa, .inl ⟨rfl, mk_of p, rfl⟩⟩
    clear cPa
    obtain ⟨P, er, cPa, hw⟩ := ways
    have CPa := Lib.hid cPa
    clear cPa
    have sways : (∃ q : ByteArray, s = mk (47 :: q.data.toList) ∧ isPath q.data.toList = true ∧ (∀ W, Env W → Calls Tryd.prog 22 #[.string s] W fun e w' => e = .returned (.agg #[.string q, .int .i64 0]) ∧ Below W.heap.size W w')) ∨
        (∀ W, Env W → Calls Tryd.prog 22 #[.string s] W fun e w' => e = .returned (.agg #[.string ⟨#[]⟩, .int .i64 3]) ∧ Below W.heap.size W w') := by
      rcases parse_cases s.data.toList with ⟨q, h1, h2, h3⟩ | h3
      · refine .inl ⟨mk q, ?_, ?_, ?_⟩
        · rw [mk_data]; exact mk_eq h1
        · rw [mk_data]; exact h2
        · rw [h3] at cPs; exact cPs
      · rw [h3] at cPs; exact .inr cPs
    clear cPs
    rcases sways with ⟨q, hsq, hiq, cPs⟩ | cPs
    · subst hsq
      have hqs : q.size ≤ 200 := by rw [mk_size, List.length_cons, ← Lib.size_eq] at h200; omega
      have hq1 : q.size + 1 ≤ 200 := by rw [mk_size, List.length_cons, ← Lib.size_eq] at h200; omega
      have d200 : decide (200 < (q.size : Int) + 1) = false := by simp; omega
      have cPq := fun W => print_any q W (by omega)
      have cLq := fun W hEW => lparts_any q (by omega) W hEW
      have hpq : (partsS q.data.toList).2 = 0 := by unfold partsS; rw [if_pos hiq]
      rw [hpq] at cLq
      obtain ⟨nq, hnq⟩ : ∃ nq, (partsS q.data.toList).1.length = nq := ⟨_, rfl⟩
      rw [hnq] at cLq
      have CPs := Lib.hid cPs
      have CPq := Lib.hid cPq
      have CLq := Lib.hid cLq
      clear cPs cPq cLq hpq hnq hiq
      rcases hw with ⟨hip, rfl, rfl⟩ | ⟨hip, rfl⟩
      · rw [hip] at cIs
        have CIs := Lib.hid cIs
        clear cIs hip
        go_enter Tryd.func9, Tryd.ntmps9
        go_wp2_with (first | (go_at_call 11; refine (sanity_any _ hE).mono ?_; rintro e w1 ⟨rfl, hb1⟩) | (go_at_call 12; refine (CL.out _ (hA.below hb1)).mono ?_; rintro e w2 ⟨rfl, hb2'⟩; have hb2 := hb1.trans (hb2'.mono hb1.size); clear hb2') | (go_at_call 30; refine (CPr.out _).mono ?_; rintro e w' ⟨rfl, rfl⟩) | (go_at_call 22; refine (CPa.out _ (hE.below hb2)).mono ?_; rintro e w3 ⟨rfl, hb3'⟩; have hb3 := hb2.trans (hb3'.mono hb2.size); clear hb3'))
        have hs3 := hb3.size
        have s0 : (w3.alloc (.cells #[.string P, .int .i64 0] 35)).cell? ⟨w3.heap.size, 0, none⟩ = some (.string P) := by go_cell
        have s1 : (w3.alloc (.cells #[.string P, .int .i64 0] 35)).cell? ⟨w3.heap.size, 1, none⟩ = some (.int .i64 0) := by go_cell
        first | (go_region_with (first | (go_at_call 31; refine (CIs.out _ ⟨w3.heap.size, 1, none⟩ ⟨w3.heap.size, 0, none⟩ (.int .i64 0) (.string P) ?_ ?_).mono ?_; (simp [*]); (simp [*]); rintro e w4 ⟨rfl, k1, k0, hb4⟩))) | fail
        all_goals
          have hb5 : Below w.heap.size w w4 := ((hb3.alloc hs3 _).drew).trans (hb4.mono (by have := hs3; simp; omega))
          have hs5 := hb5.size
          go_wp2_with (first | (go_at_call 22; refine (CPs.out _ (hE.below hb5)).mono ?_; rintro e w6 ⟨rfl, hb6'⟩; have hb6 := hb5.trans (hb6'.mono hs5); have hs6 := hb6.size; clear hb6') | (go_at_call 30; refine (CPq.out _).mono ?_; rintro e w' ⟨rfl, rfl⟩) | (go_at_call 16; refine (CLq.out _ (hE.below (hb6.alloc hs6 _))).mono ?_; rintro e w7 ⟨A7, c7, rfl, _, hb7⟩))
          go_ret
          exact ⟨rfl, (hb6.alloc hs6 _).trans (hb7.mono (by simp; omega))⟩
      · rw [hip] at cIs
        have CIs := Lib.hid cIs
        clear cIs hip
        go_enter Tryd.func9, Tryd.ntmps9
        go_wp2_with (first | (go_at_call 11; refine (sanity_any _ hE).mono ?_; rintro e w1 ⟨rfl, hb1⟩) | (go_at_call 12; refine (CL.out _ (hA.below hb1)).mono ?_; rintro e w2 ⟨rfl, hb2'⟩; have hb2 := hb1.trans (hb2'.mono hb1.size); clear hb2') | (go_at_call 30; refine (CPr.out _).mono ?_; rintro e w' ⟨rfl, rfl⟩) | (go_at_call 22; refine (CPa.out _ (hE.below hb2)).mono ?_; rintro e w3 ⟨rfl, hb3'⟩; have hb3 := hb2.trans (hb3'.mono hb2.size); clear hb3'))
        have hs3 := hb3.size
        have s0 : (w3.alloc (.cells #[.string P, .int .i64 3] 35)).cell? ⟨w3.heap.size, 0, none⟩ = some (.string P) := by go_cell
        have s1 : (w3.alloc (.cells #[.string P, .int .i64 3] 35)).cell? ⟨w3.heap.size, 1, none⟩ = some (.int .i64 3) := by go_cell
        first | (go_region_with (first | (go_at_call 31; refine (CIs.out _ ⟨w3.heap.size, 1, none⟩ ⟨w3.heap.size, 0, none⟩ (.int .i64 3) (.string P) ?_ ?_).mono ?_; (simp [*]); (simp [*]); rintro e w4 ⟨rfl, k1, k0, hb4⟩))) | fail
        all_goals
          have hb5 : Below w.heap.size w w4 := ((hb3.alloc hs3 _).drew).trans (hb4.mono (by have := hs3; simp; omega))
          have hs5 := hb5.size
          go_wp2_with (first | (go_at_call 22; refine (CPs.out _ (hE.below hb5)).mono ?_; rintro e w6 ⟨rfl, hb6'⟩; have hb6 := hb5.trans (hb6'.mono hs5); have hs6 := hb6.size; clear hb6') | (go_at_call 30; refine (CPq.out _).mono ?_; rintro e w' ⟨rfl, rfl⟩) | (go_at_call 16; refine (CLq.out _ (hE.below (hb6.alloc hs6 _))).mono ?_; rintro e w7 ⟨A7, c7, rfl, _, hb7⟩))
          go_ret
          exact ⟨rfl, (hb6.alloc hs6 _).trans (hb7.mono (by simp; omega))⟩
    · have d200 : decide (200 < (s.size : Int)) = false := by simp; omega
      have CPs := Lib.hid cPs
      clear cPs
      rcases hw with ⟨hip, rfl, rfl⟩ | ⟨hip, rfl⟩
      · rw [hip] at cIs
        have CIs := Lib.hid cIs
        clear cIs hip
        go_enter Tryd.func9, Tryd.ntmps9
        go_wp2_with (first | (go_at_call 11; refine (sanity_any _ hE).mono ?_; rintro e w1 ⟨rfl, hb1⟩) | (go_at_call 12; refine (CL.out _ (hA.below hb1)).mono ?_; rintro e w2 ⟨rfl, hb2'⟩; have hb2 := hb1.trans (hb2'.mono hb1.size); clear hb2') | (go_at_call 30; refine (CPr.out _).mono ?_; rintro e w' ⟨rfl, rfl⟩) | (go_at_call 22; refine (CPa.out _ (hE.below hb2)).mono ?_; rintro e w3 ⟨rfl, hb3'⟩; have hb3 := hb2.trans (hb3'.mono hb2.size); clear hb3'))
        have hs3 := hb3.size
        have s0 : (w3.alloc (.cells #[.string P, .int .i64 0] 35)).cell? ⟨w3.heap.size, 0, none⟩ = some (.string P) := by go_cell
        have s1 : (w3.alloc (.cells #[.string P, .int .i64 0] 35)).cell? ⟨w3.heap.size, 1, none⟩ = some (.int .i64 0) := by go_cell
        first | (go_region_with (first | (go_at_call 31; refine (CIs.out _ ⟨w3.heap.size, 1, none⟩ ⟨w3.heap.size, 0, none⟩ (.int .i64 0) (.string P) ?_ ?_).mono ?_; (simp [*]); (simp [*]); rintro e w4 ⟨rfl, k1, k0, hb4⟩))) | fail
        all_goals
          have hb5 : Below w.heap.size w w4 := ((hb3.alloc hs3 _).drew).trans (hb4.mono (by have := hs3; simp; omega))
          have hs5 := hb5.size
          go_wp2_with (go_at_call 22; refine (CPs.out _ (hE.below hb5)).mono ?_; rintro e w6 ⟨rfl, hb6'⟩; have hb6 := hb5.trans (hb6'.mono hs5); have hs6 := hb6.size; clear hb6')
          go_ret
          exact ⟨rfl, hb6.alloc hs6 _⟩
      · rw [hip] at cIs
        have CIs := Lib.hid cIs
        clear cIs hip
        go_enter Tryd.func9, Tryd.ntmps9
        go_wp2_with (first | (go_at_call 11; refine (sanity_any _ hE).mono ?_; rintro e w1 ⟨rfl, hb1⟩) | (go_at_call 12; refine (CL.out _ (hA.below hb1)).mono ?_; rintro e w2 ⟨rfl, hb2'⟩; have hb2 := hb1.trans (hb2'.mono hb1.size); clear hb2') | (go_at_call 30; refine (CPr.out _).mono ?_; rintro e w' ⟨rfl, rfl⟩) | (go_at_call 22; refine (CPa.out _ (hE.below hb2)).mono ?_; rintro e w3 ⟨rfl, hb3'⟩; have hb3 := hb2.trans (hb3'.mono hb2.size); clear hb3'))
        have hs3 := hb3.size
        have s0 : (w3.alloc (.cells #[.string P, .int .i64 3] 35)).cell? ⟨w3.heap.size, 0, none⟩ = some (.string P) := by go_cell
        have s1 : (w3.alloc (.cells #[.string P, .int .i64 3] 35)).cell? ⟨w3.heap.size, 1, none⟩ = some (.int .i64 3) := by go_cell
        first | (go_region_with (first | (go_at_call 31; refine (CIs.out _ ⟨w3.heap.size, 1, none⟩ ⟨w3.heap.size, 0, none⟩ (.int .i64 3) (.string P) ?_ ?_).mono ?_; (simp [*]); (simp [*]); rintro e w4 ⟨rfl, k1, k0, hb4⟩))) | fail
        all_goals
          have hb5 : Below w.heap.size w w4 := ((hb3.alloc hs3 _).drew).trans (hb4.mono (by have := hs3; simp; omega))
          have hs5 := hb5.size
          go_wp2_with (go_at_call 22; refine (CPs.out _ (hE.below hb5)).mono ?_; rintro e w6 ⟨rfl, hb6'⟩; have hb6 := hb5.trans (hb6'.mono hs5); have hs6 := hb6.size; clear hb6')
          go_ret
          exact ⟨rfl, hb6.alloc hs6 _⟩
  · have d200 : decide (200 < (s.size : Int)) = true := by simp; omega
    go_enter Tryd.func9, Tryd.ntmps9
    go_wp2_with (go_at_call 11; refine (sanity_any _ hE).mono ?_; rintro e w1 ⟨rfl, hb1⟩)
    go_ret
    exact ⟨rfl, hb1⟩
end Go.Proofs.YtdjiiemimbdklaaDoor
