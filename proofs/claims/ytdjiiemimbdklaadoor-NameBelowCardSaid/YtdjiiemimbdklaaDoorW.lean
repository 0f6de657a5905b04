/-
  Walk of the law NameJoins: it returns true for every list of numbers and every text. The world must hold the program's table of kinds, and the numbers.
-/
import Derived.Test.YtdjiiemimbdklaaDoorT
import Derived.Test.YtdjiiemimbdklaaDoorPu
namespace Go.Proofs.YtdjiiemimbdklaaDoor
open Go.RowKit Pl
set_option maxHeartbeats 400000

theorem block_keep {W w' : World} {b : Nat} {x y : Value} (h0 : W.cell? ⟨b, 0, none⟩ = some x) (h1 : W.cell? ⟨b, 1, none⟩ = some y) (hb : Below W.heap.size W w') : w'.cell? ⟨b, 0, none⟩ = some x ∧ w'.cell? ⟨b, 1, none⟩ = some y :=
  ⟨(hb.cell (block_lt_of_cell h0)).trans h0, (hb.cell (block_lt_of_cell h1)).trans h1⟩

theorem field_listed (A : Option Addr) (n c : Nat) (e : Int) (W : World) : (Instr.field 32 (.agg #[.slice A n c, .int .i64 e]) 0).run Tryd.prog W = .ok (.slice A n c) W := by kernel_rfl
theorem heap_first (w : World) (x y : Value) (t : TypeId) : (w.alloc (.cells #[x, y] t)).cell? ⟨w.heap.size, 0, none⟩ = some x := cell_of_row _ _ 0 #[x, y] t (0, 0) (heap_alloc_new w _)
theorem heap_second (w : World) (x y : Value) (t : TypeId) : (w.alloc (.cells #[x, y] t)).cell? ⟨w.heap.size, 1, none⟩ = some y := cell_of_row _ _ 1 #[x, y] t (0, 0) (heap_alloc_new w _)
theorem lparts_held (p : ByteArray) (hp : p.size < 4294967281) (L : List Bs) (m : Nat) (er : Int) (hP : partsS p.data.toList = (L, er)) (hm : L.length = m) (w : World) (hE : Env w) (W : World) (b : Nat) (x y : Value) (hb : Below w.heap.size w W) (h0 : W.cell? ⟨b, 0, none⟩ = some x) (h1 : W.cell? ⟨b, 1, none⟩ = some y) :
    Calls Tryd.prog 16 #[.string p] W fun e w' => ∃ A c, e = .returned (.agg #[.slice A m c, .int .i64 er]) ∧ w'.cell? ⟨b, 0, none⟩ = some x ∧ w'.cell? ⟨b, 1, none⟩ = some y ∧ Below w.heap.size w w' := by
  have h := lparts_any p hp W (hE.below hb)
  rw [hP] at h
  rw [← hm]
  exact h.mono fun _ _ ⟨A, c, he, _, hb'⟩ => ⟨A, c, he, (block_keep h0 h1 hb').1, (block_keep h0 h1 hb').2, hb.trans (hb'.mono hb.size)⟩
theorem Valid_held (s : ByteArray) (hs : s.size ≤ maxLen) (v : Bool) (hv : vld s.data.toList = v) (w : World) (hE : Env w) (W : World) (b : Nat) (x y : Value) (hb : Below w.heap.size w W) (h0 : W.cell? ⟨b, 0, none⟩ = some x) (h1 : W.cell? ⟨b, 1, none⟩ = some y) :
    Calls Tryd.prog 13 #[.string s] W fun e w' => e = .returned (.bool v) ∧ w'.cell? ⟨b, 0, none⟩ = some x ∧ w'.cell? ⟨b, 1, none⟩ = some y ∧ Below w.heap.size w w' := by
  have h := Valid_any s hs W (hE.below hb)
  rw [hv] at h
  exact h.mono fun _ _ ⟨he, hb'⟩ => ⟨he, (block_keep h0 h1 hb').1, (block_keep h0 h1 hb').2, hb.trans (hb'.mono hb.size)⟩

set_option maxRecDepth 100000 in
set_option maxHeartbeats 4000000 in
theorem joins_any (A : Option Addr) (n c : Nat) (l : List UInt8) (hn : l.length = n) (hn63 : n ≤ 9223372036854775807) (_ : n ≤ c) (_ : c ≤ 9223372036854775807) (s : ByteArray) (hs : s.size ≤ maxLen) (w : World) (hE : Env w) (hA : Byts w A l) :
    Calls Tryd.prog 5 #[.slice A n c, .string s] w fun e w' => e = .returned (.bool true) ∧ Below w.heap.size w w' := by
  unfold maxLen at hs
  by_cases h100 : s.size ≤ 100
  · have d100 : decide (100 < (s.size : Int)) = false := by simp; omega
    have kf := field_err
    have kl := field_listed
    have hll := long_len l
    obtain ⟨p, hp⟩ : ∃ p, mk (longS l) = p := ⟨_, rfl⟩
    have hpl : longS l = p.data.toList := by rw [← hp, mk_data]
    have hps : p.size ≤ 170 := by rw [Lib.size_eq, ← hpl]; exact hll
    have cL := fun W hb => long_any A n c l hn hn63 W hb
    rw [hp] at cL
    have CL := Lib.hid cL
    have cJ := fun W hEW => ljoin_any p s (by omega) (by omega) W hEW
    have cS := fun W hEW => lsplit_any p (by omega) W hEW
    clear hp hpl hll hn cL
    cases hip : isPath p.data.toList
    · rw [joinS_bad hip] at cJ
      rw [splitS_bad hip] at cS
      have cP := fun W b x y hbw h0 h1 => lparts_held p (by omega) [] 0 10 (by unfold partsS; rw [if_neg (by rw [hip]; simp)]) rfl w hE W b x y hbw h0 h1
      have CJ := Lib.hid cJ
      have CS := Lib.hid cS
      have CP := Lib.hid cP
      clear cJ cS cP hip
      go_enter Tryd.func5, Tryd.ntmps5
      go_wp2_with (first | (go_at_call 11; refine (sanity_any _ hE).mono ?_; rintro e w1 ⟨rfl, hb1⟩) | (go_at_call 12; refine (CL.out _ (hA.below hb1)).mono ?_; rintro e w2 ⟨rfl, hb2'⟩; have hb2 := hb1.trans (hb2'.mono hb1.size); clear hb2') | (go_at_call 18; refine (CJ.out _ (hE.below hb2)).mono ?_; rintro e w3 ⟨rfl, hb3'⟩; have hb3 := hb2.trans (hb3'.mono hb2.size); clear hb3'))
      have hs3 := hb3.size
      have s0 : (w3.alloc (.cells #[.string (mk []), .int .i64 10] 35)).cell? ⟨w3.heap.size, 0, none⟩ = some (.string (mk [])) := by go_cell
      have s1 : (w3.alloc (.cells #[.string (mk []), .int .i64 10] 35)).cell? ⟨w3.heap.size, 1, none⟩ = some (.int .i64 10) := by go_cell
      have hb4 := hb3.alloc hs3 (.cells #[.string (mk []), .int .i64 10] 35)
      first | (go_region_held (fun W' => W'.cell? ⟨w3.heap.size, 0, none⟩ = some (.string (mk [])) ∧ W'.cell? ⟨w3.heap.size, 1, none⟩ = some (.int .i64 10) ∧ Below w.heap.size w W') (first | exact ⟨s0, s1, hb4.drew⟩ | exact ⟨k0, k1, kb⟩ | go_keep) (first | (go_at_call 16; refine (CP.out _ w3.heap.size (.string (mk [])) (.int .i64 10) ?_ ?_ ?_).mono ?_; (first | exact hb4.drew | assumption | simp [*]); (first | assumption | simp [*]); (first | assumption | simp [*]); rintro e w' ⟨A', c', rfl, k0, k1, kb⟩))) | fail
      have hs4 := kb.size
      go_wp2_with (go_at_call 20; refine (CS.out _ (hE.below kb)).mono ?_; rintro e w5 ⟨rfl, hb5'⟩; have hb5 := kb.trans (hb5'.mono hs4); have hs5 := hb5.size)
      have t0 : (w5.alloc (.cells #[.string (mk []), .string (mk []), .int .i64 10] 38)).cell? ⟨w5.heap.size, 2, none⟩ = some (.int .i64 10) := by go_cell
      go_ret
      exact ⟨rfl, hb5.alloc hs5 _⟩
    · obtain ⟨L, hL⟩ : ∃ L, cut p.data.toList = L := ⟨_, rfl⟩
      obtain ⟨m, hm⟩ : ∃ m, L.length = m := ⟨_, rfl⟩
      have hm8 : m ≤ 8 := by rw [← hm, ← hL]; exact isPath_len hip
      have cP := fun W b x y hbw h0 h1 => lparts_held p (by omega) L m 0 (by unfold partsS; rw [if_pos hip, hL]) hm w hE W b x y hbw h0 h1
      have CP := Lib.hid cP
      clear cP
      have hT : (p = ⟨#[]⟩ ∧ ∀ W, Env W → Calls Tryd.prog 20 #[.string ⟨#[]⟩] W fun e w' => e = .returned (.agg #[.string ⟨#[]⟩, .string ⟨#[]⟩, .int .i64 1]) ∧ Below W.heap.size W w') ∨
          (∃ D N : ByteArray, (∀ W, Env W → Calls Tryd.prog 20 #[.string p] W fun e w' => e = .returned (.agg #[.string D, .string N, .int .i64 0]) ∧ Below W.heap.size W w') ∧
            ∀ W, Env W → Calls Tryd.prog 18 #[.string D, .string N] W fun e w' => e = .returned (.agg #[.string p, .int .i64 0]) ∧ Below W.heap.size W w') := by
        by_cases hpn : p.data.toList = []
        · have hpe : p = ⟨#[]⟩ := mk_eq hpn
          rw [hpn, splitS_nil] at cS
          subst hpe
          exact .inl ⟨rfl, cS⟩
        · rw [splitS_yes hip hpn] at cS
          refine .inr ⟨_, _, cS, fun W hEW => ?_⟩
          have h := ljoin_any (mk (dirOf p.data.toList)) (mk (lastOf p.data.toList)) (by rw [mk_size]; have := dirOf_len hip; omega) (by rw [mk_size]; have := lastOf_len p.data.toList; rw [← Lib.size_eq] at this; omega) W hEW
          rw [mk_data, mk_data, join_split hip hpn, mk_of] at h
          exact h
      have HT := Lib.hid hT
      clear hT cS
      have bpp : (p.toList != p.toList) = false := by simp
      have bss : (s.toList != s.toList) = false := by simp
      have bpe : (p.toList == p.toList) = true := by simp
      have bse : (s.toList == s.toList) = true := by simp
      cases hv : vld s.data.toList
      · rw [joinS_name hip hv] at cJ
        have cV := fun W b x y hbw h0 h1 => Valid_held s (by unfold maxLen; omega) false hv w hE W b x y hbw h0 h1
        have CV := Lib.hid cV
        clear cV hv hip hL hm
        have CJ := Lib.hid cJ
        clear cJ
        go_enter Tryd.func5, Tryd.ntmps5
        go_wp2_with (first | (go_at_call 11; refine (sanity_any _ hE).mono ?_; rintro e w1 ⟨rfl, hb1⟩) | (go_at_call 12; refine (CL.out _ (hA.below hb1)).mono ?_; rintro e w2 ⟨rfl, hb2'⟩; have hb2 := hb1.trans (hb2'.mono hb1.size); clear hb2') | (go_at_call 18; refine (CJ.out _ (hE.below hb2)).mono ?_; rintro e w3 ⟨rfl, hb3'⟩; have hb3 := hb2.trans (hb3'.mono hb2.size); have hs3 := hb3.size; clear hb3'))
        have s0 : (w3.alloc (.cells #[.string (mk []), .int .i64 11] 35)).cell? ⟨w3.heap.size, 0, none⟩ = some (.string (mk [])) := by go_cell
        have s1 : (w3.alloc (.cells #[.string (mk []), .int .i64 11] 35)).cell? ⟨w3.heap.size, 1, none⟩ = some (.int .i64 11) := by go_cell
        have hb4 := hb3.alloc hs3 (.cells #[.string (mk []), .int .i64 11] 35)
        first | (go_region_held (fun W' => W'.cell? ⟨w3.heap.size, 0, none⟩ = some (.string (mk [])) ∧ W'.cell? ⟨w3.heap.size, 1, none⟩ = some (.int .i64 11) ∧ Below w.heap.size w W') (first | exact ⟨s0, s1, hb4.drew⟩ | exact ⟨k0, k1, kb⟩ | go_keep) (first | (go_at_call 16; refine (CP.out _ w3.heap.size (.string (mk [])) (.int .i64 11) ?_ ?_ ?_).mono ?_; (first | exact hb4.drew | assumption | simp [*]); (first | assumption | simp [*]); (first | assumption | simp [*]); rintro e w' ⟨A', c', rfl, k0, k1, kb⟩) | (go_at_call 13; refine (CV.out _ w3.heap.size (.string (mk [])) (.int .i64 11) ?_ ?_ ?_).mono ?_; (first | exact hb4.drew | assumption | simp [*]); (first | assumption | simp [*]); (first | assumption | simp [*]); rintro e w' ⟨rfl, k0, k1, kb⟩))) | fail
        have hs4 := kb.size
        rcases HT.out with ⟨rfl, cS⟩ | ⟨D, N, cS, cJ⟩
        · have CS := Lib.hid cS
          clear cS
          go_wp2_with (go_at_call 20; refine (CS.out _ (hE.below kb)).mono ?_; rintro e w5 ⟨rfl, hb5'⟩; have hb5 := kb.trans (hb5'.mono hs4); have hs5 := hb5.size)
          go_ret
          exact ⟨rfl, hb5.alloc hs5 _⟩
        · have CS := Lib.hid cS
          have CJ2 := Lib.hid cJ
          clear cS cJ
          go_wp2_with (first | (go_at_call 20; refine (CS.out _ (hE.below kb)).mono ?_; rintro e w5 ⟨rfl, hb5'⟩; have hb5 := kb.trans (hb5'.mono hs4); have hs5 := hb5.size) | (go_at_call 18; refine (CJ2.out _ (hE.below (hb5.alloc hs5 _))).mono ?_; rintro e w6 ⟨rfl, hb6⟩))
          go_ret
          exact ⟨rfl, (hb5.alloc hs5 _).trans (hb6.mono (hb5.alloc hs5 _).size)⟩
      · have cV := fun W b x y hbw h0 h1 => Valid_held s (by unfold maxLen; omega) true hv w hE W b x y hbw h0 h1
        have CV := Lib.hid cV
        clear cV
        by_cases h8 : m = 8
        · rw [joinS_deep hip hv (by rw [hL, hm, h8])] at cJ
          subst h8
          clear hv hip hL hm
          have CJ := Lib.hid cJ
          clear cJ
          go_enter Tryd.func5, Tryd.ntmps5
          go_wp2_with (first | (go_at_call 11; refine (sanity_any _ hE).mono ?_; rintro e w1 ⟨rfl, hb1⟩) | (go_at_call 12; refine (CL.out _ (hA.below hb1)).mono ?_; rintro e w2 ⟨rfl, hb2'⟩; have hb2 := hb1.trans (hb2'.mono hb1.size); clear hb2') | (go_at_call 18; refine (CJ.out _ (hE.below hb2)).mono ?_; rintro e w3 ⟨rfl, hb3'⟩; have hb3 := hb2.trans (hb3'.mono hb2.size); have hs3 := hb3.size; clear hb3'))
          have s0 : (w3.alloc (.cells #[.string (mk []), .int .i64 2] 35)).cell? ⟨w3.heap.size, 0, none⟩ = some (.string (mk [])) := by go_cell
          have s1 : (w3.alloc (.cells #[.string (mk []), .int .i64 2] 35)).cell? ⟨w3.heap.size, 1, none⟩ = some (.int .i64 2) := by go_cell
          have hb4 := hb3.alloc hs3 (.cells #[.string (mk []), .int .i64 2] 35)
          first | (go_region_held (fun W' => W'.cell? ⟨w3.heap.size, 0, none⟩ = some (.string (mk [])) ∧ W'.cell? ⟨w3.heap.size, 1, none⟩ = some (.int .i64 2) ∧ Below w.heap.size w W') (first | exact ⟨s0, s1, hb4.drew⟩ | exact ⟨k0, k1, kb⟩ | go_keep) (first | (go_at_call 16; refine (CP.out _ w3.heap.size (.string (mk [])) (.int .i64 2) ?_ ?_ ?_).mono ?_; (first | exact hb4.drew | assumption | simp [*]); (first | assumption | simp [*]); (first | assumption | simp [*]); rintro e w' ⟨A', c', rfl, k0, k1, kb⟩) | (go_at_call 13; refine (CV.out _ w3.heap.size (.string (mk [])) (.int .i64 2) ?_ ?_ ?_).mono ?_; (first | exact hb4.drew | assumption | simp [*]); (first | assumption | simp [*]); (first | assumption | simp [*]); rintro e w' ⟨rfl, k0, k1, kb⟩))) | fail
          have hs4 := kb.size
          rcases HT.out with ⟨rfl, cS⟩ | ⟨D, N, cS, cJ⟩
          · have CS := Lib.hid cS
            clear cS
            go_wp2_with (go_at_call 20; refine (CS.out _ (hE.below kb)).mono ?_; rintro e w5 ⟨rfl, hb5'⟩; have hb5 := kb.trans (hb5'.mono hs4); have hs5 := hb5.size)
            go_ret
            exact ⟨rfl, hb5.alloc hs5 _⟩
          · have CS := Lib.hid cS
            have CJ2 := Lib.hid cJ
            clear cS cJ
            go_wp2_with (first | (go_at_call 20; refine (CS.out _ (hE.below kb)).mono ?_; rintro e w5 ⟨rfl, hb5'⟩; have hb5 := kb.trans (hb5'.mono hs4); have hs5 := hb5.size) | (go_at_call 18; refine (CJ2.out _ (hE.below (hb5.alloc hs5 _))).mono ?_; rintro e w6 ⟨rfl, hb6⟩))
            go_ret
            exact ⟨rfl, (hb5.alloc hs5 _).trans (hb6.mono (hb5.alloc hs5 _).size)⟩
        · have dm : decide ((m : Int) < 8) = true := by simp; omega
          rw [joinS_yes hip hv (by rw [hL, hm]; exact h8)] at cJ
          have c6 := fun W hEW => lsplit_any (mk (under p.data.toList s.data.toList)) (by rw [mk_size]; have := under_len p.data.toList s.data.toList; rw [← Lib.size_eq, ← Lib.size_eq] at this; omega) W hEW
          rw [mk_data, split_under hip hv (by rw [hL, hm]; exact h8), mk_of, mk_of] at c6
          obtain ⟨X, hX⟩ : ∃ X, mk (under p.data.toList s.data.toList) = X := ⟨_, rfl⟩
          rw [hX] at c6 cJ
          have C6 := Lib.hid c6
          clear c6 hX hv hip hL hm
          have CJ := Lib.hid cJ
          clear cJ
          go_enter Tryd.func5, Tryd.ntmps5
          go_wp2_with (first | (go_at_call 11; refine (sanity_any _ hE).mono ?_; rintro e w1 ⟨rfl, hb1⟩) | (go_at_call 12; refine (CL.out _ (hA.below hb1)).mono ?_; rintro e w2 ⟨rfl, hb2'⟩; have hb2 := hb1.trans (hb2'.mono hb1.size); clear hb2') | (go_at_call 18; refine (CJ.out _ (hE.below hb2)).mono ?_; rintro e w3 ⟨rfl, hb3'⟩; have hb3 := hb2.trans (hb3'.mono hb2.size); have hs3 := hb3.size; clear hb3') | (go_at_call 20; refine (C6.out _ (hE.below (hb3.alloc hs3 _))).mono ?_; rintro e w4 ⟨rfl, hb4'⟩; have u0 := (hb4'.cell (p := ⟨w3.heap.size, 0, none⟩) (by simp)).trans (heap_first w3 _ _ _); have u1 := (hb4'.cell (p := ⟨w3.heap.size, 1, none⟩) (by simp)).trans (heap_second w3 _ _ _); have hb4 := (hb3.alloc hs3 _).trans (hb4'.mono (hb3.alloc hs3 _).size)))
          have s0 := u0
          have s1 := u1
          clear u0 u1
          first | (go_region_held (fun W' => W'.cell? ⟨w3.heap.size, 0, none⟩ = some (.string X) ∧ W'.cell? ⟨w3.heap.size, 1, none⟩ = some (.int .i64 0) ∧ Below w.heap.size w W') (first | exact ⟨s0, s1, hb4.drew⟩ | exact ⟨k0, k1, kb⟩ | go_keep) (first | (go_at_call 16; refine (CP.out _ w3.heap.size (.string X) (.int .i64 0) ?_ ?_ ?_).mono ?_; (first | exact hb4.drew | assumption | simp [*]); (first | assumption | simp [*]); (first | assumption | simp [*]); rintro e w' ⟨A', c', rfl, k0, k1, kb⟩) | (go_at_call 13; refine (CV.out _ w3.heap.size (.string X) (.int .i64 0) ?_ ?_ ?_).mono ?_; (first | exact hb4.drew | assumption | simp [*]); (first | assumption | simp [*]); (first | assumption | simp [*]); rintro e w' ⟨rfl, k0, k1, kb⟩))) | fail
          have hs4 := kb.size
          rcases HT.out with ⟨rfl, cS⟩ | ⟨D, N, cS, cJ⟩
          · have CS := Lib.hid cS
            clear cS
            go_wp2_with (go_at_call 20; refine (CS.out _ (hE.below kb)).mono ?_; rintro e w5 ⟨rfl, hb5'⟩; have hb5 := kb.trans (hb5'.mono hs4); have hs5 := hb5.size)
            go_ret
            exact ⟨rfl, hb5.alloc hs5 _⟩
          · have CS := Lib.hid cS
            have CJ2 := Lib.hid cJ
            clear cS cJ
            go_wp2_with (first | (go_at_call 20; refine (CS.out _ (hE.below kb)).mono ?_; rintro e w5 ⟨rfl, hb5'⟩; have hb5 := kb.trans (hb5'.mono hs4); have hs5 := hb5.size) | (go_at_call 18; refine (CJ2.out _ (hE.below (hb5.alloc hs5 _))).mono ?_; rintro e w6 ⟨rfl, hb6⟩))
            go_ret
            exact ⟨rfl, (hb5.alloc hs5 _).trans (hb6.mono (hb5.alloc hs5 _).size)⟩
  · have d100 : decide (100 < (s.size : Int)) = true := by simp; omega
    go_enter Tryd.func5, Tryd.ntmps5
    go_wp2_with (go_at_call 11; refine (sanity_any _ hE).mono ?_; rintro e w1 ⟨rfl, hb1⟩)
    go_ret
    exact ⟨rfl, hb1⟩
end Go.Proofs.YtdjiiemimbdklaaDoor
