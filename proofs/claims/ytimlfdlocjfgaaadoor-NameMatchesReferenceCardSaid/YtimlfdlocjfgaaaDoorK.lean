/-
  Walks of the reference's functions PartsOf, JoinOf, Begins, Below, Swap and Parse. Nothing is asked of the world.
-/
import Derived.Test.YtimlfdlocjfgaaaDoorJ
namespace Go.Proofs.YtimlfdlocjfgaaaDoor
open Go.RowKit Pl
set_option maxHeartbeats 400000

theorem next2 {b : Nat} {w1 w2 : World} {x y : Value} (h0 : w1.cell? ⟨b, 0, none⟩ = some x) (h1 : w1.cell? ⟨b, 1, none⟩ = some y) (f0 : w1.frozen? ⟨b, 0, none⟩ = false) (f1 : w1.frozen? ⟨b, 1, none⟩ = false) (hlt : b < w1.heap.size) (hb : Below w1.heap.size w1 w2) :
    w2.cell? ⟨b, 0, none⟩ = some x ∧ w2.cell? ⟨b, 1, none⟩ = some y ∧ w2.frozen? ⟨b, 0, none⟩ = false ∧ w2.frozen? ⟨b, 1, none⟩ = false ∧ b < w2.heap.size :=
  ⟨(hb.cell (p := ⟨b, 0, none⟩) hlt).trans h0, (hb.cell (p := ⟨b, 1, none⟩) hlt).trans h1, (hb.frozen (p := ⟨b, 0, none⟩) hlt).trans f0, (hb.frozen (p := ⟨b, 1, none⟩) hlt).trans f1, Nat.lt_of_lt_of_le hlt hb.size⟩

theorem partsOf_any (p : ByteArray) (hp : p.size < 4294967281) (w : World) :
    Calls Tryd.prog 17 #[.string p] w fun e w' => ∃ A c, e = .returned (.agg #[.slice A (partsS p.data.toList).1.length c, .int .i64 (partsS p.data.toList).2]) ∧ Strs w.heap.size w' A (partsS p.data.toList).1 ∧ Below w.heap.size w w' := by
  have c1 := ispath_any p hp (w.alloc (.cells #[.slice none 0 0, .int .i64 0] 32))
  have c2 := fun W => rcut_any p hp W
  unfold partsS
  cases hi : isPath p.data.toList
  · rw [hi] at c1
    rw [if_neg (by simp)]
    clear hi c2
    go_enter Tryd.func17, Tryd.ntmps17
    go_wp2_with (go_at_call 31; refine c1.mono ?_; rintro e w1 ⟨rfl, hb1⟩; obtain ⟨h0, h1, f0, f1, hlt⟩ := after2 hb1)
    refine bodyPost_ret (v := .agg #[.slice none 0 0, .int .i64 10]) (by simp [results, Tryd.results17, go_sem, h0, h1]) rfl ⟨none, 0, rfl, Strs.nil _ _ _, ?_⟩
    exact ((below_new hb1).setCell (p := ⟨w.heap.size, 0, none⟩) (Nat.le_refl _) _).setCell (p := ⟨w.heap.size, 1, none⟩) (Nat.le_refl _) _
  · rw [hi] at c1
    rw [if_pos rfl]
    obtain ⟨l, hl⟩ : ∃ l, cut p.data.toList = l := ⟨_, rfl⟩
    rw [hl] at c2
    rw [hl]
    obtain ⟨n, hn⟩ : ∃ n, l.length = n := ⟨_, rfl⟩
    rw [hn] at c2
    show Calls _ _ _ _ fun e w' => ∃ A c, e = .returned (.agg #[.slice A l.length c, .int .i64 0]) ∧ Strs w.heap.size w' A l ∧ Below w.heap.size w w'
    rw [hn]
    have C2 := Lib.hid c2
    clear hi c2 hl hn
    go_enter Tryd.func17, Tryd.ntmps17
    go_wp2_with (first | (go_at_call 31; refine c1.mono ?_; rintro e w1 ⟨rfl, hb1⟩; obtain ⟨h0, h1, f0, f1, hlt⟩ := after2 hb1) | (go_at_call 32; refine (C2.out _).mono ?_; rintro e w2 ⟨A, c, rfl, hS, hb2⟩; obtain ⟨k0, k1, g0, g1, hlt2⟩ := next2 h0 h1 f0 f1 hlt hb2))
    refine bodyPost_ret (v := .agg #[.slice A n c, .int .i64 0]) (by simp [results, Tryd.results17, go_sem, k0, k1]) rfl ⟨A, c, rfl, ?_, ?_⟩
    · exact ((hS.set (p := ⟨w.heap.size, 0, none⟩) hlt _).set (p := ⟨w.heap.size, 1, none⟩) hlt _).mono (Nat.le_of_lt hlt)
    · exact (((below_new hb1).trans (hb2.mono (Nat.le_of_lt hlt))).setCell (p := ⟨w.heap.size, 0, none⟩) (Nat.le_refl _) _).setCell (p := ⟨w.heap.size, 1, none⟩) (Nat.le_refl _) _

theorem begins_any (s h : ByteArray) (w : World) :
    Calls Tryd.prog 41 #[.string s, .string h] w fun e w' => e = .returned (.bool (Lib.hasPrefix s.data.toList h.data.toList)) ∧ w = w' := by
  have hp := Lib.hasPrefix_of_take s.data.toList h.data.toList
  rw [← Lib.size_eq, ← Lib.size_eq] at hp
  have HP := Lib.hid hp
  clear hp
  by_cases hle : h.size ≤ s.size
  · go_enter Tryd.func41, Tryd.ntmps41
    go_wp2
    go_ret
    refine ⟨ret_bool ?_, rfl⟩
    rw [← HP.out]
    simp [hle, Lib.toList_data]
  · go_enter Tryd.func41, Tryd.ntmps41
    go_wp2
    go_ret
    refine ⟨ret_bool ?_, rfl⟩
    rw [← HP.out]
    simp [hle]

theorem rbelow_any (p q : ByteArray) (hq : q.size + 1 ≤ maxLen) (w : World) :
    Calls Tryd.prog 25 #[.string p, .string q] w fun e w' => e = .returned (.bool (belowB p.data.toList q.data.toList)) ∧ w = w' := by
  have c1 := begins_any p (q ++ ⟨#[47]⟩) w
  have e1 : Lib.hasPrefix p.data.toList (q ++ ⟨#[47]⟩).data.toList = (q.data.toList ++ [47]).isPrefixOf p.data.toList := by rw [append_data]; rfl
  rw [e1] at c1
  unfold belowB
  generalize (q.data.toList ++ [47]).isPrefixOf p.data.toList = b at c1 ⊢
  clear e1
  unfold maxLen at hq
  have d1 : (p.toList == q.toList) = (p.data.toList == q.data.toList) := by rw [Lib.toList_data, Lib.toList_data]
  have d2 : q.toList.isEmpty = (q.data.toList == []) := by rw [Lib.toList_data]; cases q.data.toList <;> rfl
  cases h1 : (p.data.toList == q.data.toList) <;> cases h2 : (q.data.toList == []) <;> rw [h1] at d1 <;> rw [h2] at d2 <;> clear h1 h2
  all_goals
    go_enter Tryd.func25, Tryd.ntmps25
    go_wp2_with (go_at_call 41; refine c1.mono ?_; rintro e w1 ⟨rfl, rfl⟩)
    go_ret
    exact ⟨rfl, rfl⟩

set_option maxHeartbeats 1000000 in
theorem joinOf_any (d n : ByteArray) (hd : d.size < 4294967281) (hn : n.size ≤ 4294967281) (w : World) :
    Calls Tryd.prog 19 #[.string d, .string n] w fun e w' => e = .returned (.agg #[.string (mk (joinS d.data.toList n.data.toList).1), .int .i64 (joinS d.data.toList n.data.toList).2]) ∧ Below w.heap.size w w' := by
  have c1 := ispath_any d hd (w.alloc (.cells #[.string ⟨#[]⟩, .int .i64 0] 35))
  have c2 := fun W => rvalid_any n (by unfold maxLen; omega) W
  have c3 := fun W => rcut_any d hd W
  unfold joinS
  cases hp : isPath d.data.toList
  · rw [hp] at c1
    rw [if_pos rfl]
    clear hp c2 c3
    go_enter Tryd.func19, Tryd.ntmps19
    go_wp2_with (go_at_call 31; refine c1.mono ?_; rintro e w1 ⟨rfl, hb1⟩; obtain ⟨h0, h1, f0, f1, hlt⟩ := after2 hb1)
    refine bodyPost_ret (v := .agg #[.string ⟨#[]⟩, .int .i64 10]) (by simp [results, Tryd.results19, go_sem, h0, h1]) rfl ⟨rfl, ?_⟩
    exact ((below_new hb1).setCell (p := ⟨w.heap.size, 0, none⟩) (Nat.le_refl _) _).setCell (p := ⟨w.heap.size, 1, none⟩) (Nat.le_refl _) _
  · rw [hp] at c1
    rw [if_neg (by simp)]
    have hk8 := isPath_len hp
    obtain ⟨k, hk⟩ : ∃ k, (cut d.data.toList).length = k := ⟨_, rfl⟩
    rw [hk] at c3 hk8
    rw [hk]
    cases hv : vld n.data.toList
    · rw [hv] at c2
      rw [if_pos rfl]
      have C2 := Lib.hid c2
      clear hp hv c2 c3 hk
      go_enter Tryd.func19, Tryd.ntmps19
      go_wp2_with (first | (go_at_call 31; refine c1.mono ?_; rintro e w1 ⟨rfl, hb1⟩; obtain ⟨h0, h1, f0, f1, hlt⟩ := after2 hb1) | (go_at_call 14; refine (C2.out _).mono ?_; rintro e w2 ⟨rfl, rfl⟩))
      refine bodyPost_ret (v := .agg #[.string ⟨#[]⟩, .int .i64 11]) (by simp [results, Tryd.results19, go_sem, h0, h1]) rfl ⟨rfl, ?_⟩
      exact ((below_new hb1).setCell (p := ⟨w.heap.size, 0, none⟩) (Nat.le_refl _) _).setCell (p := ⟨w.heap.size, 1, none⟩) (Nat.le_refl _) _
    · rw [hv] at c2
      rw [if_neg (by simp)]
      have C2 := Lib.hid c2
      have C3 := Lib.hid c3
      by_cases h8 : k = 8
      · rw [if_pos h8]
        have h8b : decide (8 ≤ (k : Int)) = true := by simp; omega
        clear hp hv c2 c3 hk h8
        go_enter Tryd.func19, Tryd.ntmps19
        go_wp2_with (first | (go_at_call 31; refine c1.mono ?_; rintro e w1 ⟨rfl, hb1⟩; obtain ⟨h0, h1, f0, f1, hlt⟩ := after2 hb1) | (go_at_call 14; refine (C2.out _).mono ?_; rintro e w2 ⟨rfl, rfl⟩) | (go_at_call 32; refine (C3.out _).mono ?_; rintro e w3 ⟨A, c, rfl, hS, hb2⟩; obtain ⟨k0, k1, g0, g1, hlt2⟩ := next2 h0 h1 f0 f1 hlt hb2))
        refine bodyPost_ret (v := .agg #[.string ⟨#[]⟩, .int .i64 2]) (by simp [results, Tryd.results19, go_sem, k0, k1]) rfl ⟨rfl, ?_⟩
        exact (((below_new hb1).trans (hb2.mono (Nat.le_of_lt hlt))).setCell (p := ⟨w.heap.size, 0, none⟩) (Nat.le_refl _) _).setCell (p := ⟨w.heap.size, 1, none⟩) (Nat.le_refl _) _
      · rw [if_neg h8]
        have h8b : decide (8 ≤ (k : Int)) = false := by simp; omega
        by_cases hde : d.data.toList = []
        · have h1e := empty_of hde
          have hu : under d.data.toList n.data.toList = n.data.toList := by unfold under; rw [if_pos hde]
          rw [hu]
          clear hp hv c2 c3 hk h8 hde hu
          go_enter Tryd.func19, Tryd.ntmps19
          go_wp2_with (first | (go_at_call 31; refine c1.mono ?_; rintro e w1 ⟨rfl, hb1⟩; obtain ⟨h0, h1, f0, f1, hlt⟩ := after2 hb1) | (go_at_call 14; refine (C2.out _).mono ?_; rintro e w2 ⟨rfl, rfl⟩) | (go_at_call 32; refine (C3.out _).mono ?_; rintro e w3 ⟨A, c, rfl, hS, hb2⟩; obtain ⟨k0, k1, g0, g1, hlt2⟩ := next2 h0 h1 f0 f1 hlt hb2))
          refine bodyPost_ret (v := .agg #[.string n, .int .i64 0]) (by simp [results, Tryd.results19, go_sem, k0, k1]) rfl ⟨by simp, ?_⟩
          exact (((below_new hb1).trans (hb2.mono (Nat.le_of_lt hlt))).setCell (p := ⟨w.heap.size, 0, none⟩) (Nat.le_refl _) _).setCell (p := ⟨w.heap.size, 1, none⟩) (Nat.le_refl _) _
        · have h1e := nonempty_of hde
          have hu : mk (under d.data.toList n.data.toList) = d ++ ⟨#[47]⟩ ++ n := by
            have : under d.data.toList n.data.toList = d.data.toList ++ [47] ++ n.data.toList := by simp [under, hde]
            rw [this, ← mk_append, ← mk_append, mk_of, mk_of]; rfl
          rw [hu]
          clear hp hv c2 c3 hk h8 hde hu
          go_enter Tryd.func19, Tryd.ntmps19
          go_wp2_with (first | (go_at_call 31; refine c1.mono ?_; rintro e w1 ⟨rfl, hb1⟩; obtain ⟨h0, h1, f0, f1, hlt⟩ := after2 hb1) | (go_at_call 14; refine (C2.out _).mono ?_; rintro e w2 ⟨rfl, rfl⟩) | (go_at_call 32; refine (C3.out _).mono ?_; rintro e w3 ⟨A, c, rfl, hS, hb2⟩; obtain ⟨k0, k1, g0, g1, hlt2⟩ := next2 h0 h1 f0 f1 hlt hb2))
          refine bodyPost_ret (v := .agg #[.string (d ++ ⟨#[47]⟩ ++ n), .int .i64 0]) (by simp [results, Tryd.results19, go_sem, k0, k1]) rfl ⟨rfl, ?_⟩
          exact (((below_new hb1).trans (hb2.mono (Nat.le_of_lt hlt))).setCell (p := ⟨w.heap.size, 0, none⟩) (Nat.le_refl _) _).setCell (p := ⟨w.heap.size, 1, none⟩) (Nat.le_refl _) _

theorem below_self (q : Bs) : belowB q q = true := by simp [belowB]

set_option maxHeartbeats 1000000 in
theorem rswap_any (q f t : ByteArray) (w : World) (hq : q.size ≤ maxLen) (hf : f.size + 1 ≤ maxLen) (hs : t.size + 1 + q.size ≤ 9223372036854775807) :
    Calls Tryd.prog 27 #[.string q, .string f, .string t] w fun e w' => e = .returned (.agg #[.string (mk (swapT q.data.toList f.data.toList t.data.toList)), .bool (belowB q.data.toList f.data.toList)]) ∧ Below w.heap.size w w' := by
  have c := fun W => rbelow_any q f hf W
  unfold maxLen at hq hf
  by_cases hqf : q.data.toList = f.data.toList
  · have e1 : (q.toList == f.toList) = true := by rw [Lib.toList_data, Lib.toList_data, hqf]; simp
    have hsw : swapT q.data.toList f.data.toList t.data.toList = t.data.toList := by unfold swapT swapS; rw [hqf, if_pos (below_self _), if_pos rfl]
    have hbl : belowB q.data.toList f.data.toList = true := by rw [hqf]; exact below_self _
    rw [hsw, hbl]
    clear hqf hsw hbl c
    go_enter Tryd.func27, Tryd.ntmps27
    go_wp2
    refine bodyPost_ret (v := .agg #[.string t, .bool true]) (by simp [results, Tryd.results27, go_sem]) rfl ⟨by simp, ?_⟩
    go_grown
  · have e1 : (q.toList == f.toList) = false := by rw [Lib.toList_data, Lib.toList_data]; exact beq_eq_false_iff_ne.2 hqf
    cases hb : belowB q.data.toList f.data.toList
    · rw [hb] at c
      have hsw : swapT q.data.toList f.data.toList t.data.toList = q.data.toList := by unfold swapT; rw [if_neg (by rw [hb]; simp)]
      rw [hsw]
      have C := Lib.hid c
      clear hqf hsw hb c
      go_enter Tryd.func27, Tryd.ntmps27
      go_wp2_with (go_at_call 25; refine (C.out _).mono ?_; rintro e w1 ⟨rfl, rfl⟩)
      refine bodyPost_ret (v := .agg #[.string q, .bool false]) (by simp [results, Tryd.results27, go_sem]) rfl ⟨by simp, ?_⟩
      go_grown
    · rw [hb] at c
      have C := Lib.hid c
      by_cases hfe : f.data.toList = []
      · have e2 := empty_of hfe
        by_cases hte : t.data.toList = []
        · have e3 := empty_of hte
          have hsw : swapT q.data.toList f.data.toList t.data.toList = q.data.toList := by unfold swapT swapS under; rw [if_pos hb, if_neg hqf, if_pos hte, if_pos hfe]
          rw [hsw]
          clear hqf hsw hb c hfe hte
          go_enter Tryd.func27, Tryd.ntmps27
          go_wp2_with (go_at_call 25; refine (C.out _).mono ?_; rintro e w1 ⟨rfl, rfl⟩)
          refine bodyPost_ret (v := .agg #[.string q, .bool true]) (by simp [results, Tryd.results27, go_sem]) rfl ⟨by simp, ?_⟩
          go_grown
        · have e3 := nonempty_of hte
          have hsw : mk (swapT q.data.toList f.data.toList t.data.toList) = t ++ ⟨#[47]⟩ ++ q := by
            have : swapT q.data.toList f.data.toList t.data.toList = t.data.toList ++ [47] ++ q.data.toList := by unfold swapT swapS under; rw [if_pos hb, if_neg hqf, if_neg hte, if_pos hfe]; simp
            rw [this, ← mk_append, ← mk_append, mk_of, mk_of]; rfl
          rw [hsw]
          clear hqf hsw hb c hfe hte
          go_enter Tryd.func27, Tryd.ntmps27
          go_wp2_with (go_at_call 25; refine (C.out _).mono ?_; rintro e w1 ⟨rfl, rfl⟩)
          refine bodyPost_ret (v := .agg #[.string (t ++ ⟨#[47]⟩ ++ q), .bool true]) (by simp [results, Tryd.results27, go_sem]) rfl ⟨rfl, ?_⟩
          go_grown
      · have e2 := nonempty_of hfe
        have hlen := below_len hb hqf hfe
        rw [← Lib.size_eq, ← Lib.size_eq] at hlen
        have hex : (q.extract (f.size + 1) q.size).data.toList = q.data.toList.drop (f.data.toList.length + 1) := by
          rw [Lib.extract_data, List.take_of_length_le (by rw [List.length_drop, ← Lib.size_eq]; exact Nat.le_refl _), ← Lib.size_eq]
        by_cases hte : t.data.toList = []
        · have e3 := empty_of hte
          have hsw : mk (swapT q.data.toList f.data.toList t.data.toList) = q.extract (f.size + 1) q.size := by
            refine (mk_eq ?_).symm
            rw [hex]
            unfold swapT swapS under
            rw [if_pos hb, if_neg hqf, if_pos hte, if_neg hfe]
          rw [hsw]
          clear hqf hsw hb c hfe hte hex
          go_enter Tryd.func27, Tryd.ntmps27
          go_wp2_with (go_at_call 25; refine (C.out _).mono ?_; rintro e w1 ⟨rfl, rfl⟩)
          refine bodyPost_ret (v := .agg #[.string (q.extract (f.size + 1) q.size), .bool true]) (by simp [results, Tryd.results27, go_sem]) rfl ⟨rfl, ?_⟩
          go_grown
        · have e3 := nonempty_of hte
          have hsw : mk (swapT q.data.toList f.data.toList t.data.toList) = t ++ ⟨#[47]⟩ ++ q.extract (f.size + 1) q.size := by
            refine (mk_eq ?_).symm
            rw [append_data, append_data, hex]
            unfold swapT swapS under
            rw [if_pos hb, if_neg hqf, if_neg hte, if_neg hfe]
            simp
          rw [hsw]
          clear hqf hsw hb c hfe hte hex
          go_enter Tryd.func27, Tryd.ntmps27
          go_wp2_with (go_at_call 25; refine (C.out _).mono ?_; rintro e w1 ⟨rfl, rfl⟩)
          refine bodyPost_ret (v := .agg #[.string (t ++ ⟨#[47]⟩ ++ q.extract (f.size + 1) q.size), .bool true]) (by simp [results, Tryd.results27, go_sem]) rfl ⟨rfl, ?_⟩
          go_grown
end Go.Proofs.YtimlfdlocjfgaaaDoor
