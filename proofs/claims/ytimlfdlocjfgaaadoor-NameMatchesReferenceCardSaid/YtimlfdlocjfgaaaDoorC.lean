/-
  Walks of the layer's functions on texts: joining two texts, being below, swapping, copies, typed paths. The world must hold the program's table of kinds.
-/
import Derived.Test.YtimlfdlocjfgaaaDoorB
import Derived.Lib.ItoaNum
import Derived.Test.YtimlfdlocjfgaaaDoorPm
import Derived.Test.YtimlfdlocjfgaaaDoorShelf
namespace Go.Proofs.YtimlfdlocjfgaaaDoor
open Go.RowKit Pl
set_option maxHeartbeats 400000

theorem empty_of {s : ByteArray} (h : s.data.toList = []) : s.toList.isEmpty = true := by rw [Lib.toList_data, h]; rfl
theorem nonempty_of {s : ByteArray} (h : s.data.toList ≠ []) : s.toList.isEmpty = false := by
  rw [Lib.toList_data]
  cases e : s.data.toList with
  | nil => exact absurd e h
  | cons => rfl

theorem ret_str {a b : Bs} (h : a = b) : Ending.returned (.string (mk a)) = .returned (.string (mk b)) := by rw [h]
theorem ret_strb {a b : Bs} {x : Bool} (h : a = b) : Ending.returned (.tuple #[.string (mk a), .bool x]) = .returned (.tuple #[.string (mk b), .bool x]) := by rw [h]
theorem under_any (d p : ByteArray) (w : World) (hs : d.size + 1 + p.size ≤ 9223372036854775807) :
    Calls Tryd.prog 46 #[.string d, .string p] w fun e w' => e = .returned (.string (mk (under d.data.toList p.data.toList))) ∧ w = w' := by
  by_cases hd : d.data.toList = []
  · have h1 := empty_of hd
    have H := Lib.hid hd
    clear hd
    go_enter Tryd.func46, Tryd.ntmps46
    go_wp2
    go_ret
    exact ⟨by simp [under, H.out], rfl⟩
  · have h1 := nonempty_of hd
    have H := Lib.hid hd
    clear hd
    go_enter Tryd.func46, Tryd.ntmps46
    go_wp2
    go_ret
    refine ⟨?_, rfl⟩
    have : under d.data.toList p.data.toList = d.data.toList ++ [47] ++ p.data.toList := by simp [under, H.out]
    rw [this, ← mk_append, ← mk_append, mk_of, mk_of]
    rfl

theorem print_any (p : ByteArray) (w : World) (hs : 1 + p.size ≤ 9223372036854775807) :
    Calls Tryd.prog 30 #[.string p] w fun e w' => e = .returned (.string (mk (47 :: p.data.toList))) ∧ w = w' := by
  go_enter Tryd.func30, Tryd.ntmps30
  go_wp2
  go_ret
  refine ⟨?_, rfl⟩
  rw [show (47 :: p.data.toList) = [47] ++ p.data.toList from rfl, ← mk_append, mk_of]
  rfl

theorem cutPrefix_any (s p : ByteArray) (w : World) :
    Calls Tryd.prog 39 #[.string s, .string p] w fun e w' => e = .returned (.tuple #[.string (mk (Lib.trimPrefix s.data.toList p.data.toList)), .bool (Lib.hasPrefix s.data.toList p.data.toList)]) ∧ w = w' :=
  (Tryd.strings_CutPrefix s p w).mono fun _ _ ⟨h1, h2⟩ => ⟨h1, h2.symm⟩
theorem hasPrefix_any (s p : ByteArray) (w : World) :
    Calls Tryd.prog 40 #[.string s, .string p] w fun e w' => e = .returned (.bool (Lib.hasPrefix s.data.toList p.data.toList)) ∧ w = w' :=
  (Tryd.strings_HasPrefix s p w).mono fun _ _ ⟨h1, h2⟩ => ⟨h1, h2.symm⟩

theorem below_any (p q : ByteArray) (w : World) :
    Calls Tryd.prog 24 #[.string p, .string q] w fun e w' => e = .returned (.bool (belowB p.data.toList q.data.toList)) ∧ w = w' := by
  rw [below_of]
  have c := cutPrefix_any p q w
  generalize hb : Lib.hasPrefix p.data.toList q.data.toList = b at c ⊢
  obtain ⟨r, hr⟩ : ∃ r, mk (Lib.trimPrefix p.data.toList q.data.toList) = r := ⟨_, rfl⟩
  have hr2 : Lib.trimPrefix p.data.toList q.data.toList = r.data.toList := by rw [← hr]; rfl
  rw [hr] at c
  rw [hr2]
  clear hb hr hr2
  have c2 := hasPrefix_any r ⟨#[47]⟩ w
  rw [show (⟨#[47]⟩ : ByteArray).data.toList = [47] from rfl] at c2
  generalize hb2 : Lib.hasPrefix r.data.toList [47] = b2 at c2 ⊢
  clear hb2
  have e1 : (r.data.toList == []) = r.toList.isEmpty := by rw [Lib.toList_data]; cases r.data.toList <;> rfl
  have e2 : (q.data.toList == []) = q.toList.isEmpty := by rw [Lib.toList_data]; cases q.data.toList <;> rfl
  rw [e1, e2]
  clear e1 e2
  generalize hz1 : r.toList.isEmpty = z1
  generalize hz2 : q.toList.isEmpty = z2
  cases b <;> cases z1 <;> cases z2
  all_goals
    go_enter Tryd.func24, Tryd.ntmps24
    go_wp2_with (first | (go_at_call 39; refine c.mono ?_; rintro e w' ⟨rfl, rfl⟩) | (go_at_call 40; refine c2.mono ?_; rintro e w' ⟨rfl, rfl⟩))
    go_ret
    exact ⟨by simp, rfl⟩

theorem swap_any (q f t : ByteArray) (w : World) (hs : t.size + 1 + q.size ≤ 9223372036854775807) :
    Calls Tryd.prog 42 #[.string q, .string f, .string t] w fun e w' => e = .returned (.tuple #[.string (mk (if belowB q.data.toList f.data.toList then swapS q.data.toList f.data.toList t.data.toList else q.data.toList)), .bool (belowB q.data.toList f.data.toList)]) ∧ w = w' := by
  have c := below_any q f w
  cases hb : belowB q.data.toList f.data.toList
  · rw [hb] at c
    clear hb
    go_enter Tryd.func42, Tryd.ntmps42
    go_wp2_with (go_at_call 24; refine c.mono ?_; rintro e w' ⟨rfl, rfl⟩)
    go_ret2
    exact ⟨by simp, rfl⟩
  · rw [hb] at c
    have HB := Lib.hid hb
    clear hb
    by_cases hq : q.data.toList = f.data.toList
    · have e1 : (q.toList == f.toList) = true := by rw [Lib.toList_data, Lib.toList_data, hq]; simp
      have HQ := Lib.hid hq
      clear hq
      go_enter Tryd.func42, Tryd.ntmps42
      go_wp2_with (go_at_call 24; refine c.mono ?_; rintro e w' ⟨rfl, rfl⟩)
      go_ret2
      exact ⟨by simp [swapS, HQ.out], rfl⟩
    · have e1 : (q.toList == f.toList) = false := by rw [Lib.toList_data, Lib.toList_data]; exact beq_eq_false_iff_ne.2 hq
      have HQ := Lib.hid hq
      clear hq
      by_cases hf : f.data.toList = []
      · have e2 := empty_of hf
        have HF := Lib.hid hf
        clear hf
        have cu := under_any t q w hs
        go_enter Tryd.func42, Tryd.ntmps42
        go_wp2_with (first | (go_at_call 24; refine c.mono ?_; rintro e w' ⟨rfl, rfl⟩) | (go_at_call 46; refine cu.mono ?_; rintro e w' ⟨rfl, rfl⟩))
        go_ret2
        refine ⟨ret_strb ?_, rfl⟩
        rw [swapS, if_neg HQ.out, if_pos HF.out]
      · have e2 := nonempty_of hf
        have hlen := below_len HB.out HQ.out hf
        rw [← Lib.size_eq, ← Lib.size_eq] at hlen
        have HF := Lib.hid hf
        clear hf
        have cu := under_any t (q.extract (f.size + 1) q.size) w (by rw [ByteArray.size_extract]; omega)
        go_enter Tryd.func42, Tryd.ntmps42
        go_wp2_with (first | (go_at_call 24; refine c.mono ?_; rintro e w' ⟨rfl, rfl⟩) | (go_at_call 46; refine cu.mono ?_; rintro e w' ⟨rfl, rfl⟩))
        go_ret2
        refine ⟨ret_strb ?_, rfl⟩
        rw [swapS, if_neg HQ.out, if_neg HF.out]
        congr 1
        rw [List.take_of_length_le (by rw [List.length_drop, ← Lib.size_eq]; exact Nat.le_refl _), Lib.size_eq]

theorem digs_dec (k : Nat) (hk : k < 100) : Lib.decDigits k = digs k := by
  unfold digs
  by_cases h : k < 10
  · rw [if_pos h]; unfold Lib.decDigits; simp [h]
  · rw [if_neg h, Lib.decDigits, dif_neg h, Lib.decDigits, dif_pos (by omega)]; rfl
theorem itoa_any (k : Nat) (hk : k < 100) (w : World) :
    Calls Tryd.prog 44 #[.int .i64 k] w fun e w' => e = .returned (.string (mk (digs k))) ∧ w = w' :=
  (Tryd.strconv_Itoa_small k hk w).mono fun _ _ ⟨h1, h2⟩ => ⟨by rw [← digs_dec k hk]; exact h1, h2.symm⟩

theorem copy_form (n tag D : ByteArray) (hn : n.size ≤ 16) (ht : tag.size ≤ 4) (hD : D.size ≤ 2) :
    n.extract 0 (min (n.size : Int) (16 - (1 + tag.size + 1 + D.size))).toNat ++ (⟨#[126]⟩ ++ tag ++ ⟨#[126]⟩ ++ D) =
      mk (n.data.toList.take (16 - (tag.data.toList.length + 2 + D.data.toList.length)) ++ 126 :: (tag.data.toList ++ 126 :: D.data.toList)) := by
  have e : (min (n.size : Int) (16 - (1 + tag.size + 1 + D.size))).toNat = min n.data.toList.length (16 - (tag.data.toList.length + 2 + D.data.toList.length)) := by
    rw [← Lib.size_eq, ← Lib.size_eq, ← Lib.size_eq]; omega
  have e2 : (n.data.toList.drop 0).take (min n.data.toList.length (16 - (tag.data.toList.length + 2 + D.data.toList.length)) - 0) = n.data.toList.take (16 - (tag.data.toList.length + 2 + D.data.toList.length)) := by
    rw [List.drop_zero, Nat.sub_zero, List.take_eq_take_iff]; omega
  refine mk_eq ?_
  rw [append_data, append_data, append_data, append_data, Lib.extract_data, e, e2]
  simp
set_option maxHeartbeats 1000000 in
theorem copy_any (n tag : ByteArray) (k : Int) (hn : n.size ≤ maxLen) (ht : tag.size ≤ maxLen) (w : World) (hE : Env w) :
    Calls Tryd.prog 28 #[.string n, .string tag, .int .i64 k] w fun e w' => e = .returned (.string (mk (copyS n.data.toList tag.data.toList k))) ∧ Below w.heap.size w w' := by
  have c1 := Valid_any n hn w hE
  cases hv : vld n.data.toList
  · rw [hv] at c1
    have hc : copyS n.data.toList tag.data.toList k = [] := by unfold copyS; rw [if_neg]; rintro ⟨h, _⟩; rw [hv] at h; cases h
    have HC := Lib.hid hc
    clear hv hc
    go_enter Tryd.func28, Tryd.ntmps28
    go_wp2_with (go_at_call 13; refine c1.mono ?_; rintro e w1 ⟨rfl, hb1⟩)
    go_ret
    exact ⟨by rw [HC.out]; rfl, hb1⟩
  · rw [hv] at c1
    have HV := Lib.hid hv
    have c2 := fun (W : World) (hb : Below w.heap.size w W) => validTag_any tag ht W (hE.below hb)
    cases htg : vtag tag.data.toList
    · rw [htg] at c2
      have hc : copyS n.data.toList tag.data.toList k = [] := by unfold copyS; rw [if_neg]; rintro ⟨_, h, _⟩; rw [htg] at h; cases h
      have HC := Lib.hid hc
      have C2 := Lib.hid c2
      clear hv hc htg c2
      go_enter Tryd.func28, Tryd.ntmps28
      go_wp2_with (first | (go_at_call 13; refine c1.mono ?_; rintro e w1 ⟨rfl, hb1⟩) | (go_at_call 43; refine (C2.out _ hb1).mono ?_; rintro e w2 ⟨rfl, hb2⟩))
      go_ret
      exact ⟨by rw [HC.out]; rfl, hb1.trans (hb2.mono hb1.size)⟩
    · rw [htg] at c2
      have HT := Lib.hid htg
      have C2 := Lib.hid c2
      clear c2
      by_cases hk : 0 ≤ k ∧ k ≤ 99
      · obtain ⟨hk0, hk1⟩ := hk
        obtain ⟨j, rfl⟩ := Int.eq_ofNat_of_zero_le hk0
        have hj : j < 100 := by omega
        have hl16 := vld_len hv
        have hl4 := vtag_len htg
        rw [← Lib.size_eq] at hl16 hl4
        have c3 := fun W => itoa_any j hj W
        have hdl := digs_len j
        have hc : copyS n.data.toList tag.data.toList (j : Int) = n.data.toList.take (16 - (tag.data.toList.length + 2 + (digs j).length)) ++ (126 :: (tag.data.toList ++ 126 :: digs j)) := by
          unfold copyS; rw [if_pos ⟨hv, htg, by omega, by omega⟩]; simp
        obtain ⟨D, hD⟩ : ∃ D, mk (digs j) = D := ⟨_, rfl⟩
        have hDl : D.size = (digs j).length := by rw [← hD, mk_size]
        have hDd : digs j = D.data.toList := by rw [← hD, mk_data]
        rw [hD] at c3
        rw [← hDl] at hdl
        obtain ⟨hd1, hd2⟩ := hdl
        rw [hDd] at hc
        have HC := Lib.hid hc
        have C3 := Lib.hid c3
        clear hv htg hc c3 hD hDl hDd
        go_enter Tryd.func28, Tryd.ntmps28
        go_wp2_with (first | (go_at_call 13; refine c1.mono ?_; rintro e w1 ⟨rfl, hb1⟩) | (go_at_call 43; refine (C2.out _ hb1).mono ?_; rintro e w2 ⟨rfl, hb2⟩) | (go_at_call 44; refine (C3.out _).mono ?_; rintro e w3 ⟨rfl, rfl⟩))
        go_ret
        refine ⟨?_, hb1.trans (hb2.mono hb1.size)⟩
        rw [HC.out]
        exact congrArg (fun x => Ending.returned (.string x)) (copy_form n tag D hl16 hl4 hd2)
      · have hc : copyS n.data.toList tag.data.toList k = [] := by unfold copyS; rw [if_neg]; rintro ⟨_, _, h1, h2⟩; exact hk ⟨h1, h2⟩
        have HC := Lib.hid hc
        clear hc hv htg
        by_cases hk0 : k < 0
        · go_enter Tryd.func28, Tryd.ntmps28
          go_wp2_with (first | (go_at_call 13; refine c1.mono ?_; rintro e w1 ⟨rfl, hb1⟩) | (go_at_call 43; refine (C2.out _ hb1).mono ?_; rintro e w2 ⟨rfl, hb2⟩))
          go_ret
          exact ⟨by rw [HC.out]; rfl, hb1.trans (hb2.mono hb1.size)⟩
        · have hk9 : 99 < k := by omega
          go_enter Tryd.func28, Tryd.ntmps28
          go_wp2_with (first | (go_at_call 13; refine c1.mono ?_; rintro e w1 ⟨rfl, hb1⟩) | (go_at_call 43; refine (C2.out _ hb1).mono ?_; rintro e w2 ⟨rfl, hb2⟩))
          go_ret
          exact ⟨by rw [HC.out]; rfl, hb1.trans (hb2.mono hb1.size)⟩
end Go.Proofs.YtimlfdlocjfgaaaDoor
