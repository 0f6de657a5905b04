/-
  Walks of name.Join, name.Split and name.Parse, and of the small functions that put their results into structs. The world must hold the program's table of kinds.
-/
import Derived.Deep.AppendLies
import Derived.Test.YtimlfdlocjfgaaaDoorC
import Derived.Test.YtimlfdlocjfgaaaDoorE
import Derived.Test.YtimlfdlocjfgaaaDoorPo
namespace Go.Proofs.YtimlfdlocjfgaaaDoor
open Go.RowKit Pl
set_option maxHeartbeats 400000

theorem parts_yes (p : ByteArray) (hp : p.size < 4294967281) (w : World) (hE : Env w) (h : isPath p.data.toList = true) {k : Nat} (hk : (cut p.data.toList).length = k) :
    Calls Tryd.prog 35 #[.string p] w fun e w' => ∃ A c, e = .returned (.tuple #[.slice A k c, .int .i64 0]) ∧ w'.ownsRow w.heap.size 9 1 (.slice A k c) k (strs (cut p.data.toList)) ∧ Below w.heap.size w w' := by
  refine (parts_any p hp w hE).mono ?_
  rintro e w' ⟨hb, ⟨_, A, c, he, hr⟩ | ⟨h', _⟩⟩
  · rw [hk] at he hr; exact ⟨A, c, he, hr, hb⟩
  · rw [h] at h'; cases h'
theorem parts_no (p : ByteArray) (hp : p.size < 4294967281) (w : World) (hE : Env w) (h : isPath p.data.toList = false) :
    Calls Tryd.prog 35 #[.string p] w fun e w' => e = .returned (.tuple #[.slice none 0 0, .int .i64 10]) ∧ Below w.heap.size w w' := by
  refine (parts_any p hp w hE).mono ?_
  rintro e w' ⟨hb, ⟨h', _⟩ | ⟨_, he⟩⟩
  · rw [h] at h'; cases h'
  · exact ⟨he, hb⟩
theorem parts_cons (p : ByteArray) (hp : p.size < 4294967281) (w : World) (hE : Env w) (h : isPath p.data.toList = true) {k : Nat} (hk : (cut p.data.toList).length = k + 1) :
    Calls Tryd.prog 35 #[.string p] w fun e w' => ∃ g c, e = .returned (.tuple #[.slice (some ⟨g, 0, none⟩) (k + 1) c, .int .i64 0]) ∧ w'.cell? ⟨g, k, none⟩ = some (.string (mk (lastOf p.data.toList))) ∧ Below w.heap.size w w' := by
  refine (parts_yes p hp w hE h hk).mono ?_
  rintro e w' ⟨A, c, rfl, hr, hb⟩
  obtain ⟨g, cap, hv, _, _⟩ := hr.form (by omega)
  have hA : A = some ⟨g, 0, none⟩ ∧ c = cap := by injection hv with h1 h2 h3; exact ⟨h1, h3⟩
  obtain ⟨rfl, rfl⟩ := hA
  refine ⟨g, c, rfl, ?_, hb⟩
  have hx : (strs (cut p.data.toList))[k]? = some (.string (mk (lastOf p.data.toList))) := by
    have hc : cut p.data.toList ≠ [] := fun e => by rw [e] at hk; simp at hk
    have : (cut p.data.toList)[k]? = some (lastOf p.data.toList) := by
      unfold lastOf
      rw [List.getLastD_eq_getLast?, List.getLast?_eq_some_getLast hc, List.getLast_eq_getElem]
      simp [hk]
    simp [strs, this]
  have := hr.cells (g := g) rfl k _ hx
  have ha : (⟨g, 0, none⟩ : Addr).add k = ⟨g, k, none⟩ := by unfold Addr.add; split <;> simp_all
  rw [ha] at this
  exact this

set_option maxHeartbeats 1000000 in
theorem join_any (d n : ByteArray) (hd : d.size < 4294967281) (hn : n.size ≤ 4294967281) (w : World) (hE : Env w) :
    Calls Tryd.prog 36 #[.string d, .string n] w fun e w' => e = .returned (.tuple #[.string (mk (joinS d.data.toList n.data.toList).1), .int .i64 (joinS d.data.toList n.data.toList).2]) ∧ Below w.heap.size w w' := by
  cases hp : isPath d.data.toList
  · have c1 := parts_no d hd w hE hp
    have hj : joinS d.data.toList n.data.toList = ([], 10) := by unfold joinS; rw [if_pos hp]
    rw [hj]
    clear hj hp
    go_enter Tryd.func36, Tryd.ntmps36
    go_wp2_with (go_at_call 35; refine c1.mono ?_; rintro e w1 ⟨rfl, hb1⟩)
    go_ret2
    exact ⟨rfl, hb1⟩
  · obtain ⟨k, hk⟩ : ∃ k, (cut d.data.toList).length = k := ⟨_, rfl⟩
    have c1 := parts_yes d hd w hE hp hk
    have c2 := fun (W : World) (hb : Below w.heap.size w W) => Valid_any n (by unfold maxLen; omega) W (hE.below hb)
    have c3 := fun W => under_any d n W (by omega)
    have hk8 : k ≤ 8 := by have := isPath_len hp; omega
    cases hv : vld n.data.toList
    · rw [hv] at c2
      have hj : joinS d.data.toList n.data.toList = ([], 11) := by unfold joinS; rw [if_neg (by rw [hp]; simp), if_pos hv]
      rw [hj]
      have C2 := Lib.hid c2
      have C1 := Lib.hid c1
      clear hj hp hv hk c2 c3 c1
      go_enter Tryd.func36, Tryd.ntmps36
      go_wp2_with (first | (go_at_call 35; refine C1.out.mono ?_; rintro e w1 ⟨A, c, rfl, hrow, hb1⟩) | (go_at_call 13; refine (C2.out _ hb1).mono ?_; rintro e w2 ⟨rfl, hb2⟩))
      go_ret2
      exact ⟨rfl, hb1.trans (hb2.mono hb1.size)⟩
    · rw [hv] at c2
      have C1 := Lib.hid c1
      have C2 := Lib.hid c2
      have C3 := Lib.hid c3
      by_cases h8 : k = 8
      · have hj : joinS d.data.toList n.data.toList = ([], 2) := by unfold joinS; rw [if_neg (by rw [hp]; simp), if_neg (by rw [hv]; simp), if_pos (by omega)]
        rw [hj]
        have h8b : ((k : Int) == 8) = true := by rw [h8]; rfl
        clear hj hp hv hk c2 c3 h8 c1
        go_enter Tryd.func36, Tryd.ntmps36
        go_wp2_with (first | (go_at_call 35; refine C1.out.mono ?_; rintro e w1 ⟨A, c, rfl, hrow, hb1⟩) | (go_at_call 13; refine (C2.out _ hb1).mono ?_; rintro e w2 ⟨rfl, hb2⟩))
        go_ret2
        exact ⟨rfl, hb1.trans (hb2.mono hb1.size)⟩
      · have hj : joinS d.data.toList n.data.toList = (under d.data.toList n.data.toList, 0) := by unfold joinS; rw [if_neg (by rw [hp]; simp), if_neg (by rw [hv]; simp), if_neg (by omega)]
        rw [hj]
        have h8b : ((k : Int) == 8) = false := by rw [beq_eq_false_iff_ne]; omega
        clear hj hp hv hk c2 c3 h8 c1
        go_enter Tryd.func36, Tryd.ntmps36
        go_wp2_with (first | (go_at_call 35; refine C1.out.mono ?_; rintro e w1 ⟨A, c, rfl, hrow, hb1⟩) | (go_at_call 13; refine (C2.out _ hb1).mono ?_; rintro e w2 ⟨rfl, hb2⟩) | (go_at_call 46; refine (C3.out _).mono ?_; rintro e w3 ⟨rfl, rfl⟩))
        go_ret2
        exact ⟨rfl, hb1.trans (hb2.mono hb1.size)⟩

theorem trimSuffix_any (s p : ByteArray) (hs : s.size ≤ 9223372036854775807) (w : World) :
    Calls Tryd.prog 47 #[.string s, .string p] w fun e w' => e = .returned (.string (mk (Lib.trimSuffix s.data.toList p.data.toList))) ∧ w = w' :=
  (Tryd.strings_TrimSuffix s p w hs).mono fun _ _ ⟨h1, h2⟩ => ⟨h1, h2.symm⟩

theorem last_len {p : Bs} (hp : p ≠ []) : (lastOf p).length ≤ p.length := by
  rcases split_form hp with ⟨_, _, hl⟩ | ⟨l, _, _, _, hpe⟩
  · rw [hl]; exact Nat.le_refl _
  · have := congrArg List.length hpe; rw [List.length_append, List.length_cons] at this; omega

set_option maxHeartbeats 1000000 in
theorem split_any (p : ByteArray) (hs : p.size < 4294967281) (w : World) (hE : Env w) :
    Calls Tryd.prog 37 #[.string p] w fun e w' => e = .returned (.tuple #[.string (mk (splitS p.data.toList).1), .string (mk (splitS p.data.toList).2.1), .int .i64 (splitS p.data.toList).2.2]) ∧ Below w.heap.size w w' := by
  cases hp : isPath p.data.toList
  · have c1 := parts_no p hs w hE hp
    have hj : splitS p.data.toList = ([], [], 10) := by unfold splitS; rw [if_pos hp]
    rw [hj]
    clear hj hp
    go_enter Tryd.func37, Tryd.ntmps37
    go_wp2_with (go_at_call 35; refine c1.mono ?_; rintro e w1 ⟨rfl, hb1⟩)
    go_ret3
    exact ⟨rfl, hb1⟩
  · by_cases hn : p.data.toList = []
    · have c1 := parts_yes p hs w hE hp (k := 0) (by rw [hn]; rfl)
      have hj : splitS p.data.toList = ([], [], 1) := by unfold splitS; rw [if_neg (by rw [hp]; simp), if_pos hn]
      rw [hj]
      have C1 := Lib.hid c1
      clear hj hp hn c1
      go_enter Tryd.func37, Tryd.ntmps37
      go_wp2_with (go_at_call 35; refine C1.out.mono ?_; rintro e w1 ⟨A, c, rfl, hrow, hb1⟩)
      go_ret3
      exact ⟨rfl, hb1⟩
    · obtain ⟨k, hk⟩ : ∃ k, (cut p.data.toList).length = k + 1 := by
        have : (cut p.data.toList).length ≠ 0 := fun e => hn (cut_eq_nil.1 (List.eq_nil_of_length_eq_zero e))
        exact ⟨(cut p.data.toList).length - 1, by omega⟩
      have hk8 : k ≤ 7 := by have := isPath_len hp; omega
      have c1 := parts_cons p hs w hE hp hk
      have hj : splitS p.data.toList = (dirOf p.data.toList, lastOf p.data.toList, 0) := by unfold splitS; rw [if_neg (by rw [hp]; simp), if_neg hn]
      rw [hj]
      have htr := trim_dir hn hp
      have hll := last_len hn
      obtain ⟨a, ha⟩ : ∃ a, mk (lastOf p.data.toList) = a := ⟨_, rfl⟩
      have ha' : lastOf p.data.toList = a.data.toList := by rw [← ha, mk_data]
      rw [ha] at c1 ⊢
      rw [ha', ← Lib.size_eq, ← Lib.size_eq] at htr
      rw [ha', ← Lib.size_eq, ← Lib.size_eq] at hll
      have c2 := fun W => trimSuffix_any (p.extract 0 (p.size - a.size)) ⟨#[47]⟩ (by rw [ByteArray.size_extract]; omega) W
      rw [Lib.extract_data, List.drop_zero, Nat.sub_zero, show (⟨#[47]⟩ : ByteArray).data.toList = [47] from rfl, htr] at c2
      have C1 := Lib.hid c1
      have C2 := Lib.hid c2
      clear hj hp hn c1 c2 htr hk ha ha'
      go_enter Tryd.func37, Tryd.ntmps37
      go_wp2_with (first | (go_at_call 35; refine C1.out.mono ?_; rintro e w1 ⟨g, c, rfl, hcell, hb1⟩) | (go_at_call 47; refine (C2.out _).mono ?_; rintro e w3 ⟨rfl, rfl⟩))
      go_ret3
      exact ⟨rfl, hb1⟩

set_option maxHeartbeats 1000000 in
theorem parse_any (s : ByteArray) (hs : s.size < 4294967281) (w : World) (hE : Env w) :
    Calls Tryd.prog 38 #[.string s] w fun e w' => e = .returned (.tuple #[.string (mk (parseS s.data.toList).1), .int .i64 (parseS s.data.toList).2]) ∧ Below w.heap.size w w' := by
  have c1 := cutPrefix_any s ⟨#[47]⟩ w
  rw [show (⟨#[47]⟩ : ByteArray).data.toList = [47] from rfl] at c1
  unfold parseS
  cases hp : Lib.hasPrefix s.data.toList [47]
  · rw [hp] at c1
    rw [if_neg (by rintro ⟨h, _⟩; cases h)]
    clear hp
    go_enter Tryd.func38, Tryd.ntmps38
    go_wp2_with (go_at_call 39; refine c1.mono ?_; rintro e w1 ⟨rfl, rfl⟩)
    go_ret2
    exact ⟨rfl, Below.refl _ _⟩
  · have ht : Lib.trimPrefix s.data.toList [47] = s.data.toList.drop 1 := by unfold Lib.trimPrefix; rw [if_pos hp]; rfl
    rw [hp, ht] at c1
    obtain ⟨q, hq⟩ : ∃ q, mk (s.data.toList.drop 1) = q := ⟨_, rfl⟩
    have hq' : s.data.toList.drop 1 = q.data.toList := by rw [← hq, mk_data]
    have hqs : q.size ≤ s.size := by rw [Lib.size_eq, ← hq', Lib.size_eq, List.length_drop]; omega
    rw [hq] at c1
    rw [hq']
    clear hp ht hq hq'
    cases hi : isPath q.data.toList
    · have c2 := parts_no q (by omega) w hE hi
      rw [if_neg (by rintro ⟨_, h⟩; cases h)]
      clear hi
      go_enter Tryd.func38, Tryd.ntmps38
      go_wp2_with (first | (go_at_call 39; refine c1.mono ?_; rintro e w1 ⟨rfl, rfl⟩) | (go_at_call 35; refine c2.mono ?_; rintro e w2 ⟨rfl, hb2⟩))
      go_ret2
      exact ⟨rfl, hb2⟩
    · have c2 := parts_yes q (by omega) w hE hi rfl
      rw [if_pos ⟨rfl, rfl⟩]
      have C2 := Lib.hid c2
      clear hi c2
      go_enter Tryd.func38, Tryd.ntmps38
      go_wp2_with (first | (go_at_call 39; refine c1.mono ?_; rintro e w1 ⟨rfl, rfl⟩) | (go_at_call 35; refine C2.out.mono ?_; rintro e w2 ⟨A, c, rfl, hrow, hb2⟩))
      go_ret2
      exact ⟨by simp, hb2⟩
end Go.Proofs.YtimlfdlocjfgaaaDoor
