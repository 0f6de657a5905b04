/-
  Walks: comparing lists (the program's Same, the reference's Same), the program's own entries, the library's Clone.
-/
import Derived.Test.YtkpedfigaofloaaAc
namespace Go.Proofs.Ytkpedfigaofloaa
open Go.RowKit Ap
set_option maxHeartbeats 400000

theorem same_any (A A' : Option Addr) (n n' c c' : Nat) (l l' : List Ac) (hn : l.length = n) (hn' : l'.length = n') (hl : n ≤ 1000) (hl' : n' ≤ 1000) (w : World) (hA : Aces w A l) (hA' : Aces w A' l') :
    Calls Try.prog 19 #[.slice A n c, .slice A' n' c'] w fun e w' => e = .returned (.bool (decide (l = l'))) ∧ Below w.heap.size w w' := by
  have C := Lib.hid (equal_any A A' n n' c c' l l' hn hn' hl hl' w hA hA')
  clear hn hn' hA hA'
  go_enter Try.func19, Try.ntmps19
  go_wp2_with (go_at_call 38; refine C.out.mono ?_; rintro e w1 ⟨rfl, hb1⟩)
  go_ret
  exact ⟨rfl, hb1⟩

set_option maxHeartbeats 1000000 in
theorem rsame_any (A A' : Option Addr) (n n' c c' : Nat) (l l' : List Ac) (hn : l.length = n) (hn' : l'.length = n') (hl : n ≤ 1000) (hl' : n' ≤ 1000) (w : World) (hA : Aces w A l) (hA' : Aces w A' l') :
    Calls Try.prog 20 #[.slice A n c, .slice A' n' c'] w fun e w' => e = .returned (.bool (decide (l = l'))) ∧ Below w.heap.size w w' := by
  by_cases hnn : n = n'
  · subst hnn
    have HN := Lib.hid hn
    have HN' := Lib.hid hn'
    have SA := Lib.hid hA
    have SA' := Lib.hid hA'
    clear hn hn' hA hA'
    go_enter Try.func20, Try.ntmps20
    go_wp2
    go_loopw [5] (fun i wr => ∃ k : Nat, k ≤ n ∧ i = .int .i64 k ∧ l.take k = l'.take k ∧ Below w.heap.size w wr) (fun i _ => n - (intOf i).toNat)
    case atStart => exact ⟨0, Nat.zero_le _, rfl, rfl, Below.refl _ _⟩
    case round =>
      obtain ⟨k, hk, rfl, hlk, hbw⟩ := hrel
      have HLK := Lib.hid hlk
      clear hlk
      by_cases hlt : k < n
      · have hkl : k < l.length := by rw [HN.out]; exact hlt
        have hkl' : k < l'.length := by rw [HN'.out]; exact hlt
        obtain ⟨g, o, rfl, hg, hc⟩ := (SA.out.below hbw) (List.ne_nil_of_length_pos (by omega))
        obtain ⟨g', o', rfl, hg', hc'⟩ := (SA'.out.below hbw) (List.ne_nil_of_length_pos (by omega))
        obtain ⟨c0, c1, c2, c3, c4⟩ := hc k l[k] (List.getElem?_eq_getElem hkl)
        obtain ⟨d0, d1, d2, d3, d4⟩ := hc' k l'[k] (List.getElem?_eq_getElem hkl')
        have hst := take_next hkl hkl'
        obtain ⟨x, hx⟩ : ∃ a, l[k] = a := ⟨_, rfl⟩
        obtain ⟨y, hy⟩ : ∃ a, l'[k] = a := ⟨_, rfl⟩
        rw [hx] at c0 c1 c2 c3 c4
        rw [hy] at d0 d1 d2 d3 d4
        rw [hx, hy] at hst
        have HST := Lib.hid hst
        have hne := neqAce x y
        unfold av at hne
        have gA := guardAce
        have k0 : (0 : Int) ≤ (k : Int) := by omega
        have kn : (k : Int) < (n : Int) := by omega
        clear hc hc' hx hy hst SA SA'
        by_cases hxy : x = y
        · have e1 : decide (x = y) = true := decide_eq_true hxy
          have HXY := Lib.hid hxy
          clear hxy
          rw [e1] at hne
          clear e1
          go_wp2
          go_quiet (fail)
          go_wp2
          go_roundw
          case rel => exact ⟨k + 1, by omega, by go_num, HST.out.2 ⟨HLK.out, HXY.out⟩, ⟨hbw.os, hbw.tape, hbw.output, hbw.size, hbw.block⟩⟩
          case measure => simp [intOf]; omega
        · have e1 : decide (x = y) = false := decide_eq_false hxy
          have HXY := Lib.hid hxy
          clear hxy
          rw [e1] at hne
          clear e1
          go_wp2
          go_quiet (fail)
          go_wp2
          go_ret
          refine ⟨ret_bool (decide_eq_false fun e => ?_).symm, ⟨hbw.os, hbw.tape, hbw.output, hbw.size, hbw.block⟩⟩
          exact HXY.out (HST.out.1 (by rw [e])).2
      · obtain rfl : k = n := by omega
        go_wp2
        go_ret
        refine ⟨ret_bool (decide_eq_true ?_).symm, hbw⟩
        have := HLK.out
        rwa [List.take_of_length_le (by rw [HN.out]; exact Nat.le_refl _), List.take_of_length_le (by rw [HN'.out]; exact Nat.le_refl _)] at this
  · have e1 : ((n : Int) != (n' : Int)) = true := by simp; omega
    have HV := Lib.hid (show decide (l = l') = false from decide_eq_false fun e => hnn (by rw [← hn, ← hn', e]))
    clear hn hn' hnn hA hA'
    go_enter Try.func20, Try.ntmps20
    go_wp2
    go_ret
    exact ⟨ret_bool HV.out.symm, Below.refl _ _⟩

theorem cells_new2 (w : World) (o : Obj) (cs : Array Value) (t : TypeId) : ∀ j u, cs.toList[j]? = some u → ((w.alloc o).alloc (.cells cs t)).cell? ((⟨w.heap.size + 1, 0, none⟩ : Addr).add j) = some u := fun j u hu => by
  have := cells_new (w.alloc o) cs t j u hu
  simpa using this
set_option maxHeartbeats 1000000 in
theorem ownOf_any (A : Option Addr) (n c : Nat) (l : List Ac) (hn : l.length = n) (hl : n ≤ 1000) (w : World) (hA : Aces w A l) :
    Calls Try.prog 39 #[.slice A n c] w fun e w' => ∃ A' m c', e = .returned (.slice A' m c') ∧ w'.ownsRow w.heap.size 31 5 (.slice A' m c') m (encs (ownL l false)) ∧ Below w.heap.size w w' := by
  obtain ⟨i0, hi, hz0, hz1, hz2⟩ := info_parts info_ace
  have HN := Lib.hid hn
  have SA := Lib.hid hA
  clear hn hA
  go_enter Try.func39, Try.ntmps39
  go_wp2
  go_loopw [3, 5, 8] (fun o _ i wr => ∃ (k m : Nat) (A' : Option Addr) (c' : Nat), k ≤ n ∧ i = .int .i64 k ∧ o = .slice A' m c' ∧ m ≤ k ∧ wr.ownsRow w.heap.size 31 5 (.slice A' m c') m (encs (ownL (l.take k) false)) ∧ Below w.heap.size w wr) (fun _ _ i _ => n - (intOf i).toNat)
  case atStart => exact ⟨0, 0, none, 0, Nat.zero_le _, rfl, rfl, Nat.le_refl _, World.ownsRow_nil _ _ _ _, Below.refl _ _⟩
  case round =>
    obtain ⟨k, m, A', c', hk, rfl, rfl, hm, hown, hbw⟩ := hrel
    have hbs := hbw.size
    by_cases hlt : k < n
    · have hkl : k < l.length := by rw [HN.out]; exact hlt
      obtain ⟨g, o, rfl, hg, hc⟩ := (SA.out.below hbw) (List.ne_nil_of_length_pos (by omega))
      obtain ⟨c0, c1, c2, c3, c4⟩ := hc k l[k] (List.getElem?_eq_getElem hkl)
      have hts : ownL (l.take (k + 1)) false = if l[k].given = false then ownL (l.take k) false ++ [l[k]] else ownL (l.take k) false := by
        rw [List.take_succ_eq_append_getElem hkl, ownL_snoc]
      obtain ⟨⟨aw, al, ri, re, ag⟩, ha⟩ : ∃ a, l[k] = a := ⟨_, rfl⟩
      rw [ha] at c0 c1 c2 c3 c4 hts
      dsimp only at c0 c1 c2 c3 c4 hts
      clear hc ha SA
      cases ag
      · rw [if_pos rfl] at hts
        have HT := Lib.hid hts
        clear hts
        go_wp2_with (at_builtin; refine wpList_append_own _ rfl _ _ 22 rfl w.heap.size 31 i0 _ 5 40 Try.underlying22 hi hz0 hz1 hz2 rfl (by decide) _ _ _ rfl ((hown.alloc _).alloc _) ⟨wr.heap.size + 1, 0, none⟩ 1 1 (enc ⟨aw, al, ri, re, false⟩) rfl rfl (cells_new2 wr _ _ _) (enc_one _) (by unfold maxLen; omega) (by omega) (by simp; omega) ?_; intro v' w1 hown' hgrow _; obtain ⟨g', cap', rfl⟩ := ownsRow_succ hown')
        have hb2 : Below w.heap.size w w1 := ((hbw.alloc hbs _).alloc (by simp; omega) _).grown hgrow (by simp; omega) (fun j hj => (hown.lt j hj).1)
        go_roundw
        case rel => exact ⟨k + 1, m + 1, some ⟨g', 0, none⟩, cap', by omega, by go_num, rfl, by omega, by rw [HT.out, encs_append, encs_one]; exact hown', hb2⟩
        case measure => simp [intOf]; omega
      · rw [if_neg (by simp)] at hts
        have HT := Lib.hid hts
        clear hts
        go_wp2
        go_roundw
        case rel => exact ⟨k + 1, m, A', c', by omega, by go_num, rfl, by omega, by rw [HT.out]; exact hown.alloc _, hbw.alloc hbs _⟩
        case measure => simp [intOf]; omega
    · obtain rfl : k = n := by omega
      have HK := Lib.hid (show l.take k = l from List.take_of_length_le (by rw [HN.out]; exact Nat.le_refl _))
      go_wp2
      go_ret
      exact ⟨A', m, c', rfl, by rw [← HK.out]; exact hown, hbw⟩

/-- The cells of a list, one after the other. -/
theorem Aces.cells {w : World} {g o : Nat} {l : List Ac} (h : ∀ (j : Nat) (a : Ac), l[j]? = some a → At w g (o + j * 5) a) : ∀ j u, (encs l)[j]? = some u → w.cell? ((⟨g, o, none⟩ : Addr).add j) = some u := fun j u hu => by
  have hjl : j < l.length * 5 := by rw [← encs_length]; exact (List.getElem?_eq_some_iff.1 hu).1
  have hq : j / 5 < l.length := by omega
  have hr : j % 5 < 5 := Nat.mod_lt _ (by omega)
  have he := encs_get l (j / 5) (j % 5) l[j / 5] hr (List.getElem?_eq_getElem hq)
  rw [show j / 5 * 5 + j % 5 = j by omega, hu] at he
  obtain ⟨c0, c1, c2, c3, c4⟩ := h (j / 5) l[j / 5] (List.getElem?_eq_getElem hq)
  have hadd : (⟨g, o, none⟩ : Addr).add j = ⟨g, o + j / 5 * 5 + j % 5, none⟩ := by
    have : o + j = o + j / 5 * 5 + j % 5 := by omega
    unfold Addr.add
    split <;> simp_all
  rw [hadd]
  generalize j % 5 = r at he hr
  match r, hr with
  | 0, _ => rw [he]; exact c0
  | 1, _ => rw [he]; exact c1
  | 2, _ => rw [he]; exact c2
  | 3, _ => rw [he]; exact c3
  | 4, _ => rw [he]; exact c4
theorem encs_one' (l : List Ac) : ∀ u ∈ encs l, u.oneCell' = true := by
  intro u hu
  obtain ⟨a, _, ha⟩ := List.mem_flatMap.1 hu
  exact enc_one a u ha

theorem clone_any (A : Option Addr) (n c : Nat) (l : List Ac) (hn : l.length = n) (hl : n ≤ 1000) (hs : A = none → n = 0 ∧ c = 0) (w : World) (hA : Aces w A l) :
    Calls Try.prog 40 #[.slice A n c] w fun e w' => ∃ A' c', e = .returned (.slice A' n c') ∧ w'.ownsRow w.heap.size 31 5 (.slice A' n c') n (encs l) ∧ Below w.heap.size w w' := by
  obtain ⟨i0, hi, hz0, hz1, hz2⟩ := info_parts info_ace
  cases A with
  | none =>
    obtain ⟨rfl, rfl⟩ := hs rfl
    have HL := Lib.hid (List.length_eq_zero_iff.1 hn)
    have e1 := fun W : World => Lib.run_eql_slice_nil (P := Try.prog) W 22 31 none 0 0 0 0 Try.underlying22
    clear hn hA hs
    go_enter Try.func40, Try.ntmps40
    go_wp2
    go_ret
    exact ⟨none, 0, rfl, by rw [HL.out]; exact World.ownsRow_nil _ _ _ _, Below.refl _ _⟩
  | some ad =>
    have hnews : ∀ j u, (encs l)[j]? = some u → w.cell? (ad.add j) = some u := by
      by_cases hn0 : l = []
      · subst hn0; intro j u hu; cases hu
      · obtain ⟨g, o, hAe, _, hc⟩ := hA hn0
        obtain rfl : ad = ⟨g, o, none⟩ := by injection hAe
        exact Aces.cells hc
    have hlen : (encs l).length = n * 5 := by rw [encs_length, hn]
    have HNEWS := Lib.hid hnews
    have HLEN := Lib.hid hlen
    have e1 := fun W : World => Lib.run_eql_slice_nil (P := Try.prog) W 22 31 (some ad) n c 0 0 Try.underlying22
    clear hn hA hs hnews hlen
    go_enter Try.func40, Try.ntmps40
    go_wp2_with (at_builtin; refine wpList_append_own _ rfl _ _ 22 rfl w.heap.size 31 i0 _ 5 40 Try.underlying22 hi hz0 hz1 hz2 rfl (by decide) _ _ _ rfl (own_empty w _ 5) ad n c (encs l) rfl HLEN.out (fun j u hu => alloc_keep (HNEWS.out j u hu)) (encs_one' l) (by unfold maxLen; omega) (by omega) (by simp) ?_; intro v' w1 hown' hgrow _; rw [Nat.zero_add, List.nil_append] at hown'; obtain ⟨A', c', rfl⟩ := own_form hown')
    have hb2 : Below w.heap.size w w1 := ((Below.refl _ w).alloc (Nat.le_refl _) _).grown hgrow (by simp) (fun j hj => by cases hj; exact Nat.le_refl _)
    go_ret
    exact ⟨A', c', rfl, hown', hb2⟩
end Go.Proofs.Ytkpedfigaofloaa
