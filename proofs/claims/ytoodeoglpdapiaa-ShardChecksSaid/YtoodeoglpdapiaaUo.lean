/-
  Walks of bytes.Equal, slices.EqualFunc and the program's Check.
-/
import Derived.Test.YtoodeoglpdapiaaUn
import Derived.Test.YtoodeoglpdapiaaSt
namespace Go.Proofs.Ytoodeoglpdapiaa
open Go.RowKit Gf
set_option maxHeartbeats 400000

theorem Equal_any (A A2 : Option Addr) (n c n2 c2 : Nat) (l l2 : List UInt8) (hn : l.length = n) (hn2 : l2.length = n2) (w : World) (hA : Byts w A l) (hA2 : Byts w A2 l2) :
    Calls Try.prog 37 #[.slice A n c, .slice A2 n2 c2] w fun e w' => e = .returned (.bool (decide (l = l2))) ∧ w' = w := by
  have s1 := str_any hA n c hn
  have s2 := str_any hA2 n2 c2 hn2
  have hb := tx_beq l l2
  clear hA hA2 hn hn2
  by_cases h : l = l2
  · have hd : decide (l = l2) = true := by simp [h]
    rw [hd] at hb ⊢
    clear h hd
    go_enter Try.func37, Try.ntmps37
    go_wp2
    go_ret
    exact ⟨rfl, rfl⟩
  · have hd : decide (l = l2) = false := by simp [h]
    rw [hd] at hb ⊢
    clear h hd
    go_enter Try.func37, Try.ntmps37
    go_wp2
    go_ret
    exact ⟨rfl, rfl⟩

set_option maxHeartbeats 1000000 in
theorem EqualFunc_any (A A2 : Option Addr) (n c c2 : Nat) (ls ls2 : List (List UInt8)) (hn : ls.length = n) (hn2 : ls2.length = n) (hl : n ≤ 1000) (w : World) (hA : Lists w A ls) (hA2 : Lists w A2 ls2) :
    Calls Try.prog 36 #[.slice A n c, .slice A2 n c2, .func (.func 37) #[] #[]] w fun e w' => e = .returned (.bool (decide (ls = ls2))) ∧ w' = w := by
  have HN := Lib.hid hn
  have HN2 := Lib.hid hn2
  have SA := Lib.hid hA
  have SB := Lib.hid hA2
  clear hn hn2 hA hA2
  go_enter Try.func36, Try.ntmps36
  go_wp2
  go_loopw [17] (fun i wr => ∃ q : Nat, q ≤ n ∧ i = .int .i64 q ∧ ls.take q = ls2.take q ∧ wr = w) (fun i _ => n - (intOf i).toNat)
  case atStart => exact ⟨0, Nat.zero_le _, rfl, rfl, rfl⟩
  case round =>
    obtain ⟨q, hq, rfl, heq, rfl⟩ := hrel
    by_cases hlt : q < n
    · have qn : (q : Int) < (n : Int) := by omega
      have q0 : (0 : Int) ≤ (q : Int) := by omega
      have hql : q < ls.length := by rw [HN.out]; exact hlt
      have hql2 : q < ls2.length := by rw [HN2.out]; exact hlt
      obtain ⟨g, o, rfl, hg, hc⟩ := SA.out (List.ne_nil_of_length_pos (by omega))
      obtain ⟨B, cb, q1, _, _, _, q5⟩ := hc q ls[q] (List.getElem?_eq_getElem hql)
      obtain ⟨g2, o2, rfl, hg2, hc2⟩ := SB.out (List.ne_nil_of_length_pos (by omega))
      obtain ⟨B2, cb2, q6, _, _, _, q7⟩ := hc2 q ls2[q] (List.getElem?_eq_getElem hql2)
      have HE := Lib.hid (Equal_any B B2 ls[q].length cb ls2[q].length cb2 ls[q] ls2[q] rfl rfl wr q5 q7)
      have HEQ := Lib.hid heq
      have hstep : ls.take (q + 1) = ls.take q ++ [ls[q]] := List.take_succ_eq_append_getElem hql
      have hstep2 : ls2.take (q + 1) = ls2.take q ++ [ls2[q]] := List.take_succ_eq_append_getElem hql2
      have hno : ls[q] ≠ ls2[q] → ls ≠ ls2 := fun h e => by subst e; exact h rfl
      obtain ⟨x, hx⟩ : ∃ x, ls[q] = x := ⟨_, rfl⟩
      obtain ⟨y, hy⟩ : ∃ y, ls2[q] = y := ⟨_, rfl⟩
      rw [hx] at q1 HE hstep hno
      rw [hy] at q6 HE hstep2 hno
      obtain ⟨nx, hnx⟩ : ∃ n, x.length = n := ⟨_, rfl⟩
      obtain ⟨ny, hny⟩ : ∃ n, y.length = n := ⟨_, rfl⟩
      rw [hnx] at q1 HE
      rw [hny] at q6 HE
      have HST := Lib.hid (And.intro hstep hstep2)
      have HNO := Lib.hid hno
      rename_i hgar1 hgar2 hgar3 hgar4 hgar5 hgar6
      clear hgar1 hgar2 hgar3 hgar4 hgar5 hgar6 hc hc2 q5 q7 hx hy hnx hny heq hstep hstep2 hno
      by_cases hxy : x = y
      · have hd : decide (x = y) = true := by simp [hxy]
        rw [hd] at HE
        have HXY := Lib.hid hxy
        clear hxy hd
        go_wp2_with (go_at_call 37; with_reducible refine HE.out.mono ?_; rintro e w2 ⟨rfl, rfl⟩)
        go_roundw
        case rel => exact ⟨q + 1, by omega, by go_num, by rw [HST.out.1, HST.out.2, HEQ.out, HXY.out], trivial⟩
        case measure => simp [intOf]; omega
      · have hd : decide (x = y) = false := by simp [hxy]
        rw [hd] at HE
        have HXY := Lib.hid hxy
        clear hxy hd
        go_wp2_with (go_at_call 37; with_reducible refine HE.out.mono ?_; rintro e w2 ⟨rfl, rfl⟩)
        go_ret
        exact ⟨ret_bool (by simp [HNO.out HXY.out]), rfl⟩
    · obtain rfl : q = n := by omega
      have HEQ := Lib.hid (show ls = ls2 by rw [List.take_of_length_le (by rw [HN.out]; exact Nat.le_refl _), List.take_of_length_le (by rw [HN2.out]; exact Nat.le_refl _)] at heq; exact heq)
      clear heq
      go_wp2
      go_ret
      exact ⟨ret_bool (by simp [HEQ.out]), rfl⟩

/-- Shards belong together just if they are the shards of the first k of them, one after the other. -/
theorem chkL_eq {ls : List (List UInt8)} {k n : Nat} (hn : ls.length = n) (hk1 : 1 ≤ k) (hkn : k ≤ n) (hn12 : n ≤ 12) : chkL ls k = decide (ls = encL (catTo ls k) k n) := by
  by_cases h : ls = encL (catTo ls k) k n
  · rw [decide_eq_true h, h]
    exact chkL_enc hk1 hkn (by omega)
  · rw [decide_eq_false h]
    cases hc : chkL ls k
    · rfl
    · exfalso
      apply h
      unfold chkL at hc
      rw [Bool.and_eq_true] at hc
      obtain ⟨L, hL⟩ : ∃ L, (ls[0]?.getD []).length = L := ⟨_, rfl⟩
      have hlen : ∀ r ∈ ls, r.length = L := fun r hr => by
        have := List.all_eq_true.1 hc.1 r hr
        unfold lenOk at this
        rw [hL] at this
        simpa using this
      have hrow : ∀ i, i < n → shardL (ls.take k) (firstL k) (UInt8.ofNat i) = ls[i]?.getD [] := fun i hi => by
        have := List.all_eq_true.1 hc.2 i (List.mem_range.2 (by omega))
        unfold rowOk at this
        simpa using this
      -- the first k of them, one after the other, have k * L bytes
      have hcat : ∀ j, j ≤ k → (catTo ls j).length = j * L ∧ ∀ i t, i < j → t < L → (catTo ls j)[i * L + t]? = (ls[i]?.getD [])[t]? := by
        intro j
        induction j with
        | zero => intro _; exact ⟨by simp [catTo], fun i t hi => absurd hi (Nat.not_lt_zero _)⟩
        | succ j ih =>
          intro hj
          obtain ⟨h1, h2⟩ := ih (by omega)
          have hjl : j < ls.length := by omega
          have hjL := hlen _ (List.getElem_mem hjl)
          rw [catTo_succ hjl, List.length_append, h1, hjL, Nat.succ_mul]
          refine ⟨rfl, fun i t hi ht => ?_⟩
          by_cases hij : i < j
          · have h3 : i * L + L ≤ j * L := by rw [← Nat.succ_mul]; exact Nat.mul_le_mul_right _ hij
            rw [List.getElem?_append_left (by omega)]
            exact h2 i t hij ht
          · obtain rfl : i = j := by omega
            rw [List.getElem?_append_right (by omega), h1, Nat.add_sub_cancel_left, List.getElem?_eq_getElem hjl]
            rfl
      obtain ⟨hcl, hcg⟩ := hcat k (Nat.le_refl _)
      have hlong : longN (catTo ls k).length k = L := by
        unfold longN
        rw [hcl, if_pos (Nat.mul_mod_right _ _), Nat.mul_div_cancel_left _ (by omega)]
      have hrows : ∀ i, i < k → encRow (catTo ls k) L i = ls[i]?.getD [] := fun i hi => by
        have hil : i < ls.length := by omega
        have hiL : (ls[i]?.getD []).length = L := by rw [List.getElem?_eq_getElem hil]; exact hlen _ (List.getElem_mem hil)
        apply List.ext_getElem?
        intro t
        by_cases ht : t < L
        · have h3 := hcg i t hi ht
          unfold encRow
          rw [List.getElem?_map, List.getElem?_range ht, Option.map_some, h3, List.getElem?_eq_getElem (by rw [hiL]; exact ht)]
          rfl
        · rw [List.getElem?_eq_none (by rw [encRow_len]; omega), List.getElem?_eq_none (by omega)]
      have htake : ls.take k = rowsK (catTo ls k) L k := by
        apply List.ext_getElem?
        intro i
        unfold rowsK
        rw [List.getElem?_take, List.getElem?_map]
        by_cases hi : i < k
        · rw [if_pos hi, List.getElem?_range hi, Option.map_some, hrows i hi, List.getElem?_eq_getElem (show i < ls.length by omega)]
          rfl
        · rw [if_neg hi, List.getElem?_eq_none (by rw [List.length_range]; omega)]
          rfl
      unfold encL
      rw [hlong]
      apply List.ext_getElem?
      intro i
      by_cases hi : i < n
      · rw [encTo_get hi, List.getElem?_eq_getElem (by omega)]
        congr 1
        have h4 := hrow i hi
        rw [List.getElem?_eq_getElem (show i < ls.length by omega)] at h4
        unfold encAt
        by_cases hik : i < k
        · rw [if_pos hik, hrows i hik, List.getElem?_eq_getElem (show i < ls.length by omega)]
          rfl
        · rw [if_neg hik, ← htake, h4]
          rfl
      · rw [List.getElem?_eq_none (by omega), List.getElem?_eq_none (by rw [encTo_len]; omega)]

theorem Check_parg (A : Option Addr) (n c : Nat) (k : Int) (h : properB n k = false) (w : World) :
    Calls Try.prog 19 #[.slice A n c, .int .i64 k] w fun e w' => e = .returned (.bool false) ∧ w' = w := by
  have hf := fun W => (fits_any k (n : Int) W).mono (fun _ _ (h : _ ∧ _) => And.intro h.1 h.2.symm)
  rw [fits_proper, h] at hf
  have HF := Lib.hid hf
  clear h hf
  go_enter Try.func19, Try.ntmps19
  go_wp2_with (go_at_call 34; with_reducible refine (HF.out _).mono ?_; rintro e w1 ⟨rfl, rfl⟩)
  go_ret
  exact ⟨rfl, rfl⟩

set_option maxHeartbeats 1000000 in
theorem Check_p (A : Option Addr) (n c : Nat) (ls : List (List UInt8)) (hn : ls.length = n) (hnc : n ≤ c) (hr : ∀ r ∈ ls, r.length ≤ 1000) (k : Nat) (hp : properB n k = true) (w : World) (hA : Lists w A ls) :
    Calls Try.prog 19 #[.slice A n c, .int .i64 k] w fun e w' => e = .returned (.bool (chkL ls k)) ∧ Below w.heap.size w w' := by
  obtain ⟨p1, p2, p3⟩ := properB_iff.1 hp
  have hf := fun W => (fits_any k (n : Int) W).mono (fun _ _ (h : _ ∧ _) => And.intro h.1 h.2.symm)
  rw [fits_proper, hp] at hf
  have HFI := Lib.hid hf
  have HCA := Lib.hid (Concat_any A k c (ls.take k) (by rw [List.length_take]; omega) (by omega) (fun r h => hr r (List.mem_of_mem_take h)) w (hA.take k))
  have hcat : catTo (ls.take k) k = catTo ls k := by unfold catTo; rw [List.take_take, Nat.min_self]
  rw [hcat] at HCA
  have hcl : (catTo ls k).length ≤ 100000 := by
    have h1 := catTo_len hr k
    have h2 : k * 1000 ≤ 12 * 1000 := Nat.mul_le_mul (by omega) (Nat.le_refl _)
    omega
  obtain ⟨b, hb⟩ : ∃ b, catTo ls k = b := ⟨_, rfl⟩
  rw [chkL_eq hn (by omega) (by omega) p1]
  rw [hb] at HCA hcl ⊢
  have HEN := Lib.hid (fun (A' : Option Addr) (m c' : Nat) (W : World) (ho : W.ownsRow w.heap.size 5 1 (.slice A' m c') m (bys b)) => Encode_pyes A' m c' b (by have := own_len ho; rwa [bys_length] at this) (by have := own_len ho; rw [bys_length] at this; omega) (own_cap ho).1 k n (by omega) (by omega) p1 W (Byts.of_own ho))
  have HEQ := Lib.hid (fun (A' : Option Addr) (c' base lo : Nat) (W : World) (hb : Below w.heap.size w W) (ho : OwnRows base lo W A' n c' (encL b k n)) => EqualFunc_any A A' n c c' ls (encL b k n) hn (encL_len b k n) (by omega) W (hA.below hb) ho.lists)
  have HD := Lib.hid (rfl : decide (ls = encL b k n) = decide (ls = encL b k n))
  obtain ⟨d, hd⟩ : ∃ d, decide (ls = encL b k n) = d := ⟨_, rfl⟩
  rw [hd] at HEQ ⊢
  have kc : (k : Int) ≤ (c : Int) := by omega
  have k0 : (0 : Int) ≤ (k : Int) := by omega
  clear hn hp hr hA hf hcat hb hcl hd HD
  go_enter Try.func19, Try.ntmps19
  go_wp2_with (first | (go_at_call 34; with_reducible refine (HFI.out _).mono ?_; rintro e w1 ⟨rfl, rfl⟩) | (go_at_call 35; with_reducible refine HCA.out.mono ?_; rintro e w2 ⟨A2, m2, c2, rfl, hown2, hb2⟩) | (go_at_call 27; with_reducible refine (HEN.out A2 m2 c2 w2 hown2).mono ?_; rintro e w3 ⟨A3, c3, rfl, hown3, hb3⟩; have hb23 := hb2.trans (hb3.mono hb2.size)) | (go_at_call 36; with_reducible refine (HEQ.out A3 c3 _ _ w3 hb23 hown3).mono ?_; rintro e w4 ⟨rfl, rfl⟩))
  go_ret
  exact ⟨rfl, hb23⟩
end Go.Proofs.Ytoodeoglpdapiaa
