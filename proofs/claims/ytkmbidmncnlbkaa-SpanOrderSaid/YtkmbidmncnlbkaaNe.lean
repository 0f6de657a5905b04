/-
  Walk of the reference's bounds: all bounds of two lists in increasing order, each once.
-/
import Derived.Test.YtkmbidmncnlbkaaNd
namespace Go.Proofs.Ytkmbidmncnlbkaa
open Go.RowKit Sn
set_option maxHeartbeats 400000
set_option maxRecDepth 100000

/-! ### A number is put into an increasing list -/
def putAt (xs : List Int) (j : Nat) (x : Int) : List Int := xs.take j ++ [x] ++ xs.drop j
theorem putAt_mem {xs : List Int} {j : Nat} {x y : Int} : y ∈ putAt xs j x ↔ y = x ∨ y ∈ xs := by
  unfold putAt
  simp only [List.mem_append, List.mem_singleton]
  constructor
  · rintro ((h | h) | h)
    · exact Or.inr (List.mem_of_mem_take h)
    · exact Or.inl h
    · exact Or.inr (List.mem_of_mem_drop h)
  · rintro (h | h)
    · exact Or.inl (Or.inr h)
    · have := h
      rw [← List.take_append_drop j xs, List.mem_append] at this
      rcases this with h | h
      · exact Or.inl (Or.inl h)
      · exact Or.inr h
theorem putAt_inc {xs : List Int} {j : Nat} {x : Int} (hx : Inc xs) (h1 : ∀ t, t < j → ∀ y, xs[t]? = some y → y < x) (h2 : ∀ t, j ≤ t → ∀ y, xs[t]? = some y → x < y) : Inc (putAt xs j x) := by
  have a1 : ∀ y ∈ xs.take j, y < x := fun y hy => by
    obtain ⟨t, ht, rfl⟩ := List.mem_iff_getElem.1 hy
    rw [List.length_take] at ht
    exact h1 t (by omega) _ (by rw [List.getElem_take, List.getElem?_eq_getElem (by omega)])
  have a2 : ∀ y ∈ xs.drop j, x < y := fun y hy => by
    obtain ⟨t, ht, rfl⟩ := List.mem_iff_getElem.1 hy
    rw [List.length_drop] at ht
    exact h2 (j + t) (by omega) _ (by rw [List.getElem_drop, List.getElem?_eq_getElem (by omega)])
  unfold putAt Inc
  rw [List.append_assoc, List.pairwise_append]
  refine ⟨List.Pairwise.take hx, ?_, ?_⟩
  · rw [List.singleton_append, List.pairwise_cons]
    exact ⟨a2, List.Pairwise.drop hx⟩
  · intro y hy z hz
    rw [List.singleton_append, List.mem_cons] at hz
    have := a1 y hy
    rcases hz with rfl | hz
    · exact this
    · have := a2 z hz; omega
theorem inc_get {xs : List Int} (hx : Inc xs) {i j : Nat} {y z : Int} (hij : i < j) (h1 : xs[i]? = some y) (h2 : xs[j]? = some z) : y < z := by
  obtain ⟨hi, rfl⟩ := List.getElem?_eq_some_iff.1 h1
  obtain ⟨hj, rfl⟩ := List.getElem?_eq_some_iff.1 h2
  exact List.pairwise_iff_getElem.1 hx i j hi hj hij

/-! ### Parts of a slice of numbers -/
theorem slice_to (A : Option Addr) (m c j : Nat) (hj : j ≤ c) (hA : A = none ∨ ∃ g o, A = some ⟨g, o, none⟩) (W : World) : (Instr.slice 53 (.slice A m c) none (some (.int .i64 (j : Int))) none).run Try.prog W = .ok (.slice A j c) W := by
  have h0 : (0 : Int) ≤ (j : Int) := by omega
  have h1 : (j : Int) ≤ (c : Int) := by omega
  rw [run_slice_h _ _ _ _ _ Try.underlying53 _ _ h0 h1]
  rcases hA with rfl | ⟨g, o, rfl⟩
  · simp [go_sem, sliced]
  · have hadd : (⟨g, o, none⟩ : Addr).add 0 = ⟨g, o, none⟩ := by unfold Addr.add; split <;> simp_all
    simp [go_sem, sliced]
theorem slice_from (A : Option Addr) (m c j : Nat) (h : j ≤ m) : ∃ SA, (∀ W, (Instr.slice 53 (.slice A m c) (some (.int .i64 (j : Int))) none none).run Try.prog W = .ok (.slice SA (m - j) (c - j)) W) ∧ (j < c → SA = A.map (·.add j)) := by
  refine ⟨if c = j then A else A.map (·.add j), fun W => ?_, fun h => by rw [if_neg (by omega)]⟩
  have h0 : (0 : Int) ≤ (j : Int) := by omega
  have h1 : (j : Int) ≤ (m : Int) := by omega
  rw [run_slice_l _ _ _ _ _ Try.underlying53 _ _ h0 h1]
  simp [go_sem, sliced]
section
variable {lo n c j : Nat} {w : World} {A SA : Option Addr} {xs : List Int}
theorem Si.take (h : Si lo w A n c 1 xs) (hj : j ≤ n) : Si lo w A j c 1 (xs.take j) :=
  ⟨by have := h.len; rw [List.length_take]; omega, by have := h.cap; omega, h.max, h.nil, fun hn => by
    obtain ⟨g, o, h1, h2, h3, h4⟩ := h.cells (fun e => hn (by rw [e]; simp))
    refine ⟨g, o, h1, h2, h3, fun t x hx => h4 t x ?_⟩
    rw [List.getElem?_take] at hx
    split at hx
    · exact hx
    · cases hx⟩
theorem Si.drop (h : Si lo w A n c 1 xs) (hj : j ≤ n) (hs : j < c → SA = A.map (·.add j)) : Si lo w SA (n - j) (c - j) 1 (xs.drop j) :=
  ⟨by have := h.len; rw [List.length_drop]; omega, by have := h.cap; omega, by have := h.max; omega, fun hn => by
    rcases Nat.lt_or_ge j c with h1 | h1
    · rw [hs h1] at hn
      have := h.nil (by simpa using hn)
      omega
    · omega, fun hn => by
    have hjn : j < xs.length := by
      rcases Nat.lt_or_ge j xs.length with h1 | h1
      · exact h1
      · exact absurd (List.drop_eq_nil_of_le h1) hn
    have hjc : j < c := by have := h.len; have := h.cap; omega
    obtain ⟨g, o, rfl, h2, h3, h4⟩ := h.cells (List.ne_nil_of_length_pos (by omega))
    have hadd : (⟨g, o, none⟩ : Addr).add j = ⟨g, o + j, none⟩ := by unfold Addr.add; split <;> simp_all
    refine ⟨g, o + j, by rw [hs hjc]; simp [hadd], h2, h3, fun t x hx => ?_⟩
    rw [List.getElem?_drop] at hx
    have := h4 (j + t) x hx
    rwa [← Nat.add_assoc] at this⟩
end
theorem own_addr {w : World} {base : Nat} {e : TypeId} {s : Nat} {A : Option Addr} {n c : Nat} {xs : List Value} (h : w.ownsRow base e s (.slice A n c) n xs) : A = none ∨ ∃ g o, A = some ⟨g, o, none⟩ := by
  rcases h.2 with ⟨hv, _⟩ | ⟨g, cap, cur, hv, _⟩
  · injection hv with h1 h2 h3; exact Or.inl h1
  · injection hv with h1 h2 h3; exact Or.inr ⟨g, 0, h1⟩

theorem si_new (w : World) (xs : List Int) (n s : Nat) (t : TypeId) (hl : xs.length = n * s) (hn : n ≤ 1000) : Si 0 (w.alloc (.cells (ints xs).toArray t)) (some ⟨w.heap.size, 0, none⟩) n n s xs :=
  ⟨hl, Nat.le_refl _, by omega, (fun h => (by cases h)), fun _ => ⟨w.heap.size, 0, rfl, Nat.zero_le _, by simp, fun j x hx => by
    rw [cell_of_row _ _ _ _ _ _ (heap_alloc_new w _), Nat.zero_add]
    simpa using ints_get hx⟩⟩

set_option maxHeartbeats 4000000 in
theorem bounds_any (A A2 : Option Addr) (n n2 c c2 : Nat) (a b : List S) (hl : n ≤ 1000) (hl2 : n2 ≤ 1000) (w : World) (hA : Sl 0 w A n c a) (hA2 : Sl 0 w A2 n2 c2 b) :
    Calls Try.prog 36 #[.slice A n c, .slice A2 n2 c2] w fun e w' => ∃ A' m c' xs, e = .returned (.slice A' m c') ∧ w'.ownsRow w.heap.size 3 1 (.slice A' m c') m (ints xs) ∧ Inc xs ∧ (∀ x, x ∈ xs ↔ x ∈ bnds (a ++ b)) ∧ m ≤ 4000 ∧ Below w.heap.size w w' := by
  obtain ⟨i2, hj, hj0, hj1, hj2⟩ := info_parts info_span
  obtain ⟨ii, hi, hi0, hi1, hi2⟩ := info_parts info_int
  have HA := Lib.hid hA
  have HA2 := Lib.hid hA2
  clear hA hA2
  go_enter Try.func36, Try.ntmps36
  go_upto_region 2 with (at_builtin; first | (refine wpList_append_si rfl _ _ 22 rfl w.heap.size 24 i2 _ 2 16 Try.underlying22 hj hj0 hj1 hj2 rfl (by decide) _ _ _ rfl HO1.out A2 n2 c2 (flat2 b) rfl (HA2.out.below HB1.out) (by unfold maxLen; omega) (by omega) HB1.out.size ?_; intro v' w2 hown2 hB2; rw [← ints_append, ← flat2_append] at hown2; obtain ⟨AL, cL, rfl⟩ := own_form hown2; have HO2 := Lib.hid hown2; have HB2 := Lib.hid (hB2 w (Nat.le_refl _) HB1.out); clear hown2 hB2) | (refine wpList_append_si rfl _ _ 22 rfl w.heap.size 24 i2 _ 2 16 Try.underlying22 hj hj0 hj1 hj2 rfl (by decide) _ _ _ rfl (own_empty w _ 2) A n c (flat2 a) rfl (HA.out.below ((Below.refl _ w).alloc (Nat.le_refl _) _)) (by unfold maxLen; omega) (by omega) (by simp) ?_; intro v' w1 hown1 hB1; rw [Nat.zero_add, List.nil_append] at hown1; obtain ⟨A1, c1, rfl⟩ := own_form hown1; have HO1 := Lib.hid hown1; have HB1 := Lib.hid (hB1 w (Nat.le_refl _) ((Below.refl _ w).alloc (Nat.le_refl _) _)); clear hown1 hB1))
  have HN1 := Lib.hid (show (flat2 (a ++ b)).length = (n + n2) * 2 by have := HO2.out.1; rwa [ints_length] at this)
  obtain ⟨N, hN⟩ : ∃ N, n + n2 = N := ⟨_, rfl⟩
  have hN2 : N ≤ 2000 := by omega
  rw [hN] at HO2 HN1
  have hNi : (n : Int) + (n2 : Int) = (N : Int) := by omega
  have HB3 := Lib.hid (HB2.out.trans (((Below.refl _ w2).alloc (Nat.le_refl _) (.cells #[] 3)).mono HB2.out.size))
  have HO3 := Lib.hid (own_keep HO2.out ((Below.refl _ w2).alloc (Nat.le_refl _) (.cells #[] 3)))
  have HE3 := Lib.hid (own_weak (own_empty w2 3 1) HB2.out.size)
  obtain ⟨gE, hgE⟩ : ∃ g, w2.heap.size = g := ⟨_, rfl⟩
  rw [hgE] at HE3 ⊢
  rw [hN]
  generalize w2.alloc (.cells #[] 3) = w3 at HB3 HO3 HE3 ⊢
  clear hgE HO2 HB2 HO1 HB1 hN
  go_wp2
  go_loopw [6, 7] (fun o i wr => ∃ (k m : Nat) (A' : Option Addr) (c' : Nat) (xs : List Int), k ≤ N * 2 ∧ m ≤ k ∧ i = .int .i64 k ∧ o = .slice A' m c' ∧ wr.ownsRow w.heap.size 3 1 (.slice A' m c') m (ints xs) ∧ Inc xs ∧ (∀ y, y ∈ xs ↔ y ∈ (flat2 (a ++ b)).take k) ∧ Below w3.heap.size w3 wr) (fun _ i _ => N * 2 - (intOf i).toNat)
  case atStart => exact ⟨0, 0, some ⟨gE, 0, none⟩, 0, [], Nat.zero_le _, Nat.le_refl _, rfl, rfl, HE3.out, List.Pairwise.nil, by simp, Below.refl _ _⟩
  case round =>
    obtain ⟨k, m, A', c', xs, hk, hmk, rfl, rfl, hown, hinc, hmem, hbw⟩ := hrel
    have hxl : xs.length = m := by have := own_slen hown; rw [ints_length] at this; omega
    have HXL := Lib.hid hxl
    have HINC := Lib.hid hinc
    have HMEM := Lib.hid hmem
    have HBW := Lib.hid hbw
    have HOW := Lib.hid hown
    have hbs := hbw.size
    clear hxl hinc hmem hown
    by_cases hlt : k < N * 2
    · have hkN : (k : Int) < 2 * (N : Int) := by omega
      have hN0 : 0 < N := by omega
      obtain ⟨q, hq⟩ : ∃ q, k / 2 = q := ⟨_, rfl⟩
      obtain ⟨r, hr⟩ : ∃ r, k % 2 = r := ⟨_, rfl⟩
      have hkq : k = q * 2 + r := by omega
      have hr2 : r < 2 := by omega
      have e1 : (k : Int).tdiv 2 = (q : Int) := by rw [Int.tdiv_eq_ediv_of_nonneg (by omega)]; omega
      have e2 : (k : Int) / 2 = (q : Int) := by omega
      have e3 : (k : Int).tmod 2 = (r : Int) := by rw [Int.tmod_eq_emod_of_nonneg (by omega)]; omega
      have e4 : (k : Int) % 2 = (r : Int) := by omega
      have q0 : (0 : Int) ≤ (q : Int) := by omega
      have qN : (q : Int) < (N : Int) := by omega
      have hql : q < (a ++ b).length := by have := HN1.out; rw [flat2_len] at this; omega
      obtain ⟨gL, capL, hvL, _, hgL⟩ := HO3.out.form hN0
      injection hvL with hvL _ hcL
      subst hvL
      subst hcL
      obtain ⟨s, hs⟩ : ∃ s, (a ++ b)[q] = s := ⟨_, rfl⟩
      obtain ⟨f1, f2⟩ := flat2_get (l := a ++ b) (j := q) (s := s) (by rw [List.getElem?_eq_getElem hql, hs])
      have c1' := (hbw.cell (p := ⟨gL, q * 2, none⟩) hgL).trans (own_at HO3.out (ints_get f1)).1
      have c2' := (hbw.cell (p := ⟨gL, q * 2 + 1, none⟩) hgL).trans (own_at HO3.out (ints_get f2)).1
      have HF := Lib.hid (And.intro f1 f2)
      have HKQ := Lib.hid hkq
      have hm2 : m ≤ 4000 := by omega
      clear f1 f2 hq hr hs hbw
      obtain ⟨wo, hwo⟩ : ∃ W, W = wr := ⟨_, rfl⟩
      subst hwo
      -- the number at hand
      obtain ⟨x, hx, hxr⟩ : ∃ x, (flat2 (a ++ b))[k]? = some x ∧ ((r = 0 ∧ s.lo = x) ∨ (r = 1 ∧ s.hi = x)) := by
        rcases Nat.lt_or_ge r 1 with h | h
        · have : r = 0 := by omega
          exact ⟨s.lo, by rw [HKQ.out, this]; exact HF.out.1, Or.inl ⟨this, rfl⟩⟩
        · have : r = 1 := by omega
          exact ⟨s.hi, by rw [HKQ.out, this]; exact HF.out.2, Or.inr ⟨this, rfl⟩⟩
      have hkl : k < (flat2 (a ++ b)).length := (List.getElem?_eq_some_iff.1 hx).1
      have hnx : (flat2 (a ++ b)).take (k + 1) = (flat2 (a ++ b)).take k ++ [x] := by
        rw [List.take_succ_eq_append_getElem hkl]
        rw [List.getElem?_eq_getElem hkl] at hx
        rw [Option.some.inj hx]
      have HNX := Lib.hid hnx
      clear hnx hx hkl hql
      clear hkq
      rcases hxr with ⟨hr0, hsx⟩ | ⟨hr0, hsx⟩
      · subst hr0
        have b1 : (((0 : Nat) : Int) == 1) = false := rfl
        have b2 : ((0 : Int) == 1) = false := rfl
        subst hsx
        go_upto_region 8 with fail
        obtain ⟨x, hxe⟩ : ∃ x, s.lo = x := ⟨_, rfl⟩
        rw [hxe] at HNX ⊢
        clear hxe c1' c2' HF e1 e2 e3 e4
        go_wp2
        go_loopw [9] (fun t wr => ∃ j : Nat, j ≤ m ∧ t = .int .i64 j ∧ (∀ i, i < j → ∀ y, xs[i]? = some y → y < x) ∧ wr = wo) (fun t _ => m - (intOf t).toNat)
        case atStart => exact ⟨0, Nat.zero_le _, rfl, fun i hi => absurd hi (Nat.not_lt_zero _), rfl⟩
        case round =>
          obtain ⟨j, hjm, rfl, hltx, rfl⟩ := hrel
          have HLT := Lib.hid hltx
          clear hltx
          by_cases hjl : j < m
          · have jm : (j : Int) < (m : Int) := by omega
            have j0 : (0 : Int) ≤ (j : Int) := by omega
            have hjx : j < xs.length := by rw [HXL.out]; exact hjl
            obtain ⟨y, hy⟩ : ∃ y, xs[j] = y := ⟨_, rfl⟩
            have hyx : xs[j]? = some y := by rw [List.getElem?_eq_getElem hjx, hy]
            obtain ⟨gO, capO, hvO, _, hgO⟩ := HOW.out.form (show 0 < m by omega)
            injection hvO with hvO _ hcO
            subst hvO
            subst hcO
            have cy := (own_at HOW.out (ints_get hyx)).1
            have HYX := Lib.hid hyx
            clear hyx hy hjx
            by_cases hyl : y < x
            · go_wp2
              go_roundw
              case rel => exact ⟨j + 1, by omega, by go_num, fun i hi y' hy' => by
                rcases Nat.lt_or_ge i j with h | h
                · exact HLT.out i h y' hy'
                · obtain rfl : i = j := by omega
                  rw [HYX.out] at hy'
                  obtain rfl := Option.some.inj hy'
                  exact hyl, trivial⟩
              case measure => simp [intOf]; omega
            · by_cases hye : y = x
              · have b3 : (y == x) = true := by simp [hye]
                have HYE := Lib.hid hye
                clear hye
                go_wp2
                go_roundw
                case rel => exact ⟨k + 1, m, some ⟨gO, 0, none⟩, c', xs, by omega, by omega, by go_num, rfl, HOW.out, HINC.out, fun z => by
                  rw [HMEM.out, HNX.out, List.mem_append, List.mem_singleton]
                  constructor
                  · exact Or.inl
                  · rintro (h | rfl)
                    · exact h
                    · rw [← HMEM.out, ← HYE.out]; exact List.mem_of_getElem? HYX.out, HBW.out⟩
                case measure => simp [intOf]; omega
              · have b3 : (y == x) = false := by simp [hye]
                have HGT := Lib.hid (show ∀ t, j ≤ t → ∀ z, xs[t]? = some z → x < z from fun t ht z hz => by
                  rcases Nat.eq_or_lt_of_le ht with h | h
                  · subst h
                    rw [HYX.out] at hz
                    obtain rfl := Option.some.inj hz
                    omega
                  · have := inc_get HINC.out h HYX.out hz
                    omega)
                clear hye
                obtain ⟨SA1, hsl, hSA1⟩ := slice_from (some ⟨gO, 0, none⟩) m c' j (by omega)
                have hst := slice_to (some ⟨gO, 0, none⟩) m c' j (by have := (own_cap HOW.out).1; omega) (own_addr HOW.out)
                have HTK := Lib.hid ((Si.own HOW.out).take (j := j) (by omega) |>.mono (Nat.zero_le _))
                have HDR := Lib.hid ((Si.own HOW.out).drop (j := j) (by omega) hSA1 |>.mono (Nat.zero_le _))
                clear hSA1
                go_wp2_with (at_builtin; first
                  | (refine wpList_append_si rfl _ _ 53 rfl wr.heap.size 3 ii _ 1 8 Try.underlying53 hi hi0 hi1 hi2 rfl (by decide) _ _ _ rfl HO6.out SA1 (m - j) (c' - j) (xs.drop j) rfl (HDR.out.below HB6.out) (by unfold maxLen; omega) (by omega) HB6.out.size ?_; intro v' w7 hown7 hB7; rw [← ints_append] at hown7; obtain ⟨A7, c7, rfl⟩ := own_form hown7; have HO7 := Lib.hid hown7; have HB7 := Lib.hid (hB7 wr (Nat.le_refl _) HB6.out); clear hown7 hB7)
                  | (refine wpList_append_si rfl _ _ 53 rfl wr.heap.size 3 ii _ 1 8 Try.underlying53 hi hi0 hi1 hi2 rfl (by decide) _ _ _ rfl (HO5.out.alloc _) (some ⟨w5.heap.size, 0, none⟩) 1 1 [x] rfl (si_new w5 [x] 1 1 3 rfl (by decide)) (by unfold maxLen; omega) (by omega) (by have := HB5.out.size; simp; omega) ?_; intro v' w6 hown6 hB6; rw [← ints_append] at hown6; obtain ⟨A6, c6, rfl⟩ := own_form hown6; have HO6 := Lib.hid hown6; have HB6 := Lib.hid (hB6 wr (Nat.le_refl _) (HB5.out.alloc HB5.out.size _)); clear hown6 hB6)
                  | (refine wpList_append_si rfl _ _ 53 rfl wr.heap.size 3 ii _ 1 8 Try.underlying53 hi hi0 hi1 hi2 rfl (by decide) _ _ _ rfl (own_empty wr _ 1) (some ⟨gO, 0, none⟩) j c' (xs.take j) rfl (HTK.out.below ((Below.refl _ wr).alloc (Nat.le_refl _) _)) (by unfold maxLen; omega) (by omega) (by simp) ?_; intro v' w5 hown5 hB5; rw [Nat.zero_add, List.nil_append] at hown5; obtain ⟨A5, c5, rfl⟩ := own_form hown5; have HO5 := Lib.hid hown5; have HB5 := Lib.hid (hB5 wr (Nat.le_refl _) ((Below.refl _ wr).alloc (Nat.le_refl _) _)); clear hown5 hB5))
                have hsz : j + 1 + (m - j) = m + 1 := by omega
                rw [hsz] at HO7
                go_roundw
                case rel => exact ⟨k + 1, m + 1, A7, c7, putAt xs j x, by omega, by omega, by go_num, by rw [hsz], own_weak HO7.out (by have := HBW.out.size; omega), putAt_inc HINC.out HLT.out HGT.out, fun y => by rw [putAt_mem, HMEM.out, HNX.out, List.mem_append, List.mem_singleton]; exact Or.comm, HBW.out.trans (HB7.out.mono HBW.out.size)⟩
                case measure => simp [intOf]; omega
          · obtain rfl : j = m := by omega
            have HGT := Lib.hid (show ∀ t, j ≤ t → ∀ z, xs[t]? = some z → x < z from fun t ht z hz => by
              have := (List.getElem?_eq_some_iff.1 hz).1
              rw [HXL.out] at this
              omega)
            obtain ⟨SA1, hsl, hSA1⟩ := slice_from A' j c' j (by omega)
            have hst := slice_to A' j c' j (by have := (own_cap HOW.out).1; omega) (own_addr HOW.out)
            have HTK := Lib.hid ((Si.own HOW.out).take (j := j) (by omega) |>.mono (Nat.zero_le _))
            have HDR := Lib.hid ((Si.own HOW.out).drop (j := j) (by omega) hSA1 |>.mono (Nat.zero_le _))
            clear hSA1
            obtain ⟨z, hzz⟩ : ∃ z, j - j = z := ⟨_, rfl⟩
            rw [hzz] at hsl HDR
            have HZ := Lib.hid (show z = 0 by omega)
            have hz1 : z ≤ 1 := by omega
            clear hzz
            go_wp2_with (at_builtin; first
              | (refine wpList_append_si rfl _ _ 53 rfl wr.heap.size 3 ii _ 1 8 Try.underlying53 hi hi0 hi1 hi2 rfl (by decide) _ _ _ rfl HO6.out SA1 z (c' - j) (xs.drop j) rfl (HDR.out.below HB6.out) (by unfold maxLen; omega) (by omega) HB6.out.size ?_; intro v' w7 hown7 hB7; rw [← ints_append] at hown7; obtain ⟨A7, c7, rfl⟩ := own_form hown7; have HO7 := Lib.hid hown7; have HB7 := Lib.hid (hB7 wr (Nat.le_refl _) HB6.out); clear hown7 hB7)
              | (refine wpList_append_si rfl _ _ 53 rfl wr.heap.size 3 ii _ 1 8 Try.underlying53 hi hi0 hi1 hi2 rfl (by decide) _ _ _ rfl (HO5.out.alloc _) (some ⟨w5.heap.size, 0, none⟩) 1 1 [x] rfl (si_new w5 [x] 1 1 3 rfl (by decide)) (by unfold maxLen; omega) (by omega) (by have := HB5.out.size; simp; omega) ?_; intro v' w6 hown6 hB6; rw [← ints_append] at hown6; obtain ⟨A6, c6, rfl⟩ := own_form hown6; have HO6 := Lib.hid hown6; have HB6 := Lib.hid (hB6 wr (Nat.le_refl _) (HB5.out.alloc HB5.out.size _)); clear hown6 hB6)
              | (refine wpList_append_si rfl _ _ 53 rfl wr.heap.size 3 ii _ 1 8 Try.underlying53 hi hi0 hi1 hi2 rfl (by decide) _ _ _ rfl (own_empty wr _ 1) A' j c' (xs.take j) rfl (HTK.out.below ((Below.refl _ wr).alloc (Nat.le_refl _) _)) (by unfold maxLen; omega) (by omega) (by simp) ?_; intro v' w5 hown5 hB5; rw [Nat.zero_add, List.nil_append] at hown5; obtain ⟨A5, c5, rfl⟩ := own_form hown5; have HO5 := Lib.hid hown5; have HB5 := Lib.hid (hB5 wr (Nat.le_refl _) ((Below.refl _ wr).alloc (Nat.le_refl _) _)); clear hown5 hB5))
            have hsz : j + 1 + z = j + 1 := by have := HZ.out; omega
            rw [hsz] at HO7
            go_roundw
            case rel => exact ⟨k + 1, j + 1, A7, c7, putAt xs j x, by omega, by omega, by go_num, by rw [hsz], own_weak HO7.out (by have := HBW.out.size; omega), putAt_inc HINC.out HLT.out HGT.out, fun y => by rw [putAt_mem, HMEM.out, HNX.out, List.mem_append, List.mem_singleton]; exact Or.comm, HBW.out.trans (HB7.out.mono HBW.out.size)⟩
            case measure => simp [intOf]; omega
      · subst hr0
        have b1 : (((1 : Nat) : Int) == 1) = true := rfl
        have b2 : ((1 : Int) == 1) = true := rfl
        subst hsx
        go_upto_region 8 with fail
        obtain ⟨x, hxe⟩ : ∃ x, s.hi = x := ⟨_, rfl⟩
        rw [hxe] at HNX ⊢
        clear hxe c1' c2' HF e1 e2 e3 e4
        go_wp2
        go_loopw [9] (fun t wr => ∃ j : Nat, j ≤ m ∧ t = .int .i64 j ∧ (∀ i, i < j → ∀ y, xs[i]? = some y → y < x) ∧ wr = wo) (fun t _ => m - (intOf t).toNat)
        case atStart => exact ⟨0, Nat.zero_le _, rfl, fun i hi => absurd hi (Nat.not_lt_zero _), rfl⟩
        case round =>
          obtain ⟨j, hjm, rfl, hltx, rfl⟩ := hrel
          have HLT := Lib.hid hltx
          clear hltx
          by_cases hjl : j < m
          · have jm : (j : Int) < (m : Int) := by omega
            have j0 : (0 : Int) ≤ (j : Int) := by omega
            have hjx : j < xs.length := by rw [HXL.out]; exact hjl
            obtain ⟨y, hy⟩ : ∃ y, xs[j] = y := ⟨_, rfl⟩
            have hyx : xs[j]? = some y := by rw [List.getElem?_eq_getElem hjx, hy]
            obtain ⟨gO, capO, hvO, _, hgO⟩ := HOW.out.form (show 0 < m by omega)
            injection hvO with hvO _ hcO
            subst hvO
            subst hcO
            have cy := (own_at HOW.out (ints_get hyx)).1
            have HYX := Lib.hid hyx
            clear hyx hy hjx
            by_cases hyl : y < x
            · go_wp2
              go_roundw
              case rel => exact ⟨j + 1, by omega, by go_num, fun i hi y' hy' => by
                rcases Nat.lt_or_ge i j with h | h
                · exact HLT.out i h y' hy'
                · obtain rfl : i = j := by omega
                  rw [HYX.out] at hy'
                  obtain rfl := Option.some.inj hy'
                  exact hyl, trivial⟩
              case measure => simp [intOf]; omega
            · by_cases hye : y = x
              · have b3 : (y == x) = true := by simp [hye]
                have HYE := Lib.hid hye
                clear hye
                go_wp2
                go_roundw
                case rel => exact ⟨k + 1, m, some ⟨gO, 0, none⟩, c', xs, by omega, by omega, by go_num, rfl, HOW.out, HINC.out, fun z => by
                  rw [HMEM.out, HNX.out, List.mem_append, List.mem_singleton]
                  constructor
                  · exact Or.inl
                  · rintro (h | rfl)
                    · exact h
                    · rw [← HMEM.out, ← HYE.out]; exact List.mem_of_getElem? HYX.out, HBW.out⟩
                case measure => simp [intOf]; omega
              · have b3 : (y == x) = false := by simp [hye]
                have HGT := Lib.hid (show ∀ t, j ≤ t → ∀ z, xs[t]? = some z → x < z from fun t ht z hz => by
                  rcases Nat.eq_or_lt_of_le ht with h | h
                  · subst h
                    rw [HYX.out] at hz
                    obtain rfl := Option.some.inj hz
                    omega
                  · have := inc_get HINC.out h HYX.out hz
                    omega)
                clear hye
                obtain ⟨SA1, hsl, hSA1⟩ := slice_from (some ⟨gO, 0, none⟩) m c' j (by omega)
                have hst := slice_to (some ⟨gO, 0, none⟩) m c' j (by have := (own_cap HOW.out).1; omega) (own_addr HOW.out)
                have HTK := Lib.hid ((Si.own HOW.out).take (j := j) (by omega) |>.mono (Nat.zero_le _))
                have HDR := Lib.hid ((Si.own HOW.out).drop (j := j) (by omega) hSA1 |>.mono (Nat.zero_le _))
                clear hSA1
                go_wp2_with (at_builtin; first
                  | (refine wpList_append_si rfl _ _ 53 rfl wr.heap.size 3 ii _ 1 8 Try.underlying53 hi hi0 hi1 hi2 rfl (by decide) _ _ _ rfl HO6.out SA1 (m - j) (c' - j) (xs.drop j) rfl (HDR.out.below HB6.out) (by unfold maxLen; omega) (by omega) HB6.out.size ?_; intro v' w7 hown7 hB7; rw [← ints_append] at hown7; obtain ⟨A7, c7, rfl⟩ := own_form hown7; have HO7 := Lib.hid hown7; have HB7 := Lib.hid (hB7 wr (Nat.le_refl _) HB6.out); clear hown7 hB7)
                  | (refine wpList_append_si rfl _ _ 53 rfl wr.heap.size 3 ii _ 1 8 Try.underlying53 hi hi0 hi1 hi2 rfl (by decide) _ _ _ rfl (HO5.out.alloc _) (some ⟨w5.heap.size, 0, none⟩) 1 1 [x] rfl (si_new w5 [x] 1 1 3 rfl (by decide)) (by unfold maxLen; omega) (by omega) (by have := HB5.out.size; simp; omega) ?_; intro v' w6 hown6 hB6; rw [← ints_append] at hown6; obtain ⟨A6, c6, rfl⟩ := own_form hown6; have HO6 := Lib.hid hown6; have HB6 := Lib.hid (hB6 wr (Nat.le_refl _) (HB5.out.alloc HB5.out.size _)); clear hown6 hB6)
                  | (refine wpList_append_si rfl _ _ 53 rfl wr.heap.size 3 ii _ 1 8 Try.underlying53 hi hi0 hi1 hi2 rfl (by decide) _ _ _ rfl (own_empty wr _ 1) (some ⟨gO, 0, none⟩) j c' (xs.take j) rfl (HTK.out.below ((Below.refl _ wr).alloc (Nat.le_refl _) _)) (by unfold maxLen; omega) (by omega) (by simp) ?_; intro v' w5 hown5 hB5; rw [Nat.zero_add, List.nil_append] at hown5; obtain ⟨A5, c5, rfl⟩ := own_form hown5; have HO5 := Lib.hid hown5; have HB5 := Lib.hid (hB5 wr (Nat.le_refl _) ((Below.refl _ wr).alloc (Nat.le_refl _) _)); clear hown5 hB5))
                have hsz : j + 1 + (m - j) = m + 1 := by omega
                rw [hsz] at HO7
                go_roundw
                case rel => exact ⟨k + 1, m + 1, A7, c7, putAt xs j x, by omega, by omega, by go_num, by rw [hsz], own_weak HO7.out (by have := HBW.out.size; omega), putAt_inc HINC.out HLT.out HGT.out, fun y => by rw [putAt_mem, HMEM.out, HNX.out, List.mem_append, List.mem_singleton]; exact Or.comm, HBW.out.trans (HB7.out.mono HBW.out.size)⟩
                case measure => simp [intOf]; omega
          · obtain rfl : j = m := by omega
            have HGT := Lib.hid (show ∀ t, j ≤ t → ∀ z, xs[t]? = some z → x < z from fun t ht z hz => by
              have := (List.getElem?_eq_some_iff.1 hz).1
              rw [HXL.out] at this
              omega)
            obtain ⟨SA1, hsl, hSA1⟩ := slice_from A' j c' j (by omega)
            have hst := slice_to A' j c' j (by have := (own_cap HOW.out).1; omega) (own_addr HOW.out)
            have HTK := Lib.hid ((Si.own HOW.out).take (j := j) (by omega) |>.mono (Nat.zero_le _))
            have HDR := Lib.hid ((Si.own HOW.out).drop (j := j) (by omega) hSA1 |>.mono (Nat.zero_le _))
            clear hSA1
            obtain ⟨z, hzz⟩ : ∃ z, j - j = z := ⟨_, rfl⟩
            rw [hzz] at hsl HDR
            have HZ := Lib.hid (show z = 0 by omega)
            have hz1 : z ≤ 1 := by omega
            clear hzz
            go_wp2_with (at_builtin; first
              | (refine wpList_append_si rfl _ _ 53 rfl wr.heap.size 3 ii _ 1 8 Try.underlying53 hi hi0 hi1 hi2 rfl (by decide) _ _ _ rfl HO6.out SA1 z (c' - j) (xs.drop j) rfl (HDR.out.below HB6.out) (by unfold maxLen; omega) (by omega) HB6.out.size ?_; intro v' w7 hown7 hB7; rw [← ints_append] at hown7; obtain ⟨A7, c7, rfl⟩ := own_form hown7; have HO7 := Lib.hid hown7; have HB7 := Lib.hid (hB7 wr (Nat.le_refl _) HB6.out); clear hown7 hB7)
              | (refine wpList_append_si rfl _ _ 53 rfl wr.heap.size 3 ii _ 1 8 Try.underlying53 hi hi0 hi1 hi2 rfl (by decide) _ _ _ rfl (HO5.out.alloc _) (some ⟨w5.heap.size, 0, none⟩) 1 1 [x] rfl (si_new w5 [x] 1 1 3 rfl (by decide)) (by unfold maxLen; omega) (by omega) (by have := HB5.out.size; simp; omega) ?_; intro v' w6 hown6 hB6; rw [← ints_append] at hown6; obtain ⟨A6, c6, rfl⟩ := own_form hown6; have HO6 := Lib.hid hown6; have HB6 := Lib.hid (hB6 wr (Nat.le_refl _) (HB5.out.alloc HB5.out.size _)); clear hown6 hB6)
              | (refine wpList_append_si rfl _ _ 53 rfl wr.heap.size 3 ii _ 1 8 Try.underlying53 hi hi0 hi1 hi2 rfl (by decide) _ _ _ rfl (own_empty wr _ 1) A' j c' (xs.take j) rfl (HTK.out.below ((Below.refl _ wr).alloc (Nat.le_refl _) _)) (by unfold maxLen; omega) (by omega) (by simp) ?_; intro v' w5 hown5 hB5; rw [Nat.zero_add, List.nil_append] at hown5; obtain ⟨A5, c5, rfl⟩ := own_form hown5; have HO5 := Lib.hid hown5; have HB5 := Lib.hid (hB5 wr (Nat.le_refl _) ((Below.refl _ wr).alloc (Nat.le_refl _) _)); clear hown5 hB5))
            have hsz : j + 1 + z = j + 1 := by have := HZ.out; omega
            rw [hsz] at HO7
            go_roundw
            case rel => exact ⟨k + 1, j + 1, A7, c7, putAt xs j x, by omega, by omega, by go_num, by rw [hsz], own_weak HO7.out (by have := HBW.out.size; omega), putAt_inc HINC.out HLT.out HGT.out, fun y => by rw [putAt_mem, HMEM.out, HNX.out, List.mem_append, List.mem_singleton]; exact Or.comm, HBW.out.trans (HB7.out.mono HBW.out.size)⟩
            case measure => simp [intOf]; omega
    · have hke : k = N * 2 := by omega
      have hkN : ¬ ((k : Int) < 2 * (N : Int)) := by omega
      have HFIN := Lib.hid (show ∀ y, y ∈ xs ↔ y ∈ bnds (a ++ b) from fun y => by
        rw [HMEM.out, List.take_of_length_le (by rw [HN1.out]; omega), flat2_bnds])
      have HBF := Lib.hid (HB3.out.trans (HBW.out.mono HB3.out.size))
      clear hke
      go_wp2
      go_ret
      exact ⟨A', m, c', rfl, xs, HOW.out, HINC.out, HFIN.out, by omega, HBF.out⟩
end Go.Proofs.Ytkmbidmncnlbkaa
