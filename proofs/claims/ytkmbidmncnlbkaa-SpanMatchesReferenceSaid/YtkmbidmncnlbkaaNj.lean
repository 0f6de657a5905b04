/-
  Walks of the reference's Norm, Union, Meet, Minus, Covers and Total; of the law file's short and small; of Made.
-/
import Derived.Test.YtkmbidmncnlbkaaNh
import Derived.Test.YtkmbidmncnlbkaaNg
import Derived.Test.YtkmbidmncnlbkaaNd
import Derived.Test.YtkmbidmncnlbkaaNi
namespace Go.Proofs.Ytkmbidmncnlbkaa
open Go.RowKit Sn
set_option maxHeartbeats 400000
set_option maxRecDepth 100000

theorem sl_nil (w : World) : Sl 0 w none 0 0 [] := ⟨rfl, Nat.le_refl _, by decide, fun _ => rfl, fun h => absurd rfl h⟩
theorem sl_own {base n c : Nat} {w : World} {A : Option Addr} {l : List S} (h : w.ownsRow base 24 2 (.slice A n c) n (ints (flat2 l))) : Sl 0 w A n c l := (Si.own h).mono (Nat.zero_le _)
section
variable (A A2 : Option Addr) (n n2 c c2 : Nat) (a b : List S) (hl : n ≤ 1000) (hl2 : n2 ≤ 1000) (w : World) (hA : Sl 0 w A n c a) (hA2 : Sl 0 w A2 n2 c2 b)
include hl hA
theorem rNorm_any : Calls Try.prog 16 #[.slice A n c] w fun e w' => ∃ A' m c' out, e = .returned (.slice A' m c') ∧ Sl 0 w' A' m c' out ∧ IsNorm a out ∧ Below w.heap.size w w' := by
  have C := Lib.hid (choose_any0 A none n 0 c 0 a [] hl (by decide) w hA (sl_nil w))
  clear hA
  go_enter Try.func16, Try.ntmps16
  go_wp2_with (go_at_call 31; refine C.out.mono ?_; rintro e w1 ⟨A', m, c', out, rfl, ho, h1, h2, _, hb⟩; have HX := Lib.hid (And.intro ho (And.intro h1 (And.intro h2 hb))); clear ho h1 h2 hb)
  go_ret
  exact ⟨_, _, _, out, rfl, sl_own HX.out.1, ⟨HX.out.2.1, fun x => by rw [HX.out.2.2.1 x]; simp [opB, hasB]⟩, HX.out.2.2.2⟩
include hl2 hA2
theorem rUnion_any : Calls Try.prog 18 #[.slice A n c, .slice A2 n2 c2] w fun e w' => ∃ A' m c' out, e = .returned (.slice A' m c') ∧ Sl 0 w' A' m c' out ∧ IsOp (· || ·) a b out ∧ Below w.heap.size w w' := by
  have C := Lib.hid (choose_any0 A A2 n n2 c c2 a b hl hl2 w hA hA2)
  clear hA hA2
  go_enter Try.func18, Try.ntmps18
  go_wp2_with (go_at_call 31; refine C.out.mono ?_; rintro e w1 ⟨A', m, c', out, rfl, ho, h1, h2, _, hb⟩; have HX := Lib.hid (And.intro ho (And.intro h1 (And.intro h2 hb))); clear ho h1 h2 hb)
  go_ret
  exact ⟨_, _, _, out, rfl, sl_own HX.out.1, ⟨HX.out.2.1, HX.out.2.2.1⟩, HX.out.2.2.2⟩
theorem rMeet_any : Calls Try.prog 20 #[.slice A n c, .slice A2 n2 c2] w fun e w' => ∃ A' m c' out, e = .returned (.slice A' m c') ∧ Sl 0 w' A' m c' out ∧ IsOp (· && ·) a b out ∧ Below w.heap.size w w' := by
  have C := Lib.hid (choose_any1 A A2 n n2 c c2 a b hl hl2 w hA hA2)
  clear hA hA2
  go_enter Try.func20, Try.ntmps20
  go_wp2_with (go_at_call 31; refine C.out.mono ?_; rintro e w1 ⟨A', m, c', out, rfl, ho, h1, h2, _, hb⟩; have HX := Lib.hid (And.intro ho (And.intro h1 (And.intro h2 hb))); clear ho h1 h2 hb)
  go_ret
  exact ⟨_, _, _, out, rfl, sl_own HX.out.1, ⟨HX.out.2.1, HX.out.2.2.1⟩, HX.out.2.2.2⟩
theorem rMinus_any : Calls Try.prog 22 #[.slice A n c, .slice A2 n2 c2] w fun e w' => ∃ A' m c' out, e = .returned (.slice A' m c') ∧ Sl 0 w' A' m c' out ∧ IsOp (fun x y => x && !y) a b out ∧ Below w.heap.size w w' := by
  have C := Lib.hid (choose_any2 A A2 n n2 c c2 a b hl hl2 w hA hA2)
  clear hA hA2
  go_enter Try.func22, Try.ntmps22
  go_wp2_with (go_at_call 31; refine C.out.mono ?_; rintro e w1 ⟨A', m, c', out, rfl, ho, h1, h2, _, hb⟩; have HX := Lib.hid (And.intro ho (And.intro h1 (And.intro h2 hb))); clear ho h1 h2 hb)
  go_ret
  exact ⟨_, _, _, out, rfl, sl_own HX.out.1, ⟨HX.out.2.1, HX.out.2.2.1⟩, HX.out.2.2.2⟩
end
theorem sl_one (w : World) (s : S) : Sl 0 (w.alloc (.cells #[.int .i64 s.lo, .int .i64 s.hi] 24)) (some ⟨w.heap.size, 0, none⟩) 1 1 [s] := si_new w (flat2 [s]) 1 2 24 rfl (by decide)
theorem rCovers_any (A : Option Addr) (n c : Nat) (l : List S) (s : S) (hl : n ≤ 1000) (w : World) (hA : Sl 0 w A n c l) :
    Calls Try.prog 27 #[.slice A n c, .agg #[.int .i64 s.lo, .int .i64 s.hi]] w fun e w' => e = .returned (.bool (coversB l s)) ∧ Below w.heap.size w w' := by
  have hb1 : Below w.heap.size w (w.alloc (.cells #[.int .i64 s.lo, .int .i64 s.hi] 24)) := (Below.refl _ w).alloc (Nat.le_refl _) _
  obtain ⟨W1, hW1⟩ : ∃ W1, w.alloc (.cells #[.int .i64 s.lo, .int .i64 s.hi] 24) = W1 := ⟨_, rfl⟩
  have c0 : W1.cell? ⟨w.heap.size, 0, none⟩ = some (.int .i64 s.lo) := by rw [← hW1]; exact cell_of_row _ _ 0 _ _ _ (heap_alloc_new w _)
  have c1 : W1.cell? ⟨w.heap.size, 1, none⟩ = some (.int .i64 s.hi) := by rw [← hW1]; exact cell_of_row _ _ 1 _ _ _ (heap_alloc_new w _)
  rw [hW1] at hb1
  have hb2 : Below W1.heap.size W1 (W1.alloc (.cells #[.int .i64 s.lo, .int .i64 s.hi] 24)) := (Below.refl _ W1).alloc (Nat.le_refl _) _
  have C := Lib.hid (rMinus_any (some ⟨W1.heap.size, 0, none⟩) A 1 n 1 c [s] l (by decide) hl _ (sl_one W1 s) ((hA.below hb1).below hb2))
  have HB := Lib.hid (hb1.trans (hb2.mono hb1.size))
  clear hA hb1 hb2
  go_enter Try.func27, Try.ntmps27
  go_wp2_with (go_at_call 22; refine C.out.mono ?_; rintro e w1 ⟨A', m, c', out, rfl, ho, h1, hb⟩; have HX := Lib.hid (And.intro ho (And.intro h1 hb)); clear ho h1 hb)
  go_ret
  refine ⟨ret_bool ?_, HB.out.trans (HX.out.2.2.mono HB.out.size)⟩
  rw [covers_minus HX.out.2.1]
  have := HX.out.1.plen
  rw [Bool.eq_iff_iff]
  simp only [beq_iff_eq, decide_eq_true_eq]
  constructor
  · intro h
    exact List.eq_nil_of_length_eq_zero (by omega)
  · rintro rfl
    simp at this
    omega
theorem totalS_take {l : List S} {k : Nat} {s : S} (h : l[k]? = some s) : totalS (l.take (k + 1)) = totalS (l.take k) + (s.hi - s.lo) := by
  obtain ⟨hk, rfl⟩ := List.getElem?_eq_some_iff.1 h
  have ha : ∀ a b : List S, totalS (a ++ b) = totalS a + totalS b := fun a b => by
    induction a with
    | nil => simp [totalS]
    | cons x a ih => simp only [List.cons_append, totalS, ih]; omega
  rw [List.take_succ_eq_append_getElem hk, ha]
  simp [totalS]
theorem totalS_lim {l : List S} (h : ∀ s ∈ l, -1099511627776 ≤ s.lo ∧ s.lo ≤ s.hi ∧ s.hi ≤ 1099511627776) : 0 ≤ totalS l ∧ totalS l ≤ l.length * 2199023255552 := by
  induction l with
  | nil => simp [totalS]
  | cons s l ih =>
    have h1 := ih (fun t ht => h t (by simp [ht]))
    have h2 := h s (by simp)
    simp only [totalS, List.length_cons]
    push_cast
    omega
set_option maxHeartbeats 2000000 in
theorem rTotal_any (A : Option Addr) (n c : Nat) (l : List S) (hl : n ≤ 1000) (hr : ∀ x ∈ bnds l, -1099511627776 ≤ x ∧ x ≤ 1099511627776) (w : World) (hA : Sl 0 w A n c l) :
    Calls Try.prog 29 #[.slice A n c] w fun e w' => ∃ out, e = .returned (.int .i64 (totalS out)) ∧ IsNorm l out ∧ Below w.heap.size w w' := by
  have C := Lib.hid (rNorm_any A n c l hl w hA)
  have HAL := Lib.hid hA.plen
  clear hA
  go_enter Try.func29, Try.ntmps29
  go_wp2_with (go_at_call 16; refine C.out.mono ?_; rintro e w1 ⟨A', m, c', out, rfl, ho, h1, hb⟩; have HO := Lib.hid ho; have HN := Lib.hid h1; have HB := Lib.hid hb; clear ho h1 hb)
  have hml := HO.out.plen
  have hol := norm_len HN.out
  have hm1 : m ≤ 1000 := by have := HAL.out; omega
  have HML := Lib.hid hml
  have hlim : ∀ s ∈ out, -1099511627776 ≤ s.lo ∧ s.lo ≤ s.hi ∧ s.hi ≤ 1099511627776 := fun s hs => by
    have e := set_ends HN.out.1 hs
    have b1 := hr s.lo (by have := HN.out.op.bound (bnds_mem.2 ⟨s, hs, .inl rfl⟩); simpa using this)
    have b2 := hr s.hi (by have := HN.out.op.bound (bnds_mem.2 ⟨s, hs, .inr rfl⟩); simpa using this)
    omega
  have HLIM := Lib.hid hlim
  clear hlim hol hml hr
  go_loopw [3, 5] (fun t i wr => ∃ k : Nat, k ≤ m ∧ i = .int .i64 k ∧ t = .int .i64 (totalS (out.take k)) ∧ Below w1.heap.size w1 wr) (fun _ i _ => m - (intOf i).toNat)
  case atStart => exact ⟨0, Nat.zero_le _, rfl, rfl, Below.refl _ _⟩
  case round =>
    obtain ⟨k, hk, rfl, rfl, hbw⟩ := hrel
    by_cases hlt : k < m
    · have hkl : k < out.length := by rw [HML.out]; exact hlt
      have hg : out[k]? = some out[k] := List.getElem?_eq_getElem hkl
      obtain ⟨s, hs⟩ : ∃ s, out[k] = s := ⟨_, rfl⟩
      rw [hs] at hg
      have HTS := Lib.hid (totalS_take hg)
      have hsl := HLIM.out s (List.mem_of_getElem? hg)
      have htl := totalS_lim (l := out.take k) (fun u hu => HLIM.out u (List.mem_of_mem_take hu))
      rw [List.length_take] at htl
      obtain ⟨g, o, hA', hgw, q0, q1⟩ := (HO.out.sps.below hbw).at_ hg
      subst hA'
      obtain ⟨T, hT⟩ : ∃ T, totalS (out.take k) = T := ⟨_, rfl⟩
      rw [hT] at HTS htl ⊢
      have kn : (k : Int) < (m : Int) := Int.ofNat_lt.2 hlt
      have k00 : (0 : Int) ≤ (k : Int) := Int.natCast_nonneg k
      have w1' : IntKind.i64.wrap (s.hi - s.lo) = s.hi - s.lo := IntWalk.i64_in _ (by omega)
      have w2' : IntKind.i64.wrap (T + (s.hi - s.lo)) = T + (s.hi - s.lo) := IntWalk.i64_in _ (by omega)
      have HBW := Lib.hid hbw
      clear hs hg hkl hT hgw hbw
      go_wp2
      go_quiet (fail)
      go_wp2
      go_roundw
      case rel => exact ⟨k + 1, by omega, by go_num, by rw [HTS.out], HBW.out.trans ((below_drewN _ nq).mono HBW.out.size)⟩
      case measure => simp [intOf]; omega
    · obtain rfl : k = m := by omega
      have hfull : out.take k = out := List.take_of_length_le (by rw [HML.out]; exact Nat.le_refl _)
      rw [hfull]
      have HBW := Lib.hid hbw
      clear hbw
      go_wp2
      go_ret
      exact ⟨out, rfl, HN.out, HB.out.trans (HBW.out.mono HB.out.size)⟩
/-! ### The law file's own -/
theorem slice_to2 (A : Option Addr) (m c j : Nat) (hj : j ≤ c) (hA : A = none ∨ ∃ g o, A = some ⟨g, o, none⟩) (W : World) : (Instr.slice 22 (.slice A m c) none (some (.int .i64 (j : Int))) none).run Try.prog W = .ok (.slice A j c) W := by
  have h0 : (0 : Int) ≤ (j : Int) := by omega
  have h1 : (j : Int) ≤ (c : Int) := by omega
  rw [run_slice_h _ _ _ _ _ Try.underlying22 _ _ h0 h1]
  rcases hA with rfl | ⟨g, o, rfl⟩
  · simp [go_sem, sliced]
  · have hadd : (⟨g, o, none⟩ : Addr).add 0 = ⟨g, o, none⟩ := by unfold Addr.add; split <;> simp_all
    simp [go_sem, sliced]
theorem flat2_take : ∀ (l : List S) (j : Nat), flat2 (l.take j) = (flat2 l).take (j * 2)
  | [], j => by simp [flat2]
  | s :: l, 0 => by simp [flat2]
  | s :: l, j + 1 => by
    rw [List.take_succ_cons, show (j + 1) * 2 = j * 2 + 1 + 1 by omega]
    simp only [flat2, List.take_succ_cons, flat2_take l j]
theorem Sl.take {lo n c j : Nat} {w : World} {A : Option Addr} {l : List S} (h : Sl lo w A n c l) (hj : j ≤ n) : Sl lo w A j c (l.take j) :=
  ⟨by have := h.plen; rw [flat2_len, List.length_take]; congr 1; omega, by have := h.cap; omega, h.max, h.nil, fun hn => by
    have hne : flat2 l ≠ [] := fun e => hn (by rw [flat2_take, e]; simp)
    obtain ⟨g, o, h1, h2, h3, h4⟩ := h.cells hne
    refine ⟨g, o, h1, h2, h3, fun t x hx => h4 t x ?_⟩
    rw [flat2_take, List.getElem?_take] at hx
    split at hx
    · exact hx
    · cases hx⟩
theorem Sl.addr {lo n c : Nat} {w : World} {A : Option Addr} {l : List S} (h : Sl lo w A n c l) : (A = none ∨ ∃ g o, A = some ⟨g, o, none⟩) ∨ n = 0 := by
  by_cases hn : n = 0
  · exact .inr hn
  · have hne : flat2 l ≠ [] := fun e => hn (by have := h.len; rw [e] at this; simp at this; omega)
    obtain ⟨g, o, h1, _⟩ := h.cells hne
    exact .inl (.inr ⟨g, o, h1⟩)
theorem slice_to_ex {n c j : Nat} {w : World} {A : Option Addr} {l : List S} (h : Sl 0 w A n c l) (hj : j ≤ n) : ∃ SA, (∀ W, (Instr.slice 22 (.slice A n c) none (some (.int .i64 (j : Int))) none).run Try.prog W = .ok (.slice SA j c) W) ∧ Sl 0 w SA j c (l.take j) := by
  rcases h.addr with ha | rfl
  · exact ⟨A, slice_to2 A n c j (by have := h.cap; omega) ha, h.take hj⟩
  · obtain rfl : j = 0 := by omega
    refine ⟨if c = 0 then A else A.map (·.add 0), fun W => ?_, rfl, Nat.zero_le _, h.max, fun hn => ?_, fun hn => absurd rfl hn⟩
    · have h0 : (0 : Int) ≤ ((0 : Nat) : Int) := by omega
      have h1 : ((0 : Nat) : Int) ≤ (c : Int) := by omega
      rw [run_slice_h _ _ _ _ _ Try.underlying22 _ _ h0 h1]
      simp [go_sem, sliced]
    · split at hn
      · assumption
      · cases A with
        | none => exact h.nil rfl
        | some a => simp at hn
set_option maxHeartbeats 1000000 in
theorem short_any (A : Option Addr) (n c : Nat) (l : List S) (w : World) (hA : Sl 0 w A n c l) :
    Calls Try.prog 11 #[.slice A n c] w fun e w' => ∃ A' m c', e = .returned (.slice A' m c') ∧ w'.ownsRow w.heap.size 24 2 (.slice A' m c') m (ints (flat2 (l.take 12))) ∧ Below w.heap.size w w' := by
  obtain ⟨i2, hj, hj0, hj1, hj2⟩ := info_parts info_span
  obtain ⟨q, hq⟩ : ∃ q, min n 12 = q := ⟨_, rfl⟩
  have hqn : q ≤ n := by omega
  have hq12 : q ≤ 12 := by omega
  have HQ := Lib.hid (show l.take q = l.take 12 from by
    have := hA.plen
    rw [← hq]
    rcases Nat.le_total n 12 with h | h
    · rw [Nat.min_eq_left h, List.take_of_length_le (by omega), List.take_of_length_le (by omega)]
    · rw [Nat.min_eq_right h])
  have hmin : ∀ W, (Builtin.min_ #[3, 3] 3 #[.int .i64 n, .int .i64 12]).run Try.prog W = .ok (.int .i64 q) W := fun W => by
    rw [run_min_int2]
    exact congrArg (fun z => Result.ok (Value.int .i64 z) W) (by omega)
  obtain ⟨SA, hst, hS⟩ := slice_to_ex hA hqn
  have HE := Lib.hid (own_empty w 24 2)
  have hB1 : Below w.heap.size w (w.alloc (.cells #[] 24)) := (Below.refl _ w).alloc (Nat.le_refl _) _
  have HB1 := Lib.hid hB1
  have HT := Lib.hid (hS.below hB1)
  clear hA hq hB1 hS
  go_enter Try.func11, Try.ntmps11
  go_wp2_with (at_builtin; refine wpList_append_si rfl _ _ 22 rfl w.heap.size 24 i2 _ 2 16 Try.underlying22 hj hj0 hj1 hj2 rfl (by decide) _ _ _ rfl HE.out SA q c (flat2 (l.take q)) rfl HT.out (by unfold maxLen; omega) (by omega) HB1.out.size ?_; intro v' w2 hown2 hB2; rw [Nat.zero_add, List.nil_append] at hown2; obtain ⟨AL, cL, rfl⟩ := own_form hown2; have HO2 := Lib.hid hown2; have HB2 := Lib.hid (hB2 w (Nat.le_refl _) HB1.out); clear hown2 hB2)
  go_ret
  exact ⟨_, _, _, rfl, by rw [← HQ.out]; exact HO2.out, HB2.out⟩
end Go.Proofs.Ytkmbidmncnlbkaa
