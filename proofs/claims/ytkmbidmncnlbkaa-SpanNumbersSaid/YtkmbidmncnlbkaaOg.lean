/-
  Contracts of the landed package: its operations, Has, Covers, Total; all that the laws ask of it.
-/
import Derived.Test.YtkmbidmncnlbkaaOf
import Derived.Test.YtkmbidmncnlbkaaNl
namespace Go.Proofs.Ytkmbidmncnlbkaa
open Go.RowKit Go.Shelf Go.Lib Sn
attribute [local go_sem] Oper.semAt_some
set_option maxHeartbeats 400000
set_option maxRecDepth 100000

theorem or_any (x y : Bool) (W : World) : Calls Try.prog 39 #[.bool x, .bool y] W fun e w' => e = .returned (.bool (x || y)) ∧ w' = W := by
  cases x
  · go_enter Try.func39, Try.ntmps39
    go_wp2
    go_ret
    exact ⟨by simp, rfl⟩
  · go_enter Try.func39, Try.ntmps39
    go_wp2
    go_ret
    exact ⟨by simp, rfl⟩
theorem and_any (x y : Bool) (W : World) : Calls Try.prog 40 #[.bool x, .bool y] W fun e w' => e = .returned (.bool (x && y)) ∧ w' = W := by
  cases x
  · go_enter Try.func40, Try.ntmps40
    go_wp2
    go_ret
    exact ⟨by simp, rfl⟩
  · go_enter Try.func40, Try.ntmps40
    go_wp2
    go_ret
    exact ⟨by simp, rfl⟩
theorem sub_any (x y : Bool) (W : World) : Calls Try.prog 41 #[.bool x, .bool y] W fun e w' => e = .returned (.bool (x && !y)) ∧ w' = W := by
  cases x
  · go_enter Try.func41, Try.ntmps41
    go_wp2
    go_ret
    exact ⟨by simp, rfl⟩
  · go_enter Try.func41, Try.ntmps41
    go_wp2
    go_ret
    exact ⟨by simp, rfl⟩
abbrev opsV : Value := .agg #[.func (.func 39) #[] #[], .func (.func 40) #[] #[], .func (.func 41) #[] #[]]
theorem below_row {w w' : World} {n g : Nat} (h : Below n w w') (hg : n ≤ g) (cs : Array Value) : Below n w (w'.setRow g cs) :=
  ⟨h.os, h.tape, h.output, by simpa [World.setRow] using h.size, fun k hk => by
    have hne : g ≠ k := by omega
    rw [← h.block k hk]
    simp [World.setRow, Array.getElem?_modify, hne]⟩
theorem ops_any (W : World) : Calls Try.prog 33 #[] W fun e w' => e = .returned opsV ∧ Below W.heap.size W w' := by
  go_enter Try.func33, Try.ntmps33
  go_wp2_with (refine wpList_store_row rfl 47 (.tmp 0) (.tmp 1) rfl W.heap.size #[.func (.func 39) #[] #[], .func (.func 40) #[] #[], .func (.func 41) #[] #[]] rfl rfl 47 #[.nilFunc, .nilFunc, .nilFunc] (heap_alloc_new _ _) (by kernel_rfl) rfl (by simp [Value.oneCell']) ?_)
  (try simp only [Exit.inBlock, Exit.then])
  refine bodyPost_ret (v := opsV) (results_cell_row rfl _ _ W.heap.size 47 _ (0, 0) _ rfl (setRow_heap _ _ _ _ _ _ (heap_alloc_new W _)) Try.underlying47 rfl (by kernel_rfl)) rfl ?_
  exact ⟨rfl, below_row ((Below.refl _ W).alloc (Nat.le_refl _) _) (Nat.le_refl _) _⟩
theorem field_0 (W : World) : (Instr.field 47 opsV 0).run Try.prog W = .ok (.func (.func 39) #[] #[]) W := rfl
theorem field_1 (W : World) : (Instr.field 47 opsV 1).run Try.prog W = .ok (.func (.func 40) #[] #[]) W := rfl
theorem field_2 (W : World) : (Instr.field 47 opsV 2).run Try.prog W = .ok (.func (.func 41) #[] #[]) W := rfl
section
variable (A A2 : Option Addr) (n n2 c c2 : Nat) (a b : List S) (hl : n ≤ 100) (hl2 : n2 ≤ 100) (w : World) (hA : Sl 0 w A n c a) (hA2 : Sl 0 w A2 n2 c2 b)
include hl hl2 hA hA2
theorem spUnion_any : Calls Try.prog 17 #[.slice A n c, .slice A2 n2 c2] w fun e w' => ∃ A' m c' out, e = .returned (.slice A' m c') ∧ Sl 0 w' A' m c' out ∧ IsOp (· || ·) a b out ∧ Below w.heap.size w w' := by
  have CO := Lib.hid (ops_any w)
  have CS := Lib.hid (fun (W : World) (hb : Below w.heap.size w W) => swept_any (op := (· || ·)) rfl 39 (enters_of Try.func39 (by kernel_rfl) rfl) or_any A A2 n n2 c c2 a b hl hl2 W (hA.below hb) (hA2.below hb))
  have HF := field_0
  clear hA hA2
  go_enter Try.func17, Try.ntmps17
  go_wp2_with (first | (go_at_call 33; refine CO.out.mono ?_; rintro e w1 ⟨rfl, hb1⟩; have CW := Lib.hid (CS.out w1 hb1); have HB1 := Lib.hid hb1; clear hb1) | (go_at_call 32; refine CW.out.mono ?_; rintro e w2 ⟨A', m, c', out, rfl, ho, h1, hb⟩; have HO := Lib.hid ho; have HI := Lib.hid h1; have HB := Lib.hid hb; clear ho h1 hb))
  go_ret
  exact ⟨A', m, c', out, rfl, HO.out, HI.out, HB1.out.trans (HB.out.mono HB1.out.size)⟩
theorem spMeet_any : Calls Try.prog 19 #[.slice A n c, .slice A2 n2 c2] w fun e w' => ∃ A' m c' out, e = .returned (.slice A' m c') ∧ Sl 0 w' A' m c' out ∧ IsOp (· && ·) a b out ∧ Below w.heap.size w w' := by
  have CO := Lib.hid (ops_any w)
  have CS := Lib.hid (fun (W : World) (hb : Below w.heap.size w W) => swept_any (op := (· && ·)) rfl 40 (enters_of Try.func40 (by kernel_rfl) rfl) and_any A A2 n n2 c c2 a b hl hl2 W (hA.below hb) (hA2.below hb))
  have HF := field_1
  clear hA hA2
  go_enter Try.func19, Try.ntmps19
  go_wp2_with (first | (go_at_call 33; refine CO.out.mono ?_; rintro e w1 ⟨rfl, hb1⟩; have CW := Lib.hid (CS.out w1 hb1); have HB1 := Lib.hid hb1; clear hb1) | (go_at_call 32; refine CW.out.mono ?_; rintro e w2 ⟨A', m, c', out, rfl, ho, h1, hb⟩; have HO := Lib.hid ho; have HI := Lib.hid h1; have HB := Lib.hid hb; clear ho h1 hb))
  go_ret
  exact ⟨A', m, c', out, rfl, HO.out, HI.out, HB1.out.trans (HB.out.mono HB1.out.size)⟩
theorem spMinus_any : Calls Try.prog 21 #[.slice A n c, .slice A2 n2 c2] w fun e w' => ∃ A' m c' out, e = .returned (.slice A' m c') ∧ Sl 0 w' A' m c' out ∧ IsOp (fun x y => x && !y) a b out ∧ Below w.heap.size w w' := by
  have CO := Lib.hid (ops_any w)
  have CS := Lib.hid (fun (W : World) (hb : Below w.heap.size w W) => swept_any (op := (fun x y => x && !y)) rfl 41 (enters_of Try.func41 (by kernel_rfl) rfl) sub_any A A2 n n2 c c2 a b hl hl2 W (hA.below hb) (hA2.below hb))
  have HF := field_2
  clear hA hA2
  go_enter Try.func21, Try.ntmps21
  go_wp2_with (first | (go_at_call 33; refine CO.out.mono ?_; rintro e w1 ⟨rfl, hb1⟩; have CW := Lib.hid (CS.out w1 hb1); have HB1 := Lib.hid hb1; clear hb1) | (go_at_call 32; refine CW.out.mono ?_; rintro e w2 ⟨A', m, c', out, rfl, ho, h1, hb⟩; have HO := Lib.hid ho; have HI := Lib.hid h1; have HB := Lib.hid hb; clear ho h1 hb))
  go_ret
  exact ⟨A', m, c', out, rfl, HO.out, HI.out, HB1.out.trans (HB.out.mono HB1.out.size)⟩
end
theorem spNorm_any (A : Option Addr) (n c : Nat) (a : List S) (hl : n ≤ 100) (w : World) (hA : Sl 0 w A n c a) :
    Calls Try.prog 15 #[.slice A n c] w fun e w' => ∃ A' m c' out, e = .returned (.slice A' m c') ∧ Sl 0 w' A' m c' out ∧ IsNorm a out ∧ Below w.heap.size w w' := by
  have CU := Lib.hid (spUnion_any A none n 0 c 0 a [] hl (by decide) w hA (sl_nil w))
  clear hA
  go_enter Try.func15, Try.ntmps15
  go_wp2_with (go_at_call 17; refine CU.out.mono ?_; rintro e w2 ⟨A', m, c', out, rfl, ho, h1, hb⟩; have HO := Lib.hid ho; have HI := Lib.hid h1; have HB := Lib.hid hb; clear ho h1 hb)
  go_ret
  exact ⟨A', m, c', out, rfl, HO.out, ⟨HI.out.1, fun x => by rw [HI.out.2]; simp [hasB]⟩, HB.out⟩
theorem spCovers_any (A : Option Addr) (n c : Nat) (l : List S) (s : S) (hl : n ≤ 100) (w : World) (hA : Sl 0 w A n c l) :
    Calls Try.prog 26 #[.slice A n c, .agg #[.int .i64 s.lo, .int .i64 s.hi]] w fun e w' => e = .returned (.bool (coversB l s)) ∧ Below w.heap.size w w' := by
  have hb1 : Below w.heap.size w (w.alloc (.cells #[.int .i64 s.lo, .int .i64 s.hi] 24)) := (Below.refl _ w).alloc (Nat.le_refl _) _
  obtain ⟨W1, hW1⟩ : ∃ W1, w.alloc (.cells #[.int .i64 s.lo, .int .i64 s.hi] 24) = W1 := ⟨_, rfl⟩
  have c0 : W1.cell? ⟨w.heap.size, 0, none⟩ = some (.int .i64 s.lo) := by rw [← hW1]; exact cell_of_row _ _ 0 _ _ _ (heap_alloc_new w _)
  have c1 : W1.cell? ⟨w.heap.size, 1, none⟩ = some (.int .i64 s.hi) := by rw [← hW1]; exact cell_of_row _ _ 1 _ _ _ (heap_alloc_new w _)
  rw [hW1] at hb1
  have hb2 : Below W1.heap.size W1 (W1.alloc (.cells #[.int .i64 s.lo, .int .i64 s.hi] 24)) := (Below.refl _ W1).alloc (Nat.le_refl _) _
  have C := Lib.hid (spMinus_any (some ⟨W1.heap.size, 0, none⟩) A 1 n 1 c [s] l (by decide) hl _ (sl_one W1 s) ((hA.below hb1).below hb2))
  have HB := Lib.hid (hb1.trans (hb2.mono hb1.size))
  clear hA hb1 hb2
  go_enter Try.func26, Try.ntmps26
  go_wp2_with (go_at_call 21; refine C.out.mono ?_; rintro e w1 ⟨A', m, c', out, rfl, ho, h1, hb⟩; have HX := Lib.hid (And.intro ho (And.intro h1 hb)); clear ho h1 hb)
  go_ret
  refine ⟨ret_bool ?_, HB.out.trans (HX.out.2.2.mono HB.out.size)⟩
  rw [covers_minus HX.out.2.1]
  have := HX.out.1.plen
  rw [Bool.eq_iff_iff]
  simp only [beq_iff_eq, decide_eq_true_eq]
  constructor
  · intro h
    exact List.eq_nil_of_length_eq_zero (by omega)
  · rintro rfl
    simp at this
    omega
set_option maxHeartbeats 2000000 in
theorem spTotal_any (A : Option Addr) (n c : Nat) (l : List S) (hl : n ≤ 100) (hr : ∀ x ∈ bnds l, -1099511627776 ≤ x ∧ x ≤ 1099511627776) (w : World) (hA : Sl 0 w A n c l) :
    Calls Try.prog 28 #[.slice A n c] w fun e w' => ∃ out, e = .returned (.int .i64 (totalS out)) ∧ IsNorm l out ∧ Below w.heap.size w w' := by
  have C := Lib.hid (spNorm_any A n c l hl w hA)
  have HAL := Lib.hid hA.plen
  clear hA
  go_enter Try.func28, Try.ntmps28
  go_wp2_with (go_at_call 15; refine C.out.mono ?_; rintro e w1 ⟨A', m, c', out, rfl, ho, h1, hb⟩; have HO := Lib.hid ho; have HN := Lib.hid h1; have HB := Lib.hid hb; clear ho h1 hb)
  have hml := HO.out.plen
  have hol := norm_len HN.out
  have hm1 : m ≤ 1000 := by have := HAL.out; omega
  have HML := Lib.hid hml
  have hlim : ∀ s ∈ out, -1099511627776 ≤ s.lo ∧ s.lo ≤ s.hi ∧ s.hi ≤ 1099511627776 := fun s hs => by
    have e := set_ends HN.out.1 hs
    have b1 := hr s.lo (by have := HN.out.op.bound (bnds_mem.2 ⟨s, hs, .inl rfl⟩); simpa using this)
    have b2 := hr s.hi (by have := HN.out.op.bound (bnds_mem.2 ⟨s, hs, .inr rfl⟩); simpa using this)
    omega
  have HLIM := Lib.hid hlim
  clear hlim hol hml hr
  go_loopw [3, 9] (fun t i wr => ∃ k : Nat, k ≤ m ∧ i = .int .i64 k ∧ t = .int .i64 (totalS (out.take k)) ∧ Below w1.heap.size w1 wr) (fun _ i _ => m - (intOf i).toNat)
  case atStart => exact ⟨0, Nat.zero_le _, rfl, rfl, Below.refl _ _⟩
  case round =>
    obtain ⟨k, hk, rfl, rfl, hbw⟩ := hrel
    by_cases hlt : k < m
    · have hkl : k < out.length := by rw [HML.out]; exact hlt
      have hg : out[k]? = some out[k] := List.getElem?_eq_getElem hkl
      obtain ⟨s, hs⟩ : ∃ s, out[k] = s := ⟨_, rfl⟩
      rw [hs] at hg
      have HTS := Lib.hid (totalS_take hg)
      have hsl := HLIM.out s (List.mem_of_getElem? hg)
      have htl := totalS_lim (l := out.take k) (fun u hu => HLIM.out u (List.mem_of_mem_take hu))
      rw [List.length_take] at htl
      obtain ⟨g, o, hA', hgw, q0, q1⟩ := (HO.out.sps.below hbw).at_ hg
      subst hA'
      obtain ⟨T, hT⟩ : ∃ T, totalS (out.take k) = T := ⟨_, rfl⟩
      rw [hT] at HTS htl ⊢
      have kn : (k : Int) < (m : Int) := Int.ofNat_lt.2 hlt
      have k00 : (0 : Int) ≤ (k : Int) := Int.natCast_nonneg k
      have w1' : IntKind.i64.wrap (s.hi - s.lo) = s.hi - s.lo := IntWalk.i64_in _ (by omega)
      have w2' : IntKind.i64.wrap (T + (s.hi - s.lo)) = T + (s.hi - s.lo) := IntWalk.i64_in _ (by omega)
      obtain ⟨WB, hWB⟩ : ∃ X, wr.alloc (.cells #[.int .i64 s.lo, .int .i64 s.hi] 24) = X := ⟨_, rfl⟩
      obtain ⟨b0, b1⟩ := box_two wr s
      have hbB := box_low wr s
      rw [show bx wr s = WB from hWB] at b0 b1 hbB
      have HBW := Lib.hid (hbw.trans (hbB.mono hbw.size))
      clear hs hg hkl hT hgw hbw hbB
      go_wp2
      go_roundw
      case rel => exact ⟨k + 1, by omega, by go_num, by rw [HTS.out], HBW.out⟩
      case measure => simp [intOf]; omega
    · obtain rfl : k = m := by omega
      have hfull : out.take k = out := List.take_of_length_le (by rw [HML.out]; exact Nat.le_refl _)
      rw [hfull]
      have HBW := Lib.hid hbw
      clear hbw
      go_wp2
      go_ret
      exact ⟨out, rfl, HN.out, HB.out.trans (HBW.out.mono HB.out.size)⟩
def encS (s : S) : List Value := [.int .i64 s.lo, .int .i64 s.hi]
instance : Inhabited S := ⟨⟨0, 0⟩⟩
theorem index_zero (A : Option Addr) (c : Nat) (f : Value) (W : World) : Calls Try.prog 42 #[.slice A 0 c, f] W fun e w' => e = .returned (.int .i64 (-1)) ∧ w' = W := by
  go_enter Try.func42, Try.ntmps42
  go_wp2
  refine wp_loop_rounds 1 ?_
  rw [rounds_succ]
  go_wp2
  go_ret
  exact ⟨rfl, rfl⟩
theorem contains_zero (A : Option Addr) (c : Nat) (f : Value) (W : World) : Calls Try.prog 34 #[.slice A 0 c, f] W fun e w' => e = .returned (.bool false) ∧ w' = W := by
  have HI := Lib.hid (index_zero A c f W)
  go_enter Try.func34, Try.ntmps34
  go_wp2_with (go_at_call 42; refine HI.out.mono ?_; rintro e w' ⟨rfl, rfl⟩)
  go_ret
  exact ⟨rfl, rfl⟩
theorem spHas_any (A : Option Addr) (n c : Nat) (l : List S) (x : Int) (hl : n ≤ 100) (w : World) (hA : Sl 0 w A n c l) :
    Calls Try.prog 24 #[.slice A n c, .int .i64 x] w fun e w' => e = .returned (.bool (hasB l x)) ∧ Below w.heap.size w w' := by
  have hlen := hA.plen
  obtain ⟨W1, hW1⟩ : ∃ X, w.alloc (.cells #[.int .i64 x] 3) = X := ⟨_, rfl⟩
  have hb1 : Below w.heap.size w W1 := by rw [← hW1]; exact (Below.refl _ w).alloc (Nat.le_refl _) _
  have c0 : W1.cell? ⟨w.heap.size, 0, none⟩ = some (.int .i64 x) := by rw [← hW1]; exact cell_of_row _ _ 0 _ _ _ (heap_alloc_new w _)
  have hlt : w.heap.size < W1.heap.size := by rw [← hW1]; simp
  have key : Calls Try.prog 34 #[.slice A n c, .func (.func 35) #[] #[.pointer (some ⟨w.heap.size, 0, none⟩)]] W1 fun e w' => e = .returned (.bool (hasB l x)) ∧ Below W1.heap.size W1 w' := by
    rcases Nat.eq_zero_or_pos n with h0 | h0
    · subst h0
      obtain rfl : l = [] := List.eq_nil_of_length_eq_zero hlen
      refine (contains_zero A c _ W1).mono ?_
      rintro e w' ⟨rfl, rfl⟩
      exact ⟨rfl, Below.refl _ _⟩
    · have hs := (Sl.sps hA).below hb1
      obtain ⟨g, o, rfl, hg, _⟩ := hs.at_ (List.getElem?_eq_getElem (show 0 < l.length by omega))
      have eg : ∀ args w, (callFunc 35 args).run Try.prog w = .ok (.enter 35 args) w := enters_of Try.func35 (by kernel_rfl) rfl
      have hcon := AnyQ.slices_ContainsFunc Try.hasL 2 Try.isAgg24 Try.sizeOf24 encS (fun _ => rfl) (fun s => inB s x) 35 #[.pointer (some ⟨w.heap.size, 0, none⟩)] eg g o n c l W1
        (fun W s hb => (has_test x w.heap.size W s (Nat.lt_of_lt_of_le hlt hb.size) ((hb.cell (p := ⟨w.heap.size, 0, none⟩) hlt).trans c0)).mono fun e w' ⟨he, h2⟩ => ⟨he, hb.trans (h2.mono hb.size)⟩) (by omega) (by omega) hg (fun j hj i v hi => by
          obtain ⟨g', o', hA', _, q0, q1⟩ := hs.at_ (List.getElem?_eq_getElem hj)
          injection hA' with hA'
          injection hA' with e1 e2
          subst e1 e2
          rw [getElem!_pos l j hj] at hi
          match i, hi with
          | 0, hi => simp [encS] at hi; rw [← hi]; exact q0
          | 1, hi => simp [encS] at hi; rw [← hi]; exact q1
          | i + 2, hi => simp [encS] at hi)
      change Calls Try.prog 34 _ _ _ at hcon
      refine hcon.mono ?_
      rintro e w' ⟨rfl, h2⟩
      refine ⟨ret_bool ?_, h2⟩
      rw [List.take_of_length_le (by omega)]
      rfl
  have HK := Lib.hid key
  have HB := Lib.hid hb1
  clear key hb1 hA
  go_enter Try.func24, Try.ntmps24
  go_wp2_with (go_at_call 34; refine HK.out.mono ?_; rintro e w1 ⟨rfl, hb2⟩; have HB2 := Lib.hid hb2; clear hb2)
  go_ret
  exact ⟨rfl, HB.out.trans (HB2.out.mono HB.out.size)⟩
/-- All that the laws ask of the package. -/
theorem prgS : PrgS (fun _ => True) :=
  ⟨fun _ _ => trivial,
    fun A n c l W _ hA hn _ => spValid_any A n c l hA.plen (by omega) W hA.sps,
    fun A n c l x W _ hA hn _ _ => spHas_any A n c l x hn W hA,
    fun A n c l W _ hA hn _ => spNorm_any A n c l hn W hA,
    fun A A2 n n2 c c2 a b W _ hA hB hn hn2 _ _ => spUnion_any A A2 n n2 c c2 a b hn hn2 W hA hB,
    fun A A2 n n2 c c2 a b W _ hA hB hn hn2 _ _ => spMeet_any A A2 n n2 c c2 a b hn hn2 W hA hB,
    fun A A2 n n2 c c2 a b W _ hA hB hn hn2 _ _ => spMinus_any A A2 n n2 c c2 a b hn hn2 W hA hB,
    fun A n c l s W _ hA hn _ _ _ => spCovers_any A n c l s hn W hA,
    fun A n c l W _ hA hn h => spTotal_any A n c l hn (fun x hx => by have := h x hx; omega) W hA⟩
end Go.Proofs.Ytkmbidmncnlbkaa
