/-
  Walks of slices.Grow (from nil), slices.Concat, bytes.Equal and slices.EqualFunc, for lists of bytes.
-/
import Derived.Test.YtoodeoglpdapiaaUm
import Derived.Test.YtoodeoglpdapiaaSs
import Derived.Lib.AppendZeros
import Derived.Laws.AppendOwnNone
namespace Go.Proofs.Ytoodeoglpdapiaa
open Go.RowKit Gf
set_option maxHeartbeats 400000

theorem wpList_append_nilmake {P : Program} {w : World} {ops : Array Oper} {rest : List Oper} {o : Oper} {a : Act} {Q : Exit → Act → World → Prop} (hgd : o.guard = none) (s x : Operand) (t tn : TypeId)
    (ho : o.op = .call { callee := .builtin .append, args := #[s, x], argTypes := #[t, tn] }) (e : TypeId) (i : TypeInfo) (z : Value) (k kn : IntKind) (ht : P.underlying t = some (.slice e)) (htn : P.underlying tn = some (.int kn)) (hi : P.info? e = some i) (hz : i.zero = some z) (hsz : i.size = 1) (hzs : z.cells.size = 1)
    (m : Nat) (hs : a.eval s = .slice none 0 0) (hx : a.eval x = .int k m) (hm : 0 < m) (h63 : m ≤ 9223372036854775807) (hbytes : m * i.bytes ≤ 281474976710656)
    (h : ∀ g' cap' w', 0 < cap' → w'.ownsRow w.heap.size e 1 (.slice (some ⟨g', 0, none⟩) 0 cap') 0 [] → Below w.heap.size w w' → wpList P ops Q rest (a.put o.dst (.slice (some ⟨g', 0, none⟩) m cap')) w') : wpList P ops Q (o :: rest) a w := by
  have hr := Lib.run_append_nil_zeros (P := P) w t tn o.type e i z k kn ht htn hi hz m hm (by omega) (by omega) hbytes
  have hge := grownCap_ge w m 0 e
  have hcm : grownCap w m 0 e ≤ maxLen := grownCap_le_maxLen w m 0 e (by unfold maxLen; omega)
  refine Lib.wpList_append_run w hgd s x t tn ho _ _ hs hx _ _ hr (h _ _ _ (by omega) ⟨rfl, .inr ⟨w.heap.size, _, _, rfl, Nat.le_refl _, heap_alloc_new w.drew _, Nat.zero_le _, hcm, ?_, rfl⟩⟩ (((Below.refl _ w).drew).alloc (Nat.le_refl _) _))
  simp only [Array.size_append, size_zeroCells, hzs]
  omega

theorem Grow_nil (n : Nat) (hn : n ≤ 1000000) (w : World) :
    Calls Try.prog 48 #[.slice none 0 0, .int .i64 n] w fun e w' => ∃ A' c', e = .returned (.slice A' 0 c') ∧ w'.ownsRow w.heap.size 5 1 (.slice A' 0 c') 0 [] ∧ Below w.heap.size w w' := by
  obtain ⟨iu, hu, hu0, hu1, hu2⟩ := info_parts info_u8
  by_cases h0 : n = 0
  · subst h0
    have hO := Lib.hid (World.ownsRow_nil w w.heap.size 5 1)
    go_enter Try.func48, Try.ntmps48
    go_wp2
    go_ret
    exact ⟨none, 0, rfl, hO.out, Below.refl _ _⟩
  · have n0 : (0 : Int) < (n : Int) := by omega
    have HB := Lib.hid (show n * iu.bytes ≤ 281474976710656 by rw [hu2]; omega)
    have HN := Lib.hid (show 0 < n by omega)
    have HN2 := Lib.hid (show n ≤ 9223372036854775807 by omega)
    go_enter Try.func48, Try.ntmps48
    go_wp2_with (refine wpList_append_nilmake rfl (.tmp 20) (.tmp 21) 22 3 rfl 5 iu _ .i64 .i64 Try.underlying22 Try.underlying3 hu hu0 hu1 rfl n rfl rfl HN.out HN2.out HB.out ?_; intro g1 cap1 w1 hc1 hown1 hb1; have hc1' : ¬ cap1 = 0 := Nat.ne_of_gt hc1; have HO := Lib.hid hown1; clear hown1)
    go_ret
    exact ⟨some ⟨g1, 0, none⟩, cap1, rfl, HO.out, hb1⟩

/-- The bytes of the first j lists, one after the other. -/
def catTo (ls : List (List UInt8)) (j : Nat) : List UInt8 := (ls.take j).flatten
theorem catTo_succ {ls : List (List UInt8)} {j : Nat} (h : j < ls.length) : catTo ls (j + 1) = catTo ls j ++ ls[j] := by
  unfold catTo
  rw [List.take_succ_eq_append_getElem h, List.flatten_append]; simp
theorem catTo_len {ls : List (List UInt8)} {B : Nat} (h : ∀ r ∈ ls, r.length ≤ B) : ∀ j, (catTo ls j).length ≤ j * B
  | 0 => by simp [catTo]
  | j + 1 => by
    by_cases hj : j < ls.length
    · rw [catTo_succ hj, List.length_append, Nat.succ_mul]
      have := catTo_len h j
      have := h _ (List.getElem_mem hj)
      omega
    · have : catTo ls (j + 1) = catTo ls j := by unfold catTo; rw [List.take_of_length_le (by omega), List.take_of_length_le (by omega)]
      rw [this, Nat.succ_mul]
      have := catTo_len h j
      omega

/-- An append of any slice of bytes, nil or not. -/
theorem wpList_append_byts {P : Program} {w : World} {ops : Array Oper} {rest : List Oper} {o : Oper} {a : Act} {Q : Exit → Act → World → Prop} (hgd : o.guard = none) (s x : Operand) (t : TypeId)
    (ho : o.op = .call { callee := .builtin .append, args := #[s, x], argTypes := #[t, t] })
    (base : Nat) (e : TypeId) (i : TypeInfo) (z : Value) (bytes : Nat) (ht : P.underlying t = some (.slice e)) (hi : P.info? e = some i) (hz : i.zero = some z)
    (hsize : i.size = 1) (hby : i.bytes = bytes) (hzs : z.cells.size = 1)
    (v : Value) (n : Nat) (xs : List Value) (hs : a.eval s = v) (hown : w.ownsRow base e 1 v n xs)
    (X : Option Addr) (m c : Nat) (ys : List UInt8) (hx : a.eval x = .slice X m c) (hm : ys.length = m) (hmc : m ≤ c) (hnil : X = none → c = 0) (hS : Byts w X ys)
    (h63 : n + m ≤ maxLen) (hbytes : (n + m) * bytes ≤ 140737488355328) (hbase : base ≤ w.heap.size)
    (h : ∀ v' w', w'.ownsRow base e 1 v' (n + m) (xs ++ bys ys) → (∀ w0 : World, w0.heap.size ≤ base → Below w0.heap.size w0 w → Below w0.heap.size w0 w') → wpList P ops Q rest (a.put o.dst v') w') : wpList P ops Q (o :: rest) a w := by
  cases X with
  | none =>
    have hc : c = 0 := hnil rfl
    subst hc
    have hm0 : m = 0 := by omega
    subst hm0
    have hys : ys = [] := List.eq_nil_of_length_eq_zero hm
    subst hys
    refine wpList_append_own_none hgd s x t ho base e i 1 ht hi v n xs hs hown hx (h v w (by simpa [bys] using hown) fun w0 _ hb => hb)
  | some ad =>
    by_cases hys : ys = []
    · subst hys
      have hm0 : m = 0 := by simpa using hm.symm
      subst hm0
      refine wpList_append_own w hgd s x t ho base e i z 1 bytes ht hi hz hsize hby hzs (by decide) v n xs hs hown ad 0 c [] hx rfl (fun j u hu => by simp at hu) (fun u hu => by simp at hu) h63 hbytes hbase fun v' w' h1 h2 _ => h v' w' h1 fun w0 hw0 hb => hb.grown h2 hb.size fun g hg => Nat.le_trans hw0 (hown.lt g hg).1
    · obtain ⟨g, o', hA, hg, hc⟩ := hS hys
      injection hA with hA
      subst hA
      refine wpList_append_own w hgd s x t ho base e i z 1 bytes ht hi hz hsize hby hzs (by decide) v n xs hs hown ⟨g, o', none⟩ m c (bys ys) hx (by rw [bys_length, Nat.mul_one]; exact hm) ?_ (bys_cells _) h63 hbytes hbase fun v' w' h1 h2 _ => h v' w' h1 fun w0 hw0 hb => hb.grown h2 hb.size fun g hg => Nat.le_trans hw0 (hown.lt g hg).1
      intro j u hu
      have hadd : (⟨g, o', none⟩ : Addr).add j = ⟨g, o' + j, none⟩ := by unfold Addr.add; split <;> simp_all
      rw [hadd]
      unfold bys at hu
      rw [List.getElem?_map, Option.map_eq_some_iff] at hu
      obtain ⟨y, hy, rfl⟩ := hu
      exact hc j y hy

set_option maxHeartbeats 1000000 in
theorem Concat_any (A : Option Addr) (n c : Nat) (ls : List (List UInt8)) (hn : ls.length = n) (hl : n ≤ 1000) (hr : ∀ r ∈ ls, r.length ≤ 1000) (w : World) (hA : Lists w A ls) :
    Calls Try.prog 35 #[.slice A n c] w fun e w' => ∃ A' m c', e = .returned (.slice A' m c') ∧ w'.ownsRow w.heap.size 5 1 (.slice A' m c') m (bys (catTo ls n)) ∧ Below w.heap.size w w' := by
  obtain ⟨iu, hu, hu0, hu1, hu2⟩ := info_parts info_u8
  have HN := Lib.hid hn
  have HR := Lib.hid hr
  have SA := Lib.hid hA
  clear hn hr hA
  go_enter Try.func35, Try.ntmps35
  go_wp2
  go_loopw [3, 11] (fun s i wr => ∃ q : Nat, q ≤ n ∧ i = .int .i64 q ∧ s = .int .i64 (catTo ls q).length ∧ wr = w) (fun _ i _ => n - (intOf i).toNat)
  case atStart => exact ⟨0, Nat.zero_le _, rfl, by simp [catTo], rfl⟩
  case round =>
    obtain ⟨q, hq, rfl, rfl, rfl⟩ := hrel
    by_cases hlt : q < n
    · have qn : (q : Int) < (n : Int) := by omega
      have q0 : (0 : Int) ≤ (q : Int) := by omega
      have hql : q < ls.length := by rw [HN.out]; exact hlt
      obtain ⟨g, o, rfl, hg, hc⟩ := SA.out (List.ne_nil_of_length_pos (by omega))
      obtain ⟨B, cb, q1, _⟩ := hc q ls[q] (List.getElem?_eq_getElem hql)
      have e : (catTo ls (q + 1)).length = (catTo ls q).length + ls[q].length := by rw [catTo_succ hql, List.length_append]
      have hlq := HR.out _ (List.getElem_mem hql)
      have hcl := catTo_len HR.out q
      have hcl2 : q * 1000 ≤ 1000 * 1000 := Nat.mul_le_mul (by omega) (Nat.le_refl _)
      obtain ⟨r, hr⟩ : ∃ r, ls[q].length = r := ⟨_, rfl⟩
      rw [hr] at q1 e hlq
      obtain ⟨X, hX⟩ : ∃ X, (catTo ls q).length = X := ⟨_, rfl⟩
      rw [hX] at e hcl ⊢
      have hX2 : X ≤ 1000000 := by omega
      have HE := Lib.hid e
      rename_i hgar
      clear hgar hc hr e hcl hcl2 hX
      go_wp2
      go_roundw
      case rel => exact ⟨q + 1, by omega, by go_num, by rw [HE.out]; go_num, trivial⟩
      case measure => simp [intOf]; omega
    · obtain rfl : q = n := by omega
      have hcl := catTo_len HR.out q
      have hcl2 : q * 1000 ≤ 1000 * 1000 := Nat.mul_le_mul (by omega) (Nat.le_refl _)
      have HG := Lib.hid (Grow_nil (catTo ls q).length (by omega) wr)
      obtain ⟨X, hX⟩ : ∃ X, (catTo ls q).length = X := ⟨_, rfl⟩
      rw [hX] at HG ⊢
      clear hX hcl hcl2
      obtain ⟨w0, hw0⟩ : ∃ W, W = wr := ⟨_, rfl⟩
      subst hw0
      go_wp2_with (go_at_call 48; with_reducible refine HG.out.mono ?_; rintro e w1 ⟨A1, c1, rfl, hown1, hb1⟩)
      have HO1 := Lib.hid (And.intro hown1 hb1)
      clear hown1 hb1
      go_loopw [6, 27] (fun v i wz => ∃ (p m : Nat) (A' : Option Addr) (c' : Nat), p ≤ q ∧ i = .int .i64 p ∧ v = .slice A' m c' ∧ (catTo ls p).length = m ∧ wz.ownsRow w0.heap.size 5 1 (.slice A' m c') m (bys (catTo ls p)) ∧ Below w0.heap.size w0 wz) (fun _ i _ => q - (intOf i).toNat)
      case atStart => exact ⟨0, 0, A1, c1, Nat.zero_le _, rfl, rfl, rfl, HO1.out.1, HO1.out.2⟩
      case round =>
        obtain ⟨p, m, A2, c2, hp, rfl, rfl, hm, hown, hbz⟩ := hrel
        have hbzs := hbz.size
        by_cases hlt2 : p < q
        · have pn : (p : Int) < (q : Int) := by omega
          have p0 : (0 : Int) ≤ (p : Int) := by omega
          have hpl : p < ls.length := by rw [HN.out]; exact hlt2
          obtain ⟨g, o, rfl, hg, hc⟩ := (SA.out.below hbz) (List.ne_nil_of_length_pos (by omega))
          obtain ⟨B, cb, q1, q2, _, q4, q5⟩ := hc p ls[p] (List.getElem?_eq_getElem hpl)
          have hlq := HR.out _ (List.getElem_mem hpl)
          have hcl := catTo_len HR.out p
          have hcl2 : p * 1000 ≤ 1000 * 1000 := Nat.mul_le_mul (by omega) (Nat.le_refl _)
          have hx := catTo_succ hpl
          obtain ⟨x, hxx⟩ : ∃ x, ls[p] = x := ⟨_, rfl⟩
          rw [hxx] at q1 q2 q5 hlq hx
          obtain ⟨nx, hnx⟩ : ∃ n, x.length = n := ⟨_, rfl⟩
          rw [hnx] at q1 q2 hlq
          have hm2 : m ≤ 1000000 := by omega
          have HX := Lib.hid hx
          have HNX := Lib.hid hnx
          have HM := Lib.hid hm
          have HS := Lib.hid q5
          have HNI := Lib.hid q4
          have HO := Lib.hid hown
          have HBZ := Lib.hid hbz
          rename_i hgar
          clear hgar hc q4 q5 hcl hcl2 hx hxx hnx hm hown hbz
          go_wp2_with (at_builtin; refine wpList_append_byts rfl _ _ 22 rfl w0.heap.size 5 iu _ 1 Try.underlying22 hu hu0 hu1 hu2 rfl _ _ _ rfl HO.out B nx cb x rfl HNX.out q2 HNI.out HS.out (by unfold maxLen; omega) (by omega) hbzs ?_; intro v' w6 hown6 hB6; rw [← bys_append, ← HX.out] at hown6; obtain ⟨A6, c6, rfl⟩ := own_form hown6)
          go_roundw
          case rel => exact ⟨p + 1, m + nx, A6, c6, by omega, by go_num, rfl, by rw [HX.out, List.length_append, HM.out, HNX.out], hown6, hB6 w0 (Nat.le_refl _) HBZ.out⟩
          case measure => simp [intOf]; omega
        · obtain rfl : p = q := by omega
          have HO := Lib.hid hown
          have HBZ := Lib.hid hbz
          clear hown hbz
          go_wp2
          go_ret
          exact ⟨A2, m, c2, rfl, HO.out, HBZ.out⟩
end Go.Proofs.Ytoodeoglpdapiaa
