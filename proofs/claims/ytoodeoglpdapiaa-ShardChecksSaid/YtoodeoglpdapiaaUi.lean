/-
  Walk of the program's first, for each of the three tests that are handed to it.
-/
import Derived.Test.YtoodeoglpdapiaaUh
namespace Go.Proofs.Ytoodeoglpdapiaa
open Go.RowKit Gf
set_option maxHeartbeats 400000

/-- The first k numbers below j that pass the test. -/
def isK (T : Nat → Bool) (k j : Nat) : List Nat := ((List.range j).filter T).take k
theorem isK_succ (T : Nat → Bool) (k j : Nat) : isK T k (j + 1) = if (isK T k j).length < k ∧ T j = true then isK T k j ++ [j] else isK T k j := by
  unfold isK
  rw [List.range_succ, List.filter_append, List.filter_cons, List.filter_nil]
  obtain ⟨F, hF⟩ : ∃ F, (List.range j).filter T = F := ⟨_, rfl⟩
  rw [hF, List.length_take]
  by_cases hT : T j = true
  · rw [if_pos hT]
    by_cases hk : F.length < k
    · rw [if_pos ⟨by omega, hT⟩, List.take_of_length_le (by simp; omega), List.take_of_length_le (by omega)]
    · rw [if_neg (fun h => by omega), List.take_append_of_le_length (by omega)]
  · rw [if_neg hT, if_neg (fun h => hT h.2), List.append_nil]
theorem isK_len (T : Nat → Bool) (k j : Nat) : (isK T k j).length ≤ k := by unfold isK; rw [List.length_take]; omega
theorem isK_le (T : Nat → Bool) (k j : Nat) : (isK T k j).length ≤ j := by
  unfold isK
  rw [List.length_take]
  have := List.length_filter_le T (List.range j)
  rw [List.length_range] at this
  omega
theorem isK_mem {T : Nat → Bool} {k j i : Nat} (h : i ∈ isK T k j) : i < j := List.mem_range.1 (List.mem_filter.1 (List.mem_of_mem_take h)).1
/-- The cells of known shards: each one's number, and what its cell holds. -/
def knCells (V : Nat → Value) : List Nat → List Value
  | [] => []
  | i :: is => .int .u8 (i : Int) :: V i :: knCells V is
theorem knCells_append (V : Nat → Value) (b : List Nat) : ∀ a, knCells V (a ++ b) = knCells V a ++ knCells V b
  | [] => rfl
  | i :: a => by simp [knCells, knCells_append V b a]
theorem knCells_get (V : Nat → Value) : ∀ (is : List Nat) (j i : Nat), is[j]? = some i → (knCells V is)[j * 2]? = some (.int .u8 (i : Int)) ∧ (knCells V is)[j * 2 + 1]? = some (V i)
  | [], j, i, h => by simp at h
  | a :: is, 0, i, h => by
    obtain rfl : a = i := by simpa using h
    exact ⟨rfl, rfl⟩
  | a :: is, j + 1, i, h => by
    have ih := knCells_get V is j i (by simpa using h)
    rw [show (j + 1) * 2 = j * 2 + 1 + 1 by omega]
    exact ⟨by simpa [knCells] using ih.1, by simpa [knCells] using ih.2⟩
theorem info_known : (Try.prog.info? 79).map (fun i => (i.zero, i.size, i.bytes)) = some (some (.agg #[.int .u8 0, .slice none 0 0]), 2, 32) := by kernel_rfl
theorem cell_two_new (w : World) (x y : Value) (t : TypeId) : ∀ (j : Nat) (u : Value), [x, y][j]? = some u → (w.alloc (.cells #[x, y] t)).cell? ((⟨w.heap.size, 0, none⟩ : Addr).add j) = some u := by
  intro j u h
  have hadd : (⟨w.heap.size, 0, none⟩ : Addr).add j = ⟨w.heap.size, j, none⟩ := by unfold Addr.add; split <;> simp_all
  rw [hadd, cell_of_row _ _ _ _ _ _ (heap_alloc_new w _)]
  simpa using h
/-- What the row of known shards gives. -/
theorem kns_of {okO ok : Nat → Prop} {w w' : World} {A A' : Option Addr} {c : Nat} {ls : List (List UInt8)} {V : Nat → Value} {is : List Nat} (hA : ListsO okO ok w A ls) (hok : ∀ b, w.heap.size ≤ b → ok b) (hV : ∀ g o i, A = some ⟨g, o, none⟩ → i < ls.length → w.cell? ⟨g, o + i, none⟩ = some (V i)) (his : ∀ i ∈ is, i < ls.length) (hl : ls.length ≤ 256)
    (hown : w'.ownsRow w.heap.size 79 2 (.slice A' is.length c) is.length (knCells V is)) (hb : Below w.heap.size w w') : Kns ok w' A' ls (is.map UInt8.ofNat) := fun hn => by
  have hn0 : 0 < is.length := by
    rcases Nat.eq_zero_or_pos is.length with h | h
    · exact absurd (by rw [List.eq_nil_of_length_eq_zero h]; rfl) hn
    · exact h
  obtain ⟨g', cap, hv, hge, hlt⟩ := hown.form hn0
  injection hv with h1 h2 h3
  subst h1
  subst h3
  refine ⟨g', rfl, hok _ hge, hlt, fun j p hp => ?_⟩
  rw [List.getElem?_map] at hp
  obtain ⟨i, hi, rfl⟩ := Option.map_eq_some_iff.1 hp
  have him : i ∈ is := List.mem_of_getElem? hi
  have hil := his i him
  have hj := (List.getElem?_eq_some_iff.1 hi).1
  obtain ⟨q1, q2⟩ := knCells_get V is j i hi
  have ho : (UInt8.ofNat i).toNat = i := ofNat_toNat (by omega)
  obtain ⟨g, o, rfl, _, hg, hc⟩ := hA (List.ne_nil_of_length_pos (by omega))
  obtain ⟨B, cb, r1, r2, _, _, r4⟩ := hc i ls[i] (List.getElem?_eq_getElem hil)
  have hvi := hV g o i rfl hil
  have hrow : rowOf ls (UInt8.ofNat i) = ls[i] := by unfold rowOf; rw [ho, List.getElem?_eq_getElem hil]; rfl
  refine ⟨?_, B, cb, ?_, ?_, ?_⟩
  · rw [hown.cellAt (j * 2) (by omega), q1, ho]
  · rw [hown.cellAt (j * 2 + 1) (by omega), q2, hrow, ← hvi, r1]
  · rw [hrow]; exact r2
  · rw [hrow]; exact r4.below hb

set_option maxHeartbeats 2000000 in
theorem firstE_any (A : Option Addr) (n c : Nat) (ls : List (List UInt8)) (hn : ls.length = n) (hl : n ≤ 255) (k : Nat) (okO ok : Nat → Prop) (w : World) (hok : ∀ b, w.heap.size ≤ b → ok b) (hAO : ListsO okO ok w A ls) :
    Calls Try.prog 43 #[.slice A n c, .int .i64 k, .func (.func 44) #[] #[]] w fun e w' => ∃ A' c', e = .returned (.slice A' (isK (fun _ => true) k n).length c') ∧ Kns ok w' A' ls ((isK (fun _ => true) k n).map UInt8.ofNat) ∧ Below w.heap.size w w' := by
  obtain ⟨i0, hi, hz0, hz1, hz2⟩ := info_parts info_known
  have hA := hAO.lists
  have hTE := fun (i : Nat) (_ : i < n) (W : World) (_ : Below w.heap.size w W) => testE_any (i : Int) W
  obtain ⟨T, hTT⟩ : ∃ T : Nat → Bool, (fun _ => true) = T := ⟨_, rfl⟩
  have hTE2 : ∀ (i : Nat), i < n → ∀ W, Below w.heap.size w W → Calls Try.prog 44 #[.int .i64 i] W fun e w' => e = .returned (.bool (T i)) ∧ ∃ n, w' = W.drewN n := fun i hi W h => by
    have := hTE i hi W h
    rw [← hTT]
    exact this
  rw [hTT]
  have HTE := Lib.hid hTE2
  obtain ⟨V, hV⟩ : ∃ V : Nat → Value, ∀ g o i, A = some ⟨g, o, none⟩ → i < ls.length → w.cell? ⟨g, o + i, none⟩ = some (V i) := by
    refine ⟨fun i => match A with | some a => (w.cell? ⟨a.block, a.off + i, none⟩).getD undef | none => undef, ?_⟩
    rintro g o i rfl hil
    obtain ⟨g', o', e, _, hc⟩ := hA (List.ne_nil_of_length_pos (by omega))
    injection e with e
    injection e with e1 e2
    subst e1 e2
    obtain ⟨B, cb, h1, _⟩ := hc i ls[i] (List.getElem?_eq_getElem hil)
    show _ = some ((w.cell? ⟨g, o + i, none⟩).getD undef)
    rw [h1]; rfl
  have HN := Lib.hid hn
  have SA := Lib.hid hA
  have SAO := Lib.hid hAO
  have HV := Lib.hid hV
  clear hn hA hAO hV hTE hTE2 hTT 
  go_enter Try.func43, Try.ntmps43
  go_wp2
  go_loopw [7, 12] (fun s i wr => ∃ (j q : Nat) (A' : Option Addr) (c' : Nat), j ≤ n ∧ i = .int .i64 j ∧ (isK T k j).length = q ∧ s = .slice A' q c' ∧ wr.ownsRow w.heap.size 79 2 (.slice A' q c') q (knCells V (isK T k j)) ∧ Below w.heap.size w wr) (fun _ i _ => n - (intOf i).toNat)
  case atStart => exact ⟨0, 0, none, 0, Nat.zero_le _, rfl, by simp [isK], rfl, by simpa [isK, knCells] using World.ownsRow_nil w w.heap.size 79 2, Below.refl _ _⟩
  case round =>
    obtain ⟨j, q, A', c', hj, rfl, hq, rfl, hown, hbw⟩ := hrel
    have hbs := hbw.size
    have hqk : q ≤ k := by rw [← hq]; exact isK_len _ _ _
    have hqj : q ≤ j := by rw [← hq]; exact isK_le _ _ _
    have HQ := Lib.hid hq
    clear hq
    by_cases hlt : j < n
    · have jn : (j : Int) < (n : Int) := by omega
      have j0 : (0 : Int) ≤ (j : Int) := by omega
      have hjl : j < ls.length := by rw [HN.out]; exact hlt
      obtain ⟨g, o, rfl, hg, hc⟩ := SA.out (List.ne_nil_of_length_pos (by omega))
      obtain ⟨B, cb, h1, _⟩ := hc j ls[j] (List.getElem?_eq_getElem hjl)
      have hvj := Option.some.inj ((HV.out g o j rfl hjl).symm.trans h1)
      obtain ⟨r, hr⟩ : ∃ r, ls[j].length = r := ⟨_, rfl⟩
      rw [hr] at h1 hvj
      have HVJ := Lib.hid hvj
      have e1 := (hbw.cell (p := ⟨g, o + j, none⟩) hg).trans h1
      rename_i hgar
      clear hgar hc h1 hvj hr
      have hTj := HTE.out j hlt wr hbw
      cases hT : T j
      · rw [hT] at hTj
        have HT := Lib.hid hT
        have HTJ := Lib.hid hTj
        have HO := Lib.hid hown
        have HBW := Lib.hid hbw
        have HKS := Lib.hid (show isK T k (j + 1) = isK T k j by rw [isK_succ, if_neg (fun h => by rw [HT.out] at h; exact absurd h.2 (by decide))])
        clear hT hTj hown hbw hjl
        by_cases hqlt : q < k
        · have qk : (q : Int) < (k : Int) := by omega
          go_wp2_with (go_at_call 44; with_reducible refine HTJ.out.mono ?_; rintro e w2 ⟨rfl, m, rfl⟩)
          go_roundw
          case rel => exact ⟨j + 1, q, A', c', by omega, by go_num, by rw [HKS.out]; exact HQ.out, rfl, by rw [HKS.out]; exact own_drewN HO.out m, HBW.out.trans ((below_drewN _ _).mono hbs)⟩
          case measure => simp [intOf]; omega
        · have qk : ¬ (q : Int) < (k : Int) := by omega
          go_wp2
          go_roundw
          case rel => exact ⟨j + 1, q, A', c', by omega, by go_num, by rw [HKS.out]; exact HQ.out, rfl, by rw [HKS.out]; exact HO.out, HBW.out⟩
          case measure => simp [intOf]; omega
      · rw [hT] at hTj
        have HT := Lib.hid hT
        have HTJ := Lib.hid hTj
        have HO := Lib.hid hown
        have HBW := Lib.hid hbw
        clear hT hTj hown hbw hjl
        by_cases hqlt : q < k
        · have qk : (q : Int) < (k : Int) := by omega
          have HKS := Lib.hid (show isK T k (j + 1) = isK T k j ++ [j] by rw [isK_succ, if_pos ⟨by rw [HQ.out]; exact hqlt, HT.out⟩])
          have HKC := Lib.hid (show knCells V (isK T k (j + 1)) = knCells V (isK T k j) ++ [.int .u8 (j : Int), .slice B r cb] by rw [HKS.out, knCells_append, show knCells V [j] = [.int .u8 (j : Int), V j] from rfl, HVJ.out])
          have j256 : (j : Int) < 256 := by omega
          go_wp2_with (first | (go_at_call 44; with_reducible refine HTJ.out.mono ?_; rintro e w2 ⟨rfl, m, rfl⟩) | (at_builtin; refine wpList_append_own _ rfl _ _ 71 rfl w.heap.size 79 i0 _ 2 32 Try.underlying71 hi hz0 hz1 hz2 rfl (by decide) _ _ _ rfl ((own_drewN HO.out m).alloc _) ⟨wr.heap.size, 0, none⟩ 1 1 [.int .u8 (j : Int), .slice B r cb] rfl rfl (cell_two_new _ _ _ _) (by simp [Value.oneCell']) (by unfold maxLen; omega) (by omega) (by simp [World.drewN]; omega) ?_; intro v' w1 hown' hgrow _; obtain ⟨g', cap', rfl⟩ := ownsRow_succ hown'))
          have hb2 : Below w.heap.size w w1 := ((HBW.out.trans ((below_drewN wr m).mono hbs)).alloc hbs _).grown hgrow (by simp [World.drewN]; omega) (fun t ht => (HO.out.lt t ht).1)
          go_roundw
          case rel =>
            refine ⟨j + 1, q + 1, some ⟨g', 0, none⟩, cap', by omega, by go_num, by rw [HKS.out, List.length_append, HQ.out]; rfl, rfl, ?_, hb2⟩
            rw [HKC.out]
            exact hown'
          case measure => simp [intOf]; omega
        · have qk : ¬ (q : Int) < (k : Int) := by omega
          have HKS := Lib.hid (show isK T k (j + 1) = isK T k j by rw [isK_succ, if_neg (fun h => by have := h.1; rw [HQ.out] at this; omega)])
          go_wp2
          go_roundw
          case rel => exact ⟨j + 1, q, A', c', by omega, by go_num, by rw [HKS.out]; exact HQ.out, rfl, by rw [HKS.out]; exact HO.out, HBW.out⟩
          case measure => simp [intOf]; omega
    · obtain rfl : j = n := by omega
      have hq := HQ.out
      subst hq
      have HK := Lib.hid (kns_of SAO.out hok HV.out (fun i hi => by have := isK_mem hi; rw [HN.out]; exact this) (by rw [HN.out]; omega) hown hbw)
      have HBW := Lib.hid hbw
      clear hown hbw
      go_wp2
      go_ret
      exact ⟨A', ⟨c', rfl⟩, HK.out, HBW.out⟩

set_option maxHeartbeats 2000000 in
theorem firstD_any (A : Option Addr) (n c : Nat) (ls : List (List UInt8)) (hn : ls.length = n) (hl : n ≤ 255) (k : Nat) (bl be L : Nat) (okO ok : Nat → Prop) (w : World) (hok : ∀ b, w.heap.size ≤ b → ok b) (hAO : ListsO okO ok w A ls) (hb : w.cell? ⟨bl, 0, none⟩ = some (.slice A n c)) (he : w.cell? ⟨be, 0, none⟩ = some (.int .i64 L)) :
    Calls Try.prog 43 #[.slice A n c, .int .i64 k, .func (.func 46) #[] #[.pointer (some ⟨bl, 0, none⟩), .pointer (some ⟨be, 0, none⟩)]] w fun e w' => ∃ A' c', e = .returned (.slice A' (isK (isT ls L (-1)) k n).length c') ∧ Kns ok w' A' ls ((isK (isT ls L (-1)) k n).map UInt8.ofNat) ∧ Below w.heap.size w w' := by
  obtain ⟨i0, hi, hz0, hz1, hz2⟩ := info_parts info_known
  have hA := hAO.lists
  have hTE := fun (i : Nat) (hi : i < n) (W : World) (h : Below w.heap.size w W) => testD_any bl be A n c ls hn L i hi W ((h.cell (p := ⟨bl, 0, none⟩) (block_lt_of_cell hb)).trans hb) ((h.cell (p := ⟨be, 0, none⟩) (block_lt_of_cell he)).trans he) (hA.below h)
  obtain ⟨T, hTT⟩ : ∃ T : Nat → Bool, (isT ls L (-1)) = T := ⟨_, rfl⟩
  have hTE2 : ∀ (i : Nat), i < n → ∀ W, Below w.heap.size w W → Calls Try.prog 46 #[.int .i64 i, .pointer (some ⟨bl, 0, none⟩), .pointer (some ⟨be, 0, none⟩)] W fun e w' => e = .returned (.bool (T i)) ∧ ∃ n, w' = W.drewN n := fun i hi W h => by
    have := hTE i hi W h
    rw [← hTT]
    exact this
  rw [hTT]
  have HTE := Lib.hid hTE2
  obtain ⟨V, hV⟩ : ∃ V : Nat → Value, ∀ g o i, A = some ⟨g, o, none⟩ → i < ls.length → w.cell? ⟨g, o + i, none⟩ = some (V i) := by
    refine ⟨fun i => match A with | some a => (w.cell? ⟨a.block, a.off + i, none⟩).getD undef | none => undef, ?_⟩
    rintro g o i rfl hil
    obtain ⟨g', o', e, _, hc⟩ := hA (List.ne_nil_of_length_pos (by omega))
    injection e with e
    injection e with e1 e2
    subst e1 e2
    obtain ⟨B, cb, h1, _⟩ := hc i ls[i] (List.getElem?_eq_getElem hil)
    show _ = some ((w.cell? ⟨g, o + i, none⟩).getD undef)
    rw [h1]; rfl
  have HN := Lib.hid hn
  have SA := Lib.hid hA
  have SAO := Lib.hid hAO
  have HV := Lib.hid hV
  clear hn hA hAO hV hTE hTE2 hTT hb he 
  go_enter Try.func43, Try.ntmps43
  go_wp2
  go_loopw [7, 12] (fun s i wr => ∃ (j q : Nat) (A' : Option Addr) (c' : Nat), j ≤ n ∧ i = .int .i64 j ∧ (isK T k j).length = q ∧ s = .slice A' q c' ∧ wr.ownsRow w.heap.size 79 2 (.slice A' q c') q (knCells V (isK T k j)) ∧ Below w.heap.size w wr) (fun _ i _ => n - (intOf i).toNat)
  case atStart => exact ⟨0, 0, none, 0, Nat.zero_le _, rfl, by simp [isK], rfl, by simpa [isK, knCells] using World.ownsRow_nil w w.heap.size 79 2, Below.refl _ _⟩
  case round =>
    obtain ⟨j, q, A', c', hj, rfl, hq, rfl, hown, hbw⟩ := hrel
    have hbs := hbw.size
    have hqk : q ≤ k := by rw [← hq]; exact isK_len _ _ _
    have hqj : q ≤ j := by rw [← hq]; exact isK_le _ _ _
    have HQ := Lib.hid hq
    clear hq
    by_cases hlt : j < n
    · have jn : (j : Int) < (n : Int) := by omega
      have j0 : (0 : Int) ≤ (j : Int) := by omega
      have hjl : j < ls.length := by rw [HN.out]; exact hlt
      obtain ⟨g, o, rfl, hg, hc⟩ := SA.out (List.ne_nil_of_length_pos (by omega))
      obtain ⟨B, cb, h1, _⟩ := hc j ls[j] (List.getElem?_eq_getElem hjl)
      have hvj := Option.some.inj ((HV.out g o j rfl hjl).symm.trans h1)
      obtain ⟨r, hr⟩ : ∃ r, ls[j].length = r := ⟨_, rfl⟩
      rw [hr] at h1 hvj
      have HVJ := Lib.hid hvj
      have e1 := (hbw.cell (p := ⟨g, o + j, none⟩) hg).trans h1
      rename_i hgar
      clear hgar hc h1 hvj hr
      have hTj := HTE.out j hlt wr hbw
      cases hT : T j
      · rw [hT] at hTj
        have HT := Lib.hid hT
        have HTJ := Lib.hid hTj
        have HO := Lib.hid hown
        have HBW := Lib.hid hbw
        have HKS := Lib.hid (show isK T k (j + 1) = isK T k j by rw [isK_succ, if_neg (fun h => by rw [HT.out] at h; exact absurd h.2 (by decide))])
        clear hT hTj hown hbw hjl
        by_cases hqlt : q < k
        · have qk : (q : Int) < (k : Int) := by omega
          go_wp2_with (go_at_call 46; with_reducible refine HTJ.out.mono ?_; rintro e w2 ⟨rfl, m, rfl⟩)
          go_roundw
          case rel => exact ⟨j + 1, q, A', c', by omega, by go_num, by rw [HKS.out]; exact HQ.out, rfl, by rw [HKS.out]; exact own_drewN HO.out m, HBW.out.trans ((below_drewN _ _).mono hbs)⟩
          case measure => simp [intOf]; omega
        · have qk : ¬ (q : Int) < (k : Int) := by omega
          go_wp2
          go_roundw
          case rel => exact ⟨j + 1, q, A', c', by omega, by go_num, by rw [HKS.out]; exact HQ.out, rfl, by rw [HKS.out]; exact HO.out, HBW.out⟩
          case measure => simp [intOf]; omega
      · rw [hT] at hTj
        have HT := Lib.hid hT
        have HTJ := Lib.hid hTj
        have HO := Lib.hid hown
        have HBW := Lib.hid hbw
        clear hT hTj hown hbw hjl
        by_cases hqlt : q < k
        · have qk : (q : Int) < (k : Int) := by omega
          have HKS := Lib.hid (show isK T k (j + 1) = isK T k j ++ [j] by rw [isK_succ, if_pos ⟨by rw [HQ.out]; exact hqlt, HT.out⟩])
          have HKC := Lib.hid (show knCells V (isK T k (j + 1)) = knCells V (isK T k j) ++ [.int .u8 (j : Int), .slice B r cb] by rw [HKS.out, knCells_append, show knCells V [j] = [.int .u8 (j : Int), V j] from rfl, HVJ.out])
          have j256 : (j : Int) < 256 := by omega
          go_wp2_with (first | (go_at_call 46; with_reducible refine HTJ.out.mono ?_; rintro e w2 ⟨rfl, m, rfl⟩) | (at_builtin; refine wpList_append_own _ rfl _ _ 71 rfl w.heap.size 79 i0 _ 2 32 Try.underlying71 hi hz0 hz1 hz2 rfl (by decide) _ _ _ rfl ((own_drewN HO.out m).alloc _) ⟨wr.heap.size, 0, none⟩ 1 1 [.int .u8 (j : Int), .slice B r cb] rfl rfl (cell_two_new _ _ _ _) (by simp [Value.oneCell']) (by unfold maxLen; omega) (by omega) (by simp [World.drewN]; omega) ?_; intro v' w1 hown' hgrow _; obtain ⟨g', cap', rfl⟩ := ownsRow_succ hown'))
          have hb2 : Below w.heap.size w w1 := ((HBW.out.trans ((below_drewN wr m).mono hbs)).alloc hbs _).grown hgrow (by simp [World.drewN]; omega) (fun t ht => (HO.out.lt t ht).1)
          go_roundw
          case rel =>
            refine ⟨j + 1, q + 1, some ⟨g', 0, none⟩, cap', by omega, by go_num, by rw [HKS.out, List.length_append, HQ.out]; rfl, rfl, ?_, hb2⟩
            rw [HKC.out]
            exact hown'
          case measure => simp [intOf]; omega
        · have qk : ¬ (q : Int) < (k : Int) := by omega
          have HKS := Lib.hid (show isK T k (j + 1) = isK T k j by rw [isK_succ, if_neg (fun h => by have := h.1; rw [HQ.out] at this; omega)])
          go_wp2
          go_roundw
          case rel => exact ⟨j + 1, q, A', c', by omega, by go_num, by rw [HKS.out]; exact HQ.out, rfl, by rw [HKS.out]; exact HO.out, HBW.out⟩
          case measure => simp [intOf]; omega
    · obtain rfl : j = n := by omega
      have hq := HQ.out
      subst hq
      have HK := Lib.hid (kns_of SAO.out hok HV.out (fun i hi => by have := isK_mem hi; rw [HN.out]; exact this) (by rw [HN.out]; omega) hown hbw)
      have HBW := Lib.hid hbw
      clear hown hbw
      go_wp2
      go_ret
      exact ⟨A', ⟨c', rfl⟩, HK.out, HBW.out⟩

set_option maxHeartbeats 2000000 in
theorem firstR_any (A : Option Addr) (n c : Nat) (ls : List (List UInt8)) (hn : ls.length = n) (hl : n ≤ 255) (k : Nat) (bi bl be q L : Nat) (okO ok : Nat → Prop) (w : World) (hok : ∀ b, w.heap.size ≤ b → ok b) (hAO : ListsO okO ok w A ls) (hq : w.cell? ⟨bi, 0, none⟩ = some (.int .i64 q)) (hb : w.cell? ⟨bl, 0, none⟩ = some (.slice A n c)) (he : w.cell? ⟨be, 0, none⟩ = some (.int .i64 L)) :
    Calls Try.prog 43 #[.slice A n c, .int .i64 k, .func (.func 47) #[] #[.pointer (some ⟨bi, 0, none⟩), .pointer (some ⟨bl, 0, none⟩), .pointer (some ⟨be, 0, none⟩)]] w fun e w' => ∃ A' c', e = .returned (.slice A' (isK (isT ls L q) k n).length c') ∧ Kns ok w' A' ls ((isK (isT ls L q) k n).map UInt8.ofNat) ∧ Below w.heap.size w w' := by
  obtain ⟨i0, hi, hz0, hz1, hz2⟩ := info_parts info_known
  have hA := hAO.lists
  have hTE := fun (i : Nat) (hi : i < n) (W : World) (h : Below w.heap.size w W) => testR_any bi bl be A n c ls hn q L i hi W ((h.cell (p := ⟨bi, 0, none⟩) (block_lt_of_cell hq)).trans hq) ((h.cell (p := ⟨bl, 0, none⟩) (block_lt_of_cell hb)).trans hb) ((h.cell (p := ⟨be, 0, none⟩) (block_lt_of_cell he)).trans he) (hA.below h)
  obtain ⟨T, hTT⟩ : ∃ T : Nat → Bool, (isT ls L q) = T := ⟨_, rfl⟩
  have hTE2 : ∀ (i : Nat), i < n → ∀ W, Below w.heap.size w W → Calls Try.prog 47 #[.int .i64 i, .pointer (some ⟨bi, 0, none⟩), .pointer (some ⟨bl, 0, none⟩), .pointer (some ⟨be, 0, none⟩)] W fun e w' => e = .returned (.bool (T i)) ∧ ∃ n, w' = W.drewN n := fun i hi W h => by
    have := hTE i hi W h
    rw [← hTT]
    exact this
  rw [hTT]
  have HTE := Lib.hid hTE2
  obtain ⟨V, hV⟩ : ∃ V : Nat → Value, ∀ g o i, A = some ⟨g, o, none⟩ → i < ls.length → w.cell? ⟨g, o + i, none⟩ = some (V i) := by
    refine ⟨fun i => match A with | some a => (w.cell? ⟨a.block, a.off + i, none⟩).getD undef | none => undef, ?_⟩
    rintro g o i rfl hil
    obtain ⟨g', o', e, _, hc⟩ := hA (List.ne_nil_of_length_pos (by omega))
    injection e with e
    injection e with e1 e2
    subst e1 e2
    obtain ⟨B, cb, h1, _⟩ := hc i ls[i] (List.getElem?_eq_getElem hil)
    show _ = some ((w.cell? ⟨g, o + i, none⟩).getD undef)
    rw [h1]; rfl
  have HN := Lib.hid hn
  have SA := Lib.hid hA
  have SAO := Lib.hid hAO
  have HV := Lib.hid hV
  clear hn hA hAO hV hTE hTE2 hTT hq hb he 
  go_enter Try.func43, Try.ntmps43
  go_wp2
  go_loopw [7, 12] (fun s i wr => ∃ (j q : Nat) (A' : Option Addr) (c' : Nat), j ≤ n ∧ i = .int .i64 j ∧ (isK T k j).length = q ∧ s = .slice A' q c' ∧ wr.ownsRow w.heap.size 79 2 (.slice A' q c') q (knCells V (isK T k j)) ∧ Below w.heap.size w wr) (fun _ i _ => n - (intOf i).toNat)
  case atStart => exact ⟨0, 0, none, 0, Nat.zero_le _, rfl, by simp [isK], rfl, by simpa [isK, knCells] using World.ownsRow_nil w w.heap.size 79 2, Below.refl _ _⟩
  case round =>
    obtain ⟨j, q, A', c', hj, rfl, hq, rfl, hown, hbw⟩ := hrel
    have hbs := hbw.size
    have hqk : q ≤ k := by rw [← hq]; exact isK_len _ _ _
    have hqj : q ≤ j := by rw [← hq]; exact isK_le _ _ _
    have HQ := Lib.hid hq
    clear hq
    by_cases hlt : j < n
    · have jn : (j : Int) < (n : Int) := by omega
      have j0 : (0 : Int) ≤ (j : Int) := by omega
      have hjl : j < ls.length := by rw [HN.out]; exact hlt
      obtain ⟨g, o, rfl, hg, hc⟩ := SA.out (List.ne_nil_of_length_pos (by omega))
      obtain ⟨B, cb, h1, _⟩ := hc j ls[j] (List.getElem?_eq_getElem hjl)
      have hvj := Option.some.inj ((HV.out g o j rfl hjl).symm.trans h1)
      obtain ⟨r, hr⟩ : ∃ r, ls[j].length = r := ⟨_, rfl⟩
      rw [hr] at h1 hvj
      have HVJ := Lib.hid hvj
      have e1 := (hbw.cell (p := ⟨g, o + j, none⟩) hg).trans h1
      rename_i hgar
      clear hgar hc h1 hvj hr
      have hTj := HTE.out j hlt wr hbw
      cases hT : T j
      · rw [hT] at hTj
        have HT := Lib.hid hT
        have HTJ := Lib.hid hTj
        have HO := Lib.hid hown
        have HBW := Lib.hid hbw
        have HKS := Lib.hid (show isK T k (j + 1) = isK T k j by rw [isK_succ, if_neg (fun h => by rw [HT.out] at h; exact absurd h.2 (by decide))])
        clear hT hTj hown hbw hjl
        by_cases hqlt : q < k
        · have qk : (q : Int) < (k : Int) := by omega
          go_wp2_with (go_at_call 47; with_reducible refine HTJ.out.mono ?_; rintro e w2 ⟨rfl, m, rfl⟩)
          go_roundw
          case rel => exact ⟨j + 1, q, A', c', by omega, by go_num, by rw [HKS.out]; exact HQ.out, rfl, by rw [HKS.out]; exact own_drewN HO.out m, HBW.out.trans ((below_drewN _ _).mono hbs)⟩
          case measure => simp [intOf]; omega
        · have qk : ¬ (q : Int) < (k : Int) := by omega
          go_wp2
          go_roundw
          case rel => exact ⟨j + 1, q, A', c', by omega, by go_num, by rw [HKS.out]; exact HQ.out, rfl, by rw [HKS.out]; exact HO.out, HBW.out⟩
          case measure => simp [intOf]; omega
      · rw [hT] at hTj
        have HT := Lib.hid hT
        have HTJ := Lib.hid hTj
        have HO := Lib.hid hown
        have HBW := Lib.hid hbw
        clear hT hTj hown hbw hjl
        by_cases hqlt : q < k
        · have qk : (q : Int) < (k : Int) := by omega
          have HKS := Lib.hid (show isK T k (j + 1) = isK T k j ++ [j] by rw [isK_succ, if_pos ⟨by rw [HQ.out]; exact hqlt, HT.out⟩])
          have HKC := Lib.hid (show knCells V (isK T k (j + 1)) = knCells V (isK T k j) ++ [.int .u8 (j : Int), .slice B r cb] by rw [HKS.out, knCells_append, show knCells V [j] = [.int .u8 (j : Int), V j] from rfl, HVJ.out])
          have j256 : (j : Int) < 256 := by omega
          go_wp2_with (first | (go_at_call 47; with_reducible refine HTJ.out.mono ?_; rintro e w2 ⟨rfl, m, rfl⟩) | (at_builtin; refine wpList_append_own _ rfl _ _ 71 rfl w.heap.size 79 i0 _ 2 32 Try.underlying71 hi hz0 hz1 hz2 rfl (by decide) _ _ _ rfl ((own_drewN HO.out m).alloc _) ⟨wr.heap.size, 0, none⟩ 1 1 [.int .u8 (j : Int), .slice B r cb] rfl rfl (cell_two_new _ _ _ _) (by simp [Value.oneCell']) (by unfold maxLen; omega) (by omega) (by simp [World.drewN]; omega) ?_; intro v' w1 hown' hgrow _; obtain ⟨g', cap', rfl⟩ := ownsRow_succ hown'))
          have hb2 : Below w.heap.size w w1 := ((HBW.out.trans ((below_drewN wr m).mono hbs)).alloc hbs _).grown hgrow (by simp [World.drewN]; omega) (fun t ht => (HO.out.lt t ht).1)
          go_roundw
          case rel =>
            refine ⟨j + 1, q + 1, some ⟨g', 0, none⟩, cap', by omega, by go_num, by rw [HKS.out, List.length_append, HQ.out]; rfl, rfl, ?_, hb2⟩
            rw [HKC.out]
            exact hown'
          case measure => simp [intOf]; omega
        · have qk : ¬ (q : Int) < (k : Int) := by omega
          have HKS := Lib.hid (show isK T k (j + 1) = isK T k j by rw [isK_succ, if_neg (fun h => by have := h.1; rw [HQ.out] at this; omega)])
          go_wp2
          go_roundw
          case rel => exact ⟨j + 1, q, A', c', by omega, by go_num, by rw [HKS.out]; exact HQ.out, rfl, by rw [HKS.out]; exact HO.out, HBW.out⟩
          case measure => simp [intOf]; omega
    · obtain rfl : j = n := by omega
      have hq := HQ.out
      subst hq
      have HK := Lib.hid (kns_of SAO.out hok HV.out (fun i hi => by have := isK_mem hi; rw [HN.out]; exact this) (by rw [HN.out]; omega) hown hbw)
      have HBW := Lib.hid hbw
      clear hown hbw
      go_wp2
      go_ret
      exact ⟨A', ⟨c', rfl⟩, HK.out, HBW.out⟩
end Go.Proofs.Ytoodeoglpdapiaa
