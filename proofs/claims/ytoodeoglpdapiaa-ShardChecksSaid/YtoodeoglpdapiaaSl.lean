/-
  Walks of the reference's Same, SameShards, Numbers and Left.
-/
import Derived.Test.YtoodeoglpdapiaaSk
import Derived.Laws.BytesArg
import Derived.Laws.IdiomStrings
import Derived.Lib.Strings
namespace Go.Proofs.Ytoodeoglpdapiaa
open Go.RowKit Gf
set_option maxHeartbeats 400000

def tx (l : List UInt8) : ByteArray := ⟨l.toArray⟩
theorem tx_inj {a b : List UInt8} : tx a = tx b ↔ a = b := by
  constructor
  · intro h
    have := congrArg (fun s : ByteArray => s.data.toList) h
    simpa [tx] using this
  · intro h; rw [h]
theorem str_any {w : World} {A : Option Addr} {l : List UInt8} (h : Byts w A l) (n c : Nat) (hn : l.length = n) : (convert 22 9 (.slice A n c)).run Try.prog w = .ok (.string (tx l)) w := by
  subst hn
  by_cases h0 : l = []
  · subst h0
    cases A with
    | none => exact run_convert_bytes_nil w 22 5 Try.underlying22 Try.underlying5 0 c 9 Try.underlying9
    | some a => exact run_convert_bytes_back w 22 9 5 a c [] Try.underlying22 Try.underlying5 Try.underlying9 (fun j hj => by simp at hj)
  · obtain ⟨b, o, rfl, _, hc⟩ := h h0
    refine run_convert_bytes_back w 22 9 5 ⟨b, o, none⟩ c l Try.underlying22 Try.underlying5 Try.underlying9 (fun j hj => ?_)
    have hadd : (⟨b, o, none⟩ : Addr).add j = ⟨b, o + j, none⟩ := by unfold Addr.add; split <;> simp_all
    rw [hadd]
    exact hc j l[j] (List.getElem?_eq_getElem hj)

theorem tx_list (l : List UInt8) : (tx l).toList = l := by rw [Lib.toList_data]; simp [tx]
theorem tx_beq (a b : List UInt8) : ((tx a).toList == (tx b).toList) = decide (a = b) := by
  rw [tx_list, tx_list, Bool.eq_iff_iff]; simp

set_option maxHeartbeats 1000000 in
theorem Same_any (A A2 : Option Addr) (n c n2 c2 : Nat) (l l2 : List UInt8) (hn : l.length = n) (hn2 : l2.length = n2) (e e2 : Int) (w : World) (hA : Byts w A l) (hA2 : Byts w A2 l2) :
    Calls Try.prog 14 #[.agg #[.slice A n c, .int .i64 e], .agg #[.slice A2 n2 c2, .int .i64 e2]] w fun d w' => d = .returned (.bool (decide (l = l2) && (e == e2))) ∧ Below w.heap.size w w' := by
  have hW : Below w.heap.size w ((w.alloc (.cells #[.slice A n c, .int .i64 e] 34)).alloc (.cells #[.slice A2 n2 c2, .int .i64 e2] 34)) := by go_grown
  have s1 := str_any (hA.below hW) n c hn
  have s2 := str_any (hA2.below hW) n2 c2 hn2
  have HN := Lib.hid hn
  clear hn hn2 hA hA2
  by_cases h : l = l2
  · have ht : ((tx l).toList == (tx l2).toList) = true := by rw [tx_beq]; simp [h]
    have H := Lib.hid h
    clear h
    go_enter Try.func14, Try.ntmps14
    go_wp2
    go_ret
    exact ⟨ret_bool (by simp [H.out]), hW⟩
  · have ht : ((tx l).toList == (tx l2).toList) = false := by rw [tx_beq]; simp [h]
    have H := Lib.hid h
    clear h
    go_enter Try.func14, Try.ntmps14
    go_wp2
    go_ret
    exact ⟨ret_bool (by simp [H.out]), hW⟩

theorem byts_drew {w : World} {A : Option Addr} {l : List UInt8} (h : Byts w A l) (k : Nat) : Byts (w.drewN k) A l := h.below (below_drewN w k)
theorem tx_bne (a b : List UInt8) : ((tx a).toList != (tx b).toList) = !decide (a = b) := by rw [bne, tx_beq]
set_option maxHeartbeats 1000000 in
theorem SameShards_any (A A2 : Option Addr) (n c n2 c2 : Nat) (ls ls2 : List (List UInt8)) (hn : ls.length = n) (hn2 : ls2.length = n2) (hl : n ≤ 9223372036854775806) (w : World) (hA : Lists w A ls) (hA2 : Lists w A2 ls2) :
    Calls Try.prog 13 #[.slice A n c, .slice A2 n2 c2] w fun d w' => d = .returned (.bool (decide (ls = ls2))) ∧ ∃ m, w' = w.drewN m := by
  have HN := Lib.hid hn
  have HN2 := Lib.hid hn2
  have SA := Lib.hid hA
  have SB := Lib.hid hA2
  clear hn hn2 hA hA2
  by_cases hnn : n = n2
  · subst hnn
    go_enter Try.func13, Try.ntmps13
    go_wp2
    go_loopw [5] (fun i wr => ∃ k m : Nat, k ≤ n ∧ i = .int .i64 k ∧ ls.take k = ls2.take k ∧ wr = w.drewN m) (fun i _ => n - (intOf i).toNat)
    case atStart => exact ⟨0, 0, Nat.zero_le _, rfl, rfl, rfl⟩
    case round =>
      obtain ⟨k, m, hk, rfl, heq, rfl⟩ := hrel
      by_cases hlt : k < n
      · have hk1 : k < ls.length := by rw [HN.out]; exact hlt
        have hk2 : k < ls2.length := by rw [HN2.out]; exact hlt
        obtain ⟨g, o, rfl, hg, hc⟩ := SA.out (List.ne_nil_of_length_pos (by omega))
        obtain ⟨g2, o2, rfl, hg2, hc2⟩ := SB.out (List.ne_nil_of_length_pos (by omega))
        obtain ⟨B, cb, q1, _, _, _, q2⟩ := hc k ls[k] (List.getElem?_eq_getElem hk1)
        obtain ⟨B2, cb2, r1, _, _, _, r2⟩ := hc2 k ls2[k] (List.getElem?_eq_getElem hk2)
        have st : ls.take (k + 1) = ls2.take (k + 1) ↔ ls[k] = ls2[k] := by
          rw [List.take_succ_eq_append_getElem hk1, List.take_succ_eq_append_getElem hk2, heq]
          constructor
          · intro h; simpa using List.append_cancel_left h
          · intro h; rw [h]
        have sne : ls[k] ≠ ls2[k] → ls ≠ ls2 := fun h e => h (by subst e; rfl)
        obtain ⟨x, hx⟩ : ∃ x, ls[k] = x := ⟨_, rfl⟩
        obtain ⟨y, hy⟩ : ∃ y, ls2[k] = y := ⟨_, rfl⟩
        rw [hx] at q1 q2 st sne
        rw [hy] at r1 r2 st sne
        obtain ⟨nx, hnx⟩ : ∃ n, x.length = n := ⟨_, rfl⟩
        obtain ⟨ny, hny⟩ : ∃ n, y.length = n := ⟨_, rfl⟩
        rw [hnx] at q1
        rw [hny] at r1
        have s1 := fun k => str_any (byts_drew q2 k) nx cb hnx
        have s2 := fun k => str_any (byts_drew r2 k) ny cb2 hny
        have ST := Lib.hid st
        have SNE := Lib.hid sne
        have HEQ := Lib.hid heq
        have k0 : (0 : Int) ≤ (k : Int) := by omega
        have kn : (k : Int) < (n : Int) := by omega
        clear hc hc2 q2 r2 st sne hx hy hnx hny heq SA SB
        by_cases hxy : x = y
        · have hb : ((tx x).toList == (tx y).toList) = true := by rw [tx_beq]; simp [hxy]
          have HXY := Lib.hid hxy
          clear hxy
          go_wp2
          go_quiet (fail)
          go_wp2
          go_roundw
          case rel => exact ⟨k + 1, _, by omega, by go_num, ST.out.2 HXY.out, rfl⟩
          case measure => simp [intOf]; omega
        · have hb : ((tx x).toList == (tx y).toList) = false := by rw [tx_beq]; simp [hxy]
          have HXY := Lib.hid hxy
          clear hxy
          go_wp2
          go_quiet (fail)
          go_wp2
          go_ret
          exact ⟨ret_bool (by simp [SNE.out HXY.out]), m + nq, by rw [World.drewN_drewN]⟩
      · obtain rfl : k = n := by omega
        have HEQ := Lib.hid (show ls = ls2 by rw [List.take_of_length_le (by rw [HN.out]; exact Nat.le_refl _), List.take_of_length_le (by rw [HN2.out]; exact Nat.le_refl _)] at heq; exact heq)
        clear heq
        go_wp2
        go_ret
        exact ⟨ret_bool (by simp [HEQ.out]), _, rfl⟩
  · have hb : ((n : Int) != (n2 : Int)) = true := by simp; omega
    have HNE := Lib.hid (show ls ≠ ls2 from fun e => hnn (by rw [← HN.out, ← HN2.out, e]))
    clear hnn
    go_enter Try.func13, Try.ntmps13
    go_wp2
    go_ret
    exact ⟨ret_bool (by simp [HNE.out]), 0, rfl⟩

/-- k and n in their ranges. -/
def numN (w1 : UInt8) : Nat := 1 + w1.toNat % 12
def numK (w0 w1 : UInt8) : Nat := 1 + w0.toNat % numN w1
theorem numN_r (w1 : UInt8) : 1 ≤ numN w1 ∧ numN w1 ≤ 12 := by unfold numN; omega
theorem numK_r (w0 w1 : UInt8) : 1 ≤ numK w0 w1 ∧ numK w0 w1 ≤ numN w1 := by
  have := numN_r w1
  have h : w0.toNat % numN w1 < numN w1 := Nat.mod_lt _ (by omega)
  unfold numK; omega
theorem Numbers_any (a b : UInt8) (w : World) :
    Calls Try.prog 24 #[.agg #[.int .u8 a.toNat, .int .u8 b.toNat]] w fun d w' => d = .returned (.agg #[.int .i64 (numK a b : Nat), .int .i64 (numN b : Nat)]) ∧ Below w.heap.size w w' := by
  have ha := a.toNat_lt
  have hb := b.toNat_lt
  obtain ⟨h1, h2⟩ := numN_r b
  have eN : (1 : Int) + (b.toNat : Int) % 12 = (numN b : Nat) := by unfold numN; omega
  have eK : (1 : Int) + (a.toNat : Int) % ((numN b : Nat) : Int) = (numK a b : Nat) := by unfold numK; simp
  have lK : (a.toNat : Int) % ((numN b : Nat) : Int) < ((numN b : Nat) : Int) := Int.emod_lt_of_pos _ (by omega)
  have gK : 0 ≤ (a.toNat : Int) % ((numN b : Nat) : Int) := Int.emod_nonneg _ (by omega)
  have eN2 : (1 : Int) + (b.toNat : Int).tmod 12 = (numN b : Nat) := by rw [Int.tmod_eq_emod_of_nonneg (by omega)]; exact eN
  have hne : (((numN b : Nat) : Int) == 0) = false := by simp; omega
  go_enter Try.func24, Try.ntmps24
  go_wp2
  refine bodyPost_ret (v := .agg #[.int .i64 (numK a b : Nat), .int .i64 (numN b : Nat)]) ?_ rfl ⟨rfl, by go_grown⟩
  simp [results, Try.results24, go_sem]

/-- Shards of which some are missing. -/
def leftL (ls : List (List UInt8)) (gone : Nat) : List (List UInt8) := (List.range ls.length).map fun i => if gone.testBit i then [] else ls[i]?.getD []
theorem info_sl : (Try.prog.info? 22).map (fun i => (i.zero, i.size, i.bytes)) = some (some (.slice none 0 0), 1, 24) := by kernel_rfl
theorem bit16 (g : UInt16) (k : Nat) : (bits BinOp.and IntKind.u16 ((g.toNat : Int) / 2 ^ k) 1 == 1) = g.toNat.testBit k := by
  have hb := g.toNat_lt
  have h1 : g.toNat / 2 ^ k < 65536 := Nat.lt_of_le_of_lt (Nat.div_le_self _ _) hb
  have e : ((g.toNat : Int) / 2 ^ k) = ((g.toNat / 2 ^ k : Nat) : Int) := by simp
  rw [e, show (1 : Int) = ((1 : Nat) : Int) from rfl, u16_and_nat _ _ h1 (by decide), Nat.and_one_is_mod, Nat.testBit_eq_decide_div_mod_eq, Bool.eq_iff_iff]
  simp only [beq_iff_eq, decide_eq_true_eq]
  omega
theorem leftL_len (ls : List (List UInt8)) (gone : Nat) : (leftL ls gone).length = ls.length := by simp [leftL]
theorem leftL_take {ls : List (List UInt8)} {gone k : Nat} (hk : k < ls.length) : (leftL ls gone).take (k + 1) = (leftL ls gone).take k ++ [if gone.testBit k then [] else ls[k]] := by
  rw [List.take_succ_eq_append_getElem (by rw [leftL_len]; exact hk)]
  congr 1
  simp [leftL, List.getElem?_eq_getElem hk]
theorem own_block_some {w : World} {base g n c : Nat} {e : TypeId} {s : Nat} {xs : List Value} (h : w.ownsRow base e s (.slice (some ⟨g, 0, none⟩) n c) n xs) : base ≤ g ∧ g < w.heap.size := own_base h g rfl

set_option maxHeartbeats 2000000 in
theorem Left_any (A : Option Addr) (n c : Nat) (ls : List (List UInt8)) (hn : ls.length = n) (hl : n ≤ 16) (gone : UInt16) (w : World) (hA : Lists w A ls) :
    Calls Try.prog 26 #[.slice A n c, .int .u16 gone.toNat] w fun d w' => ∃ A' c', d = .returned (.slice A' n c') ∧ OwnRows w.heap.size 0 w' A' n c' (leftL ls gone.toNat) ∧ Below w.heap.size w w' := by
  obtain ⟨i0, hi, hz0, hz1, hz2⟩ := info_parts info_sl
  have HN := Lib.hid hn
  have SA := Lib.hid hA
  have HBT := Lib.hid (bit16 gone)
  have hgl := gone.toNat_lt
  clear hn hA
  go_enter Try.func26, Try.ntmps26
  go_wp2
  go_loopw [5, 6] (fun o i wr => ∃ (k : Nat) (A' : Option Addr) (c' : Nat), k ≤ n ∧ i = .int .i64 k ∧ o = .slice A' k c' ∧ OwnRows w.heap.size 0 wr A' k c' ((leftL ls gone.toNat).take k) ∧ Below w.heap.size w wr) (fun _ i _ => n - (intOf i).toNat)
  case atStart => exact ⟨0, some ⟨w.heap.size, 0, none⟩, 0, Nat.zero_le _, rfl, rfl, OwnRows.empty 0 w, by go_grown⟩
  case round =>
    obtain ⟨k, A', c', hk, rfl, rfl, hown, hbw⟩ := hrel
    have hbs := hbw.size
    by_cases hlt : k < n
    · have hkl : k < ls.length := by rw [HN.out]; exact hlt
      obtain ⟨g, o, rfl, hg, hc⟩ := SA.out (List.ne_nil_of_length_pos (by omega))
      obtain ⟨B, cb, q1, q2, q3, q5, q4⟩ := hc k ls[k] (List.getElem?_eq_getElem hkl)
      have hT := leftL_take (gone := gone.toNat) hkl
      obtain ⟨x, hx⟩ : ∃ x, ls[k] = x := ⟨_, rfl⟩
      rw [hx] at q1 q2 q4 hT
      have hgw : some g ≠ Value.ownBlock (.slice A' k c') := by
        obtain ⟨cs, h1, _⟩ := hown
        intro e
        have := (own_base h1 g e).1
        omega
      have hrow := (hbw.cell (p := ⟨g, o + k, none⟩) hg).trans q1
      obtain ⟨cs, hown1, hrws⟩ := hown
      have HRWS := Lib.hid hrws
      have HQ4 := Lib.hid q4
      have HX := Lib.hid hx
      have k0 : (0 : Int) ≤ (k : Int) := by omega
      have kn : (k : Int) < (n : Int) := by omega
      clear hc q1 hx hrws q4
      cases hb : gone.toNat.testBit k
      · have hb' := (HBT.out k).trans hb
        rw [hb, if_neg (by decide)] at hT
        have HT := Lib.hid hT
        obtain ⟨nx, hnx⟩ : ∃ n, x.length = n := ⟨_, rfl⟩
        rw [hnx] at hrow q2
        have HNX := Lib.hid hnx
        clear hb hT hnx
        go_wp2_with (at_builtin; refine wpList_append_lies _ rfl _ _ 23 rfl w.heap.size 22 i0 _ 1 24 Try.underlying23 hi hz0 hz1 hz2 rfl (by decide) _ _ _ rfl (hown1.alloc _) ⟨wr.heap.size, 0, none⟩ 1 1 [.slice B nx cb] rfl rfl (cell_one_new _ _ _) (by simp [Value.oneCell']) (by decide) (by unfold maxLen; omega) (by omega) (by simp; omega) (wr.heap.size + 1) (by simp) ?_; intro g1 cap1 w1 hown' hgrow hat hlt1)
        have hb2 : Below w.heap.size w w1 := (hbw.alloc hbs _).grown hgrow (by simp; omega) (fun j hj => (hown1.lt j hj).1)
        go_roundw
        case rel =>
          refine ⟨k + 1, some ⟨g1, 0, none⟩, cap1, by omega, by go_num, rfl, ?_, hb2⟩
          rw [HT.out]
          exact OwnRows.push (HRWS.out.below ((Below.refl _ wr).alloc (Nat.le_refl _) _)) HNX.out q2 q3 q5 ((HQ4.out.apart (Nat.le_refl _) hown1 hbw).below ((Below.refl _ wr).alloc (Nat.le_refl _) _)) hown' hgrow (hat.imp (fun h => h) (fun h => by simpa using h))
        case measure => simp [intOf]; omega
      · have hb' := (HBT.out k).trans hb
        rw [hb, if_pos rfl] at hT
        have HT := Lib.hid hT
        clear hb hT
        go_wp2_with (at_builtin; refine wpList_append_lies _ rfl _ _ 23 rfl w.heap.size 22 i0 _ 1 24 Try.underlying23 hi hz0 hz1 hz2 rfl (by decide) _ _ _ rfl (hown1.alloc _) ⟨wr.heap.size, 0, none⟩ 1 1 [.slice none 0 0] rfl rfl (cell_one_new _ _ _) (by simp [Value.oneCell']) (by decide) (by unfold maxLen; omega) (by omega) (by simp; omega) (wr.heap.size + 1) (by simp) ?_; intro g1 cap1 w1 hown' hgrow hat hlt1)
        have hb2 : Below w.heap.size w w1 := (hbw.alloc hbs _).grown hgrow (by simp; omega) (fun j hj => (hown1.lt j hj).1)
        go_roundw
        case rel =>
          refine ⟨k + 1, some ⟨g1, 0, none⟩, cap1, by omega, by go_num, rfl, ?_, hb2⟩
          rw [HT.out]
          exact OwnRows.push (HRWS.out.below ((Below.refl _ wr).alloc (Nat.le_refl _) _)) rfl (Nat.le_refl _) (Nat.zero_le _) (fun _ => rfl) (BytsX.nil _ _ _ _) hown' hgrow (hat.imp (fun h => h) (fun h => by simpa using h))
        case measure => simp [intOf]; omega
    · obtain rfl : k = n := by omega
      have hfull : (leftL ls gone.toNat).take k = leftL ls gone.toNat := List.take_of_length_le (by rw [leftL_len, HN.out]; exact Nat.le_refl _)
      rw [hfull] at hown
      have HO := Lib.hid hown
      clear hfull hown
      go_wp2
      go_ret
      exact ⟨A', c', rfl, HO.out, hbw⟩
end Go.Proofs.Ytoodeoglpdapiaa
