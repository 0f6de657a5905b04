/-
  Walk of the reference's Rebuild.
-/
import Derived.Test.YtoodeoglpdapiaaSn
namespace Go.Proofs.Ytoodeoglpdapiaa
open Go.RowKit Gf
set_option maxHeartbeats 400000

/-- The length of the longest of the first j shards other than i. -/
def longTo (ls : List (List UInt8)) (i : Nat) : Nat → Nat
  | 0 => 0
  | j + 1 => if j = i then longTo ls i j else max (longTo ls i j) (ls[j]?.getD []).length
def longOf (ls : List (List UInt8)) (i : Nat) : Nat := longTo ls i ls.length
def rebP (ls : List (List UInt8)) (k i : Nat) : List UInt8 := ptsL ls k (longOf ls i) (i : Int)
def rebL (ls : List (List UInt8)) (k i : Nat) : List UInt8 := shardL ls (rebP ls k i) (UInt8.ofNat i)
theorem longTo_le {ls : List (List UInt8)} {B : Nat} (h : ∀ r ∈ ls, r.length ≤ B) (i : Nat) : ∀ j, longTo ls i j ≤ B
  | 0 => Nat.zero_le _
  | j + 1 => by
    unfold longTo
    have := longTo_le h i j
    split
    · exact this
    · refine Nat.max_le.2 ⟨this, ?_⟩
      cases hj : ls[j]? with
      | none => exact Nat.zero_le _
      | some r => exact h r (List.mem_of_getElem? hj)

theorem Rebuild_arg (A : Option Addr) (n c : Nat) (k i : Int) (h : properB n k = false ∨ i < 0 ∨ n ≤ i) (w : World) :
    Calls Try.prog 18 #[.slice A n c, .int .i64 k, .int .i64 i] w fun e w' => e = .returned (.agg #[.slice none 0 0, .int .i64 1]) ∧ Below w.heap.size w w' := by
  have HP := Lib.hid (proper_any A n c k)
  have hc : properB n k = false ∨ (properB n k = true ∧ i < 0) ∨ (properB n k = true ∧ ¬ i < 0 ∧ (n : Int) ≤ i) := by
    cases hp : properB n k
    · exact .inl rfl
    · rw [hp] at h
      rcases h with h | h | h
      · cases h
      · exact .inr (.inl ⟨rfl, h⟩)
      · by_cases h2 : i < 0
        · exact .inr (.inl ⟨rfl, h2⟩)
        · exact .inr (.inr ⟨rfl, h2, h⟩)
  clear h
  rcases hc with hp | ⟨hp, h1⟩ | ⟨hp, h1, h2⟩
  all_goals
    rw [hp] at HP
    clear hp
    go_enter Try.func18, Try.ntmps18
    go_wp2_with (go_at_call 31; refine (HP.out _).mono ?_; rintro e w1 ⟨rfl, rfl⟩)
    refine bodyPost_ret (v := .agg #[.slice none 0 0, .int .i64 1]) ?_ rfl ⟨rfl, by go_grown⟩
    simp [results, Try.results18, go_sem]

theorem BytsX.own_none {base lo n c : Nat} {w : World} {A : Option Addr} {e : TypeId} {l : List UInt8} (h : w.ownsRow base e 1 (.slice A n c) n (bys l)) (hb : lo ≤ base) : BytsX lo none w A l := fun hn => by
  obtain ⟨b, o, hA, hlt, hc⟩ := Byts.of_own h hn
  subst hA
  have h1 := own_base h b rfl
  exact ⟨b, o, rfl, by omega, (by intro e; cases e), hlt, hc⟩

set_option maxHeartbeats 4000000 in
set_option maxRecDepth 20000 in
theorem Rebuild_any (A : Option Addr) (n c : Nat) (ls : List (List UInt8)) (hn : ls.length = n) (hr : ∀ r ∈ ls, r.length ≤ 1000) (k i : Nat) (hp : properB n k = true) (hi : i < n) (w : World) (hA : Lists w A ls) :
    Calls Try.prog 18 #[.slice A n c, .int .i64 k, .int .i64 i] w fun e w' => (((rebP ls k i).length < k ∧ e = .returned (.agg #[.slice none 0 0, .int .i64 70])) ∨ ((rebP ls k i).length = k ∧ ∃ A' c', e = .returned (.agg #[.slice A' (rebL ls k i).length c', .int .i64 0]) ∧ BytsX (w.heap.size + 1) none w' A' (rebL ls k i) ∧ (rebL ls k i).length ≤ c' ∧ c' ≤ 9223372036854775807)) ∧ Below w.heap.size w w' := by
  obtain ⟨p1, p2, p3⟩ := properB_iff.1 hp
  have HP := Lib.hid (proper_any A n c k)
  rw [hp] at HP
  have HN := Lib.hid hn
  have HR := Lib.hid hr
  have SA := Lib.hid hA
  have hB0 := Lib.hid (rbox_start w 34)
  have i0 : ¬ (i : Int) < 0 := by omega
  have i1 : ¬ (n : Int) ≤ (i : Int) := by omega
  clear hn hA hp hr
  go_enter Try.func18, Try.ntmps18
  go_wp2_with (go_at_call 31; refine (HP.out _).mono ?_; rintro e w1 ⟨rfl, rfl⟩)
  go_loopw [7, 8] (fun m j wr => ∃ q : Nat, q ≤ n ∧ j = .int .i64 q ∧ m = .int .i64 (longTo ls i q : Nat) ∧ wr = w.alloc (.cells #[.slice none 0 0, .int .i64 0] 34)) (fun _ j _ => n - (intOf j).toNat)
  case atStart => exact ⟨0, Nat.zero_le _, rfl, rfl, rfl⟩
  case round =>
    obtain ⟨q, hq, rfl, rfl, rfl⟩ := hrel
    by_cases hlt : q < n
    · have qn : (q : Int) < (n : Int) := by omega
      have q0 : (0 : Int) ≤ (q : Int) := by omega
      have hql : q < ls.length := by rw [HN.out]; exact hlt
      obtain ⟨g, o, rfl, hg, hc⟩ := (SA.out.below hB0.out.2) (List.ne_nil_of_length_pos (by omega))
      obtain ⟨B, cb, q1, _, _, _⟩ := hc q ls[q] (List.getElem?_eq_getElem hql)
      have hst := longTo ls i q
      have e : longTo ls i (q + 1) = if q = i then longTo ls i q else max (longTo ls i q) ls[q].length := by
        rw [longTo, List.getElem?_eq_getElem hql]; rfl
      obtain ⟨r, hr⟩ : ∃ r, ls[q].length = r := ⟨_, rfl⟩
      rw [hr] at q1 e
      have HE := Lib.hid e
      clear hc hr e
      by_cases hqi : q = i
      · have hb : ((q : Int) != (i : Int)) = false := by simp [hqi]
        have HQ := Lib.hid hqi
        clear hqi
        go_wp2
        go_roundw
        case rel => exact ⟨q + 1, by omega, by go_num, by rw [HE.out, if_pos HQ.out], trivial⟩
        case measure => simp [intOf]; omega
      · have hb : ((q : Int) != (i : Int)) = true := by simp; omega
        have HQ := Lib.hid hqi
        clear hqi
        go_wp2
        go_roundw
        case rel =>
          refine ⟨q + 1, by omega, by go_num, ?_, trivial⟩
          rw [HE.out, if_neg HQ.out]
          split <;> congr 1 <;> omega
        case measure => simp [intOf]; omega
    · obtain rfl : q = n := by omega
      have hlong : longTo ls i q = longOf ls i := by unfold longOf; rw [HN.out]
      have hL1 : longOf ls i ≤ 1000 := longTo_le HR.out i _
      rw [hlong]
      have HRP := Lib.hid (show rebP ls k i = ptsL ls k (longOf ls i) (i : Int) from rfl)
      obtain ⟨L, hL⟩ : ∃ L, longOf ls i = L := ⟨_, rfl⟩
      rw [hL] at HRP hL1
      rw [hL]
      have HT := Lib.hid (fun W hW => there_any A q c ls HN.out (by omega) k L (i : Int) W hW)
      obtain ⟨pts, hpts⟩ : ∃ p, ptsL ls k L (i : Int) = p := ⟨_, rfl⟩
      have hpm : ∀ p ∈ pts, p.toNat < q ∧ (rowOf ls p).length = L := fun p hp => by
        have h1 := HN.out
        have := ptsL_mem (by omega) (hpts.symm ▸ hp)
        exact ⟨by omega, this.2.2⟩
      have hple : pts.length ≤ k := by rw [← hpts]; exact ptsL_le _ _ _ _
      rw [hpts] at HT HRP
      have HRL := Lib.hid (show rebL ls k i = shardL ls pts (UInt8.ofNat i) by unfold rebL; rw [HRP.out])
      have HPM := Lib.hid hpm
      clear hpts hpm hlong hL
      by_cases hf : pts.length < k
      · obtain ⟨m, hm⟩ : ∃ m, pts.length = m := ⟨_, rfl⟩
        rw [hm] at hf hple
        have hmk : (m : Int) < (k : Int) := by omega
        have HM := Lib.hid hm
        clear hm
        go_wp2_with (go_at_call 32; refine (HT.out _ (SA.out.below hB0.out.2)).mono ?_; rintro e w1 ⟨P, mP, cP, rfl, hownP, hb1⟩; have hmm := own_len hownP; rw [bys_length, HM.out] at hmm; subst hmm; have hB1 := hB0.out.step (hb1.mono (by simp)); obtain ⟨z0, z1, f0, f1⟩ := hB1.cells; have hls := hB1.size; have hBH := Lib.hid hB1)
        have hd := set_results hBH.out (.slice none 0 0) 70
        refine bodyPost_ret (v := .agg #[.slice none 0 0, .int .i64 70]) ?_ rfl ⟨.inl ⟨by rw [HRP.out, HM.out]; exact hf, rfl⟩, (hBH.out.2.setCell (by simp) _).setCell (by simp) _⟩
        simp [results, Try.results18, go_sem, hd.1, hd.2]
      · have hk : pts.length = k := by omega
        have HK := Lib.hid hk
        have hp0 : pts[0]?.getD 0 ∈ pts := by rw [List.getElem?_eq_getElem (by omega)]; exact List.getElem_mem _
        have HSL := Lib.hid (shardL_len (pts := pts) (HPM.out _ hp0).2 (UInt8.ofNat i))
        have HS := Lib.hid (fun (P : Option Addr) (cP : Nat) (W : World) (h1 : Lists W A ls) (h2 : Byts W P pts) => shard_any A P q c k cP ls pts HN.out (by omega) hk (by omega) (by omega) i (by omega) (fun p hp => (HPM.out p hp).1) L (by omega) (HPM.out _ hp0).2 (fun p hp => by rw [(HPM.out p hp).2]; exact Nat.le_refl _) W h1 h2)
        clear hp0 hk hf hple
        go_wp2_with (first | (go_at_call 32; refine (HT.out _ (SA.out.below hB0.out.2)).mono ?_; rintro e w1 ⟨P, mP, cP, rfl, hownP, hb1⟩; have hmm := own_len hownP; rw [bys_length, HK.out] at hmm; subst hmm; have hB1 := Lib.hid (hB0.out.step (hb1.mono (by simp)))) | (go_at_call 28; refine (HS.out P cP w1 (SA.out.below hB1.out.2) (Byts.of_own hownP)).mono ?_; rintro e w2 ⟨gS, cS, rfl, hownS, hb2⟩; have hB2 := hB1.out.step (hb2.mono hB1.out.size); obtain ⟨z0, z1, f0, f1⟩ := hB2.cells; have hls := hB2.size; have hBH := Lib.hid hB2))
        have hd := set_results hBH.out (.slice (some ⟨gS, 0, none⟩) L cS) 0
        have hlen : (rebL ls k i).length = L := by rw [HRL.out]; exact HSL.out
        have hcap := own_cap hownS
        have hw1 := hB1.out.size
        refine bodyPost_ret (v := .agg #[.slice (some ⟨gS, 0, none⟩) L cS, .int .i64 0]) ?_ rfl ⟨.inr ⟨by rw [HRP.out]; exact HK.out, some ⟨gS, 0, none⟩, cS, by rw [hlen], ?_, by rw [hlen]; exact hcap.1, hcap.2⟩, (hBH.out.2.setCell (by simp) _).setCell (by simp) _⟩
        · simp [results, Try.results18, go_sem, hd.1, hd.2]
        · rw [HRL.out]
          exact BytsX.own_none (own_set (own_set hownS (p := ⟨w.heap.size, 0, none⟩) (show w.heap.size < w1.heap.size by omega) _) (p := ⟨w.heap.size, 1, none⟩) (show w.heap.size < w1.heap.size by omega) _) hw1
end Go.Proofs.Ytoodeoglpdapiaa
