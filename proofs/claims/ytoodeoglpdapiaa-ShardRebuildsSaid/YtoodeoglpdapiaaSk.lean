/-
  Walks of the reference's proper, there and shard.
-/
import Derived.Test.YtoodeoglpdapiaaSj
namespace Go.Proofs.Ytoodeoglpdapiaa
open Go.RowKit Gf
set_option maxHeartbeats 400000

def properB (n : Nat) (k : Int) : Bool := decide (n ≤ 12) && decide (1 ≤ k) && decide (k ≤ n)
theorem proper_any (A : Option Addr) (n c : Nat) (k : Int) (w : World) :
    Calls Try.prog 31 #[.slice A n c, .int .i64 k] w fun e w' => e = .returned (.bool (properB n k)) ∧ w' = w := by
  by_cases h1 : n ≤ 12
  · have h1' : (n : Int) ≤ 12 := by omega
    by_cases h2 : 1 ≤ k
    · by_cases h3 : k ≤ n
      · go_enter Try.func31, Try.ntmps31
        go_wp2
        go_ret
        exact ⟨ret_bool (by simp [properB, h1, h2, h3]), rfl⟩
      · have h3' : ¬ k ≤ (n : Int) := h3
        go_enter Try.func31, Try.ntmps31
        go_wp2
        go_ret
        exact ⟨ret_bool (by simp [properB, h3]), rfl⟩
    · go_enter Try.func31, Try.ntmps31
      go_wp2
      go_ret
      exact ⟨ret_bool (by simp [properB]; intros; omega), rfl⟩
  · have h1' : ¬ (n : Int) ≤ 12 := by omega
    go_enter Try.func31, Try.ntmps31
    go_wp2
    go_ret
    exact ⟨ret_bool (by simp [properB, h1]), rfl⟩

/-- The indices of the shards of some length, but for one. -/
def isT (ls : List (List UInt8)) (long : Nat) (but : Int) (i : Nat) : Bool := decide ((i : Int) ≠ but) && ((ls[i]?.getD []).length == long)
def thereL (ls : List (List UInt8)) (long : Nat) (but : Int) (i : Nat) : List Nat := (List.range i).filter (isT ls long but)
theorem thereL_succ (ls : List (List UInt8)) (long : Nat) (but : Int) (i : Nat) : thereL ls long but (i + 1) = if isT ls long but i = true then thereL ls long but i ++ [i] else thereL ls long but i := by
  unfold thereL
  rw [List.range_succ, List.filter_append, List.filter_cons, List.filter_nil]
  split <;> simp
theorem thereL_grow (ls : List (List UInt8)) (long : Nat) (but : Int) (i d : Nat) : ∃ t, thereL ls long but (i + d) = thereL ls long but i ++ t := by
  induction d with
  | zero => exact ⟨[], by simp⟩
  | succ d ih =>
    obtain ⟨t, ht⟩ := ih
    rw [← Nat.add_assoc, thereL_succ, ht]
    split
    · exact ⟨t ++ [i + d], by simp⟩
    · exact ⟨t, rfl⟩
/-- The points that are taken: the first k of them. -/
def ptsL (ls : List (List UInt8)) (k long : Nat) (but : Int) : List UInt8 := ((thereL ls long but ls.length).take k).map UInt8.ofNat
theorem ptsL_at {ls : List (List UInt8)} {k long : Nat} {but : Int} {i : Nat} (hi : i ≤ ls.length) (h : (thereL ls long but i).length ≤ k) (he : i = ls.length ∨ (thereL ls long but i).length = k) : ptsL ls k long but = (thereL ls long but i).map UInt8.ofNat := by
  unfold ptsL
  rcases he with he | he
  · rw [← he, List.take_of_length_le h]
  · obtain ⟨t, ht⟩ := thereL_grow ls long but i (ls.length - i)
    rw [show i + (ls.length - i) = ls.length by omega] at ht
    rw [ht, ← he, List.take_left]

set_option maxHeartbeats 1000000 in
theorem there_any (A : Option Addr) (n c : Nat) (ls : List (List UInt8)) (hn : ls.length = n) (hl : n ≤ 255) (k long : Nat) (but : Int) (w : World) (hA : Lists w A ls) :
    Calls Try.prog 32 #[.slice A n c, .int .i64 k, .int .i64 long, .int .i64 but] w fun e w' => ∃ A' m c', e = .returned (.slice A' m c') ∧ w'.ownsRow w.heap.size 5 1 (.slice A' m c') m (bys (ptsL ls k long but)) ∧ Below w.heap.size w w' := by
  obtain ⟨i0, hi, hz0, hz1, hz2⟩ := info_parts info_u8
  have HN := Lib.hid hn
  have SA := Lib.hid hA
  clear hn hA
  go_enter Try.func32, Try.ntmps32
  go_wp2
  go_loopw [9, 10] (fun o i wr => ∃ (j m : Nat) (A' : Option Addr) (c' : Nat), j ≤ n ∧ i = .int .i64 j ∧ o = .slice A' m c' ∧ m ≤ k ∧ m ≤ j ∧ (thereL ls long but j).length = m ∧ wr.ownsRow w.heap.size 5 1 (.slice A' m c') m (bys ((thereL ls long but j).map UInt8.ofNat)) ∧ Below w.heap.size w wr) (fun _ i _ => n - (intOf i).toNat)
  case atStart => exact ⟨0, 0, some ⟨w.heap.size, 0, none⟩, 0, Nat.zero_le _, rfl, rfl, Nat.zero_le _, Nat.le_refl _, rfl, own_empty _ _, by go_grown⟩
  case round =>
    obtain ⟨j, m, A', c', hj, rfl, rfl, hmk, hmj, hml, hown, hbw⟩ := hrel
    have hbs := hbw.size
    have HML := Lib.hid hml
    clear hml
    by_cases hlt : j < n
    · have jn : (j : Int) < (n : Int) := by omega
      have j0 : (0 : Int) ≤ (j : Int) := by omega
      by_cases hm2 : m < k
      · have mk : (m : Int) < (k : Int) := by omega
        have hjl : j < ls.length := by rw [HN.out]; exact hlt
        obtain ⟨g, o, rfl, hg, hc⟩ := (SA.out.below hbw) (List.ne_nil_of_length_pos (by omega))
        obtain ⟨B, cb, hcell, hrc, hcm, _⟩ := hc j ls[j] (List.getElem?_eq_getElem hjl)
        have hT : isT ls long but j = (decide ((j : Int) ≠ but) && (ls[j].length == long)) := by unfold isT; rw [List.getElem?_eq_getElem hjl]; rfl
        obtain ⟨r, hr⟩ : ∃ r, ls[j].length = r := ⟨_, rfl⟩
        rw [hr] at hcell hrc hT
        have HT := Lib.hid hT
        clear hc hr hT
        by_cases hb : (j : Int) = but
        · have hb' : ((j : Int) != but) = false := by simp [hb]
          have HB := Lib.hid hb
          clear hb
          go_wp2
          go_roundw
          case rel =>
            have e : thereL ls long but (j + 1) = thereL ls long but j := by
              rw [thereL_succ, HT.out, if_neg]
              rw [show decide ((j : Int) ≠ but) = false from by simp [HB.out]]; simp
            exact ⟨j + 1, m, A', c', by omega, by go_num, rfl, hmk, by omega, by rw [e]; exact HML.out, by rw [e]; exact hown, hbw⟩
          case measure => simp [intOf]; omega
        · have hb' : ((j : Int) != but) = true := by simp [hb]
          by_cases hrl : r = long
          · have hrl' : ((r : Int) == (long : Int)) = true := by simp [hrl]
            have HB := Lib.hid hb
            have HR := Lib.hid hrl
            clear hb hrl
            go_wp2_with (at_builtin; refine wpList_append_own _ rfl _ _ 22 rfl w.heap.size 5 i0 _ 1 1 Try.underlying22 hi hz0 hz1 hz2 rfl (by decide) _ _ _ rfl (hown.alloc _) ⟨wr.heap.size, 0, none⟩ 1 1 [.int .u8 j] rfl rfl (cell_one_new _ _ _) (by simp [Value.oneCell']) (by unfold maxLen; omega) (by omega) (by simp; omega) ?_; intro v' w1 hown' hgrow _; obtain ⟨g', cap', rfl⟩ := ownsRow_succ hown')
            have hb2 : Below w.heap.size w w1 := (hbw.alloc hbs _).grown hgrow (by simp; omega) (fun j hj => (hown.lt j hj).1)
            go_roundw
            case rel =>
              have e : thereL ls long but (j + 1) = thereL ls long but j ++ [j] := by
                rw [thereL_succ, HT.out, if_pos]
                rw [HR.out, show decide ((j : Int) ≠ but) = true from by simp [HB.out]]; simp
              refine ⟨j + 1, m + 1, some ⟨g', 0, none⟩, cap', by omega, by go_num, rfl, by omega, by omega, by rw [e, List.length_append, HML.out]; rfl, ?_, hb2⟩
              rw [e, List.map_append, bys_append, List.map_cons, List.map_nil, bys_one, ofNat_toNat (by omega)]
              exact hown'
            case measure => simp [intOf]; omega
          · have hrl' : ((r : Int) == (long : Int)) = false := by simp; omega
            have HR := Lib.hid hrl
            clear hb hrl
            go_wp2
            go_roundw
            case rel =>
              have e : thereL ls long but (j + 1) = thereL ls long but j := by
                rw [thereL_succ, HT.out, if_neg]
                simp [HR.out]
              exact ⟨j + 1, m, A', c', by omega, by go_num, rfl, hmk, by omega, by rw [e]; exact HML.out, by rw [e]; exact hown, hbw⟩
            case measure => simp [intOf]; omega
      · have mk : ¬ (m : Int) < (k : Int) := by omega
        have e : ptsL ls k long but = (thereL ls long but j).map UInt8.ofNat := ptsL_at (by rw [HN.out]; omega) (by rw [HML.out]; exact hmk) (.inr (by rw [HML.out]; omega))
        rw [← e] at hown
        have HO := Lib.hid hown
        clear hown e
        go_wp2
        go_ret
        exact ⟨A', m, c', rfl, HO.out, hbw⟩
    · obtain rfl : j = n := by omega
      have e : ptsL ls k long but = (thereL ls long but j).map UInt8.ofNat := ptsL_at (by rw [HN.out]; omega) (by rw [HML.out]; exact hmk) (.inl HN.out.symm)
      rw [← e] at hown
      have HO := Lib.hid hown
      clear hown e
      go_wp2
      go_ret
      exact ⟨A', m, c', rfl, HO.out, hbw⟩

/-- The shard with this index, its bytes at one place under the points, and the shard at a point of the polynomials. -/
def rowOf (ls : List (List UInt8)) (p : UInt8) : List UInt8 := ls[p.toNat]?.getD []
def colL (ls : List (List UInt8)) (pts : List UInt8) (j : Nat) : List UInt8 := pts.map fun p => (rowOf ls p)[j]?.getD 0
def shardTo (ls : List (List UInt8)) (pts : List UInt8) (x : UInt8) (j : Nat) : List UInt8 := (List.range j).map fun j => at_ pts (colL ls pts j) x
def shardL (ls : List (List UInt8)) (pts : List UInt8) (x : UInt8) : List UInt8 := shardTo ls pts x (rowOf ls (pts[0]?.getD 0)).length
theorem shardTo_succ (ls : List (List UInt8)) (pts : List UInt8) (x : UInt8) (j : Nat) : shardTo ls pts x (j + 1) = shardTo ls pts x j ++ [at_ pts (colL ls pts j) x] := by simp [shardTo, List.range_succ]
theorem colL_take {ls : List (List UInt8)} {pts : List UInt8} {j k : Nat} {p : UInt8} (h : pts[k]? = some p) {v : UInt8} (hv : (rowOf ls p)[j]? = some v) : (colL ls pts j).take (k + 1) = (colL ls pts j).take k ++ [v] := by
  obtain ⟨hk, hp⟩ := List.getElem?_eq_some_iff.1 h
  have hk' : k < (colL ls pts j).length := by simp [colL]; exact hk
  rw [List.take_succ_eq_append_getElem hk']
  congr 1
  simp [colL, hp, hv]
theorem colL_len (ls : List (List UInt8)) (pts : List UInt8) (j : Nat) : (colL ls pts j).length = pts.length := by simp [colL]

set_option maxHeartbeats 2000000 in
theorem shard_any (A A2 : Option Addr) (n c n2 c2 : Nat) (ls : List (List UInt8)) (pts : List UInt8) (hn : ls.length = n) (hl : n ≤ 255) (hn2 : pts.length = n2) (hl2 : n2 ≤ 255) (h0 : 0 < n2) (x : Nat) (hx : x ≤ 255)
    (hp : ∀ p ∈ pts, p.toNat < n) (L : Nat) (hL : L ≤ 100000) (hr0 : (rowOf ls (pts[0]?.getD 0)).length = L) (hr : ∀ p ∈ pts, L ≤ (rowOf ls p).length) (w : World) (hA : Lists w A ls) (hA2 : Byts w A2 pts) :
    Calls Try.prog 28 #[.slice A n c, .slice A2 n2 c2, .int .i64 x] w fun e w' => ∃ gA c', e = .returned (.slice (some ⟨gA, 0, none⟩) L c') ∧ w'.ownsRow w.heap.size 5 1 (.slice (some ⟨gA, 0, none⟩) L c') L (bys (shardL ls pts (UInt8.ofNat x))) ∧ Below w.heap.size w w' := by
  obtain ⟨i0, hi, hz0, hz1, hz2⟩ := info_parts info_u8
  have HN := Lib.hid hn
  have HN2 := Lib.hid hn2
  have SA := Lib.hid hA
  have SB := Lib.hid hA2
  have HP := Lib.hid hp
  have HR0 := Lib.hid hr0
  have HR := Lib.hid hr
  -- the first point, and its shard
  have hk0 : 0 < pts.length := by omega
  obtain ⟨p0, hp0⟩ : ∃ p, pts[0] = p := ⟨_, rfl⟩
  have e0 : pts[0]? = some p0 := by rw [List.getElem?_eq_getElem hk0, hp0]
  have hpm : p0 ∈ pts := by rw [← hp0]; exact List.getElem_mem _
  have hp0n := hp p0 hpm
  have E0 := Lib.hid e0
  have hrl : (rowOf ls p0).length = L := by rw [← hr0, e0]; rfl
  have HRL := Lib.hid hrl
  have FIN := Lib.hid (show shardL ls pts (UInt8.ofNat x) = shardTo ls pts (UInt8.ofNat x) L from by unfold shardL; rw [hr0])
  have HXO := Lib.hid (ofNat_toNat (n := x) (by omega))
  clear hn hn2 hA hA2 hp hr0 hr hp0 e0 hpm hrl hk0
  go_enter Try.func28, Try.ntmps28
  go_wp2
  go_loopw [7, 8, 9, 10] (fun o i _ _ wr => ∃ (j gA c' : Nat), j ≤ L ∧ i = .int .i64 j ∧ o = .slice (some ⟨gA, 0, none⟩) j c' ∧ wr.ownsRow w.heap.size 5 1 (.slice (some ⟨gA, 0, none⟩) j c') j (bys (shardTo ls pts (UInt8.ofNat x) j)) ∧ Below w.heap.size w wr) (fun _ i _ _ _ => L - (intOf i).toNat)
  case atStart => exact ⟨0, w.heap.size, 0, Nat.zero_le _, rfl, rfl, own_empty _ _, by go_grown⟩
  case round =>
    obtain ⟨j, gA, c', hj, rfl, rfl, hown, hbw⟩ := hrel
    obtain ⟨wo, hwo⟩ : ∃ W, W = wr := ⟨_, rfl⟩
    subst hwo
    have hbs := hbw.size
    obtain ⟨g, o, rfl, hg, hc⟩ := (SA.out.below hbw) (List.ne_nil_of_length_pos (by rw [HN.out]; omega))
    obtain ⟨g2, o2, rfl, hg2, hc2⟩ := (SB.out.below hbw) (List.ne_nil_of_length_pos (by rw [HN2.out]; omega))
    have hq0 := hc2 0 p0 E0.out
    have hrow : ls[p0.toNat]? = some (rowOf ls p0) := by
      have : p0.toNat < ls.length := by rw [HN.out]; exact hp0n
      unfold rowOf; rw [List.getElem?_eq_getElem this]; rfl
    obtain ⟨B0, cb0, hcell0, hrc0, hcm0, _⟩ := hc p0.toNat _ hrow
    rw [HRL.out] at hcell0 hrc0
    have HC := Lib.hid hc
    have HC2 := Lib.hid hc2
    clear hc hc2 hrow
    have p00 : (0 : Int) ≤ (p0.toNat : Int) := by omega
    have p01 : (p0.toNat : Int) < (n : Int) := by omega
    have n20 : (0 : Int) < (n2 : Int) := by omega
    have hq0' : wo.cell? ⟨g2, o2, none⟩ = some (.int .u8 p0.toNat) := hq0
    clear hq0
    by_cases hlt : j < L
    · have jl : (j : Int) < (L : Int) := by omega
      have HW := Lib.hid (show ∀ p ∈ pts, ∃ B cb, wo.cell? ⟨g, o + p.toNat, none⟩ = some (.slice B (rowOf ls p).length cb) ∧ p.toNat < n ∧ L ≤ (rowOf ls p).length ∧ Byts wo B (rowOf ls p) from fun p hp => by
        have h1 : p.toNat < ls.length := by rw [HN.out]; exact HP.out p hp
        obtain ⟨B, cb, q1, _, _, _, q2⟩ := HC.out p.toNat (rowOf ls p) (by unfold rowOf; rw [List.getElem?_eq_getElem h1]; rfl)
        exact ⟨B, cb, q1, HP.out p hp, HR.out p hp, q2⟩)
      go_wp2
      go_loopw [9, 10] (fun v i wr => ∃ (t : Nat) (A'' : Option Addr) (c'' : Nat), t ≤ n2 ∧ i = .int .i64 t ∧ v = .slice A'' t c'' ∧ wr.ownsRow wo.heap.size 5 1 (.slice A'' t c'') t (bys ((colL ls pts j).take t)) ∧ Below wo.heap.size wo wr) (fun _ i _ => n2 - (intOf i).toNat)
      case atStart => exact ⟨0, some ⟨wo.heap.size, 0, none⟩, 0, Nat.zero_le _, rfl, rfl, own_empty _ _, by go_grown⟩
      case round =>
        obtain ⟨t, A'', c'', ht, rfl, rfl, hown2, hbz⟩ := hrel
        have hbzs := hbz.size
        by_cases htl : t < n2
        · have htk : t < pts.length := by rw [HN2.out]; exact htl
          obtain ⟨p, hp⟩ : ∃ p, pts[t] = p := ⟨_, rfl⟩
          have e : pts[t]? = some p := by rw [List.getElem?_eq_getElem htk, hp]
          have hpm : p ∈ pts := by rw [← hp]; exact List.getElem_mem _
          obtain ⟨B, cb, q1, q2, q3, q4⟩ := HW.out p hpm
          have hpc := (hbz.cell (p := ⟨g2, o2 + t, none⟩) hg2).trans (HC2.out t p e)
          have hrc := (hbz.cell (p := ⟨g, o + p.toNat, none⟩) hg).trans q1
          have hjr : j < (rowOf ls p).length := by omega
          obtain ⟨gB, oB, rfl, hgB, hcB⟩ := (q4.below hbz) (List.ne_nil_of_length_pos (by omega))
          obtain ⟨v, hv⟩ : ∃ v, (rowOf ls p)[j] = v := ⟨_, rfl⟩
          have hvc := hcB j v (by rw [List.getElem?_eq_getElem hjr, hv])
          have hct := Lib.hid (colL_take (ls := ls) (j := j) e (v := v) (by rw [List.getElem?_eq_getElem hjr, hv]))
          obtain ⟨R, hR⟩ : ∃ R, (rowOf ls p).length = R := ⟨_, rfl⟩
          rw [hR] at hrc q3 hjr
          have jR : (j : Int) < (R : Int) := by omega
          have j0 : (0 : Int) ≤ (j : Int) := by omega
          have t0 : (0 : Int) ≤ (t : Int) := by omega
          have tn : (t : Int) < (n2 : Int) := by omega
          have p0 : (0 : Int) ≤ (p.toNat : Int) := by omega
          have pn : (p.toNat : Int) < (n : Int) := by omega
          clear hp e hpm q1 q4 hcB hv hR
          go_wp2_with (at_builtin; refine wpList_append_own _ rfl _ _ 22 rfl wo.heap.size 5 i0 _ 1 1 Try.underlying22 hi hz0 hz1 hz2 rfl (by decide) _ _ _ rfl (hown2.alloc _) ⟨wr.heap.size, 0, none⟩ 1 1 [.int .u8 v.toNat] rfl rfl (cell_one_new _ _ _) (by simp [Value.oneCell']) (by unfold maxLen; omega) (by omega) (by simp; omega) ?_; intro v' w1 hown' hgrow _; obtain ⟨g', cap', rfl⟩ := ownsRow_succ hown')
          have hb2 : Below wo.heap.size wo w1 := (hbz.alloc hbzs _).grown hgrow (by simp; omega) (fun j hj => (hown2.lt j hj).1)
          go_roundw
          case rel =>
            refine ⟨t + 1, some ⟨g', 0, none⟩, cap', by omega, by go_num, rfl, ?_, hb2⟩
            rw [hct.out, bys_append, bys_one]
            exact hown'
          case measure => simp [intOf]; omega
        · obtain rfl : t = n2 := by omega
          have hfull : (colL ls pts j).take t = colL ls pts j := List.take_of_length_le (by rw [colL_len, HN2.out]; exact Nat.le_refl _)
          rw [hfull] at hown2
          have hlc : (colL ls pts j).length = t := by rw [colL_len, HN2.out]
          have hxo := HXO.out
          have CA := Lib.hid (At_any (some ⟨g2, o2, none⟩) A'' t c2 t c'' pts (colL ls pts j) HN2.out (by omega) hlc (Nat.le_refl _) (UInt8.ofNat x) wr ((SB.out.below hbw).below hbz) (Byts.of_own hown2))
          rw [hxo] at CA
          have hown3 := own_keep hown hbz
          have HFU := Lib.hid hfull
          clear hfull hlc hxo
          go_wp2_with (first | (go_at_call 45; refine CA.out.mono ?_; rintro e w1 ⟨rfl, md, rfl⟩) | (at_builtin; refine wpList_append_own _ rfl _ _ 22 rfl w.heap.size 5 i0 _ 1 1 Try.underlying22 hi hz0 hz1 hz2 rfl (by decide) _ _ _ rfl ((own_keep hown3 (below_drewN wr md)).alloc _) ⟨wr.heap.size, 0, none⟩ 1 1 [.int .u8 (at_ pts (colL ls pts j) (UInt8.ofNat x)).toNat] rfl rfl (cell_one_new _ _ _) (by simp [Value.oneCell']) (by unfold maxLen; omega) (by omega) (by simp; omega) ?_; intro v' w1 hown' hgrow _; obtain ⟨g', cap', rfl⟩ := ownsRow_succ hown'))
          have hbA : Below w.heap.size w (wr.drewN md) := (hbw.trans (hbz.mono hbs)).trans ((below_drewN wr md).mono (Nat.le_trans hbs hbzs))
          have hb2 : Below w.heap.size w w1 := (hbA.alloc (show w.heap.size ≤ wr.heap.size from Nat.le_trans hbs hbzs) _).grown hgrow (by simp; omega) (fun j hj => (hown.lt j hj).1)
          go_roundw
          case rel =>
            refine ⟨j + 1, g', cap', by omega, by go_num, rfl, ?_, hb2⟩
            rw [shardTo_succ, bys_append, bys_one]
            exact hown'
          case measure => simp [intOf]; omega
    · obtain rfl : j = L := by omega
      go_wp2
      go_ret
      exact ⟨gA, c', rfl, by rw [FIN.out]; exact hown, hbw⟩
end Go.Proofs.Ytoodeoglpdapiaa
