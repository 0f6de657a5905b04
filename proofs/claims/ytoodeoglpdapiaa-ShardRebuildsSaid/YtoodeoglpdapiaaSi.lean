/-
  Lists of bytes in memory; walks of the reference's At, first, Long and proper.
-/
import Derived.Test.YtoodeoglpdapiaaSh
import Derived.Laws.AppendOwn
import Derived.Laws.OwnMore
import Derived.OwnWalk
import Derived.Deep.AppendLies
import Derived.Maps.AppendAt
import Derived.BigRegion
import Derived.RegionTactic
import Derived.BigQuiet
import Derived.Carry
import Derived.Deep.RegionHeld3
import Derived.Deep.RegionWith
import Derived.Deep.DeepCutAuto
namespace Go.Proofs.Ytoodeoglpdapiaa
open Go.RowKit Gf
set_option maxHeartbeats 400000

theorem u8_cast (c : UInt8) : (0 : Int) ≤ c.toNat ∧ (c.toNat : Int) ≤ 255 := by have := c.toNat_lt; omega
/-- The slice that starts at A holds these bytes. -/
def Byts (w : World) (A : Option Addr) (l : List UInt8) : Prop :=
  l ≠ [] → ∃ b o, A = some ⟨b, o, none⟩ ∧ b < w.heap.size ∧ ∀ (j : Nat) (x : UInt8), l[j]? = some x → w.cell? ⟨b, o + j, none⟩ = some (.int .u8 x.toNat)
theorem Byts.nil (w : World) (A : Option Addr) : Byts w A [] := fun h => absurd rfl h
theorem Byts.below {w w' : World} {A : Option Addr} {l : List UInt8} (h : Byts w A l) (hb : Below w.heap.size w w') : Byts w' A l := fun hn => by
  obtain ⟨b, o, hA, hg, hc⟩ := h hn
  exact ⟨b, o, hA, Nat.lt_of_lt_of_le hg hb.size, fun j x hx => (hb.cell (p := ⟨b, o + j, none⟩) hg).trans (hc j x hx)⟩
theorem Byts.take {w : World} {A : Option Addr} {l : List UInt8} (h : Byts w A l) (k : Nat) : Byts w A (l.take k) := fun hn => by
  obtain ⟨b, o, hA, hg, hc⟩ := h (fun e => hn (by rw [e]; simp))
  refine ⟨b, o, hA, hg, fun j x hx => hc j x ?_⟩
  rw [List.getElem?_take] at hx
  split at hx
  · exact hx
  · cases hx
def bys (l : List UInt8) : List Value := l.map fun x => Value.int .u8 x.toNat
theorem bys_append (a b : List UInt8) : bys (a ++ b) = bys a ++ bys b := by simp [bys]
theorem bys_one (x : UInt8) : bys [x] = [.int .u8 x.toNat] := rfl
theorem bys_length (l : List UInt8) : (bys l).length = l.length := by simp [bys]
theorem bys_cells (l : List UInt8) : ∀ u ∈ bys l, u.oneCell' = true := by
  intro u hu
  obtain ⟨x, _, rfl⟩ := List.mem_map.1 hu
  rfl
theorem own_empty (w : World) (e : TypeId) : (w.alloc (.cells #[] e)).ownsRow w.heap.size e 1 (.slice (some ⟨w.heap.size, 0, none⟩) 0 0) 0 [] :=
  ⟨rfl, .inr ⟨w.heap.size, 0, #[], rfl, Nat.le_refl _, heap_alloc_new w _, Nat.le_refl _, Nat.zero_le _, rfl, rfl⟩⟩
theorem ownsRow_succ {w : World} {base : Nat} {e : TypeId} {s : Nat} {v : Value} {n : Nat} {xs : List Value} (h : w.ownsRow base e s v (n + 1) xs) : ∃ g cap, v = .slice (some ⟨g, 0, none⟩) (n + 1) cap := by
  obtain ⟨g, cap, hv, _, _⟩ := h.form (Nat.succ_pos n)
  exact ⟨g, cap, hv⟩
theorem own_form {w : World} {base : Nat} {e : TypeId} {s : Nat} {v : Value} {n : Nat} {xs : List Value} (h : w.ownsRow base e s v n xs) : ∃ A c, v = .slice A n c := by
  rcases h.2 with ⟨rfl, rfl⟩ | ⟨g, cap, cur, rfl, _⟩
  · exact ⟨none, 0, rfl⟩
  · exact ⟨_, cap, rfl⟩
theorem own_len {w : World} {base : Nat} {e : TypeId} {A : Option Addr} {m c : Nat} {xs : List Value} (h : w.ownsRow base e 1 (.slice A m c) m xs) : xs.length = m := by
  have := h.1
  omega
/-- A row of the call's own holds its bytes. -/
theorem Byts.of_own {w : World} {base n c : Nat} {e : TypeId} {A : Option Addr} {l : List UInt8} (h : w.ownsRow base e 1 (.slice A n c) n (bys l)) : Byts w A l := fun hn => by
  have hl := own_len h
  rw [bys_length] at hl
  obtain ⟨g, cap, hv, _, hlt⟩ := h.form (by rw [← hl]; exact List.length_pos_iff.2 hn)
  have hA : A = some ⟨g, 0, none⟩ := by injection hv
  refine ⟨g, 0, hA, hlt, fun j x hx => ?_⟩
  have := h.cells (g := g) (by rw [hA]; rfl) j (.int .u8 x.toNat) (by simp [bys, hx])
  have hadd : (⟨g, 0, none⟩ : Addr).add j = ⟨g, 0 + j, none⟩ := by unfold Addr.add; split <;> simp_all
  rw [hadd] at this
  exact this
theorem info_u8 : (Try.prog.info? 5).map (fun i => (i.zero, i.size, i.bytes)) = some (some (.int .u8 0), 1, 1) := by kernel_rfl

/-- The exclusive or of two bytes, as the walk writes it. -/
theorem xor_byte (a b : UInt8) : bits .xor .u8 (a.toNat : Int) (b.toNat : Int) = ((a ^^^ b).toNat : Int) := by
  rw [u8_xor_nat _ _ a.toNat_lt b.toNat_lt, UInt8.toNat_xor]
theorem Inv_byte (a : UInt8) (w : World) :
    Calls Try.prog 52 #[.int .u8 a.toNat] w fun e w' => e = .returned (.int .u8 (gi a).toNat) ∧ w' = w := by
  rw [gi_toNat]
  exact Inv_nat a.toNat a.toNat_lt w
theorem getD_of {l : List UInt8} {i : Nat} {x : UInt8} (h : l[i]? = some x) : l[i]?.getD 0 = x := by rw [h]; rfl

/-- The contracts of Mul and Inv in the form in which a region that only reads wants them. -/
theorem Mul_q (a x q : UInt8) (w : World) (m k : Nat) :
    Calls Try.prog 22 #[.int .u8 a.toNat, .int .u8 ((x.toNat ^^^ q.toNat : Nat) : Int)] (w.drewN (m + k)) fun e w'' => e = .returned (.int .u8 (gm a (x ^^^ q)).toNat) ∧ ∃ n, w'' = w.drewN (m + n) := by
  have h := Mul_byte a (x ^^^ q) (w.drewN (m + k))
  rw [UInt8.toNat_xor] at h
  exact h.mono fun _ _ ⟨he, hw⟩ => ⟨he, k, hw⟩
theorem Mul_q2 (a b : UInt8) (w : World) (m k : Nat) :
    Calls Try.prog 22 #[.int .u8 a.toNat, .int .u8 b.toNat] (w.drewN (m + k)) fun e w'' => e = .returned (.int .u8 (gm a b).toNat) ∧ ∃ n, w'' = w.drewN (m + n) :=
  (Mul_byte a b (w.drewN (m + k))).mono fun _ _ ⟨he, hw⟩ => ⟨he, k, hw⟩
theorem Inv_q (x q : UInt8) (w : World) (m k : Nat) :
    Calls Try.prog 52 #[.int .u8 ((x.toNat ^^^ q.toNat : Nat) : Int)] (w.drewN (m + k)) fun e w'' => e = .returned (.int .u8 (gi (x ^^^ q)).toNat) ∧ ∃ n, w'' = w.drewN (m + n) := by
  have h := Inv_byte (x ^^^ q) (w.drewN (m + k))
  rw [UInt8.toNat_xor] at h
  exact h.mono fun _ _ ⟨he, hw⟩ => ⟨he, k, hw⟩
theorem drewN_zero (w : World) : w = w.drewN 0 := rfl

set_option maxHeartbeats 2000000 in
theorem At_any (A A2 : Option Addr) (n c n2 c2 : Nat) (l l2 : List UInt8) (hn : l.length = n) (hl : n ≤ 1000) (hn2 : l2.length = n2) (h2 : n ≤ n2) (x : UInt8) (w : World) (hA : Byts w A l) (hA2 : Byts w A2 l2) :
    Calls Try.prog 45 #[.slice A n c, .slice A2 n2 c2, .int .u8 x.toNat] w fun e w' => e = .returned (.int .u8 (at_ l l2 x).toNat) ∧ ∃ m, w' = w.drewN m := by
  have HM := Lib.hid Mul_byte
  have HI := Lib.hid Inv_byte
  have HXB := Lib.hid xor_byte
  have HN := Lib.hid hn
  have HN2 := Lib.hid hn2
  have SA := Lib.hid hA
  have SB := Lib.hid hA2
  clear hn hn2 hA hA2
  go_enter Try.func45, Try.ntmps45
  go_wp2
  go_loopw [7, 8, 9, 10] (fun s i _ _ wr => ∃ k m : Nat, k ≤ n ∧ i = .int .i64 k ∧ s = .int .u8 (atTo l l2 x k).toNat ∧ wr = w.drewN m) (fun _ i _ _ _ => n - (intOf i).toNat)
  case atStart => exact ⟨0, 0, Nat.zero_le _, rfl, rfl, rfl⟩
  case round =>
    obtain ⟨i, m, hi, rfl, rfl, rfl⟩ := hrel
    by_cases hlt : i < n
    · have hil : i < l.length := by rw [HN.out]; exact hlt
      have hil2 : i < l2.length := by rw [HN2.out]; omega
      obtain ⟨g, o, rfl, hg, hc⟩ := SA.out (List.ne_nil_of_length_pos (by omega))
      obtain ⟨g2, o2, rfl, hg2, hc2⟩ := SB.out (List.ne_nil_of_length_pos (by omega))
      have hv := hc2 i l2[i] (List.getElem?_eq_getElem hil2)
      obtain ⟨v, hve⟩ : ∃ v, l2[i] = v := ⟨_, rfl⟩
      have hp := hc i l[i] (List.getElem?_eq_getElem hil)
      obtain ⟨p, hpe⟩ : ∃ p, l[i] = p := ⟨_, rfl⟩
      rw [hve] at hv
      rw [hpe] at hp
      have HV := Lib.hid (getD_of ((List.getElem?_eq_getElem hil2).trans (congrArg some hve)))
      have HP := Lib.hid (getD_of ((List.getElem?_eq_getElem hil).trans (congrArg some hpe)))
      have HC := Lib.hid hc
      have HPC := Lib.hid hp
      clear hc hc2 hve hpe hp SA SB
      have i0 : (0 : Int) ≤ (i : Int) := by omega
      have in1 : (i : Int) < (n : Int) := by omega
      have in2 : (i : Int) < (n2 : Int) := by omega
      go_wp2
      go_loopw [9, 10] (fun t k wz => ∃ j m : Nat, j ≤ n ∧ k = .int .i64 j ∧ t = .int .u8 (termTo l i v x j).toNat ∧ wz = w.drewN m) (fun _ k _ => n - (intOf k).toNat)
      case atStart => exact ⟨0, m, Nat.zero_le _, rfl, rfl, rfl⟩
      case round =>
        obtain ⟨j, m2, hj, rfl, rfl, rfl⟩ := hrel
        by_cases hjl : j < n
        · have hjk : j < l.length := by rw [HN.out]; exact hjl
          have hq := HC.out j l[j] (List.getElem?_eq_getElem hjk)
          obtain ⟨q, hqe⟩ : ∃ q, l[j] = q := ⟨_, rfl⟩
          rw [hqe] at hq
          have HQ := Lib.hid (getD_of ((List.getElem?_eq_getElem hjk).trans (congrArg some hqe)))
          clear hqe
          have j0 : (0 : Int) ≤ (j : Int) := by omega
          have jn1 : (j : Int) < (n : Int) := by omega
          by_cases hji : j = i
          · have hb : ((j : Int) != (i : Int)) = false := by simp [hji]
            have HJ := Lib.hid hji
            clear hji
            go_wp2
            go_roundw
            case rel => exact ⟨j + 1, m2, by omega, by go_num, by rw [termTo, if_pos HJ.out], rfl⟩
            case measure => simp [intOf]; omega
          · have hb : ((j : Int) != (i : Int)) = true := by simp; omega
            have hp := HPC.out
            have e1 := HXB.out x q
            have e2 := HXB.out p q
            have HJ := Lib.hid hji
            clear hji
            obtain ⟨T, hT⟩ : ∃ T, termTo l i v x j = T := ⟨_, rfl⟩
            have HT := Lib.hid hT
            rw [hT]
            clear hT
            go_wp2
            go_quiet (first | (go_at_call 52; with_reducible exact Inv_q p q w m2 _) | (go_at_call 22; first | (with_reducible exact Mul_q T x q w m2 _) | (with_reducible exact Mul_q2 (gm T (x ^^^ q)) (gi (p ^^^ q)) w m2 _)))
            go_wp2
            go_roundw
            case rel => exact ⟨j + 1, _, by omega, by go_num, by rw [termTo, if_neg HJ.out, HT.out, HP.out, HQ.out], rfl⟩
            case measure => simp [intOf]; omega
        · obtain rfl : j = n := by omega
          have e1 := HXB.out (atTo l l2 x i) (termTo l i v x j)
          obtain ⟨T, hT⟩ : ∃ T, termTo l i v x j = T := ⟨_, rfl⟩
          have HT := Lib.hid hT
          rw [hT] at e1 ⊢
          clear hT
          go_wp2
          go_roundw
          case rel => exact ⟨i + 1, _, by omega, by go_num, by rw [atTo, HV.out, HN.out, HT.out, UInt8.toNat_xor], rfl⟩
          case measure => simp [intOf]; omega
    · obtain rfl : i = n := by omega
      go_wp2
      go_ret
      refine ⟨ret_int ?_, _, rfl⟩
      rw [at_, HN.out]
end Go.Proofs.Ytoodeoglpdapiaa
