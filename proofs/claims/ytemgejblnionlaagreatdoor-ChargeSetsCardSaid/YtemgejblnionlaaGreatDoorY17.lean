/-
  Texts QaAa QaAb QaAd QaPb QaAe QaAm QaPc QaAj QaAk QaAn QaAt QaRa QaRb QaPe QaPf QaPg QaRc QaRe QaRf, put together by program.
-/
import Derived.Test.YtemgejblnionlaaGreatDoorY2
import Derived.Test.YtemgejblnionlaaGreatDoorProg
import Derived.WalkKit
import Derived.WalkSpells
import Derived.Handy
import Derived.Outline
import Derived.Lib.Hide
import Derived.Laws.AppendOwn
import Derived.Laws.OwnMore
import Derived.OwnWalk
import Derived.Deep.AppendLies
import Derived.Maps.AppendAt
import Derived.Laws.StructEq
import Derived.RegionTactic
import Derived.Deep.QuietTactic
import Derived.BigQuiet
import Derived.IntWalk
import Derived.Maps.OwnOps
import Derived.Maps.OwnSet
import Derived.Maps.Views
import Derived.DeepKeys4
import Derived.WalkArith
import Derived.Deep.RegionHeld3
import Derived.Laws.AppendOwnNone
import Derived.BigRegion
import Derived.Deep.DeepCutAuto
import Derived.Deep.RegionLaw
import Derived.Laws.IdiomCopy
namespace Go.Proofs.YtemgejblnionlaaGreatDoor.Acl
set_option maxRecDepth 100000
open Go.RowKit Ap
set_option maxHeartbeats 400000
theorem ret_bool {a b : Bool} (h : a = b) : Ending.returned (.bool a) = .returned (.bool b) := by rw [h]
theorem ret_int {k : IntKind} {a b : Int} (h : a = b) : Ending.returned (.int k a) = .returned (.int k b) := by rw [h]
theorem counts_any (a : Ac) (who owner : Int) (w : World) :
 Calls Tryz.prog 305 #[av a, .int .i64 who, .int .i64 owner] w fun e w' => e = .returned (.bool (cnt a who owner)) ∧ Below w.heap.size w w' := by
 obtain ⟨aw, al, ri, re, gi⟩ := a
 simp only [av, cnt]
 go_enter Tryz.func305, Tryz.ntmps305
 go_wp2
 all_goals
  go_ret
  refine ⟨ret_bool ?_, by go_grown⟩
  rw [Bool.eq_iff_iff]
  simp at *
  omega
theorem marked_any (a b : Ac) (w : World) :
 Calls Tryz.prog 161 #[av a, av b] w fun e w' => e = .returned (.bool (marked a b)) ∧ Below w.heap.size w w' := by
 obtain ⟨aw, al, ri, re, gi⟩ := a
 obtain ⟨bw, bl, bi, be, bg⟩ := b
 simp only [av, marked]
 go_enter Tryz.func161, Tryz.ntmps161
 go_wp2
 all_goals
  go_ret
  refine ⟨ret_bool ?_, by go_grown⟩
  simp [*]
theorem rcounts_any (a : Ac) (who owner : Int) (w : World) :
 Calls Tryz.prog 287 #[av a, .int .i64 who, .int .i64 owner] w fun e w' => e = .returned (.bool (cnt a who owner)) ∧ Below w.heap.size w w' := by
 obtain ⟨aw, al, ri, re, gi⟩ := a
 simp only [av, cnt]
 go_enter Tryz.func287, Tryz.ntmps287
 go_wp2
 all_goals
  go_ret
  refine ⟨ret_bool ?_, by go_grown⟩
  rw [Bool.eq_iff_iff]
  simp
  omega
end Go.Proofs.YtemgejblnionlaaGreatDoor.Acl
namespace Go.Proofs.YtemgejblnionlaaGreatDoor.Acl
set_option maxRecDepth 100000
open Go.RowKit Ap
set_option maxHeartbeats 400000
def At (w : World) (g o : Nat) (a : Ac) : Prop :=
 w.cell? ⟨g, o, none⟩ = some (.int .i64 a.who) ∧ w.cell? ⟨g, o + 1, none⟩ = some (.bool a.allow) ∧ w.cell? ⟨g, o + 2, none⟩ = some (.int .i64 a.rights) ∧ w.cell? ⟨g, o + 3, none⟩ = some (.int .i64 a.reach) ∧ w.cell? ⟨g, o + 4, none⟩ = some (.bool a.given)
theorem At.lt {w : World} {g o : Nat} {a : Ac} (h : At w g o a) : g < w.heap.size := block_lt_of_cell h.1
theorem At.below {w w' : World} {g o : Nat} {a : Ac} (h : At w g o a) (hb : Below w.heap.size w w') : At w' g o a :=
 ⟨(hb.cell (p := ⟨g, o, none⟩) h.lt).trans h.1, (hb.cell (p := ⟨g, o + 1, none⟩) h.lt).trans h.2.1, (hb.cell (p := ⟨g, o + 2, none⟩) h.lt).trans h.2.2.1, (hb.cell (p := ⟨g, o + 3, none⟩) h.lt).trans h.2.2.2.1, (hb.cell (p := ⟨g, o + 4, none⟩) h.lt).trans h.2.2.2.2⟩
def Aces (w : World) (A : Option Addr) (l : List Ac) : Prop :=
 l ≠ [] → ∃ g o, A = some ⟨g, o, none⟩ ∧ g < w.heap.size ∧ ∀ (j : Nat) (a : Ac), l[j]? = some a → At w g (o + j * 5) a
theorem Aces.below {w w' : World} {A : Option Addr} {l : List Ac} (h : Aces w A l) (hb : Below w.heap.size w w') : Aces w' A l := fun hn => by
 obtain ⟨g, o, hA, hg, hc⟩ := h hn
 exact ⟨g, o, hA, Nat.lt_of_lt_of_le hg hb.size, fun j a ha => (hc j a ha).below hb⟩
theorem Aces.nil (w : World) (A : Option Addr) : Aces w A [] := fun h => absurd rfl h
theorem Aces.take {w : World} {A : Option Addr} {l : List Ac} (h : Aces w A l) (k : Nat) : Aces w A (l.take k) := fun hn => by
 obtain ⟨g, o, hA, hg, hc⟩ := h (fun e => hn (by rw [e]; simp))
 refine ⟨g, o, hA, hg, fun j a ha => hc j a ?_⟩
 rw [List.getElem?_take] at ha
 split at ha
 · exact ha
 · cases ha
theorem encs_length (l : List Ac) : (encs l).length = l.length * 5 := by
 induction l with
 | nil => rfl
 | cons a l ih => simp [encs, enc] at ih ⊢; omega
theorem encs_append (l m : List Ac) : encs (l ++ m) = encs l ++ encs m := by simp [encs]
theorem encs_one (a : Ac) : encs [a] = enc a := by simp [encs]
theorem encs_get (l : List Ac) (j i : Nat) (a : Ac) (hi : i < 5) (h : l[j]? = some a) : (encs l)[j * 5 + i]? = (enc a)[i]? := by
 induction l generalizing j with
 | nil => cases h
 | cons b l ih =>
   cases j with
   | zero =>
     simp at h; subst h
     show (enc b ++ encs l)[0 * 5 + i]? = _
     rw [Nat.zero_mul, Nat.zero_add, List.getElem?_append_left (by simp [enc]; omega)]
   | succ j =>
     show (enc b ++ encs l)[(j + 1) * 5 + i]? = _
     rw [List.getElem?_append_right (by simp [enc]; omega)]
     have : (j + 1) * 5 + i - (enc b).length = j * 5 + i := by simp [enc]; omega
     rw [this]
     exact ih j (by simpa using h)
theorem info_ace : (Tryz.prog.info? 137).map (fun i => (i.zero, i.size, i.bytes)) = some (some (.agg #[.int .i64 0, .bool false, .int .i64 0, .int .i64 0, .bool false]), 5, 40) := by kernel_rfl
theorem own_empty (w : World) (e : TypeId) (s : Nat) : (w.alloc (.cells #[] e)).ownsRow w.heap.size e s (.slice (some ⟨w.heap.size, 0, none⟩) 0 0) 0 [] :=
 ⟨by simp, .inr ⟨w.heap.size, 0, #[], rfl, Nat.le_refl _, heap_alloc_new w _, Nat.le_refl _, Nat.zero_le _, by simp, by simp⟩⟩
theorem cells_new (w : World) (cs : Array Value) (t : TypeId) : ∀ j u, cs.toList[j]? = some u → (w.alloc (.cells cs t)).cell? ((⟨w.heap.size, 0, none⟩ : Addr).add j) = some u := fun j u hu => by
 have h0 := cell_of_row (w.alloc (.cells cs t)) w.heap.size j cs t (0, 0) (heap_alloc_new w _)
 have hadd : (⟨w.heap.size, 0, none⟩ : Addr).add j = ⟨w.heap.size, j, none⟩ := by unfold Addr.add; split <;> simp_all
 rw [hadd, h0]
 rw [Array.getElem?_toList] at hu
 exact hu
theorem enc_one (a : Ac) : ∀ u ∈ enc a, u.oneCell' = true := by
 intro u hu
 simp [enc] at hu
 rcases hu with rfl | rfl | rfl | rfl | rfl <;> rfl
theorem ownsRow_succ {w : World} {base : Nat} {e : TypeId} {s : Nat} {v : Value} {n : Nat} {xs : List Value} (h : w.ownsRow base e s v (n + 1) xs) : ∃ g cap, v = .slice (some ⟨g, 0, none⟩) (n + 1) cap := by
 obtain ⟨g, cap, hv, _, _⟩ := h.form (Nat.succ_pos n)
 exact ⟨g, cap, hv⟩
theorem own_form {w : World} {base : Nat} {e : TypeId} {s : Nat} {v : Value} {n : Nat} {xs : List Value} (h : w.ownsRow base e s v n xs) : ∃ A c, v = .slice A n c := by
 rcases h.2 with ⟨rfl, rfl⟩ | ⟨g, cap, cur, rfl, _⟩
 · exact ⟨none, 0, rfl⟩
 · exact ⟨_, cap, rfl⟩
theorem own_len {w : World} {base : Nat} {e : TypeId} {A : Option Addr} {m c : Nat} {l : List Ac} (h : w.ownsRow base e 5 (.slice A m c) m (encs l)) : l.length = m := by
 have := h.1
 rw [encs_length] at this
 omega
theorem after5 {w w1 : World} {v0 v1 v2 v3 v4 : Value} {t : TypeId} (hb : Below (w.alloc (.cells #[v0, v1, v2, v3, v4] t)).heap.size (w.alloc (.cells #[v0, v1, v2, v3, v4] t)) w1) :
 w1.cell? ⟨w.heap.size, 0, none⟩ = some v0 ∧ w1.cell? ⟨w.heap.size, 1, none⟩ = some v1 ∧ w1.cell? ⟨w.heap.size, 2, none⟩ = some v2 ∧ w1.cell? ⟨w.heap.size, 3, none⟩ = some v3 ∧ w1.cell? ⟨w.heap.size, 4, none⟩ = some v4 ∧
 w1.frozen? ⟨w.heap.size, 0, none⟩ = false ∧ w1.frozen? ⟨w.heap.size, 1, none⟩ = false ∧ w1.frozen? ⟨w.heap.size, 2, none⟩ = false ∧ w1.frozen? ⟨w.heap.size, 3, none⟩ = false ∧ w1.frozen? ⟨w.heap.size, 4, none⟩ = false ∧ w.heap.size < w1.heap.size := by
 have hn := heap_alloc_new w (.cells #[v0, v1, v2, v3, v4] t)
 have hl : w.heap.size < (w.alloc (.cells #[v0, v1, v2, v3, v4] t)).heap.size := by simp
 have hc : ∀ (i : Nat) (v : Value), #[v0, v1, v2, v3, v4][i]? = some v → w1.cell? ⟨w.heap.size, i, none⟩ = some v := fun i v hv => by
  have h0 := cell_of_row (w.alloc (.cells #[v0, v1, v2, v3, v4] t)) w.heap.size i #[v0, v1, v2, v3, v4] t (0, 0) hn
  rw [hv] at h0
  exact (hb.cell (p := ⟨w.heap.size, i, none⟩) hl).trans h0
 have hf : ∀ (i : Nat), w1.frozen? ⟨w.heap.size, i, none⟩ = false := fun i => (hb.frozen (p := ⟨w.heap.size, i, none⟩) hl).trans (frozen_of_row _ w.heap.size i #[v0, v1, v2, v3, v4] t hn)
 exact ⟨hc 0 _ rfl, hc 1 _ rfl, hc 2 _ rfl, hc 3 _ rfl, hc 4 _ rfl, hf 0, hf 1, hf 2, hf 3, hf 4, Nat.lt_of_lt_of_le hl hb.size⟩
end Go.Proofs.YtemgejblnionlaaGreatDoor.Acl
namespace Go.Proofs.YtemgejblnionlaaGreatDoor.Acl
set_option maxRecDepth 100000
open Go.RowKit Ap
set_option maxHeartbeats 400000
theorem Aces.cells {w : World} {g o : Nat} {l : List Ac} (h : ∀ (j : Nat) (a : Ac), l[j]? = some a → At w g (o + j * 5) a) : ∀ j u, (encs l)[j]? = some u → w.cell? ((⟨g, o, none⟩ : Addr).add j) = some u := fun j u hu => by
 have hjl : j < l.length * 5 := by rw [← encs_length]; exact (List.getElem?_eq_some_iff.1 hu).1
 have hq : j / 5 < l.length := by omega
 have hr : j % 5 < 5 := Nat.mod_lt _ (by omega)
 have he := encs_get l (j / 5) (j % 5) l[j / 5] hr (List.getElem?_eq_getElem hq)
 rw [show j / 5 * 5 + j % 5 = j by omega, hu] at he
 obtain ⟨c0, c1, c2, c3, c4⟩ := h (j / 5) l[j / 5] (List.getElem?_eq_getElem hq)
 have hadd : (⟨g, o, none⟩ : Addr).add j = ⟨g, o + j / 5 * 5 + j % 5, none⟩ := by
  have : o + j = o + j / 5 * 5 + j % 5 := by omega
  unfold Addr.add
  split <;> simp_all
 rw [hadd]
 generalize j % 5 = r at he hr
 match r, hr with
 | 0, _ => rw [he]; exact c0
 | 1, _ => rw [he]; exact c1
 | 2, _ => rw [he]; exact c2
 | 3, _ => rw [he]; exact c3
 | 4, _ => rw [he]; exact c4
end Go.Proofs.YtemgejblnionlaaGreatDoor.Acl
namespace Go.Proofs.YtemgejblnionlaaGreatDoor.Acl
set_option maxRecDepth 100000
namespace Ap
def bv (x : Int) : BitVec 64 := BitVec.ofInt 64 x
theorem wrap_toNat (v : BitVec 64) : IntKind.i64.wrap (v.toNat : Int) = v.toInt := by
 rw [IntKind.wrap_i64]
 have h := v.isLt
 rw [BitVec.toInt_eq_toNat_cond]
 split <;> omega
theorem bv_toInt (v : BitVec 64) : bv v.toInt = v := by simp [bv]
theorem bits_and (x y : Int) : bits .and .i64 x y = (bv x &&& bv y).toInt := wrap_toNat _
theorem bits_or (x y : Int) : bits .or .i64 x y = (bv x ||| bv y).toInt := wrap_toNat _
theorem bits_andNot (x y : Int) : bits .andNot .i64 x y = (bv x &&& ~~~(bv y)).toInt := wrap_toNat _
def stepR (who owner : Int) (s : BitVec 64 × BitVec 64) (e : Ac) : BitVec 64 × BitVec 64 :=
 if cnt e who owner = true then (if e.allow = true then s.1 ||| (bv e.rights &&& s.2) else s.1, s.2 &&& ~~~(bv e.rights)) else s
def foldR (l : List Ac) (who owner : Int) : BitVec 64 × BitVec 64 := l.foldl (stepR who owner) (0, 15)
def rightsV (l : List Ac) (who owner : Int) : BitVec 64 := if who = 0 then 15 else if who = owner then (foldR l who owner).1 ||| 8 else (foldR l who owner).1
theorem foldR_snoc (l : List Ac) (e : Ac) (who owner : Int) : foldR (l ++ [e]) who owner = stepR who owner (foldR l who owner) e := by simp [foldR]
def badV (seen : List Ac) (g : Bool) (a : Ac) : Bool := !inR a || a.rights == 0 || decide (a.mk0 ∈ seen) || (g && !a.given)
def goV : List Ac → Bool → List Ac → Bool
 | _, _, [] => true
 | seen, g, a :: l => if badV seen g a = true then false else goV (a.mk0 :: seen) a.given l
def validB (l : List Ac) : Bool := decide (l.length ≤ 16) && goV [] false l
end Ap
end Go.Proofs.YtemgejblnionlaaGreatDoor.Acl
namespace Go.Proofs.YtemgejblnionlaaGreatDoor.Acl
set_option maxRecDepth 100000
open Go.RowKit Ap
set_option maxHeartbeats 400000
set_option maxHeartbeats 1000000 in
theorem rights_any (A : Option Addr) (n c : Nat) (l : List Ac) (hn : l.length = n) (hl : n ≤ 1000) (who owner : Int) (w : World) (hA : Aces w A l) :
 Calls Tryz.prog 292 #[.slice A n c, .int .i64 who, .int .i64 owner] w fun e w' => e = .returned (.int .i64 (rightsV l who owner).toInt) ∧ Below w.heap.size w w' := by
 by_cases h0 : who = 0
 · have HR := Lib.hid (show (rightsV l who owner).toInt = 15 by unfold rightsV; rw [if_pos h0]; rfl)
   have b0 : (who == 0) = true := by simp [h0]
   clear h0 hn hA
   go_enter Tryz.func292, Tryz.ntmps292
   go_wp2
   go_ret
   exact ⟨ret_int HR.out.symm, Below.refl _ _⟩
 · have HR := Lib.hid (show rightsV l who owner = if who = owner then (foldR l who owner).1 ||| 8 else (foldR l who owner).1 by unfold rightsV; rw [if_neg h0])
   have b0 : (who == 0) = false := by simp [h0]
   have HN := Lib.hid hn
   have SA := Lib.hid hA
   clear h0 hn hA
   go_enter Tryz.func292, Tryz.ntmps292
   go_wp2
   go_loopw [7, 8, 10, 15] (fun al op _ i wr => ∃ k : Nat, k ≤ n ∧ i = .int .i64 k ∧ al = .int .i64 (foldR (l.take k) who owner).1.toInt ∧ op = .int .i64 (foldR (l.take k) who owner).2.toInt ∧ Below w.heap.size w wr) (fun _ _ _ i _ => n - (intOf i).toNat)
   case atStart => exact ⟨0, Nat.zero_le _, rfl, rfl, rfl, Below.refl _ _⟩
   case round =>
    obtain ⟨k, hk, rfl, hal, hop, hbw⟩ := hrel
    obtain ⟨a, ha⟩ : ∃ a, (foldR (l.take k) who owner).1 = a := ⟨_, rfl⟩
    obtain ⟨p, hp⟩ : ∃ p, (foldR (l.take k) who owner).2 = p := ⟨_, rfl⟩
    rw [ha] at hal
    rw [hp] at hop
    subst hal hop
    have hbs := hbw.size
    have HAP := Lib.hid (show foldR (l.take k) who owner = (a, p) by rw [← ha, ← hp])
    clear ha hp
    by_cases hlt : k < n
    · have hkl : k < l.length := by rw [HN.out]; exact hlt
      obtain ⟨g, o, rfl, hg, hc⟩ := (SA.out.below hbw) (List.ne_nil_of_length_pos (by omega))
      obtain ⟨c0, c1, c2, c3, c4⟩ := hc k l[k] (List.getElem?_eq_getElem hkl)
      have hst : foldR (l.take (k + 1)) who owner = stepR who owner (a, p) l[k] := by rw [List.take_succ_eq_append_getElem hkl, foldR_snoc, HAP.out]
      obtain ⟨x, hx⟩ : ∃ a, l[k] = a := ⟨_, rfl⟩
      rw [hx] at c0 c1 c2 c3 c4 hst
      have cC := fun W => counts_any x who owner W
      obtain ⟨aw, al, ri, re, ag⟩ := x
      dsimp only at c0 c1 c2 c3 c4
      unfold av at cC
      dsimp only at cC
      unfold stepR at hst
      dsimp only at hst
      clear hc hx SA
      cases hcn : cnt ⟨aw, al, ri, re, ag⟩ who owner
      · rw [hcn] at cC hst
        have CC := Lib.hid cC
        have HST := Lib.hid hst
        clear cC hst hcn
        go_wp2_with (go_at_call 305; refine (CC.out _).mono ?_; rintro e w1 ⟨rfl, hb1⟩)
        go_roundw
        case rel =>
         refine ⟨k + 1, by omega, by go_num, ?_, ?_, ?_⟩
         · rw [HST.out, if_neg (by simp)]
         · rw [HST.out, if_neg (by simp)]
         · exact (hbw.alloc hbs _).trans (hb1.mono (by simp; omega))
        case measure => simp [intOf]; omega
      · rw [hcn] at cC hst
        have CC := Lib.hid cC
        have HST := Lib.hid hst
        clear cC hst hcn
        cases al
        all_goals
         go_wp2_with (go_at_call 305; refine (CC.out _).mono ?_; rintro e w1 ⟨rfl, hb1⟩; obtain ⟨h0, h1, h2, h3, h4, f0, f1, f2, f3, f4, hlt1⟩ := after5 hb1)
         go_roundw
         case rel =>
          refine ⟨k + 1, by omega, by go_num, ?_, ?_, ?_⟩
          · rw [HST.out]; simp only [if_true, Bool.false_eq_true, if_false, bits_or, bits_and, bv_toInt]
          · rw [HST.out]; simp only [if_true, Bool.false_eq_true, if_false, bits_andNot, bv_toInt]
          · exact (hbw.alloc hbs _).trans (hb1.mono (by simp; omega))
         case measure => simp [intOf]; omega
    · obtain rfl : k = n := by omega
      have hfull : l.take k = l := List.take_of_length_le (by rw [HN.out]; exact Nat.le_refl _)
      have HA2 := Lib.hid (show (foldR l who owner).1 = a by have := HAP.out; rw [hfull] at this; rw [this])
      clear hfull
      by_cases hwo : who = owner
      · have HV := Lib.hid (show rightsV l who owner = a ||| 8 by rw [HR.out, if_pos hwo, HA2.out])
        have bwo : (who == owner) = true := by simp [hwo]
        clear hwo
        go_wp2
        go_ret
        exact ⟨ret_int (by rw [HV.out, bits_or, bv_toInt]; rfl), hbw⟩
      · have HV := Lib.hid (show rightsV l who owner = a by rw [HR.out, if_neg hwo, HA2.out])
        have bwo : (who == owner) = false := by simp [hwo]
        clear hwo
        go_wp2
        go_ret
        exact ⟨ret_int (by rw [HV.out]), hbw⟩
def allowsB (l : List Ac) (who owner want : Int) : Bool := (rightsV l who owner &&& bv want).toInt == want
theorem allows_any (A : Option Addr) (n c : Nat) (l : List Ac) (hn : l.length = n) (hl : n ≤ 1000) (who owner want : Int) (w : World) (hA : Aces w A l) :
 Calls Tryz.prog 271 #[.slice A n c, .int .i64 who, .int .i64 owner, .int .i64 want] w fun e w' => e = .returned (.bool (allowsB l who owner want)) ∧ Below w.heap.size w w' := by
 unfold allowsB
 have C := Lib.hid (rights_any A n c l hn hl who owner w hA)
 clear hn hA
 go_enter Tryz.func271, Tryz.ntmps271
 go_wp2_with (go_at_call 292; refine C.out.mono ?_; rintro e w1 ⟨rfl, hb1⟩)
 all_goals
  go_ret
  refine ⟨ret_bool ?_, hb1⟩
  rw [bits_and, bv_toInt]
end Go.Proofs.YtemgejblnionlaaGreatDoor.Acl
namespace Go.Proofs.YtemgejblnionlaaGreatDoor.Acl
set_option maxRecDepth 100000
open Go.RowKit Ap Go.Maps
set_option maxHeartbeats 400000
theorem keep5 {w w' : World} {b : Nat} {v0 v1 v2 v3 v4 : Value} (h0 : w.cell? ⟨b, 0, none⟩ = some v0) (h1 : w.cell? ⟨b, 1, none⟩ = some v1) (h2 : w.cell? ⟨b, 2, none⟩ = some v2) (h3 : w.cell? ⟨b, 3, none⟩ = some v3) (h4 : w.cell? ⟨b, 4, none⟩ = some v4) (hb : Below w.heap.size w w') :
 w'.cell? ⟨b, 0, none⟩ = some v0 ∧ w'.cell? ⟨b, 1, none⟩ = some v1 ∧ w'.cell? ⟨b, 2, none⟩ = some v2 ∧ w'.cell? ⟨b, 3, none⟩ = some v3 ∧ w'.cell? ⟨b, 4, none⟩ = some v4 :=
 ⟨(hb.cell (block_lt_of_cell h0)).trans h0, (hb.cell (block_lt_of_cell h1)).trans h1, (hb.cell (block_lt_of_cell h2)).trans h2, (hb.cell (block_lt_of_cell h3)).trans h3, (hb.cell (block_lt_of_cell h4)).trans h4⟩
theorem own_keep {w w' : World} {base : Nat} {e : TypeId} {s : Nat} {v : Value} {n : Nat} {xs : List Value} (h : w.ownsRow base e s v n xs) (hb : Below w.heap.size w w') : w'.ownsRow base e s v n xs := by
 obtain ⟨h1, h2⟩ := h
 refine ⟨h1, ?_⟩
 rcases h2 with h2 | ⟨g, cap, cur, hv, hg, hc, hr⟩
 · exact .inl h2
 · exact .inr ⟨g, cap, cur, hv, hg, (hb.block g (Array.getElem?_eq_some_iff.1 hc).1).trans hc, hr⟩
theorem encs_set (l : List Ac) (i : Nat) (a : Ac) (r : Int) (hi : l[i]? = some a) : (encs l).set (i * 5 + 2) (.int .i64 r) = encs (l.set i (a.put r)) := by
 induction l generalizing i with
 | nil => cases hi
 | cons b l ih =>
   cases i with
   | zero =>
     simp at hi; subst hi
     simp [encs, enc, Ac.put]
   | succ i =>
     have := ih i (by simpa using hi)
     simp only [encs, List.flatMap_cons, List.set_cons_succ] at this ⊢
     rw [← this, List.set_append_right _ _ (by simp [enc]; omega)]
     congr 2
     simp [enc]; omega
end Go.Proofs.YtemgejblnionlaaGreatDoor.Acl
namespace Go.Proofs.YtemgejblnionlaaGreatDoor.Acl
set_option maxRecDepth 100000
namespace Ap
def Ac.join (a e : Ac) : Ac := a.put (bv a.rights ||| bv e.rights).toInt
def addC (out : List Ac) (e : Ac) : List Ac := if e.mk0 ∈ out.map Ac.mk0 then out.map (fun a => if a.mk0 = e.mk0 then a.join e else a) else out ++ [e]
def toC (rc : Int) (e : Ac) : Ac := { e with reach := rc, given := true }
def stepC (rc : Int) (out : List Ac) (e : Ac) : List Ac := if e.reach = 2 ∨ e.reach = 3 then addC out (toC rc e) else out
def childL (l : List Ac) (rc : Int) : List Ac := l.foldl (stepC rc) []
def rcOf (dir : Bool) : Int := if dir = true then 2 else 1
theorem childL_snoc (l : List Ac) (e : Ac) (rc : Int) : childL (l ++ [e]) rc = stepC rc (childL l rc) e := by simp [childL]
theorem join_mk0 (a e : Ac) : (a.join e).mk0 = a.mk0 := rfl
theorem addC_marks (out : List Ac) (e : Ac) : (addC out e).map Ac.mk0 = if e.mk0 ∈ out.map Ac.mk0 then out.map Ac.mk0 else out.map Ac.mk0 ++ [e.mk0] := by
 unfold addC
 split
 · rw [List.map_map]
   apply List.map_congr_left
   intro a _
   simp only [Function.comp]
   split
   · rw [join_mk0]
   · rfl
 · simp
theorem addC_nodup {out : List Ac} {e : Ac} (h : (out.map Ac.mk0).Nodup) : ((addC out e).map Ac.mk0).Nodup := by
 rw [addC_marks]
 split
 · exact h
 · rename_i hn
   exact List.nodup_append.2 ⟨h, by simp, fun a ha b hb => by simp at hb; subst hb; exact fun e => hn (e ▸ ha)⟩
theorem addC_len (out : List Ac) (e : Ac) : (addC out e).length ≤ out.length + 1 := by
 unfold addC; split <;> simp
theorem childL_nodup (l : List Ac) (rc : Int) : ((childL l rc).map Ac.mk0).Nodup := by
 suffices h : ∀ (l : List Ac) (out : List Ac), (out.map Ac.mk0).Nodup → ((l.foldl (stepC rc) out).map Ac.mk0).Nodup from h l [] (by simp)
 intro l
 induction l with
 | nil => exact fun _ h => h
 | cons a l ih =>
   intro out h
   refine ih _ ?_
   unfold stepC
   split
   · exact addC_nodup h
   · exact h
theorem childL_len (l : List Ac) (rc : Int) : (childL l rc).length ≤ l.length := by
 suffices h : ∀ (l : List Ac) (out : List Ac), (l.foldl (stepC rc) out).length ≤ out.length + l.length by simpa [childL] using h l []
 intro l
 induction l with
 | nil => intro out; simp
 | cons a l ih =>
   intro out
   have h1 := ih (stepC rc out a)
   have h2 : (stepC rc out a).length ≤ out.length + 1 := by
    unfold stepC
    split
    · exact addC_len _ _
    · omega
   simp only [List.foldl_cons, List.length_cons]
   omega
end Ap
end Go.Proofs.YtemgejblnionlaaGreatDoor.Acl
namespace Go.Proofs.YtemgejblnionlaaGreatDoor.Acl
set_option maxRecDepth 100000
open Go.RowKit Ap
set_option maxHeartbeats 400000
def Mk (b : Nat) (m : Ac) (W : World) : Prop :=
 W.cell? ⟨b, 0, none⟩ = some (.int .i64 m.who) ∧ W.cell? ⟨b, 1, none⟩ = some (.bool m.allow) ∧ W.cell? ⟨b, 2, none⟩ = some (.int .i64 m.rights) ∧ W.cell? ⟨b, 3, none⟩ = some (.int .i64 m.reach) ∧ W.cell? ⟨b, 4, none⟩ = some (.bool m.given)
theorem Mk.step {b : Nat} {m : Ac} {W W' : World} (h : Mk b m W) (hb : Below W.heap.size W W') : Mk b m W' :=
 keep5 h.1 h.2.1 h.2.2.1 h.2.2.2.1 h.2.2.2.2 hb
theorem Mk.lt {b : Nat} {m : Ac} {W : World} (h : Mk b m W) : b < W.heap.size := block_lt_of_cell h.1
end Go.Proofs.YtemgejblnionlaaGreatDoor.Acl
namespace Go.Proofs.YtemgejblnionlaaGreatDoor.Acl
set_option maxRecDepth 100000
open Go.RowKit Ap
set_option maxHeartbeats 400000
theorem own_at {w : World} {base g n cap : Nat} {l : List Ac} (h : w.ownsRow base 137 5 (.slice (some ⟨g, 0, none⟩) n cap) n (encs l)) (j : Nat) (hj : j < n) :
 ∃ y, l[j]? = some y ∧ w.cell? ⟨g, j * 5, none⟩ = some (.int .i64 y.who) ∧ w.cell? ⟨g, j * 5 + 1, none⟩ = some (.bool y.allow) ∧ w.cell? ⟨g, j * 5 + 2, none⟩ = some (.int .i64 y.rights) ∧ w.cell? ⟨g, j * 5 + 3, none⟩ = some (.int .i64 y.reach) ∧ w.cell? ⟨g, j * 5 + 4, none⟩ = some (.bool y.given) := by
 have hl := own_len h
 have hy : l[j]? = some l[j] := List.getElem?_eq_getElem (by omega)
 have k := fun i (hi : i < 5) => (h.cellAt (j * 5 + i) (by omega)).trans (encs_get l j i _ hi hy)
 exact ⟨l[j], hy, k 0 (by omega), k 1 (by omega), k 2 (by omega), k 3 (by omega), k 4 (by omega)⟩
end Go.Proofs.YtemgejblnionlaaGreatDoor.Acl
namespace Go.Proofs.YtemgejblnionlaaGreatDoor.Acl
set_option maxRecDepth 100000
open Go.RowKit Ap
set_option maxHeartbeats 400000
theorem alloc_box {w : World} {v0 v1 v2 v3 v4 : Value} {t : TypeId} :
 (w.alloc (.cells #[v0, v1, v2, v3, v4] t)).cell? ⟨w.heap.size, 0, none⟩ = some v0 ∧ (w.alloc (.cells #[v0, v1, v2, v3, v4] t)).cell? ⟨w.heap.size, 1, none⟩ = some v1 ∧ (w.alloc (.cells #[v0, v1, v2, v3, v4] t)).cell? ⟨w.heap.size, 2, none⟩ = some v2 ∧ (w.alloc (.cells #[v0, v1, v2, v3, v4] t)).cell? ⟨w.heap.size, 3, none⟩ = some v3 ∧ (w.alloc (.cells #[v0, v1, v2, v3, v4] t)).cell? ⟨w.heap.size, 4, none⟩ = some v4 := by
 obtain ⟨a0, a1, a2, a3, a4, _⟩ := after5 (w := w) (v0 := v0) (v1 := v1) (v2 := v2) (v3 := v3) (v4 := v4) (t := t) (Below.refl _ _)
 exact ⟨a0, a1, a2, a3, a4⟩
end Go.Proofs.YtemgejblnionlaaGreatDoor.Acl
namespace Go.Proofs.YtemgejblnionlaaGreatDoor.Acl
set_option maxRecDepth 100000
open Go.RowKit Ap
set_option maxHeartbeats 400000
theorem marked_iff (a e : Ac) : marked a e = decide (a.mk0 = e.mk0) := by
 obtain ⟨aw, al, ri, re, ag⟩ := a
 obtain ⟨bw, bl, bi, be, bg⟩ := e
 rw [Bool.eq_iff_iff]
 simp [marked, Ac.mk0, and_assoc]
theorem find_take {l : List Ac} {k : Nat} {p : Ac → Bool} (hk : k < l.length) (h : (l.take k).find? p = none) : (p l[k] = true → l.find? p = some l[k]) ∧ (p l[k] = false → (l.take (k + 1)).find? p = none) := by
 refine ⟨fun hp => ?_, fun hp => ?_⟩
 · have e : l.find? p = (l.take k ++ l.drop k).find? p := by rw [List.take_append_drop]
   rw [e, List.find?_append, h, List.drop_eq_getElem_cons hk, Option.none_or, List.find?_cons_of_pos hp]
 · rw [List.take_succ_eq_append_getElem hk, List.find?_append, h]
   simp [hp]
end Go.Proofs.YtemgejblnionlaaGreatDoor.Acl
namespace Go.Proofs.YtemgejblnionlaaGreatDoor.Acl
set_option maxRecDepth 100000
open Go.RowKit Ap
set_option maxHeartbeats 400000
def hasP (who owner r : Int) (e : Ac) : Bool := cnt e who owner && (bits .and .i64 e.rights r != 0)
def hasB (l : List Ac) (who owner r : Int) : Bool := ((l.find? (hasP who owner r)).map Ac.allow).getD false
set_option maxHeartbeats 2000000 in
theorem has_any (A : Option Addr) (n c : Nat) (l : List Ac) (hn : l.length = n) (hl : n ≤ 1000) (who owner r : Int) (w : World) (hA : Aces w A l) :
 Calls Tryz.prog 257 #[.slice A n c, .int .i64 who, .int .i64 owner, .int .i64 r] w fun e w' => e = .returned (.bool (hasB l who owner r)) ∧ Below w.heap.size w w' := by
 have HN := Lib.hid hn
 have SA := Lib.hid hA
 clear hn hA
 go_enter Tryz.func257, Tryz.ntmps257
 go_wp2
 go_loopw [9] (fun i wr => ∃ k : Nat, k ≤ n ∧ i = .int .i64 k ∧ (l.take k).find? (hasP who owner r) = none ∧ Below w.heap.size w wr) (fun i _ => n - (intOf i).toNat)
 case atStart => exact ⟨0, Nat.zero_le _, rfl, rfl, Below.refl _ _⟩
 case round =>
  obtain ⟨k, hk, rfl, hfd, hbw⟩ := hrel
  have hbs := hbw.size
  by_cases hlt : k < n
  · have hkl : k < l.length := by rw [HN.out]; exact hlt
    obtain ⟨g, o, rfl, hg, hc⟩ := (SA.out.below hbw) (List.ne_nil_of_length_pos (by omega))
    have hat := hc k l[k] (List.getElem?_eq_getElem hkl)
    have hst := find_take hkl hfd
    obtain ⟨x, hx⟩ : ∃ a, l[k] = a := ⟨_, rfl⟩
    rw [hx] at hat hst
    have HAT := Lib.hid hat
    have cC := fun W => rcounts_any x who owner W
    obtain ⟨c0, c1, c2, c3, c4⟩ := hat
    obtain ⟨aw, al, ri, re, ag⟩ := x
    dsimp only at c0 c1 c2 c3 c4
    unfold av at cC
    dsimp only at cC
    unfold hasP at hst
    dsimp only at hst
    have k0 : (0 : Int) ≤ (k : Int) := by omega
    have kn : (k : Int) < (n : Int) := by omega
    clear hc hx SA hfd
    obtain ⟨cn, hcn⟩ : ∃ b, cnt ⟨aw, al, ri, re, ag⟩ who owner = b := ⟨_, rfl⟩
    rw [hcn] at cC hst
    have CC := Lib.hid cC
    have HST := Lib.hid hst
    clear cC hst hcn
    cases cn
    · go_wp2_with (go_at_call 287; refine (CC.out _).mono ?_; rintro e w1 ⟨rfl, hb1⟩)
      go_roundw
      case rel => exact ⟨k + 1, by omega, by go_num, HST.out.2 rfl, hbw.trans (hb1.mono hbs)⟩
      case measure => simp [intOf]; omega
    · cases hb : (bits .and .i64 ri r == 0)
      · have hb' : (bits .and .i64 ri r != 0) = true := by rw [bne, hb]; rfl
        have HS := Lib.hid (HST.out.1 (by rw [hb']; rfl))
        clear HST
        go_wp2_with (go_at_call 287; refine (CC.out _).mono ?_; rintro e w1 ⟨rfl, hb1⟩; obtain ⟨d0, d1, d2, d3, d4⟩ := HAT.out.below hb1)
        go_ret
        exact ⟨ret_bool (by unfold hasB; rw [show hasP who owner r = fun e => cnt e who owner && (bits .and .i64 e.rights r != 0) from rfl, HS.out]; rfl), hbw.trans (hb1.mono hbs)⟩
      · have hb' : (bits .and .i64 ri r != 0) = false := by rw [bne, hb]; rfl
        have HS := Lib.hid (HST.out.2 (by rw [hb']; rfl))
        clear HST
        go_wp2_with (go_at_call 287; refine (CC.out _).mono ?_; rintro e w1 ⟨rfl, hb1⟩; obtain ⟨d0, d1, d2, d3, d4⟩ := HAT.out.below hb1)
        go_roundw
        case rel => exact ⟨k + 1, by omega, by go_num, HS.out, hbw.trans (hb1.mono hbs)⟩
        case measure => simp [intOf]; omega
  · obtain rfl : k = n := by omega
    have hfull : l.take k = l := List.take_of_length_le (by rw [HN.out]; exact Nat.le_refl _)
    rw [hfull] at hfd
    have HF := Lib.hid hfd
    clear hfull hfd
    go_wp2
    go_ret
    exact ⟨ret_bool (by unfold hasB; rw [HF.out]; rfl), hbw⟩
end Go.Proofs.YtemgejblnionlaaGreatDoor.Acl
namespace Go.Proofs.YtemgejblnionlaaGreatDoor.Acl
set_option maxRecDepth 100000
open Go.RowKit Ap
set_option maxHeartbeats 400000
def hasR (l : List Ac) (who owner r : Int) : Bool := hasB l who owner r || ((who == 0) || ((r == 8) && (who == owner)))
def refS (l : List Ac) (who owner : Int) : Nat → Int
 | 0 => 0
 | k + 1 => refS l who owner k + (if hasR l who owner (2 ^ k) = true then 2 ^ k else 0)
theorem refS_le (l : List Ac) (who owner : Int) (k : Nat) : 0 ≤ refS l who owner k ∧ refS l who owner k < 2 ^ k := by
 induction k with
 | zero => simp [refS]
 | succ k ih =>
   have h2 : (2 : Int) ^ (k + 1) = 2 ^ k + 2 ^ k := by rw [Int.pow_succ]; omega
   have h3 : (0 : Int) ≤ 2 ^ k := Int.le_of_lt (Int.pow_pos (by omega))
   unfold refS
   split <;> omega
theorem refS_16 (l : List Ac) (who owner : Int) (k : Nat) (hk : k ≤ 4) : 0 ≤ refS l who owner k ∧ refS l who owner k < 16 := by
 have h := refS_le l who owner k
 have : (2 : Int) ^ k ≤ 16 := by
  have : k = 0 ∨ k = 1 ∨ k = 2 ∨ k = 3 ∨ k = 4 := by omega
  rcases this with rfl | rfl | rfl | rfl | rfl <;> decide
 omega
set_option maxHeartbeats 4000000 in
theorem rrights_any (A : Option Addr) (n c : Nat) (l : List Ac) (hn : l.length = n) (hl : n ≤ 1000) (who owner : Int) (w : World) (hA : Aces w A l) :
 Calls Tryz.prog 218 #[.slice A n c, .int .i64 who, .int .i64 owner] w fun e w' => e = .returned (.int .i64 (refS l who owner 4)) ∧ Below w.heap.size w w' := by
 have SA := Lib.hid hA
 have CH := Lib.hid (fun (r : Int) W (h : Aces W A l) => has_any A n c l hn hl who owner r W h)
 clear hn hA
 go_enter Tryz.func218, Tryz.ntmps218
 go_wp2
 go_loopw [7, 8] (fun s i wr => ∃ (k : Nat) (r : Int), ((k = 0 ∧ r = 1) ∨ (k = 1 ∧ r = 2) ∨ (k = 2 ∧ r = 4) ∨ (k = 3 ∧ r = 8) ∨ (k = 4 ∧ r = 16)) ∧ i = .int .i64 r ∧ s = .int .i64 (refS l who owner k) ∧ Below w.heap.size w wr) (fun _ i _ => 16 - (intOf i).toNat)
 case atStart => exact ⟨0, 1, .inl ⟨rfl, rfl⟩, rfl, rfl, Below.refl _ _⟩
 case round =>
  obtain ⟨k, r, hkr, rfl, hs, hbw⟩ := hrel
  have hbs := hbw.size
  have k4 : k ≤ 4 := by omega
  have b16 := refS_16 l who owner k k4
  have hst : ∀ b c d : Bool, hasB l who owner (2 ^ k) = b → (who == 0) = c → (who == owner) = d → refS l who owner (k + 1) = refS l who owner k + (if (b || (c || (((2 : Int) ^ k == 8) && d))) = true then 2 ^ k else 0) := fun b c d h1 h2 h3 => by
   show refS l who owner k + _ = _
   unfold hasR
   rw [h1, h2, h3]
  obtain ⟨s0, hs0⟩ : ∃ s, refS l who owner k = s := ⟨_, rfl⟩
  rw [hs0] at hs b16 hst
  subst hs
  have SAW := Lib.hid (SA.out.below hbw)
  by_cases h4 : k = 4
  · obtain rfl : r = 16 := by omega
    have HS := Lib.hid (show refS l who owner 4 = s0 by rw [← hs0, h4])
    clear hs0 hst hkr h4 CH
    go_wp2
    go_ret
    exact ⟨ret_int HS.out.symm, hbw⟩
  · have CB := fun W (h : Aces W A l) => CH.out r W h
    obtain ⟨b, hb⟩ : ∃ b, hasB l who owner r = b := ⟨_, rfl⟩
    rw [hb] at CB
    obtain ⟨c0, hc⟩ : ∃ b, (who == 0) = b := ⟨_, rfl⟩
    obtain ⟨d, hd⟩ : ∃ b, (who == owner) = b := ⟨_, rfl⟩
    have hkr' : (k = 0 ∧ r = 1) ∨ (k = 1 ∧ r = 2) ∨ (k = 2 ∧ r = 4) ∨ (k = 3 ∧ r = 8) := by omega
    have CB := Lib.hid CB
    clear hs0 hkr h4 CH SA
    rcases hkr' with ⟨rfl, rfl⟩ | ⟨rfl, rfl⟩ | ⟨rfl, rfl⟩ | ⟨rfl, rfl⟩
    · have hst1 := Lib.hid (hst b c0 d hb hc hd)
      clear hst hb
      cases b <;> cases c0 <;> cases d
      all_goals
       go_wp2_with (go_at_call 257; refine (CB.out _ SAW.out).mono ?_; rintro e w1 ⟨rfl, hb1⟩)
       go_roundw
       case rel => exact ⟨0 + 1, 2, .inr (.inl ⟨rfl, rfl⟩), by first | rfl | go_num, by rw [hst1.out]; first | rfl | simp | go_num, hbw.trans (hb1.mono hbs)⟩
       case measure => simp [intOf]
    · have hst1 := Lib.hid (hst b c0 d hb hc hd)
      clear hst hb
      cases b <;> cases c0 <;> cases d
      all_goals
       go_wp2_with (go_at_call 257; refine (CB.out _ SAW.out).mono ?_; rintro e w1 ⟨rfl, hb1⟩)
       go_roundw
       case rel => exact ⟨1 + 1, 4, .inr (.inr (.inl ⟨rfl, rfl⟩)), by first | rfl | go_num, by rw [hst1.out]; first | rfl | simp | go_num, hbw.trans (hb1.mono hbs)⟩
       case measure => simp [intOf]
    · have hst1 := Lib.hid (hst b c0 d hb hc hd)
      clear hst hb
      cases b <;> cases c0 <;> cases d
      all_goals
       go_wp2_with (go_at_call 257; refine (CB.out _ SAW.out).mono ?_; rintro e w1 ⟨rfl, hb1⟩)
       go_roundw
       case rel => exact ⟨2 + 1, 8, .inr (.inr (.inr (.inl ⟨rfl, rfl⟩))), by first | rfl | go_num, by rw [hst1.out]; first | rfl | simp | go_num, hbw.trans (hb1.mono hbs)⟩
       case measure => simp [intOf]
    · have hst1 := Lib.hid (hst b c0 d hb hc hd)
      clear hst hb
      cases b <;> cases c0 <;> cases d
      all_goals
       go_wp2_with (go_at_call 257; refine (CB.out _ SAW.out).mono ?_; rintro e w1 ⟨rfl, hb1⟩)
       go_roundw
       case rel => exact ⟨3 + 1, 16, .inr (.inr (.inr (.inr ⟨rfl, rfl⟩))), by first | rfl | go_num, by rw [hst1.out]; first | rfl | simp | go_num, hbw.trans (hb1.mono hbs)⟩
       case measure => simp [intOf]
end Go.Proofs.YtemgejblnionlaaGreatDoor.Acl
namespace Go.Proofs.YtemgejblnionlaaGreatDoor.Acl
set_option maxRecDepth 100000
open Ap
theorem addC_all {p : Ac → Prop} {out : List Ac} {e : Ac} (hp : ∀ a b, p a → p (a.join b)) (h : ∀ a ∈ out, p a) (he : p e) : ∀ a ∈ addC out e, p a := by
 unfold addC
 split
 · intro a ha
   obtain ⟨b, hb, rfl⟩ := List.mem_map.1 ha
   split
   · exact hp _ _ (h b hb)
   · exact h b hb
 · intro a ha
   rcases List.mem_append.1 ha with h1 | h1
   · exact h a h1
   · simp at h1; rw [h1]; exact he
theorem foldC_all {p : Ac → Prop} (rc : Int) (hp : ∀ a b, p a → p (a.join b)) (l : List Ac) (ht : ∀ a ∈ l, p (toC rc a)) : ∀ out : List Ac, (∀ a ∈ out, p a) → ∀ a ∈ l.foldl (stepC rc) out, p a := by
 induction l with
 | nil => exact fun _ h => h
 | cons b l ih =>
   intro out h
   refine ih (fun a ha => ht a (List.mem_cons_of_mem _ ha)) _ ?_
   unfold stepC
   split
   · exact addC_all hp h (ht b (List.mem_cons_self ..))
   · exact h
theorem childL_given (l : List Ac) (rc : Int) : ∀ a ∈ childL l rc, a.given = true ∧ a.reach = rc :=
 foldC_all (p := fun a => a.given = true ∧ a.reach = rc) rc (fun _ _ h => h) l (fun _ _ => ⟨rfl, rfl⟩) [] (by simp)
end Go.Proofs.YtemgejblnionlaaGreatDoor.Acl
namespace Go.Proofs.YtemgejblnionlaaGreatDoor.Acl
set_option maxRecDepth 100000
namespace Ap
theorem or15 : ∀ x : Fin 16, ∀ y : Fin 16, 1 ≤ x.val → 1 ≤ (bv (x.val : Int) ||| bv (y.val : Int)).toInt ∧ (bv (x.val : Int) ||| bv (y.val : Int)).toInt ≤ 15 := by decide +kernel
theorem or_range {x y : Int} (hx : 1 ≤ x ∧ x ≤ 15) (hy : 1 ≤ y ∧ y ≤ 15) : 1 ≤ (bv x ||| bv y).toInt ∧ (bv x ||| bv y).toInt ≤ 15 := by
 have := or15 ⟨x.toNat, by omega⟩ ⟨y.toNat, by omega⟩ (by show 1 ≤ x.toNat; omega)
 have e1 : ((x.toNat : Nat) : Int) = x := by omega
 have e2 : ((y.toNat : Nat) : Int) = y := by omega
 dsimp only at this
 rw [e1, e2] at this
 exact this
theorem right_iff {a : Ac} : right a = true ↔ (-2 ≤ a.who ∧ a.who ≤ 999) ∧ (1 ≤ a.rights ∧ a.rights ≤ 15) ∧ (1 ≤ a.reach ∧ a.reach ≤ 3) := by
 unfold right
 simp only [Bool.and_eq_true, decide_eq_true_eq]
 omega
theorem right_join {a e : Ac} (ha : right a = true) (he : right e = true) : right (a.join e) = true := by
 rw [right_iff] at ha he ⊢
 exact ⟨ha.1, or_range ha.2.1 he.2.1, ha.2.2⟩
theorem childL_right (rc : Int) (hrc : 1 ≤ rc ∧ rc ≤ 3) (l : List Ac) (h : ∀ a ∈ l, right a = true) : ∀ a ∈ childL l rc, right a = true := by
 suffices H : ∀ (l : List Ac), (∀ a ∈ l, right a = true) → ∀ out : List Ac, (∀ a ∈ out, right a = true) → ∀ a ∈ l.foldl (stepC rc) out, right a = true from H l h [] (by simp)
 intro l
 induction l with
 | nil => exact fun _ _ h => h
 | cons x l ih =>
   intro hl out ho
   refine ih (fun y hy => hl y (List.mem_cons_of_mem _ hy)) _ ?_
   have hx : right (toC rc x) = true := by
    have := right_iff.1 (hl x (List.mem_cons_self ..))
    exact right_iff.2 ⟨this.1, this.2.1, hrc⟩
   unfold stepC
   split
   · unfold addC
     split
     · intro a ha
       obtain ⟨b, hb, rfl⟩ := List.mem_map.1 ha
       split
       · exact right_join (ho b hb) hx
       · exact ho b hb
     · intro a ha
       rcases List.mem_append.1 ha with h1 | h1
       · exact ho a h1
       · simp at h1; rw [h1]; exact hx
   · exact ho
theorem goV_given : ∀ (l seen : List Ac) (g : Bool), (∀ a ∈ l, right a = true ∧ a.given = true) → (l.map Ac.mk0).Nodup → (∀ a ∈ l, a.mk0 ∉ seen) → goV seen g l = true
 | [], _, _, _, _, _ => rfl
 | a :: l, seen, g, h, hd, hs => by
   rw [List.map_cons, List.nodup_cons] at hd
   obtain ⟨hr, hg⟩ := h a (List.mem_cons_self ..)
   have hr' := right_iff.1 hr
   have hin : inR a = true := by unfold inR; simp only [Bool.and_eq_true, decide_eq_true_eq]; omega
   have h0 : (a.rights == 0) = false := by simp; omega
   have hb : badV seen g a = false := by
    unfold badV
    rw [hin, h0, hg, decide_eq_false (hs a (List.mem_cons_self ..))]
    simp
   unfold goV
   rw [if_neg (by rw [hb]; simp)]
   refine goV_given l _ _ (fun b hb => h b (List.mem_cons_of_mem _ hb)) hd.2 fun b hb hm => ?_
   rcases List.mem_cons.1 hm with h1 | h1
   · exact hd.1 (by rw [← h1]; exact List.mem_map_of_mem hb)
   · exact hs b (List.mem_cons_of_mem _ hb) h1
theorem child_valid (l : List Ac) (dir : Bool) (h : ∀ a ∈ l, right a = true) (hl : l.length ≤ 16) : validB (childL l (rcOf dir)) = true := by
 unfold validB
 rw [decide_eq_true (Nat.le_trans (childL_len _ _) hl), Bool.true_and]
 refine goV_given _ _ _ (fun a ha => ⟨childL_right _ ?_ l h a ha, (childL_given l _ a ha).1⟩) (childL_nodup _ _) (by simp)
 cases dir <;> simp [rcOf]
end Ap
end Go.Proofs.YtemgejblnionlaaGreatDoor.Acl
namespace Go.Proofs.YtemgejblnionlaaGreatDoor.Acl
set_option maxRecDepth 100000
namespace Ap
theorem bit_ext {x y : BitVec 64} (h : ∀ i, i < 64 → x.getLsbD i = y.getLsbD i) : x = y := BitVec.eq_of_getLsbD_eq h
theorem foldR_small (l : List Ac) (who owner : Int) : (foldR l who owner).1 &&& 15 = (foldR l who owner).1 ∧ (foldR l who owner).2 &&& 15 = (foldR l who owner).2 := by
 suffices H : ∀ (l : List Ac) (t : BitVec 64 × BitVec 64), t.1 &&& 15 = t.1 ∧ t.2 &&& 15 = t.2 → (l.foldl (stepR who owner) t).1 &&& 15 = (l.foldl (stepR who owner) t).1 ∧ (l.foldl (stepR who owner) t).2 &&& 15 = (l.foldl (stepR who owner) t).2 from
  H l (0, 15) ⟨by decide, by decide⟩
 intro l
 induction l with
 | nil => exact fun _ h => h
 | cons e l ih =>
   intro t ht
   obtain ⟨h1, h2⟩ := ht
   refine ih _ ?_
   have and15 : ∀ x y : BitVec 64, y &&& 15 = y → (x &&& y) &&& 15 = x &&& y := fun x y h => by rw [BitVec.and_assoc, h]
   have or15 : ∀ x y : BitVec 64, x &&& 15 = x → y &&& 15 = y → (x ||| y) &&& 15 = x ||| y := fun x y hx hy => by
    refine bit_ext fun i hi => ?_
    have hx' := congrArg (fun z => BitVec.getLsbD z i) hx
    have hy' := congrArg (fun z => BitVec.getLsbD z i) hy
    simp only [BitVec.getLsbD_and, BitVec.getLsbD_or] at hx' hy' ⊢
    revert hx' hy'
    cases x.getLsbD i <;> cases y.getLsbD i <;> cases (15 : BitVec 64).getLsbD i <;> simp
   have hn : (t.2 &&& ~~~(bv e.rights)) &&& 15 = t.2 &&& ~~~(bv e.rights) := by rw [BitVec.and_comm t.2]; exact and15 _ _ h2
   unfold stepR
   split
   · split
     · exact ⟨or15 _ _ h1 (and15 _ _ h2), hn⟩
     · exact ⟨h1, hn⟩
   · exact ⟨h1, h2⟩
theorem or_small {x y : BitVec 64} (hx : x &&& 15 = x) (hy : y &&& 15 = y) : (x ||| y) &&& 15 = x ||| y := by
 refine bit_ext fun i hi => ?_
 have hx' := congrArg (fun z => BitVec.getLsbD z i) hx
 have hy' := congrArg (fun z => BitVec.getLsbD z i) hy
 simp only [BitVec.getLsbD_and, BitVec.getLsbD_or] at hx' hy' ⊢
 revert hx' hy'
 cases x.getLsbD i <;> cases y.getLsbD i <;> cases (15 : BitVec 64).getLsbD i <;> simp
theorem rightsV_small (l : List Ac) (who owner : Int) : rightsV l who owner &&& 15 = rightsV l who owner := by
 unfold rightsV
 split
 · decide
 · split
   · exact or_small (foldR_small l who owner).1 (by decide)
   · exact (foldR_small l who owner).1
end Ap
end Go.Proofs.YtemgejblnionlaaGreatDoor.Acl
namespace Go.Proofs.YtemgejblnionlaaGreatDoor.Acl
set_option maxRecDepth 100000
open Go.RowKit Ap
set_option maxHeartbeats 400000
theorem bv_two (i : Nat) (hi : i < 4) : bv ((2 : Int) ^ i) = BitVec.twoPow 64 i := by
 have : i = 0 ∨ i = 1 ∨ i = 2 ∨ i = 3 := by omega
 rcases this with rfl | rfl | rfl | rfl <;> decide
theorem bit_at (x : Int) (i : Nat) (hi : i < 4) : (bits .and .i64 x ((2 : Int) ^ i) != 0) = (bv x).getLsbD i := by
 rw [bits_and, bv_two i hi, BitVec.and_twoPow]
 cases (bv x).getLsbD i
 · rfl
 · have : i = 0 ∨ i = 1 ∨ i = 2 ∨ i = 3 := by omega
   rcases this with rfl | rfl | rfl | rfl <;> decide
theorem hasB_cons (e : Ac) (l : List Ac) (who owner r : Int) : hasB (e :: l) who owner r = if hasP who owner r e = true then e.allow else hasB l who owner r := by
 unfold hasB
 cases h : hasP who owner r e
 · rw [List.find?_cons_of_neg (by rw [h]; simp), if_neg (by simp)]
 · rw [List.find?_cons_of_pos h, if_pos rfl]; rfl
theorem fold_bit (who owner : Int) (i : Nat) (hi : i < 4) : ∀ (l : List Ac) (s : BitVec 64 × BitVec 64), (l.foldl (stepR who owner) s).1.getLsbD i = (s.1.getLsbD i || (s.2.getLsbD i && hasB l who owner (2 ^ i)))
 | [], s => by simp [hasB]
 | e :: l, s => by
   have hi64 : i < 64 := by omega
   rw [List.foldl_cons, fold_bit who owner i hi l, hasB_cons]
   unfold hasP
   rw [bit_at e.rights i hi]
   unfold stepR
   cases hc : cnt e who owner
   · simp
   · cases ha : e.allow <;> simp only [if_true, Bool.false_eq_true, if_false, Bool.true_and, BitVec.getLsbD_or, BitVec.getLsbD_and, BitVec.getLsbD_not, hi64, decide_true] <;> cases s.1.getLsbD i <;> cases s.2.getLsbD i <;> cases (bv e.rights).getLsbD i <;> simp
theorem hasB_bit (l : List Ac) (who owner : Int) (i : Nat) (hi : i < 4) : hasB l who owner (2 ^ i) = (foldR l who owner).1.getLsbD i := by
 unfold foldR
 rw [fold_bit who owner i hi l (0, 15)]
 have : i = 0 ∨ i = 1 ∨ i = 2 ∨ i = 3 := by omega
 rcases this with rfl | rfl | rfl | rfl <;> simp
theorem hasR_bit (l : List Ac) (who owner : Int) (i : Nat) (hi : i < 4) : hasR l who owner (2 ^ i) = (rightsV l who owner).getLsbD i := by
 unfold hasR rightsV
 rw [hasB_bit l who owner i hi]
 have hi' : i = 0 ∨ i = 1 ∨ i = 2 ∨ i = 3 := by omega
 by_cases h0 : who = 0
 · rw [if_pos h0, show (who == 0) = true by simp [h0]]
   rcases hi' with rfl | rfl | rfl | rfl <;> simp
 · rw [if_neg h0, show (who == 0) = false by simp [h0]]
   by_cases h1 : who = owner
   · rw [if_pos h1, show (who == owner) = true by simp [h1], BitVec.getLsbD_or]
     rcases hi' with rfl | rfl | rfl | rfl <;> simp
   · rw [if_neg h1, show (who == owner) = false by simp [h1]]
     simp
theorem sum_bits : ∀ n : Fin 16, (BitVec.ofNat 64 n.val).toInt = 0 + (if (BitVec.ofNat 64 n.val).getLsbD 0 = true then 2 ^ 0 else 0) + (if (BitVec.ofNat 64 n.val).getLsbD 1 = true then 2 ^ 1 else 0) + (if (BitVec.ofNat 64 n.val).getLsbD 2 = true then 2 ^ 2 else 0) + (if (BitVec.ofNat 64 n.val).getLsbD 3 = true then 2 ^ 3 else 0) := by decide +kernel
theorem refS_rights (l : List Ac) (who owner : Int) : refS l who owner 4 = (rightsV l who owner).toInt := by
 have hs := rightsV_small l who owner
 have h1 : (rightsV l who owner).toNat < 16 := by
  have : (rightsV l who owner).toNat ≤ 15 := by
   rw [← hs, BitVec.toNat_and]
   exact Nat.and_le_right
  omega
 have h := sum_bits ⟨(rightsV l who owner).toNat, h1⟩
 dsimp only at h
 rw [BitVec.ofNat_toNat, BitVec.setWidth_eq] at h
 rw [h]
 show refS l who owner 0 + _ + _ + _ + _ = _
 rw [hasR_bit l who owner 0 (by omega), hasR_bit l who owner 1 (by omega), hasR_bit l who owner 2 (by omega), hasR_bit l who owner 3 (by omega)]
 rfl
theorem rrights_same (A : Option Addr) (n c : Nat) (l : List Ac) (hn : l.length = n) (hl : n ≤ 1000) (who owner : Int) (w : World) (hA : Aces w A l) :
 Calls Tryz.prog 218 #[.slice A n c, .int .i64 who, .int .i64 owner] w fun e w' => e = .returned (.int .i64 (rightsV l who owner).toInt) ∧ Below w.heap.size w w' := by
 rw [← refS_rights]
 exact rrights_any A n c l hn hl who owner w hA
theorem rallows_any (A : Option Addr) (n c : Nat) (l : List Ac) (hn : l.length = n) (hl : n ≤ 1000) (who owner want : Int) (w : World) (hA : Aces w A l) :
 Calls Tryz.prog 167 #[.slice A n c, .int .i64 who, .int .i64 owner, .int .i64 want] w fun e w' => e = .returned (.bool (bits .andNot .i64 want (rightsV l who owner).toInt == 0)) ∧ Below w.heap.size w w' := by
 have C := Lib.hid (rrights_same A n c l hn hl who owner w hA)
 clear hn hA
 go_enter Tryz.func167, Tryz.ntmps167
 go_wp2_with (go_at_call 218; refine C.out.mono ?_; rintro e w1 ⟨rfl, hb1⟩)
 go_ret
 exact ⟨rfl, hb1⟩
theorem allows_same (V : BitVec 64) (want : Int) (h : -9223372036854775808 ≤ want ∧ want ≤ 9223372036854775807) : (bits .andNot .i64 want V.toInt == 0) = ((V &&& bv want).toInt == want) := by
 have hw : (bv want).toInt = want := by
  unfold bv
  rw [BitVec.toInt_ofInt]
  exact Int.bmod_eq_of_le (by omega) (by omega)
 have key : (bv want &&& ~~~V = 0) ↔ V &&& bv want = bv want := by
  constructor
  · intro h0
    refine bit_ext fun i hi => ?_
    have h1 := congrArg (fun z => BitVec.getLsbD z i) h0
    simp only [BitVec.getLsbD_and, BitVec.getLsbD_not, hi, decide_true, Bool.true_and] at h1 ⊢
    revert h1
    cases (bv want).getLsbD i <;> cases V.getLsbD i <;> simp
  · intro h0
    refine bit_ext fun i hi => ?_
    have h1 := congrArg (fun z => BitVec.getLsbD z i) h0
    simp only [BitVec.getLsbD_and, BitVec.getLsbD_not, hi, decide_true, Bool.true_and] at h1 ⊢
    revert h1
    cases (bv want).getLsbD i <;> cases V.getLsbD i <;> simp
 rw [bits_andNot, bv_toInt, Bool.eq_iff_iff, beq_iff_eq, beq_iff_eq]
 constructor
 · intro h0
   rw [key.1 (BitVec.eq_of_toInt_eq (by rw [h0]; rfl)), hw]
 · intro h0
   have : V &&& bv want = bv want := BitVec.eq_of_toInt_eq (by rw [h0, hw])
   rw [key.2 this]; rfl
end Go.Proofs.YtemgejblnionlaaGreatDoor.Acl
namespace Go.Proofs.YtemgejblnionlaaGreatDoor.Acl
set_option maxRecDepth 100000
open Go.RowKit Ap
set_option maxHeartbeats 400000
theorem badV_right (seen : List Ac) (g : Bool) (x : Ac) : badV seen g x = (!right x || decide (x.mk0 ∈ seen) || (g && !x.given)) := by
 have h0 : right x = (inR x && !(x.rights == 0)) := by
  rw [Bool.eq_iff_iff]
  simp only [inR, right, Bool.and_eq_true, decide_eq_true_eq, Bool.not_eq_true', beq_eq_false_iff_ne, ne_eq]
  omega
 have h : (!inR x || x.rights == 0) = !right x := by
  rw [h0]
  cases inR x <;> cases (x.rights == 0) <;> rfl
 unfold badV
 rw [h]
end Go.Proofs.YtemgejblnionlaaGreatDoor.Acl
namespace Go.Proofs.YtemgejblnionlaaGreatDoor.Acl
set_option maxRecDepth 100000
open Go.RowKit Ap
set_option maxHeartbeats 400000
def jn (e a : Ac) : Ac := if a.mk0 = e.mk0 then a.join e else a
def jnL (out : List Ac) (e : Ac) (k : Nat) : List Ac := (out.take k).map (jn e) ++ out.drop k
theorem jnL_zero (out : List Ac) (e : Ac) : jnL out e 0 = out := by simp [jnL]
theorem jnL_get {out : List Ac} {e : Ac} {k : Nat} (hk : k < out.length) : (jnL out e k)[k]? = some out[k] := by
 unfold jnL
 rw [List.getElem?_append_right (by simp; omega)]
 simp [Nat.min_eq_left (Nat.le_of_lt hk), hk]
theorem jnL_other {out : List Ac} {e : Ac} {k : Nat} (hk : k < out.length) (h : out[k].mk0 ≠ e.mk0) : jnL out e (k + 1) = jnL out e k := by
 unfold jnL
 rw [List.take_succ_eq_append_getElem hk, List.drop_eq_getElem_cons hk, List.map_append, List.append_assoc]
 simp [jn, h]
theorem jnL_set {out : List Ac} {e : Ac} {k : Nat} (hk : k < out.length) (h : out[k].mk0 = e.mk0) : jnL out e (k + 1) = (jnL out e k).set k (out[k].join e) := by
 unfold jnL
 rw [List.take_succ_eq_append_getElem hk, List.drop_eq_getElem_cons hk, List.map_append, List.append_assoc]
 have hl : ((out.take k).map (jn e)).length = k := by simp; omega
 rw [List.set_append_right _ _ (by omega), hl, Nat.sub_self, List.set_cons_zero]
 simp [jn, h]
theorem addC_jn {out : List Ac} {e : Ac} {f : Bool} (hf : f = decide (e.mk0 ∈ out.map Ac.mk0)) : addC out e = if f = true then jnL out e out.length else jnL out e out.length ++ [e] := by
 have hj : jnL out e out.length = out.map (jn e) := by simp [jnL]
 rw [hj]
 unfold addC
 by_cases h : e.mk0 ∈ out.map Ac.mk0
 · rw [if_pos h, if_pos (by rw [hf]; simpa using h)]; rfl
 · rw [if_neg h, if_neg (by rw [hf]; simpa using h)]
   congr 1
   conv => lhs; rw [← List.map_id out]
   refine List.map_congr_left fun a ha => ?_
   unfold jn
   rw [if_neg]
   · rfl
   · exact fun he => h (List.mem_map.2 ⟨a, ha, he⟩)
theorem found_succ {out : List Ac} {e : Ac} {k : Nat} (hk : k < out.length) {f : Bool} (hf : f = decide (e.mk0 ∈ (out.take k).map Ac.mk0)) : (f || decide (out[k].mk0 = e.mk0)) = decide (e.mk0 ∈ (out.take (k + 1)).map Ac.mk0) := by
 rw [hf, List.take_succ_eq_append_getElem hk, List.map_append, Bool.eq_iff_iff]
 simp only [Bool.or_eq_true, decide_eq_true_eq, List.mem_append, List.map_cons, List.map_nil, List.mem_singleton]
 constructor
 · rintro (h | h)
   · exact .inl h
   · exact .inr h.symm
 · rintro (h | h)
   · exact .inl h
   · exact .inr h.symm
theorem Mk.far {W : World} {g b i : Nat} {e : Ac} {v : Value} (h : Mk g e W) (hne : b ≠ g) : Mk g e (W.setCell ⟨b, i, none⟩ v) := by
 obtain ⟨h0, h1, h2, h3, h4⟩ := h
 have o : ∀ (t : Nat) (u : Value), W.cell? ⟨g, t, none⟩ = some u → (W.setCell ⟨b, i, none⟩ v).cell? ⟨g, t, none⟩ = some u := fun t u hu => by
  rw [World.cell?_setCell_other _ _ _ _ (fun e => hne (by injection e))]; exact hu
 exact ⟨o _ _ h0, o _ _ h1, o _ _ h2, o _ _ h3, o _ _ h4⟩
def Inn (b ge m : Nat) (A' : Option Addr) (c' : Nat) (out : List Ac) (e : Ac) (w W : World) : Prop := W.ownsRow b 137 5 (.slice A' m c') m (encs out) ∧ Mk ge e W ∧ Below w.heap.size w W
theorem Inn.step {b ge m : Nat} {A' : Option Addr} {c' : Nat} {out : List Ac} {e : Ac} {w W W' : World} (h : Inn b ge m A' c' out e w W) (hb : Below W.heap.size W W') : Inn b ge m A' c' out e w W' :=
 ⟨own_keep h.1 hb, h.2.1.step hb, h.2.2.trans (hb.mono h.2.2.size)⟩
theorem Inn.cells {b ge m g c : Nat} {out : List Ac} {e y : Ac} {w W : World} (h : Inn b ge m (some ⟨g, 0, none⟩) c out e w W) {j : Nat} (hy : out[j]? = some y) (hj : j < m) :
 True ∧ W.cell? ⟨g, j * 5, none⟩ = some (.int .i64 y.who) ∧ W.cell? ⟨g, j * 5 + 1, none⟩ = some (.bool y.allow) ∧ W.cell? ⟨g, j * 5 + 2, none⟩ = some (.int .i64 y.rights) ∧ W.cell? ⟨g, j * 5 + 3, none⟩ = some (.int .i64 y.reach) ∧ W.cell? ⟨g, j * 5 + 4, none⟩ = some (.bool y.given) := by
 obtain ⟨y', hy', h0⟩ := own_at h.1 j hj
 rw [hy] at hy'
 injection hy' with hy'
 subst hy'
 exact ⟨trivial, h0⟩
set_option maxHeartbeats 4000000 in
theorem rchild_any (A : Option Addr) (n c : Nat) (l : List Ac) (hn : l.length = n) (hl : n ≤ 1000) (dir : Bool) (w : World) (hA : Aces w A l) :
 Calls Tryz.prog 123 #[.slice A n c, .bool dir] w fun e w' => ∃ A' m c', e = .returned (.slice A' m c') ∧ w'.ownsRow w.heap.size 137 5 (.slice A' m c') m (encs (childL l (rcOf dir))) ∧ Below w.heap.size w w' := by
 obtain ⟨i0, hi, hz0, hz1, hz2⟩ := info_parts info_ace
 obtain ⟨rc, hrc⟩ : ∃ rc, rcOf dir = rc := ⟨_, rfl⟩
 have HD := Lib.hid (show (dir = true ∧ rc = 2) ∨ (dir = false ∧ rc = 1) by rw [← hrc]; cases dir <;> simp [rcOf])
 rw [hrc]
 have HN := Lib.hid hn
 have SA := Lib.hid hA
 clear hn hA hrc
 go_enter Tryz.func123, Tryz.ntmps123
 go_wp2
 go_loopw [5, 6, 7, 8, 9] (fun s5 s6 _ _ _ wr => ∃ (k m : Nat) (A' : Option Addr) (c' : Nat) (out : List Ac), k ≤ n ∧ s6 = .int .i64 k ∧ s5 = .slice A' m c' ∧ m ≤ k ∧ childL (l.take k) rc = out ∧ wr.ownsRow w.heap.size 137 5 (.slice A' m c') m (encs out) ∧ Below w.heap.size w wr) (fun _ s6 _ _ _ _ => n - (intOf s6).toNat)
 case atStart => exact ⟨0, 0, some ⟨w.heap.size, 0, none⟩, 0, [], Nat.zero_le _, rfl, rfl, Nat.le_refl _, rfl, own_empty _ _ _, by go_grown⟩
 case round =>
  obtain ⟨k, m, A', c', out, hk, rfl, rfl, hm, hout, hown, hbw⟩ := hrel
  have hbs := hbw.size
  by_cases hlt : k < n
  · have hkl : k < l.length := by rw [HN.out]; exact hlt
    obtain ⟨g, o, rfl, hg, hc⟩ := (SA.out.below hbw) (List.ne_nil_of_length_pos (by omega))
    obtain ⟨q0, q1, q2, q3, q4⟩ := hc k l[k] (List.getElem?_eq_getElem hkl)
    have hst : childL (l.take (k + 1)) rc = stepC rc out l[k] := by rw [List.take_succ_eq_append_getElem hkl, childL_snoc, hout]
    obtain ⟨x, hx⟩ : ∃ a, l[k] = a := ⟨_, rfl⟩
    rw [hx] at q0 q1 q2 q3 q4 hst
    obtain ⟨aw, al, ri, re, ag⟩ := x
    dsimp only at q0 q1 q2 q3 q4
    unfold stepC at hst
    dsimp only [toC] at hst
    have HOWN := Lib.hid hown
    have HBW := Lib.hid hbw
    have HML := Lib.hid (own_len hown)
    have k0 : (0 : Int) ≤ (k : Int) := by omega
    have k1 : (k : Int) < (n : Int) := by omega
    clear hc hx hown hout
    by_cases h23 : re = 2 ∨ re = 3
    · rw [if_pos h23] at hst
      have HST := Lib.hid hst
      have H23 := Lib.hid h23
      clear hst h23 hbw
      go_upto_region 6 with fail
      go_cut [28] (fun s28 wx => s28 = .bool false ∧ wx = wr.alloc (.cells #[.int .i64 aw, .bool al, .int .i64 ri, .int .i64 re, .bool ag] 137))
      case first =>
       rcases H23.out with rfl | rfl
       all_goals
        go_wp2
        go_meet
        exact ⟨rfl, rfl⟩
      case rest =>
       obtain ⟨rfl, rfl⟩ := hcut
       go_upto_if 31 with fail
       go_cut [7] (fun s7 wx => ∃ ge, s7 = .pointer (some ⟨ge, 0, none⟩) ∧ (∀ g' o', A' = some ⟨g', o', none⟩ → 0 < m → g' ≠ ge) ∧ Inn w.heap.size ge m A' c' out ⟨aw, al, ri, rc, true⟩ w wx)
       case first =>
        have hfar : ∀ g' o', A' = some ⟨g', o', none⟩ → 0 < m → g' ≠ wr.heap.size := fun g' o' h hm0 => by
         obtain ⟨g2, cap, hv, _, hlt⟩ := HOWN.out.form hm0
         injection hv with h1
         rw [h] at h1
         injection h1 with h1
         injection h1 with h1
         omega
        rcases HD.out with ⟨rfl, rfl⟩ | ⟨rfl, rfl⟩
        all_goals
         go_wp2
         go_meet
         exact ⟨_, rfl, hfar, HOWN.out.alloc _, alloc_box, HBW.out.alloc hbs _⟩
       case rest =>
        obtain ⟨ge, rfl, hfar, hinn⟩ := hcut
        obtain ⟨hown, hmk, hbw⟩ := hinn
        have HFAR := Lib.hid hfar
        clear hfar q0 q1 q2 q3 q4 HOWN HBW hbs
        have HINN := Lib.hid (show Inn w.heap.size ge m A' c' (jnL out ⟨aw, al, ri, rc, true⟩ 0) ⟨aw, al, ri, rc, true⟩ w wc by rw [jnL_zero]; exact ⟨hown, hmk, hbw⟩)
        clear hown hmk hbw
        go_wp2
        go_loopw [8, 9] (fun s8 s9 wz => ∃ (j : Nat) (fnd : Bool), j ≤ m ∧ s9 = .int .i64 j ∧ s8 = .bool fnd ∧ fnd = decide ((⟨aw, al, ri, rc, true⟩ : Ac).mk0 ∈ (out.take j).map Ac.mk0) ∧ Inn w.heap.size ge m A' c' (jnL out ⟨aw, al, ri, rc, true⟩ j) ⟨aw, al, ri, rc, true⟩ w wz) (fun _ s9 _ => m - (intOf s9).toNat)
        case atStart => exact ⟨0, false, Nat.zero_le _, rfl, rfl, by simp, HINN.out⟩
        case round =>
         obtain ⟨j, fnd, hj, rfl, rfl, hf, hown, hmk, hbw⟩ := hrel
         have HF0 := Lib.hid hf
         clear hf HINN
         by_cases hjm : j < m
         · have hjl : j < out.length := by rw [HML.out]; exact hjm
           obtain ⟨g', cap', hv, hg1, hg2⟩ := hown.form (by omega)
           obtain ⟨rfl, rfl⟩ : A' = some ⟨g', 0, none⟩ ∧ c' = cap' := by injection hv with h1 h2 h3; exact ⟨h1, h3⟩
           have hne : g' ≠ ge := HFAR.out g' 0 rfl (by omega)
           obtain ⟨y, hy, c0, c1, c2, c3, c4⟩ := own_at hown j hjm
           have hyo : out[j] = y := by rw [jnL_get hjl] at hy; injection hy
           have cM := fun W => marked_any y ⟨aw, al, ri, rc, true⟩ W
           have hmi := marked_iff y ⟨aw, al, ri, rc, true⟩
           have hfs := found_succ (e := ⟨aw, al, ri, rc, true⟩) hjl HF0.out
           have hoth : y.mk0 ≠ (⟨aw, al, ri, rc, true⟩ : Ac).mk0 → jnL out ⟨aw, al, ri, rc, true⟩ (j + 1) = jnL out ⟨aw, al, ri, rc, true⟩ j := fun h => jnL_other hjl (by rw [hyo]; exact h)
           have hset : y.mk0 = (⟨aw, al, ri, rc, true⟩ : Ac).mk0 → jnL out ⟨aw, al, ri, rc, true⟩ (j + 1) = (jnL out ⟨aw, al, ri, rc, true⟩ j).set j (y.join ⟨aw, al, ri, rc, true⟩) := fun h => by
            have := jnL_set (e := ⟨aw, al, ri, rc, true⟩) hjl (by rw [hyo]; exact h)
            rw [hyo] at this
            exact this
           rw [hyo] at hfs
           obtain ⟨mv, hmv⟩ : ∃ v, marked y ⟨aw, al, ri, rc, true⟩ = v := ⟨_, rfl⟩
           rw [hmv] at cM hmi
           have HY := Lib.hid hy
           have HMI := Lib.hid hmi
           have HFS := Lib.hid hfs
           have HOTH := Lib.hid hoth
           have HSET := Lib.hid hset
           have HIN := Lib.hid (show Inn w.heap.size ge m (some ⟨g', 0, none⟩) c' (jnL out ⟨aw, al, ri, rc, true⟩ j) ⟨aw, al, ri, rc, true⟩ w wr from ⟨hown, hmk, hbw⟩)
           obtain ⟨yw, yl, yr, ye, yg⟩ := y
           unfold av at cM
           dsimp only at cM c0 c1 c2 c3 c4
           have CM := Lib.hid cM
           obtain ⟨m0, m1, m2, m3, m4⟩ := hmk
           dsimp only at m0 m1 m2 m3 m4
           have j0 : (0 : Int) ≤ (j : Int) := by omega
           have j1 : (j : Int) < (m : Int) := by omega
           clear hy hyo hmi hfs hoth hset hmv cM hown hbw hv
           go_upto_region 14 with fail
           first | (go_region_held (fun W' => W'.cell? ⟨g', j * 5, none⟩ = some (.int .i64 yw) ∧ W'.cell? ⟨g', j * 5 + 1, none⟩ = some (.bool yl) ∧ W'.cell? ⟨g', j * 5 + 2, none⟩ = some (.int .i64 yr) ∧ W'.cell? ⟨g', j * 5 + 3, none⟩ = some (.int .i64 ye) ∧ W'.cell? ⟨g', j * 5 + 4, none⟩ = some (.bool yg) ∧ W'.cell? ⟨ge, 0, none⟩ = some (.int .i64 aw) ∧ W'.cell? ⟨ge, 1, none⟩ = some (.bool al) ∧ W'.cell? ⟨ge, 2, none⟩ = some (.int .i64 ri) ∧ W'.cell? ⟨ge, 3, none⟩ = some (.int .i64 rc) ∧ W'.cell? ⟨ge, 4, none⟩ = some (.bool true))
            (exact ⟨c0, c1, c2, c3, c4, m0, m1, m2, m3, m4⟩)
            (first | (go_at_call 161; (with_reducible refine (CM.out _).mono ?_); rintro q w4 ⟨rfl, hb4⟩; have HIN4 := Lib.hid (HIN.out.step (Below.trans (Below.refl _ wr).drew hb4)); clear hb4; obtain ⟨_, c0, c1, c2, c3, c4⟩ := HIN4.out.cells HY.out hjm; obtain ⟨m0, m1, m2, m3, m4⟩ := HIN4.out.2.1; dsimp only at c0 c1 c2 c3 c4 m0 m1 m2 m3 m4))) | fail
           cases mv
           · have HNE := Lib.hid (show (⟨yw, yl, yr, ye, yg⟩ : Ac).mk0 ≠ (⟨aw, al, ri, rc, true⟩ : Ac).mk0 by have := HMI.out; simpa using this.symm)
             go_wp2
             go_roundw
             case rel => exact ⟨j + 1, fnd, by omega, by go_num, rfl, by rw [← HFS.out, decide_eq_false HNE.out, Bool.or_false], by rw [HOTH.out HNE.out]; exact HIN4.out⟩
             case measure => simp [intOf]; omega
           · have HEQ := Lib.hid (show (⟨yw, yl, yr, ye, yg⟩ : Ac).mk0 = (⟨aw, al, ri, rc, true⟩ : Ac).mk0 by have := HMI.out; simpa using this.symm)
             have hfz := HIN4.out.1.frozenAt (j * 5 + 2)
             go_upto_region 15 with fail
             go_region
             go_wp2
             go_roundw
             case rel =>
              refine ⟨j + 1, true, by omega, by go_num, rfl, by rw [← HFS.out, decide_eq_true HEQ.out, Bool.or_true], ?_, ?_, ?_⟩
              · have h := HIN4.out.1.stored (j * 5 + 2) (.int .i64 (bits .or .i64 yr ri))
                rw [encs_set _ j _ _ HY.out] at h
                rw [HSET.out HEQ.out, show (⟨yw, yl, yr, ye, yg⟩ : Ac).join ⟨aw, al, ri, rc, true⟩ = (⟨yw, yl, yr, ye, yg⟩ : Ac).put (bits .or .i64 yr ri) by rw [bits_or]; rfl]
                exact h.1.drew
              · exact Mk.step (HIN4.out.2.1.far hne) (Below.refl _ _).drew
              · exact (HIN4.out.2.2.setCell (p := ⟨g', j * 5 + 2, none⟩) hg1 _).drew
             case measure => simp [intOf]; omega
         · obtain rfl : j = m := by omega
           have hj1 : j = out.length := HML.out.symm
           have hadd := addC_jn (out := out) (e := ⟨aw, al, ri, rc, true⟩) (f := fnd) (by rw [HF0.out, List.take_of_length_le (by omega)])
           rw [← hj1] at hadd
           have HADD := Lib.hid hadd
           have HIN := Lib.hid (show Inn w.heap.size ge j A' c' (jnL out ⟨aw, al, ri, rc, true⟩ j) ⟨aw, al, ri, rc, true⟩ w wr from ⟨hown, hmk, hbw⟩)
           obtain ⟨m0, m1, m2, m3, m4⟩ := hmk
           dsimp only at m0 m1 m2 m3 m4
           have hsz := hbw.size
           clear hj1 hadd hown hbw
           cases fnd
           · go_wp2_with (at_builtin; refine wpList_append_own _ rfl _ _ 23 rfl w.heap.size 137 i0 _ 5 40 Tryz.underlying23 hi hz0 hz1 hz2 rfl (by decide) _ _ _ rfl (HIN.out.1.alloc _) ⟨wr.heap.size, 0, none⟩ 1 1 (enc ⟨aw, al, ri, rc, true⟩) rfl rfl (cells_new wr _ _) (enc_one _) (by unfold maxLen; omega) (by omega) (by simp; omega) ?_; intro v' w5 hown' hgrow _; obtain ⟨g', cap', rfl⟩ := ownsRow_succ hown')
             go_roundw
             case rel =>
              refine ⟨k + 1, j + 1, some ⟨g', 0, none⟩, cap', _, by omega, by go_num, rfl, by omega, HST.out.trans HADD.out, ?_, ?_⟩
              · rw [if_neg (by simp), encs_append, encs_one]; exact hown'
              · exact (HIN.out.2.2.alloc hsz _).grown hgrow (by simp; omega) (fun j hj => (HIN.out.1.lt j hj).1)
             case measure => simp [intOf]; omega
           · go_wp2
             go_roundw
             case rel => exact ⟨k + 1, j, A', c', _, by omega, by go_num, rfl, by omega, HST.out.trans HADD.out, by rw [if_pos rfl]; exact HIN.out.1, HIN.out.2.2⟩
             case measure => simp [intOf]; omega
    · rw [if_neg h23] at hst
      have HST := Lib.hid hst
      have n2 : (re != 2) = true := by simp; omega
      have n3 : (re != 3) = true := by simp; omega
      clear hst h23 hbw
      go_wp2
      go_roundw
      case rel => exact ⟨k + 1, m, A', c', out, by omega, by go_num, rfl, by omega, HST.out, HOWN.out.alloc _, HBW.out.alloc hbs _⟩
      case measure => simp [intOf]; omega
  · obtain rfl : k = n := by omega
    have hfull : l.take k = l := List.take_of_length_le (by rw [HN.out]; exact Nat.le_refl _)
    rw [hfull] at hout
    have HOUT := Lib.hid hout
    have HOWN := Lib.hid hown
    clear hfull hout hown
    go_wp2
    go_ret
    exact ⟨A', m, c', rfl, by rw [HOUT.out]; exact HOWN.out, hbw⟩
end Go.Proofs.YtemgejblnionlaaGreatDoor.Acl
