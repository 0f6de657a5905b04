/-
  Texts QnPl QnA QnB QnH QnPm QnC QnPn QnD QnE QnPo QnG QnI QnJ QnK QnPq QnPw, put together by program.
-/
import Derived.Test.YtemgejblnionlaaGreatDoorY1
import Derived.Test.YtemgejblnionlaaGreatDoorProg
import Derived.Lib.IndexMore
import Derived.Lib.Strings
import Derived.WalkKit
import Derived.WalkSpells
import Derived.Handy
import Derived.Outline
import Derived.Laws.Rows
import Derived.Lib.Hide
import Derived.Lib.OthersKept
import Derived.Lib.TrimU
import Derived.Lib.ItoaNum
import Derived.RangeFuncNested
import Derived.RangeFuncBox
import Derived.RangeFuncBound
import Derived.RangeFuncCalls
import Derived.RangeFuncLeaves
import Derived.Shelf.Abstract
import Derived.Shelf.RegionOpen
import Derived.OwnWalkIn
import Derived.TacticsInMore
import Derived.LoopNIn
import Derived.LoopIn
import Derived.Maps.AppendAt
import Derived.Deep.AppendLies
namespace Go.Proofs.YtemgejblnionlaaGreatDoor.Nam.Pl
set_option maxRecDepth 100000
abbrev Bs := List UInt8
def lett (c : UInt8) : Bool := (decide (97 ≤ c.toNat) && decide (c.toNat ≤ 122)) || (decide (65 ≤ c.toNat) && decide (c.toNat ≤ 90))
def okb (c : UInt8) : Bool := lett c || (decide (48 ≤ c.toNat) && decide (c.toNat ≤ 57)) || c == 46 || c == 95 || c == 45 || c == 126
def vld (l : Bs) : Bool := decide (1 ≤ l.length) && decide (l.length ≤ 16) && !(l == [46]) && !(l == [46, 46]) && l.all okb
def cutGo : Bs → Bs → List Bs
 | last, [] => [last]
 | last, c :: r => if c = 47 then last :: cutGo [] r else cutGo (last ++ [c]) r
def cut (p : Bs) : List Bs := if p = [] then [] else cutGo [] p
def isPath (p : Bs) : Bool := (cut p).all vld && decide ((cut p).length ≤ 8)
theorem vld_no {l : Bs} (h : ¬ (l ≠ [] ∧ l.length ≤ 16 ∧ l ≠ [46] ∧ l ≠ [46, 46])) : vld l = false := by
 rw [Bool.eq_false_iff]
 intro hv
 simp only [vld, Bool.and_eq_true, decide_eq_true_eq, Bool.not_eq_true', beq_eq_false_iff_ne] at hv
 exact h ⟨fun e => by rw [e] at hv; simp at hv, hv.1.1.1.2, hv.1.1.2, hv.1.2⟩
theorem vld_bad {l : Bs} {i : Nat} (hi : i < l.length) (h : okb l[i] = false) : vld l = false := by
 rw [Bool.eq_false_iff]
 intro hv
 simp only [vld, Bool.and_eq_true] at hv
 have := List.all_eq_true.1 hv.2 _ (List.getElem_mem hi)
 rw [h] at this; cases this
theorem vld_yes {l : Bs} (h : l ≠ [] ∧ l.length ≤ 16 ∧ l ≠ [46] ∧ l ≠ [46, 46]) (hok : (l.take l.length).all okb = true) : vld l = true := by
 obtain ⟨h1, h2, h3, h4⟩ := h
 have : 1 ≤ l.length := by cases l with | nil => exact absurd rfl h1 | cons => simp
 rw [List.take_length] at hok
 simp [vld, this, h2, h3, h4, hok]
def Okto (l : Bs) (k : Nat) : Prop := (l.take k).all okb = true
theorem okto_zero (l : Bs) : Okto l 0 := by simp [Okto]
theorem okto_succ {l : Bs} {k : Nat} (h : Okto l k) (hk : k < l.length) (hb : okb l[k] = true) : Okto l (k + 1) := by
 unfold Okto at *
 rw [List.take_succ_eq_append_getElem hk, List.all_append, h]
 simp [hb]
end Go.Proofs.YtemgejblnionlaaGreatDoor.Nam.Pl
namespace Go.Proofs.YtemgejblnionlaaGreatDoor.Nam
set_option maxRecDepth 100000
open Go.RowKit
set_option maxHeartbeats 400000
theorem ret_bool {a b : Bool} (h : a = b) : Ending.returned (.bool a) = .returned (.bool b) := by rw [h]
theorem ret_int {k : IntKind} {a b : Int} (h : a = b) : Ending.returned (.int k a) = .returned (.int k b) := by rw [h]
theorem letter_any (c : UInt8) (w : World) :
 Calls Tryz.prog 164 #[.int .u8 c.toNat] w fun e w' => e = .returned (.bool (Pl.lett c)) ∧ w' = w := by
 go_enter Tryz.func164, Tryz.ntmps164
 go_wp2
 all_goals
  go_ret
  refine ⟨ret_bool ?_, rfl⟩
  simp only [Pl.lett]
  rw [Bool.eq_iff_iff]
  simp
  omega
def tabCells : Array Value := #[.int .i32 97, .int .i32 122, .int .i64 1, .int .i32 65, .int .i32 90, .int .i64 1, .int .i32 48, .int .i32 57, .int .i64 2, .int .i32 46, .int .i32 46, .int .i64 3,
 .int .i32 95, .int .i32 95, .int .i64 3, .int .i32 45, .int .i32 45, .int .i64 3, .int .i32 126, .int .i32 126, .int .i64 3]
structure Env (w : World) : Prop where
 tab : ∃ t fr, w.heap[0]? = some (.cells tabCells t fr)
 maxlen : ∃ m, w.cell? ⟨1, 0, none⟩ = some (.int .i64 m)
theorem Env.below {w w' : World} (h : Env w) (hb : Below w.heap.size w w') : Env w' := by
 obtain ⟨⟨t, fr, h1⟩, m, h2⟩ := h
 have l1 : 0 < w.heap.size := (Array.getElem?_eq_some_iff.1 h1).1
 have l2 : 1 < w.heap.size := block_lt_of_cell h2
 exact ⟨⟨t, fr, (hb.block _ l1).trans h1⟩, m, (hb.cell (p := ⟨1, 0, none⟩) l2).trans h2⟩
def kindI (r : Int) : Int := if (97 ≤ r ∧ r ≤ 122) ∨ (65 ≤ r ∧ r ≤ 90) then 1 else if 48 ≤ r ∧ r ≤ 57 then 2 else if r = 46 ∨ r = 95 ∨ r = 45 ∨ r = 126 then 3 else 0
end Go.Proofs.YtemgejblnionlaaGreatDoor.Nam
namespace Go.Proofs.YtemgejblnionlaaGreatDoor.Nam
set_option maxRecDepth 100000
open Go.RowKit
set_option maxHeartbeats 400000
theorem u8_eq_iff (c : UInt8) (n : UInt8) : (c == n) = decide ((c.toNat : Int) = n.toNat) := by
 rw [Bool.eq_iff_iff, beq_iff_eq, decide_eq_true_eq]
 constructor
 · intro h; rw [h]
 · intro h; exact UInt8.toNat_inj.1 (by omega)
theorem okb_kind (c : UInt8) : Pl.okb c = !(kindI c.toNat == 0) := by
 have h46 := u8_eq_iff c 46; have h95 := u8_eq_iff c 95; have h45 := u8_eq_iff c 45; have h126 := u8_eq_iff c 126
 unfold Pl.okb Pl.lett
 rw [h46, h95, h45, h126]
 have e46 : ((46 : UInt8).toNat : Int) = 46 := rfl
 have e95 : ((95 : UInt8).toNat : Int) = 95 := rfl
 have e45 : ((45 : UInt8).toNat : Int) = 45 := rfl
 have e126 : ((126 : UInt8).toNat : Int) = 126 := rfl
 rw [e46, e95, e45, e126]
 rw [Bool.eq_iff_iff]
 simp only [Bool.or_eq_true, Bool.and_eq_true, decide_eq_true_eq, Bool.not_eq_true', beq_eq_false_iff_ne, ne_eq]
 unfold kindI
 repeat' split
 all_goals omega
theorem lett_kind (c : UInt8) : Pl.lett c = (kindI c.toNat == 1) := by
 unfold Pl.lett
 rw [Bool.eq_iff_iff]
 simp only [Bool.or_eq_true, Bool.and_eq_true, decide_eq_true_eq, beq_iff_eq]
 unfold kindI
 repeat' split
 all_goals omega
theorem kind_high (r : Int) (h : 128 ≤ r) : kindI r = 0 := by unfold kindI; repeat' split; all_goals omega
theorem rune_at (s : ByteArray) (pos : Nat) (h : pos < s.size) :
 (Pl.okb (s.data.toList[pos]'(by rw [← Lib.size_eq]; exact h)) = !(kindI (Utf8.decode s pos).1 == 0)) ∧ (Pl.lett (s.data.toList[pos]'(by rw [← Lib.size_eq]; exact h)) = (kindI (Utf8.decode s pos).1 == 1)) ∧ ((kindI (Utf8.decode s pos).1 == 0) = false → (Utf8.decode s pos).2 = 1) := by
 have e : s.data.toList[pos]'(by rw [← Lib.size_eq]; exact h) = s[pos] := by simp [ByteArray.getElem_eq_getElem_data]
 rw [e]
 by_cases ha : (s[pos]).toNat < 128
 · rw [decode_ascii s pos h ha]
   exact ⟨okb_kind _, lett_kind _, fun _ => rfl⟩
 · have hh := decode_high s pos h (by omega)
   have hk := kind_high ((Utf8.decode s pos).1 : Int) (by omega)
   have hk2 := kind_high (s[pos].toNat : Int) (by omega)
   refine ⟨by rw [okb_kind, hk, hk2], by rw [lett_kind, hk, hk2], fun h => by rw [hk] at h; cases h⟩
end Go.Proofs.YtemgejblnionlaaGreatDoor.Nam
namespace Go.Proofs.YtemgejblnionlaaGreatDoor.Nam
set_option maxRecDepth 100000
open Go.RowKit Pl
set_option maxHeartbeats 400000
theorem letter_b (c : UInt8) (b : Bool) (hb : lett c = b) (w : World) :
 Calls Tryz.prog 164 #[.int .u8 c.toNat] w fun e w' => e = .returned (.bool b) ∧ w = w' :=
 (letter_any c w).mono fun _ _ ⟨h1, h2⟩ => ⟨by rw [h1, hb], h2.symm⟩
theorem okb_int {c : UInt8} (hl : lett c = false) : okb c = true ↔ (48 ≤ (c.toNat : Int) ∧ (c.toNat : Int) ≤ 57) ∨ (c.toNat : Int) = 46 ∨ (c.toNat : Int) = 95 ∨ (c.toNat : Int) = 45 ∨ (c.toNat : Int) = 126 := by
 rw [okb_kind]
 rw [lett_kind, beq_eq_false_iff_ne] at hl
 simp only [Bool.not_eq_true', beq_eq_false_iff_ne, ne_eq]
 unfold kindI at *
 repeat' split at hl
 all_goals (repeat' split)
 all_goals omega
set_option maxHeartbeats 1000000 in
theorem rvalid_any (s : ByteArray) (hs : s.size ≤ maxLen) (w : World) :
 Calls Tryz.prog 117 #[.string s] w fun e w' => e = .returned (.bool (vld s.data.toList)) ∧ w = w' := by
 unfold maxLen at hs
 have hsz := Lib.size_eq s
 by_cases c : s.data.toList ≠ [] ∧ s.data.toList.length ≤ 16 ∧ s.data.toList ≠ [46] ∧ s.data.toList ≠ [46, 46]
 · have C := Lib.hid c
   rw [← Lib.toList_data] at c
   obtain ⟨c1, c2, c3, c4⟩ := c
   rw [Lib.toList_data, ← hsz] at c2
   have c1' : 1 ≤ s.size := by
    rw [Lib.toList_data] at c1
    cases h : s.data.toList with
    | nil => exact absurd h c1
    | cons => rw [hsz, h]; simp
   have d3 : (s.toList == [46]) = false := beq_eq_false_iff_ne.2 c3
   have d4 : (s.toList == [46, 46]) = false := beq_eq_false_iff_ne.2 c4
   have d2 : decide (16 < (s.size : Int)) = false := by simp; omega
   have d1 : decide ((s.size : Int) < 1) = false := by simp; omega
   have HS := Lib.hid hsz
   clear hsz c1 c3 c4
   go_enter Tryz.func117, Tryz.ntmps117
   go_wp2
   go_loop [3, 4] (fun i _ => ∃ k : Nat, k ≤ s.size ∧ i = .int .i64 k ∧ Okto s.data.toList k) (fun i _ => s.size - (intOf i).toNat)
   case atStart => exact ⟨0, Nat.zero_le _, rfl, okto_zero _⟩
   case round =>
    obtain ⟨k, hk, rfl, hok⟩ := hrel
    have HO := Lib.hid hok
    clear hok
    by_cases hlt : k < s.size
    · have hu := s[k].toNat_lt
      have e0 : s.data.toList[k]'(by rw [← HS.out]; exact hlt) = s[k] := by simp [ByteArray.getElem_eq_getElem_data]
      have E0 := Lib.hid e0
      clear e0
      cases hl : lett s[k]
      · have cL := fun W => letter_b s[k] false hl W
        have CL := Lib.hid cL
        have OK := okb_int hl
        have OKH := Lib.hid OK
        clear hl cL OK
        go_wp2_with (go_at_call 164; refine (CL.out _).mono ?_; rintro e w1 ⟨rfl, rfl⟩)
        all_goals first
         | (go_round
            case rel =>
             refine ⟨k + 1, by omega, by go_num, okto_succ HO.out (by rw [← HS.out]; exact hlt) (by rw [E0.out, OKH.out]; (try simp only [ne_eq, bne_eq_false_iff_eq] at *); omega)⟩
            case measure => simp [intOf]; omega)
         | (go_ret
            refine ⟨ret_bool (vld_bad (i := k) (by rw [← HS.out]; exact hlt) ?_).symm, rfl⟩
            rw [E0.out, Bool.eq_false_iff, ne_eq, OKH.out]
            (try simp only [bne_iff_ne, ne_eq] at *)
            omega)
      · have cL := fun W => letter_b s[k] true hl W
        have CL := Lib.hid cL
        have HL := Lib.hid hl
        clear hl cL
        go_wp2_with (go_at_call 164; refine (CL.out _).mono ?_; rintro e w1 ⟨rfl, rfl⟩)
        go_round
        case rel => exact ⟨k + 1, by omega, by go_num, okto_succ HO.out (by rw [← HS.out]; exact hlt) (by rw [E0.out]; simp [okb, HL.out])⟩
        case measure => simp [intOf]; omega
    · go_wp2
      go_ret
      obtain rfl : k = s.size := by omega
      exact ⟨ret_bool (vld_yes C.out (by rw [← HS.out]; exact HO.out)).symm, rfl⟩
 · have hv := vld_no c
   have HV := Lib.hid hv
   have c' : s.data.toList = [] ∨ 16 < s.size ∨ s.data.toList = [46] ∨ s.data.toList = [46, 46] := by
    rw [hsz]
    by_cases e1 : s.data.toList = []
    · exact .inl e1
    · by_cases e2 : 16 < s.data.toList.length
      · exact .inr (.inl e2)
      · by_cases e3 : s.data.toList = [46]
        · exact .inr (.inr (.inl e3))
        · exact .inr (.inr (.inr (Decidable.byContradiction fun e4 => c ⟨e1, by omega, e3, e4⟩)))
   clear hsz hv c
   rcases c' with e | e | e | e
   · obtain rfl : s = ⟨#[]⟩ := by rw [← Lib.mk_data s, e]
     clear e
     go_enter Tryz.func117, Tryz.ntmps117
     go_wp2
     go_ret
     exact ⟨ret_bool HV.out.symm, rfl⟩
   · have d2 : decide (16 < (s.size : Int)) = true := by simp; omega
     have d1 : decide ((s.size : Int) < 1) = false := by simp; omega
     go_enter Tryz.func117, Tryz.ntmps117
     go_wp2
     go_ret
     exact ⟨ret_bool HV.out.symm, rfl⟩
   · obtain rfl : s = ⟨#[46]⟩ := by rw [← Lib.mk_data s, e]
     clear e
     go_enter Tryz.func117, Tryz.ntmps117
     go_wp2
     go_ret
     exact ⟨ret_bool HV.out.symm, rfl⟩
   · obtain rfl : s = ⟨#[46, 46]⟩ := by rw [← Lib.mk_data s, e]
     clear e
     go_enter Tryz.func117, Tryz.ntmps117
     go_wp2
     go_ret
     exact ⟨ret_bool HV.out.symm, rfl⟩
end Go.Proofs.YtemgejblnionlaaGreatDoor.Nam
namespace Go.Proofs.YtemgejblnionlaaGreatDoor.Nam.Pl
set_option maxRecDepth 100000
def mk (l : Bs) : ByteArray := ⟨l.toArray⟩
@[simp] theorem mk_data (l : Bs) : (mk l).data.toList = l := rfl
@[simp] theorem mk_of (s : ByteArray) : mk s.data.toList = s := Lib.mk_data s
@[simp] theorem mk_size (l : Bs) : (mk l).size = l.length := by rw [Lib.size_eq, mk_data]
@[simp] theorem mk_toList (l : Bs) : (mk l).toList = l := by rw [Lib.toList_data, mk_data]
theorem mk_inj {a b : Bs} (h : mk a = mk b) : a = b := by have := congrArg (fun s : ByteArray => s.data.toList) h; simpa using this
theorem append_data (s t : ByteArray) : (s ++ t).data.toList = s.data.toList ++ t.data.toList := by simp
def belowB (p q : Bs) : Bool := p == q || q == [] || (q ++ [47]).isPrefixOf p
end Go.Proofs.YtemgejblnionlaaGreatDoor.Nam.Pl
namespace Go.Proofs.YtemgejblnionlaaGreatDoor.Nam
set_option maxRecDepth 100000
open Go.RowKit Pl
set_option maxHeartbeats 400000
theorem empty_of {s : ByteArray} (h : s.data.toList = []) : s.toList.isEmpty = true := by rw [Lib.toList_data, h]; rfl
theorem nonempty_of {s : ByteArray} (h : s.data.toList ≠ []) : s.toList.isEmpty = false := by
 rw [Lib.toList_data]
 cases e : s.data.toList with
 | nil => exact absurd e h
 | cons => rfl
end Go.Proofs.YtemgejblnionlaaGreatDoor.Nam
namespace Go.Proofs.YtemgejblnionlaaGreatDoor.Nam.Pl
set_option maxRecDepth 100000
theorem libcut_nil : Lib.cut [] [47] = ([], [], false) := rfl
theorem libcut_slash (l : Bs) : Lib.cut (47 :: l) [47] = ([], l, true) := by
 have h : Lib.index (47 :: l) [47] = 0 := by unfold Lib.index; simp
 unfold Lib.cut; rw [h]; simp
theorem libcut_cons {b : UInt8} (l : Bs) (hb : b ≠ 47) : Lib.cut (b :: l) [47] = (b :: (Lib.cut l [47]).1, (Lib.cut l [47]).2.1, (Lib.cut l [47]).2.2) := by
 have hp : List.isPrefixOf [47] (b :: l) = false := by simp [List.isPrefixOf, hb.symm]
 have hge := Lib.index_ge l [47]
 unfold Lib.cut
 rw [Lib.index, hp]
 by_cases h : Lib.index l [47] = -1
 · simp [h]
 · have h0 : 0 ≤ Lib.index l [47] := by omega
   have e : (Lib.index l [47] == -1) = false := by rw [beq_eq_false_iff_ne]; exact h
   obtain ⟨k, hk⟩ := Int.eq_ofNat_of_zero_le h0
   rw [hk] at e h0 ⊢
   simp only [Bool.false_eq_true, if_false, e, if_pos h0]
   rw [if_pos (by omega)]
   have e2 : ((k : Int) + 1).toNat = k + 1 := by omega
   rw [e2]
   simp
theorem cutGo_step (r : Bs) : ∀ last : Bs, cutGo last r = (last ++ (Lib.cut r [47]).1) :: (if (Lib.cut r [47]).2.2 then cutGo [] (Lib.cut r [47]).2.1 else []) := by
 induction r with
 | nil => intro last; simp [cutGo, libcut_nil]
 | cons b l ih =>
   intro last
   by_cases hb : b = 47
   · subst hb; rw [libcut_slash]; simp [cutGo]
   · rw [cutGo, if_neg hb, ih, libcut_cons l hb]; simp
theorem libcut_len (r : Bs) : (Lib.cut r [47]).1.length ≤ r.length ∧ ((Lib.cut r [47]).2.2 = true → (Lib.cut r [47]).2.1.length < r.length) := by
 induction r with
 | nil => simp [libcut_nil]
 | cons b l ih =>
   by_cases hb : b = 47
   · subst hb; rw [libcut_slash]; simp
   · rw [libcut_cons l hb]
     refine ⟨by simp; exact ih.1, fun h => ?_⟩
     have := ih.2 h
     simp; omega
theorem libcut_len2 (r : Bs) : (Lib.cut r [47]).2.1.length ≤ r.length := by
 induction r with
 | nil => simp [libcut_nil]
 | cons b l ih =>
   by_cases hb : b = 47
   · subst hb; rw [libcut_slash]; simp
   · rw [libcut_cons l hb]
     simp; omega
theorem cutGo_cut {p : Bs} (h : p ≠ []) : cutGo [] p = cut p := by unfold cut; rw [if_neg h]
theorem cut_nil : cut [] = [] := rfl
theorem cutGo_len (r : Bs) : ∀ last : Bs, (cutGo last r).length ≤ r.length + 1 := by
 induction r with
 | nil => intro last; simp [cutGo]
 | cons b l ih =>
   intro last
   unfold cutGo
   split
   · have := ih []; simp; omega
   · have := ih (last ++ [b]); simp; omega
theorem cut_len (p : Bs) : (cut p).length ≤ p.length + 1 := by unfold cut; split; simp; exact cutGo_len p []
def goodPre (l : List Bs) : Prop := l.all vld = true ∧ l.length ≤ 8
def badPre (l : List Bs) : Prop := l.all vld = false ∨ 8 < l.length
theorem good_path {p : Bs} (h : goodPre (cut p)) : isPath p = true := by simp [isPath, h.1, h.2]
theorem bad_path {p : Bs} {l : List Bs} (h : badPre l) (hl : l <+: cut p) : isPath p = false := by
 obtain ⟨r, hr⟩ := hl
 unfold isPath
 rw [← hr]
 rcases h with h | h
 · rw [List.all_append, h]; simp
 · have : decide ((l ++ r).length ≤ 8) = false := by simp; omega
   rw [this, Bool.and_false]
theorem good_snoc {l : List Bs} {x : Bs} (h : goodPre l) (h8 : l.length ≠ 8) (hx : vld x = true) : goodPre (l ++ [x]) := by
 refine ⟨by simp [h.1, hx], ?_⟩
 have := h.2
 simp; omega
theorem bad_snoc {l : List Bs} {x : Bs} (hx : vld x = false) : badPre (l ++ [x]) := .inl (by simp [hx])
theorem bad_long {l : List Bs} {x : Bs} (h8 : l.length = 8) : badPre (l ++ [x]) := .inr (by simp; omega)
end Go.Proofs.YtemgejblnionlaaGreatDoor.Nam.Pl
namespace Go.Proofs.YtemgejblnionlaaGreatDoor.Nam
set_option maxRecDepth 100000
open Go.RowKit Go.Shelf Pl
attribute [local go_sem] Oper.semAt_some
abbrev Tx := { x : ByteArray // x.size ≤ maxLen }
def txs (l : List Tx) : List Bs := l.map fun x => x.1.data.toList
theorem txs_snoc (l : List Tx) (x : Tx) : txs (l ++ [x]) = txs l ++ [x.1.data.toList] := by simp [txs]
def moreLen (r m : Value) : Nat := match r, m with
 | .string s, .bool true => s.size + 1
 | _, _ => 0
theorem names_any (F : Fence) (n : Nat) (h45 : F.fn 278) (hro : F.round = none) (p : ByteArray) (w : World) :
 CallsIn F n Tryz.prog 278 #[.string p] w fun e w' => e = .returned (.func (.func 298) #[] #[.pointer (some ⟨w.heap.size, 0, none⟩)]) ∧ w' = w.alloc (.cells #[.string p] 9) := by
 refine callsIn_of_wp Tryz.func278 rfl h45 ?_ hro
 simp only [Tryz.ntmps278, List.size_toArray, List.length_cons, List.length_nil, Nat.reduceAdd, Nat.reduceSub, Array.replicate_succ, Array.replicate_zero, List.push_toArray, List.append_toArray, List.nil_append, List.cons_append]
 gi_wp2
 go_ret
 exact ⟨rfl, rfl⟩
end Go.Proofs.YtemgejblnionlaaGreatDoor.Nam
namespace Go.Proofs.YtemgejblnionlaaGreatDoor.Nam
set_option maxRecDepth 100000
open Go.RowKit Go.Shelf Pl
attribute [local go_sem] Oper.semAt_some
theorem info_string : (Tryz.prog.info? 9).map (fun i => (i.zero, i.size, i.bytes)) = some (some (.string ⟨#[]⟩), 1, 16) := by kernel_rfl
def strs (l : List Bs) : List Value := l.map fun x => Value.string (mk x)
theorem strs_txs (l : List Tx) : l.map (fun x => Value.string x.1) = strs (txs l) := by simp [strs, txs]
def PartsPost (p : Bs) (w : World) (e : Ending) (w' : World) : Prop :=
 Below w.heap.size w w' ∧ ((isPath p = true ∧ ∃ A c, e = .returned (.tuple #[.slice A (cut p).length c, .int .i64 0]) ∧ w'.ownsRow w.heap.size 9 1 (.slice A (cut p).length c) (cut p).length (strs (cut p))) ∨
  (isPath p = false ∧ e = .returned (.tuple #[.slice none 0 0, .int .i64 10])))
end Go.Proofs.YtemgejblnionlaaGreatDoor.Nam
namespace Go.Proofs.YtemgejblnionlaaGreatDoor.Nam.Pl
set_option maxRecDepth 100000
def jn : List Bs → Bs
 | [] => []
 | [a] => a
 | a :: b :: r => a ++ 47 :: jn (b :: r)
theorem jn_cons (a : Bs) {l : List Bs} (h : l ≠ []) : jn (a :: l) = a ++ 47 :: jn l := by
 cases l with
 | nil => exact absurd rfl h
 | cons b r => rfl
theorem cutGo_ne (r : Bs) : ∀ last : Bs, cutGo last r ≠ [] := by
 induction r with
 | nil => intro last; simp [cutGo]
 | cons b l ih => intro last; unfold cutGo; split; simp; exact ih _
theorem jn_cutGo (r : Bs) : ∀ last : Bs, jn (cutGo last r) = last ++ r := by
 induction r with
 | nil => intro last; simp [cutGo, jn]
 | cons b l ih =>
   intro last
   unfold cutGo
   split
   · rename_i h; rw [jn_cons _ (cutGo_ne l []), ih, h]; rfl
   · rw [ih]; simp
theorem jn_cut (p : Bs) : jn (cut p) = p := by
 unfold cut
 split
 · rename_i h; rw [h]; rfl
 · rw [jn_cutGo]; rfl
theorem cutGo_app (a b : Bs) : ∀ last : Bs, cutGo last (a ++ 47 :: b) = cutGo last a ++ cutGo [] b := by
 induction a with
 | nil => intro last; simp [cutGo]
 | cons c l ih =>
   intro last
   rw [List.cons_append, cutGo, cutGo]
   split
   · rw [ih]; rfl
   · rw [ih]
theorem cut_eq_nil {p : Bs} : cut p = [] ↔ p = [] := by
 unfold cut
 split
 · rename_i h; simp [h]
 · rename_i h; simp [h, cutGo_ne]
theorem cutGo_mem_len (r : Bs) : ∀ last : Bs, ∀ x ∈ cutGo last r, x.length ≤ last.length + r.length := by
 induction r with
 | nil => intro last x hx; simp [cutGo] at hx; rw [hx]; simp
 | cons b l ih =>
   intro last x hx
   unfold cutGo at hx
   split at hx
   · rcases List.mem_cons.1 hx with rfl | hx
     · omega
     · have := ih [] x hx; simp at this ⊢; omega
   · have := ih (last ++ [b]) x hx
     simp at this ⊢; omega
theorem cut_mem_len {p : Bs} : ∀ x ∈ cut p, x.length ≤ p.length := by
 intro x hx
 unfold cut at hx
 split at hx
 · cases hx
 · have := cutGo_mem_len p [] x hx; simpa using this
end Go.Proofs.YtemgejblnionlaaGreatDoor.Nam.Pl
namespace Go.Proofs.YtemgejblnionlaaGreatDoor.Nam
set_option maxRecDepth 100000
open Go.RowKit Pl
set_option maxHeartbeats 400000
def Strs (lo : Nat) (w : World) (A : Option Addr) (l : List Bs) : Prop :=
 l ≠ [] → ∃ g, A = some ⟨g, 0, none⟩ ∧ lo ≤ g ∧ g < w.heap.size ∧ ∀ (j : Nat) (x : Bs), l[j]? = some x → w.cell? ⟨g, j, none⟩ = some (.string (mk x))
theorem Strs.below {lo : Nat} {w w' : World} {A : Option Addr} {l : List Bs} (h : Strs lo w A l) (hb : Below w.heap.size w w') : Strs lo w' A l := fun hn => by
 obtain ⟨g, hA, hlo, hg, hc⟩ := h hn
 exact ⟨g, hA, hlo, Nat.lt_of_lt_of_le hg hb.size, fun j x hx => (hb.cell (p := ⟨g, j, none⟩) hg).trans (hc j x hx)⟩
theorem Strs.mono {lo lo' : Nat} {w : World} {A : Option Addr} {l : List Bs} (h : Strs lo w A l) (hl : lo' ≤ lo) : Strs lo' w A l := fun hn => by
 obtain ⟨g, hA, hlo, hg, hc⟩ := h hn
 exact ⟨g, hA, by omega, hg, hc⟩
theorem Strs.set {lo : Nat} {w : World} {A : Option Addr} {l : List Bs} (h : Strs lo w A l) {p : Addr} (hp : p.block < lo) (u : Value) : Strs lo (w.setCell p u) A l := fun hn => by
 obtain ⟨g, hA, hlo, hg, hc⟩ := h hn
 exact ⟨g, hA, hlo, by simpa [World.setCell] using hg, fun j x hx => (World.cell?_setCell_other w p ⟨g, j, none⟩ u (fun e => by rw [e] at hp; simp at hp; omega)).trans (hc j x hx)⟩
theorem Strs.nil (lo : Nat) (w : World) (A : Option Addr) : Strs lo w A [] := fun h => absurd rfl h
theorem Strs.of_own {w : World} {base n c : Nat} {e : TypeId} {A : Option Addr} {l : List Bs} (h : w.ownsRow base e 1 (.slice A n c) n (strs l)) : Strs base w A l := fun hn => by
 have hl : (strs l).length = n * 1 := h.1
 have hpos : 0 < n := by
  have : 0 < l.length := List.length_pos_iff.2 hn
  simp [strs] at hl; omega
 obtain ⟨g, cap, hv, hlo, hlt⟩ := h.form hpos
 have hA : A = some ⟨g, 0, none⟩ := by injection hv
 refine ⟨g, hA, hlo, hlt, fun j x hx => ?_⟩
 have := h.cells (g := g) (by rw [hA]; rfl) j (.string (mk x)) (by simp [strs, hx])
 have ha : (⟨g, 0, none⟩ : Addr).add j = ⟨g, j, none⟩ := by unfold Addr.add; split <;> simp_all
 rw [ha] at this
 exact this
def partsS (p : Bs) : List Bs × Int := if isPath p = true then (cut p, 0) else ([], 10)
theorem after2 {w w1 : World} {x y : Value} {t : TypeId} (hb : Below (w.alloc (.cells #[x, y] t)).heap.size (w.alloc (.cells #[x, y] t)) w1) :
 w1.cell? ⟨w.heap.size, 0, none⟩ = some x ∧ w1.cell? ⟨w.heap.size, 1, none⟩ = some y ∧ w1.frozen? ⟨w.heap.size, 0, none⟩ = false ∧ w1.frozen? ⟨w.heap.size, 1, none⟩ = false ∧ w.heap.size < w1.heap.size := by
 have hn := heap_alloc_new w (.cells #[x, y] t)
 have hl : w.heap.size < (w.alloc (.cells #[x, y] t)).heap.size := by simp
 have h0 := cell_of_row (w.alloc (.cells #[x, y] t)) w.heap.size 0 #[x, y] t (0, 0) hn
 have h1 := cell_of_row (w.alloc (.cells #[x, y] t)) w.heap.size 1 #[x, y] t (0, 0) hn
 have f0 := frozen_of_row (w.alloc (.cells #[x, y] t)) w.heap.size 0 #[x, y] t hn
 have f1 := frozen_of_row (w.alloc (.cells #[x, y] t)) w.heap.size 1 #[x, y] t hn
 exact ⟨(hb.cell (p := ⟨w.heap.size, 0, none⟩) hl).trans h0, (hb.cell (p := ⟨w.heap.size, 1, none⟩) hl).trans h1, (hb.frozen (p := ⟨w.heap.size, 0, none⟩) hl).trans f0, (hb.frozen (p := ⟨w.heap.size, 1, none⟩) hl).trans f1, Nat.lt_of_lt_of_le hl hb.size⟩
theorem below_new {w w1 : World} {o : Obj} (hb : Below (w.alloc o).heap.size (w.alloc o) w1) : Below w.heap.size w w1 := ((Below.refl _ w).alloc (Nat.le_refl _) _).trans (hb.mono (by simp))
theorem Env.alloc {w : World} (h : Env w) (o : Obj) : Env (w.alloc o) := h.below ((Below.refl _ w).alloc (Nat.le_refl _) _)
end Go.Proofs.YtemgejblnionlaaGreatDoor.Nam
namespace Go.Proofs.YtemgejblnionlaaGreatDoor.Nam
set_option maxRecDepth 100000
open Go.RowKit Pl
set_option maxHeartbeats 400000
theorem own_empty (w : World) (e : TypeId) : (w.alloc (.cells #[] e)).ownsRow w.heap.size e 1 (.slice (some ⟨w.heap.size, 0, none⟩) 0 0) 0 [] :=
 ⟨rfl, .inr ⟨w.heap.size, 0, #[], rfl, Nat.le_refl _, heap_alloc_new w _, Nat.le_refl _, Nat.zero_le _, rfl, rfl⟩⟩
set_option maxHeartbeats 1000000 in
theorem rcut_own (p : ByteArray) (hp : p.size < 4294967281) (w : World) :
 Calls Tryz.prog 217 #[.string p] w fun e w' => ∃ A c, e = .returned (.slice A (cut p.data.toList).length c) ∧ w'.ownsRow w.heap.size 9 1 (.slice A (cut p.data.toList).length c) (cut p.data.toList).length (strs (cut p.data.toList)) ∧ Below w.heap.size w w' := by
 obtain ⟨i0, hi, hz0, hz1, hz2⟩ := info_parts info_string
 by_cases hn : p.data.toList = []
 · have h1 := empty_of hn
   have HN := Lib.hid hn
   clear hn
   go_enter Tryz.func217, Tryz.ntmps217
   go_wp2
   go_ret
   refine ⟨some ⟨w.heap.size, 0, none⟩, 0, ?_, ?_, by go_grown⟩
   · rw [HN.out]; rfl
   · rw [HN.out]; exact own_empty _ _
 · have h1 := nonempty_of hn
   have hcg := cutGo_cut hn
   have hsz := Lib.size_eq p
   have HS := Lib.hid hsz
   have HC := Lib.hid hcg
   clear hn hcg hsz
   go_enter Tryz.func217, Tryz.ntmps217
   go_wp2
   go_loopw [3, 4, 5] (fun o la i wr => ∃ (k : Nat) (A : Option Addr) (c : Nat) (l : ByteArray) (done : List Bs), k ≤ p.size ∧ i = .int .i64 k ∧ la = .string l ∧ o = .slice A done.length c ∧ done.length ≤ k ∧ l.size ≤ k ∧
    wr.ownsRow w.heap.size 9 1 (.slice A done.length c) done.length (strs done) ∧ Below w.heap.size w wr ∧ done ++ cutGo l.data.toList (p.data.toList.drop k) = cut p.data.toList)
    (fun _ _ i _ => p.size - (intOf i).toNat)
   case atStart =>
    exact ⟨0, some ⟨w.heap.size, 0, none⟩, 0, ⟨#[]⟩, [], Nat.zero_le _, rfl, rfl, rfl, Nat.le_refl _, Nat.le_refl _, own_empty _ _, by go_grown, HC.out⟩
   case round =>
    obtain ⟨k, A, c, l, done, hk, rfl, rfl, rfl, hdl, hll, hown, hbw, hgo⟩ := hrel
    obtain ⟨n, hn⟩ : ∃ n, done.length = n := ⟨_, rfl⟩
    rw [hn] at hdl hown
    rw [hn]
    have HG := Lib.hid hgo
    have HN := Lib.hid hn
    clear hgo hn
    have hbs := hbw.size
    by_cases hlt : k < p.size
    · have e0 : p.data.toList.drop k = p[k] :: p.data.toList.drop (k + 1) := by
       rw [List.drop_eq_getElem_cons (by rw [← HS.out]; exact hlt)]
       congr 1
      have E0 := Lib.hid e0
      clear e0
      by_cases h47 : p[k] = 47
      · have hb47 : ((p[k].toNat : Int) == 47) = true := by rw [h47]; rfl
        have H47 := Lib.hid h47
        clear h47
        go_wp2_with (at_builtin; refine wpList_append_own _ rfl _ _ 69 rfl w.heap.size 9 i0 (.string ⟨#[]⟩) 1 16 Tryz.underlying69 hi hz0 hz1 hz2 rfl (by decide) _ _ _ rfl (hown.alloc _) ⟨wr.heap.size, 0, none⟩ 1 1 [.string l] rfl rfl (cell_one_new _ _ _) (by simp [Value.oneCell']) (by unfold maxLen; omega) (by omega) (by simp; omega) ?_; intro v' w1 hown' hgrow _; obtain ⟨g', cap', rfl⟩ := ownsRow_succ hown')
        have hb2 : Below w.heap.size w w1 := (hbw.alloc hbs _).grown hgrow (by simp; omega) (fun j hj => (hown.lt j hj).1)
        go_roundw
        case rel =>
         refine ⟨k + 1, some ⟨g', 0, none⟩, cap', ⟨#[]⟩, done ++ [l.data.toList], by omega, by go_num, rfl, ?_, ?_, Nat.zero_le _, ?_, hb2, ?_⟩
         · rw [List.length_append, HN.out]; rfl
         · rw [List.length_append, HN.out]; simp; omega
         · rw [List.length_append, HN.out]; simpa [strs] using hown'
         · rw [← HG.out, E0.out, H47.out]; simp [cutGo]
        case measure => simp [intOf]; omega
      · have hb47 : ((p[k].toNat : Int) == 47) = false := by
         rw [beq_eq_false_iff_ne]; intro e
         exact h47 (UInt8.toNat_inj.1 (by have : (47 : UInt8).toNat = 47 := rfl; omega))
        have H47 := Lib.hid h47
        clear h47
        go_wp2
        go_roundw
        case rel =>
         refine ⟨k + 1, A, c, l ++ p.extract k (k + 1), done, by omega, by go_num, rfl, ?_, ?_, ?_, ?_, hbw, ?_⟩
         · rw [HN.out]
         · rw [HN.out]; omega
         · rw [ByteArray.size_append, ByteArray.size_extract]; omega
         · rw [HN.out]; exact hown
         · rw [← HG.out, E0.out, cutGo, if_neg H47.out, append_data, Lib.extract_data, E0.out]
           simp
        case measure => simp [intOf]; omega
    · obtain rfl : k = p.size := by omega
      go_wp2_with (at_builtin; refine wpList_append_own _ rfl _ _ 69 rfl w.heap.size 9 i0 (.string ⟨#[]⟩) 1 16 Tryz.underlying69 hi hz0 hz1 hz2 rfl (by decide) _ _ _ rfl (hown.alloc _) ⟨wr.heap.size, 0, none⟩ 1 1 [.string l] rfl rfl (cell_one_new _ _ _) (by simp [Value.oneCell']) (by unfold maxLen; omega) (by omega) (by simp; omega) ?_; intro v' w1 hown' hgrow _; obtain ⟨g', cap', rfl⟩ := ownsRow_succ hown')
      have hb2 : Below w.heap.size w w1 := (hbw.alloc hbs _).grown hgrow (by simp; omega) (fun j hj => (hown.lt j hj).1)
      go_ret
      have hcu : cut p.data.toList = done ++ [l.data.toList] := by
       rw [← HG.out, List.drop_of_length_le (by rw [← HS.out]; exact Nat.le_refl _)]; rfl
      refine ⟨some ⟨g', 0, none⟩, cap', ?_, ?_, hb2⟩
      · rw [hcu, List.length_append, HN.out]; rfl
      · rw [hcu]
        rw [List.length_append, HN.out]
        simpa [strs] using hown'
theorem rcut_any (p : ByteArray) (hp : p.size < 4294967281) (w : World) :
 Calls Tryz.prog 217 #[.string p] w fun e w' => ∃ A c, e = .returned (.slice A (cut p.data.toList).length c) ∧ Strs w.heap.size w' A (cut p.data.toList) ∧ Below w.heap.size w w' :=
 (rcut_own p hp w).mono fun _ _ ⟨A, c, h1, h2, h3⟩ => ⟨A, c, h1, Strs.of_own h2, h3⟩
end Go.Proofs.YtemgejblnionlaaGreatDoor.Nam
namespace Go.Proofs.YtemgejblnionlaaGreatDoor.Nam
set_option maxRecDepth 100000
open Go.RowKit Pl
set_option maxHeartbeats 400000
def Vto (l : List Bs) (k : Nat) : Prop := (l.take k).all vld = true
set_option maxHeartbeats 1000000 in
theorem ispath_any (p : ByteArray) (hp : p.size < 4294967281) (w : World) :
 Calls Tryz.prog 216 #[.string p] w fun e w' => e = .returned (.bool (isPath p.data.toList)) ∧ Below w.heap.size w w' := by
 have c1 := rcut_any p hp w
 have hm : ∀ x ∈ cut p.data.toList, x.length ≤ p.data.toList.length := cut_mem_len
 have hn1 := cut_len p.data.toList
 obtain ⟨l, hl⟩ : ∃ l, cut p.data.toList = l := ⟨_, rfl⟩
 have hi : isPath p.data.toList = (l.all vld && decide (l.length ≤ 8)) := by unfold isPath; rw [hl]
 rw [hl] at c1 hm hn1
 rw [← Lib.size_eq] at hn1
 obtain ⟨n, hn⟩ : ∃ n, l.length = n := ⟨_, rfl⟩
 rw [hn] at c1 hi hn1
 rw [hi]
 have HN := Lib.hid hn
 have C1 := Lib.hid c1
 have HM := Lib.hid hm
 clear hi hl hn c1 hm
 go_enter Tryz.func216, Tryz.ntmps216
 go_wp2_with (go_at_call 217; refine C1.out.mono ?_; rintro e w1 ⟨A, c, rfl, hS, hb1⟩)
 have HS := Lib.hid hS
 clear hS
 go_loop [4] (fun i => ∃ k : Nat, k ≤ n ∧ i = .int .i64 k ∧ Vto l k) (fun i => n - (intOf i).toNat)
 case atStart => exact ⟨0, Nat.zero_le _, rfl, rfl⟩
 case round =>
  obtain ⟨k, hk, rfl, hv⟩ := hrel
  have HV := Lib.hid hv
  clear hv
  by_cases hlt : k < n
  · have hkl : k < l.length := by rw [HN.out]; exact hlt
    obtain ⟨g, rfl, _, _, hc⟩ := HS.out (List.ne_nil_of_length_pos (by omega))
    have hx := hc k l[k] (List.getElem?_eq_getElem hkl)
    have hxl := HM.out l[k] (List.getElem_mem hkl)
    have hxs : (mk l[k]).size ≤ maxLen := by rw [mk_size]; unfold maxLen; rw [← Lib.size_eq] at hxl; omega
    have cV := fun W => rvalid_any (mk l[k]) hxs W
    rw [mk_data] at cV
    obtain ⟨x, hxe⟩ : ∃ x, l[k] = x := ⟨_, rfl⟩
    rw [hxe] at cV hx
    obtain ⟨X, hX⟩ : ∃ X, mk x = X := ⟨_, rfl⟩
    rw [hX] at cV hx
    have HXE := Lib.hid hxe
    clear hxe hxl hX hc hxs
    cases hv : vld x
    · rw [hv] at cV
      have CV := Lib.hid cV
      have HVX := Lib.hid hv
      clear hv cV
      go_wp2_with (go_at_call 117; refine (CV.out _).mono ?_; rintro e w2 ⟨rfl, rfl⟩)
      go_ret
      refine ⟨ret_bool ?_, hb1⟩
      have : l.all vld = false := by
       rw [Bool.eq_false_iff]; intro h
       have := List.all_eq_true.1 h _ (List.getElem_mem (show k < l.length by rw [HN.out]; exact hlt))
       rw [HXE.out, HVX.out] at this; cases this
      rw [this]; rfl
    · rw [hv] at cV
      have CV := Lib.hid cV
      have HVX := Lib.hid hv
      clear hv cV
      go_wp2_with (go_at_call 117; refine (CV.out _).mono ?_; rintro e w2 ⟨rfl, rfl⟩)
      go_round
      case rel =>
       refine ⟨k + 1, by omega, by go_num, ?_⟩
       unfold Vto
       rw [List.take_succ_eq_append_getElem (show k < l.length by rw [HN.out]; exact hlt), List.all_append, HXE.out]
       have := HV.out
       unfold Vto at this
       rw [this]; simp [HVX.out]
      case measure => simp [intOf]; omega
  · obtain rfl : k = n := by omega
    go_wp2
    go_ret
    refine ⟨ret_bool ?_, hb1⟩
    have h := HV.out
    unfold Vto at h
    rw [List.take_of_length_le (by rw [HN.out]; exact Nat.le_refl _)] at h
    rw [h, Bool.true_and]
    simp only [decide_eq_decide]
    omega
end Go.Proofs.YtemgejblnionlaaGreatDoor.Nam
namespace Go.Proofs.YtemgejblnionlaaGreatDoor.Nam
set_option maxRecDepth 100000
open Go.RowKit Pl
set_option maxHeartbeats 400000
theorem next2 {b : Nat} {w1 w2 : World} {x y : Value} (h0 : w1.cell? ⟨b, 0, none⟩ = some x) (h1 : w1.cell? ⟨b, 1, none⟩ = some y) (f0 : w1.frozen? ⟨b, 0, none⟩ = false) (f1 : w1.frozen? ⟨b, 1, none⟩ = false) (hlt : b < w1.heap.size) (hb : Below w1.heap.size w1 w2) :
 w2.cell? ⟨b, 0, none⟩ = some x ∧ w2.cell? ⟨b, 1, none⟩ = some y ∧ w2.frozen? ⟨b, 0, none⟩ = false ∧ w2.frozen? ⟨b, 1, none⟩ = false ∧ b < w2.heap.size :=
 ⟨(hb.cell (p := ⟨b, 0, none⟩) hlt).trans h0, (hb.cell (p := ⟨b, 1, none⟩) hlt).trans h1, (hb.frozen (p := ⟨b, 0, none⟩) hlt).trans f0, (hb.frozen (p := ⟨b, 1, none⟩) hlt).trans f1, Nat.lt_of_lt_of_le hlt hb.size⟩
theorem strs_cells (l : List Bs) : ∀ u ∈ strs l, u.oneCell' = true := fun u hu => by
 obtain ⟨x, _, rfl⟩ := List.mem_map.1 hu
 rfl
theorem partsOf_any (p : ByteArray) (hp : p.size < 4294967281) (w : World) :
 Calls Tryz.prog 165 #[.string p] w fun e w' => ∃ A c, e = .returned (.agg #[.slice A (partsS p.data.toList).1.length c, .int .i64 (partsS p.data.toList).2]) ∧ Sv w' A (partsS p.data.toList).1.length c 1 (strs (partsS p.data.toList).1) ∧ Below w.heap.size w w' := by
 have c1 := ispath_any p hp (w.alloc (.cells #[.slice none 0 0, .int .i64 0] 213))
 have c2 := fun W => rcut_own p hp W
 unfold partsS
 cases hi : isPath p.data.toList
 · rw [hi] at c1
   rw [if_neg (by simp)]
   clear hi c2
   go_enter Tryz.func165, Tryz.ntmps165
   go_wp2_with (go_at_call 216; refine c1.mono ?_; rintro e w1 ⟨rfl, hb1⟩; obtain ⟨h0, h1, f0, f1, hlt⟩ := after2 hb1)
   refine bodyPost_ret (v := .agg #[.slice none 0 0, .int .i64 10]) (by simp [results, Tryz.results165, go_sem, h0, h1]) rfl ⟨none, 0, rfl, Sv.none_ _ _, ?_⟩
   exact ((below_new hb1).setCell (p := ⟨w.heap.size, 0, none⟩) (Nat.le_refl _) _).setCell (p := ⟨w.heap.size, 1, none⟩) (Nat.le_refl _) _
 · rw [hi] at c1
   rw [if_pos rfl]
   obtain ⟨l, hl⟩ : ∃ l, cut p.data.toList = l := ⟨_, rfl⟩
   rw [hl] at c2
   rw [hl]
   obtain ⟨n, hn⟩ : ∃ n, l.length = n := ⟨_, rfl⟩
   rw [hn] at c2
   show Calls _ _ _ _ fun e w' => ∃ A c, e = .returned (.agg #[.slice A l.length c, .int .i64 0]) ∧ Sv w' A l.length c 1 (strs l) ∧ Below w.heap.size w w'
   rw [hn]
   have C2 := Lib.hid c2
   clear hi c2 hl hn
   go_enter Tryz.func165, Tryz.ntmps165
   go_wp2_with (first | (go_at_call 216; refine c1.mono ?_; rintro e w1 ⟨rfl, hb1⟩; obtain ⟨h0, h1, f0, f1, hlt⟩ := after2 hb1) | (go_at_call 217; refine (C2.out _).mono ?_; rintro e w2 ⟨A, c, rfl, hS, hb2⟩; obtain ⟨k0, k1, g0, g1, hlt2⟩ := next2 h0 h1 f0 f1 hlt hb2))
   refine bodyPost_ret (v := .agg #[.slice A n c, .int .i64 0]) (by simp [results, Tryz.results165, go_sem, k0, k1]) rfl ⟨A, c, rfl, ?_, ?_⟩
   · exact Sv.own (own_low_cell (own_low_cell hS (p := ⟨w.heap.size, 0, none⟩) hlt _) (p := ⟨w.heap.size, 1, none⟩) hlt _) (strs_cells _)
   · exact (((below_new hb1).trans (hb2.mono (Nat.le_of_lt hlt))).setCell (p := ⟨w.heap.size, 0, none⟩) (Nat.le_refl _) _).setCell (p := ⟨w.heap.size, 1, none⟩) (Nat.le_refl _) _
end Go.Proofs.YtemgejblnionlaaGreatDoor.Nam
namespace Go.Proofs.YtemgejblnionlaaGreatDoor.Nam.Pl
set_option maxRecDepth 100000
def nmL : List Bs := [[97], [98], [120, 46, 121], [97, 98, 99, 100, 101, 102, 103, 104, 105, 106, 107, 108, 109, 110, 111, 112], [65, 45, 49, 95, 126], [46, 46, 46], [99, 126, 116, 114, 105, 112, 126, 48], [57]]
def nm (c : UInt8) : Bs := nmL.getD (c.toNat % 8) []
end Go.Proofs.YtemgejblnionlaaGreatDoor.Nam.Pl
namespace Go.Proofs.YtemgejblnionlaaGreatDoor.Nam.Pl
set_option maxRecDepth 100000
open Go.Proofs.YtemgejblnionlaaGreatDoor
theorem jn_append {A C : List Bs} (hA : A ≠ []) (hC : C ≠ []) : jn (A ++ C) = jn A ++ 47 :: jn C := by
 induction A with
 | nil => exact absurd rfl hA
 | cons a A ih =>
   by_cases h : A = []
   · subst h
     rw [List.singleton_append, jn_cons a hC]; rfl
   · rw [List.cons_append, jn_cons a (by simp [h]), ih h, jn_cons a h]; simp
theorem below_cut (p q : Bs) : belowB p q = (cut q).isPrefixOf (cut p) := by
 rw [Bool.eq_iff_iff]
 constructor
 · intro h
   refine List.isPrefixOf_iff_prefix.2 ?_
   by_cases he : p = q
   · rw [he]; exact List.prefix_refl _
   · by_cases hq : q = []
     · rw [hq, cut_nil]; exact List.nil_prefix
     · unfold belowB at h
       rw [beq_eq_false_iff_ne.2 he, beq_eq_false_iff_ne.2 hq] at h
       have h' : (q ++ [47]) <+: p := List.isPrefixOf_iff_prefix.1 (by simpa using h)
       obtain ⟨r, hr⟩ := h'
       have hp : p = q ++ 47 :: r := by rw [← hr]; simp
       rw [hp, ← cutGo_cut (p := q ++ 47 :: r) (by simp), cutGo_app, cutGo_cut hq]
       exact List.prefix_append _ _
 · intro h
   obtain ⟨C, hC⟩ := List.isPrefixOf_iff_prefix.1 h
   unfold belowB
   by_cases hn : C = []
   · subst hn
     have : p = q := by rw [← jn_cut p, ← hC, List.append_nil, jn_cut]
     rw [this]; simp
   · by_cases hq : cut q = []
     · rw [cut_eq_nil.1 hq]; simp
     · have hp : p = q ++ 47 :: jn C := by
        have := jn_append hq hn
        rw [hC, jn_cut, jn_cut] at this
        exact this
       have h3 : (q ++ [47]) <+: p := ⟨jn C, by rw [hp]; simp⟩
       rw [List.isPrefixOf_iff_prefix.2 h3]; simp
end Go.Proofs.YtemgejblnionlaaGreatDoor.Nam.Pl
