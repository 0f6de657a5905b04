/-
  Walk of the reference's List: a valid list that numbers describe.
-/
import Derived.Test.YtkpedfigaofloaaAt
namespace Go.Proofs.Ytkpedfigaofloaa
open Go.RowKit Ap
set_option maxHeartbeats 400000

abbrev Tri := UInt8 × UInt8 × UInt8
def triAce (t : Tri) : Ac := aceOf t.1 t.2.1 t.2.2
/-- A slice that starts at A holds these triples. -/
def Tris (w : World) (A : Option Addr) (l : List Tri) : Prop :=
  l ≠ [] → ∃ g o, A = some ⟨g, o, none⟩ ∧ g < w.heap.size ∧ ∀ (j : Nat) (t : Tri), l[j]? = some t → w.cell? ⟨g, o + j * 3, none⟩ = some (.int .u8 t.1.toNat) ∧ w.cell? ⟨g, o + j * 3 + 1, none⟩ = some (.int .u8 t.2.1.toNat) ∧ w.cell? ⟨g, o + j * 3 + 2, none⟩ = some (.int .u8 t.2.2.toNat)
theorem Tris.below {w w' : World} {A : Option Addr} {l : List Tri} (h : Tris w A l) (hb : Below w.heap.size w w') : Tris w' A l := fun hn => by
  obtain ⟨g, o, hA, hg, hc⟩ := h hn
  refine ⟨g, o, hA, Nat.lt_of_lt_of_le hg hb.size, fun j a ha => ?_⟩
  obtain ⟨c0, c1, c2⟩ := hc j a ha
  exact ⟨(hb.cell (block_lt_of_cell c0)).trans c0, (hb.cell (block_lt_of_cell c1)).trans c1, (hb.cell (block_lt_of_cell c2)).trans c2⟩
theorem Tris.take {w : World} {A : Option Addr} {l : List Tri} (h : Tris w A l) (k : Nat) : Tris w A (l.take k) := fun hn => by
  obtain ⟨g, o, hA, hg, hc⟩ := h (fun e => hn (by rw [e]; simp))
  refine ⟨g, o, hA, hg, fun j a ha => hc j a ?_⟩
  rw [List.getElem?_take] at ha
  split at ha
  · exact ha
  · cases ha

def stepT (out : List Ac) (t : Tri) : List Ac := if atL out (triAce t) = 0 then out ++ [triAce t] else out
def rawT (l : List Tri) : List Ac := l.foldl stepT []
def listL (l : List Tri) : List Ac := ownL (rawT (l.take 12)) false ++ ownL (rawT (l.take 12)) true
theorem rawT_snoc (l : List Tri) (t : Tri) : rawT (l ++ [t]) = stepT (rawT l) t := by simp [rawT]

set_option maxHeartbeats 4000000 in
theorem list_any (A : Option Addr) (n c : Nat) (l : List Tri) (hn : l.length = n) (hn63 : n ≤ 9223372036854775807) (w : World) (hA : Tris w A l) :
    Calls Try.prog 12 #[.slice A n c] w fun e w' => ∃ A' m c', e = .returned (.slice A' m c') ∧ w'.ownsRow w.heap.size 31 5 (.slice A' m c') m (encs (listL l)) ∧ Below w.heap.size w w' := by
  obtain ⟨i0, hi, hz0, hz1, hz2⟩ := info_parts info_ace
  have HN := Lib.hid hn
  have SA := Lib.hid hA
  clear hn hA
  go_enter Try.func12, Try.ntmps12
  go_wp2
  go_loopw [3, 4, 5] (fun o i _ wr => ∃ (k m : Nat) (A' : Option Addr) (c' : Nat), k ≤ n ∧ k ≤ 12 ∧ i = .int .i64 k ∧ o = .slice A' m c' ∧ m ≤ k ∧ wr.ownsRow w.heap.size 31 5 (.slice A' m c') m (encs (rawT (l.take k))) ∧ Below w.heap.size w wr) (fun _ i _ _ => 12 - (intOf i).toNat)
  case atStart => exact ⟨0, 0, some ⟨w.heap.size, 0, none⟩, 0, Nat.zero_le _, Nat.zero_le _, rfl, rfl, Nat.le_refl _, own_empty _ _ _, by go_grown⟩
  case round =>
    obtain ⟨k, m, A', c', hk, hk12, rfl, rfl, hm, hown, hbw⟩ := hrel
    have hbs := hbw.size
    by_cases hlt : k < n ∧ k < 12
    · obtain ⟨hlt, hlt2⟩ := hlt
      have hkl : k < l.length := by rw [HN.out]; exact hlt
      obtain ⟨g, o, rfl, hg, hc⟩ := (SA.out.below hbw) (List.ne_nil_of_length_pos (by omega))
      obtain ⟨c0, c1, c2⟩ := hc k l[k] (List.getElem?_eq_getElem hkl)
      have hst : rawT (l.take (k + 1)) = stepT (rawT (l.take k)) l[k] := by rw [List.take_succ_eq_append_getElem hkl, rawT_snoc]
      obtain ⟨⟨x, y, z⟩, hx⟩ : ∃ a, l[k] = a := ⟨_, rfl⟩
      obtain ⟨out, hout⟩ : ∃ out, rawT (l.take k) = out := ⟨_, rfl⟩
      rw [hx] at c0 c1 c2 hst
      rw [hout] at hst hown
      dsimp only at c0 c1 c2
      unfold stepT triAce at hst
      dsimp only at hst
      have hml := own_len hown
      obtain ⟨e, he⟩ : ∃ e, aceOf x y z = e := ⟨_, rfl⟩
      have cA := fun W => ace_any x y z W
      rw [he] at cA hst
      have cT := fun W (h : Aces W A' out) => at_any A' m c' out e hml (by omega) W h
      obtain ⟨ew, el, er, ee, eg⟩ := e
      obtain ⟨r, hr⟩ : ∃ r, atL out ⟨ew, el, er, ee, eg⟩ = r := ⟨_, rfl⟩
      rw [hr] at cT hst
      unfold av at cA cT
      dsimp only at cA cT
      have k0 : (0 : Int) ≤ (k : Int) := by omega
      have CA := Lib.hid cA
      have CT := Lib.hid cT
      have HOWN := Lib.hid hown
      have HOUT := Lib.hid hout
      clear hc hx SA hout hown hml he cA cT hr
      by_cases hr0 : r = 0
      · rw [if_pos hr0] at hst
        have HST := Lib.hid hst
        have br : (r == 0) = true := by simp [hr0]
        clear hr0 hst
        go_wp2_with (first | (go_at_call 29; refine (CA.out _).mono ?_; rintro x' w1 ⟨rfl, hb1⟩; have hb1' := hbw.trans (hb1.mono hbs); have HR1 := Lib.hid (own_keep HOWN.out hb1); have hbx := Lib.hid (hb1.trans (((Below.refl _ w1).alloc (Nat.le_refl _) (.cells #[.int .i64 ew, .bool el, .int .i64 er, .int .i64 ee, .bool eg] 31)).mono hb1.size)); have HRX := Lib.hid (own_keep HOWN.out hbx.out); have hs1 := hb1.size) | (go_at_call 31; refine (CT.out _ (Aces.of_own HRX.out)).mono ?_; rintro x' w2 ⟨rfl, hb2⟩; obtain ⟨h0, h1, h2, h3, h4, _⟩ := after5 hb2; have hb3 := Lib.hid (hbx.out.trans (hb2.mono hbx.out.size)); have HR2 := Lib.hid (own_keep HRX.out hb2); have hs2 := hb3.out.size) | (at_builtin; refine wpList_append_own _ rfl _ _ 22 rfl w.heap.size 31 i0 _ 5 40 Try.underlying22 hi hz0 hz1 hz2 rfl (by decide) _ _ _ rfl (HR2.out.alloc _) ⟨w2.heap.size, 0, none⟩ 1 1 (enc ⟨ew, el, er, ee, eg⟩) rfl rfl (cells_new w2 _ _) (enc_one _) (by unfold maxLen; omega) (by omega) (by simp; omega) ?_; intro v' w3 hown' hgrow _; obtain ⟨g', cap', rfl⟩ := ownsRow_succ hown'))
        go_roundw
        case rel =>
          refine ⟨k + 1, m + 1, some ⟨g', 0, none⟩, cap', by omega, by omega, by go_num, rfl, by omega, by rw [HST.out, encs_append, encs_one]; exact hown', ?_⟩
          exact ((hbw.trans (hb3.out.mono hbs)).alloc (by omega) _).grown hgrow (by simp; omega) (fun j hj => (HR2.out.lt j hj).1)
        case measure => simp [intOf]; omega
      · rw [if_neg hr0] at hst
        have HST := Lib.hid hst
        have br : (r == 0) = false := by simp [hr0]
        clear hr0 hst
        go_wp2_with (first | (go_at_call 29; refine (CA.out _).mono ?_; rintro x' w1 ⟨rfl, hb1⟩; have hbx := Lib.hid (hb1.trans (((Below.refl _ w1).alloc (Nat.le_refl _) (.cells #[.int .i64 ew, .bool el, .int .i64 er, .int .i64 ee, .bool eg] 31)).mono hb1.size)); have HRX := Lib.hid (own_keep HOWN.out hbx.out)) | (go_at_call 31; refine (CT.out _ (Aces.of_own HRX.out)).mono ?_; rintro x' w2 ⟨rfl, hb2⟩; have hb3 := Lib.hid (hbx.out.trans (hb2.mono hbx.out.size)); have HR2 := Lib.hid (own_keep HRX.out hb2)))
        go_roundw
        case rel => exact ⟨k + 1, m, A', c', by omega, by omega, by go_num, rfl, by omega, by rw [HST.out]; exact HR2.out, hbw.trans (hb3.out.mono hbs)⟩
        case measure => simp [intOf]; omega
    · have hfull : l.take k = l.take 12 := by
        by_cases h12 : k = 12
        · rw [h12]
        · rw [List.take_of_length_le (by rw [HN.out]; omega), List.take_of_length_le (by rw [HN.out]; omega)]
      rw [hfull] at hown
      obtain ⟨out, hout⟩ : ∃ out, rawT (l.take 12) = out := ⟨_, rfl⟩
      rw [hout] at hown
      have HL := Lib.hid (show listL l = ownL out false ++ ownL out true by unfold listL; rw [hout])
      have hml := own_len hown
      have CF := Lib.hid (fun W (h : Aces W A' out) => rown_any A' m c' out hml (by omega) false W h)
      have CT := Lib.hid (fun W (h : Aces W A' out) => rown_any A' m c' out hml (by omega) true W h)
      have HOWN := Lib.hid hown
      have q1 := ownL_len out false
      have q2 := ownL_len out true
      rw [hml] at q1 q2
      clear hfull hout hown hml
      have hbranch : ((k : Int) < (n : Int) ∧ ¬ (k : Int) < 12) ∨ ¬ (k : Int) < (n : Int) := by omega
      rcases hbranch with ⟨j1, j2⟩ | j1
      all_goals
        go_wp2_with (first | (go_at_call 30; first | ((with_reducible refine (CF.out _ (Aces.of_own HOWN.out)).mono ?_); rintro x' w1 ⟨A1, m1, c1, rfl, hr1, hb1⟩; have HR1 := Lib.hid hr1; have hm1 := own_len hr1; have HOW1 := Lib.hid (own_keep HOWN.out hb1); clear hr1) | ((with_reducible refine (CT.out _ (Aces.of_own HOW1.out)).mono ?_); rintro x' w2 ⟨A2, m2, c2, rfl, hr2, hb2⟩; have HR2 := Lib.hid hr2; have hm2 := own_len hr2; have HR1' := Lib.hid (own_mono (own_keep HR1.out hb2) hbs); have hb3 := hbw.trans ((hb1.trans (hb2.mono hb1.size)).mono hbs); have hs3 := hb3.size; clear hr2)) | (at_builtin; refine wpList_append_two rfl _ _ rfl w.heap.size rfl HR1'.out rfl (Aces.of_own HR2.out) hm2 (own_none HR2.out) (by omega) hs3 ?_; intro A3 c3 w3 hown' hgrow))
        go_ret
        exact ⟨A3, _, c3, rfl, by rw [HL.out]; exact hown', hb3.grown hgrow hs3 (fun j hj => (HR1'.out.lt j hj).1)⟩
end Go.Proofs.Ytkpedfigaofloaa
