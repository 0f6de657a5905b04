/-
  Plain mathematics on lists of bytes for layer 1, third part: cutting a text at its slashes, once or everywhere. No program is imported here.
-/
import Derived.Test.YtimlfdlocjfgaaaDoorPm
namespace Go.Proofs.YtimlfdlocjfgaaaDoor.Pl

theorem libcut_nil : Lib.cut [] [47] = ([], [], false) := rfl
theorem libcut_slash (l : Bs) : Lib.cut (47 :: l) [47] = ([], l, true) := by
  have h : Lib.index (47 :: l) [47] = 0 := by unfold Lib.index; simp
  unfold Lib.cut; rw [h]; simp
theorem libcut_cons {b : UInt8} (l : Bs) (hb : b ≠ 47) : Lib.cut (b :: l) [47] = (b :: (Lib.cut l [47]).1, (Lib.cut l [47]).2.1, (Lib.cut l [47]).2.2) := by
  have hp : List.isPrefixOf [47] (b :: l) = false := by simp [List.isPrefixOf, hb.symm]
  have hge := Lib.index_ge l [47]
  unfold Lib.cut
  rw [Lib.index, hp]
  by_cases h : Lib.index l [47] = -1
  · simp [h]
  · have h0 : 0 ≤ Lib.index l [47] := by omega
    have e : (Lib.index l [47] == -1) = false := by rw [beq_eq_false_iff_ne]; exact h
    obtain ⟨k, hk⟩ := Int.eq_ofNat_of_zero_le h0
    rw [hk] at e h0 ⊢
    simp only [Bool.false_eq_true, if_false, e, if_pos h0]
    rw [if_pos (by omega)]
    have e2 : ((k : Int) + 1).toNat = k + 1 := by omega
    rw [e2]
    simp
theorem cutGo_step (r : Bs) : ∀ last : Bs, cutGo last r = (last ++ (Lib.cut r [47]).1) :: (if (Lib.cut r [47]).2.2 then cutGo [] (Lib.cut r [47]).2.1 else []) := by
  induction r with
  | nil => intro last; simp [cutGo, libcut_nil]
  | cons b l ih =>
    intro last
    by_cases hb : b = 47
    · subst hb; rw [libcut_slash]; simp [cutGo]
    · rw [cutGo, if_neg hb, ih, libcut_cons l hb]; simp
theorem libcut_len (r : Bs) : (Lib.cut r [47]).1.length ≤ r.length ∧ ((Lib.cut r [47]).2.2 = true → (Lib.cut r [47]).2.1.length < r.length) := by
  induction r with
  | nil => simp [libcut_nil]
  | cons b l ih =>
    by_cases hb : b = 47
    · subst hb; rw [libcut_slash]; simp
    · rw [libcut_cons l hb]
      refine ⟨by simp; exact ih.1, fun h => ?_⟩
      have := ih.2 h
      simp; omega
theorem libcut_len2 (r : Bs) : (Lib.cut r [47]).2.1.length ≤ r.length := by
  induction r with
  | nil => simp [libcut_nil]
  | cons b l ih =>
    by_cases hb : b = 47
    · subst hb; rw [libcut_slash]; simp
    · rw [libcut_cons l hb]
      simp; omega
theorem cutGo_cut {p : Bs} (h : p ≠ []) : cutGo [] p = cut p := by unfold cut; rw [if_neg h]
theorem cut_nil : cut [] = [] := rfl
theorem cutGo_len (r : Bs) : ∀ last : Bs, (cutGo last r).length ≤ r.length + 1 := by
  induction r with
  | nil => intro last; simp [cutGo]
  | cons b l ih =>
    intro last
    unfold cutGo
    split
    · have := ih []; simp; omega
    · have := ih (last ++ [b]); simp; omega
theorem cut_len (p : Bs) : (cut p).length ≤ p.length + 1 := by unfold cut; split; simp; exact cutGo_len p []

/-- Of a path: at most 8 names so far, all right. -/
def goodPre (l : List Bs) : Prop := l.all vld = true ∧ l.length ≤ 8
def badPre (l : List Bs) : Prop := l.all vld = false ∨ 8 < l.length
theorem good_path {p : Bs} (h : goodPre (cut p)) : isPath p = true := by simp [isPath, h.1, h.2]
theorem bad_path {p : Bs} {l : List Bs} (h : badPre l) (hl : l <+: cut p) : isPath p = false := by
  obtain ⟨r, hr⟩ := hl
  unfold isPath
  rw [← hr]
  rcases h with h | h
  · rw [List.all_append, h]; simp
  · have : decide ((l ++ r).length ≤ 8) = false := by simp; omega
    rw [this, Bool.and_false]
theorem good_snoc {l : List Bs} {x : Bs} (h : goodPre l) (h8 : l.length ≠ 8) (hx : vld x = true) : goodPre (l ++ [x]) := by
  refine ⟨by simp [h.1, hx], ?_⟩
  have := h.2
  simp; omega
theorem bad_snoc {l : List Bs} {x : Bs} (hx : vld x = false) : badPre (l ++ [x]) := .inl (by simp [hx])
theorem bad_long {l : List Bs} {x : Bs} (h8 : l.length = 8) : badPre (l ++ [x]) := .inr (by simp; omega)

end Go.Proofs.YtimlfdlocjfgaaaDoor.Pl
