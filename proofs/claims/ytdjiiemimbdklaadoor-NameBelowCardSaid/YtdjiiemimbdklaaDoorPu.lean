/-
  Plain facts of joining and splitting paths.
-/
import Derived.Test.YtdjiiemimbdklaaDoorPs
namespace Go.Proofs.YtdjiiemimbdklaaDoor.Pl
open Go.Proofs.YtdjiiemimbdklaaDoor

theorem joinS_bad {d n : Bs} (h : isPath d = false) : joinS d n = ([], 10) := by unfold joinS; rw [if_pos h]
theorem splitS_bad {d : Bs} (h : isPath d = false) : splitS d = ([], [], 10) := by unfold splitS; rw [if_pos h]
theorem joinS_name {d n : Bs} (h : isPath d = true) (hn : vld n = false) : joinS d n = ([], 11) := by unfold joinS; rw [if_neg (by rw [h]; simp), if_pos hn]
theorem joinS_deep {d n : Bs} (h : isPath d = true) (hn : vld n = true) (h8 : (cut d).length = 8) : joinS d n = ([], 2) := by
  unfold joinS; rw [if_neg (by rw [h]; simp), if_neg (by rw [hn]; simp), if_pos h8]
theorem joinS_yes {d n : Bs} (h : isPath d = true) (hn : vld n = true) (h8 : (cut d).length ≠ 8) : joinS d n = (under d n, 0) := by
  unfold joinS; rw [if_neg (by rw [h]; simp), if_neg (by rw [hn]; simp), if_neg h8]
theorem splitS_nil : splitS [] = ([], [], 1) := by unfold splitS; rw [if_neg (by decide), if_pos rfl]
theorem splitS_yes {d : Bs} (h : isPath d = true) (hd : d ≠ []) : splitS d = (dirOf d, lastOf d, 0) := by unfold splitS; rw [if_neg (by rw [h]; simp), if_neg hd]

theorem cut_under {d n : Bs} (hn : vld n = true) : cut (under d n) = cut d ++ [n] := by
  have h47 := vld_47 hn
  unfold under
  split
  · next h =>
    subst h
    rw [cut_nil, ← cutGo_cut (vld_ne hn), cutGo_none n [] h47]; rfl
  · next h =>
    rw [← cutGo_cut (by simp), cutGo_app, cutGo_none n [] h47, cutGo_cut h]; rfl
theorem split_under {d n : Bs} (h : isPath d = true) (hn : vld n = true) (h8 : (cut d).length ≠ 8) : splitS (under d n) = (d, n, 0) := by
  have h47 := vld_47 hn
  have hp : isPath (under d n) = true := by
    have hl := isPath_len h
    unfold isPath
    rw [cut_under hn]
    have ha : (cut d).all vld = true := List.all_eq_true.2 fun x hx => isPath_mem h hx
    rw [List.all_append, ha]
    simp [hn]; omega
  have hne : under d n ≠ [] := by
    have := vld_ne hn
    unfold under; split
    · exact this
    · simp
  rw [splitS_yes hp hne]
  by_cases hd : d = []
  · subst hd
    have hu : under [] n = n := rfl
    rw [hu]
    obtain ⟨a, b⟩ := split_none (vld_ne hn) h47
    rw [a, b]
  · obtain ⟨a, b⟩ := split_at (p := under d n) (a := d) (b := n) (by unfold under; rw [if_neg hd]) h47
    rw [a, b]
theorem join_split {d : Bs} (h : isPath d = true) (hd : d ≠ []) : joinS (dirOf d) (lastOf d) = (d, 0) := by
  have hne : cut d ≠ [] := fun e => hd (cut_eq_nil.1 e)
  have hpos := List.length_pos_iff.2 hne
  have hk : (cut d).length - 1 < (cut d).length := by omega
  have h1 := join_part hk (isPath_len h) (fun x hx => isPath_mem h hx)
  rw [show (cut d).length - 1 + 1 = (cut d).length by omega, List.take_length, jn_cut] at h1
  have hD : dirOf d = jn ((cut d).take ((cut d).length - 1)) := by unfold dirOf; rw [List.dropLast_eq_take]
  have hL : lastOf d = (cut d)[(cut d).length - 1] := by unfold lastOf; rw [List.getLastD_eq_getLast?, List.getLast?_eq_getElem?, List.getElem?_eq_getElem hk]; rfl
  rw [hD, hL]; exact h1
theorem dirOf_len {d : Bs} (h : isPath d = true) : (dirOf d).length ≤ 136 := by
  unfold dirOf; rw [List.dropLast_eq_take]
  exact jn_take_len _ (isPath_len h) (fun x hx => isPath_mem h hx)
theorem lastOf_len (d : Bs) : (lastOf d).length ≤ d.length := by
  unfold lastOf
  rw [List.getLastD_eq_getLast?]
  cases hg : (cut d).getLast? with
  | none => simp
  | some x => exact cut_mem_len x (List.mem_of_getLast? hg)
theorem under_len (d n : Bs) : (under d n).length ≤ d.length + 1 + n.length := by unfold under; split <;> simp <;> omega
end Go.Proofs.YtdjiiemimbdklaaDoor.Pl
