/-
  Plain facts of the children's lists: they are valid, they have the same rights joined, and the children's children are the children.
-/
import Derived.Test.YtkpedfigaofloaaPe
namespace Go.Proofs.Ytkpedfigaofloaa
namespace Ap
/-! ### Rights joined over a list -/
def orF (v : Ac → BitVec 64) : List Ac → BitVec 64
  | [] => 0
  | x :: l => v x ||| orF v l
def vW (k : Int) (b : Bool) (x : Ac) : BitVec 64 := if x.who = k ∧ x.allow = b then bv x.rights else 0
def vX (k : Int) (b : Bool) (x : Ac) : BitVec 64 := if x.reach ≠ 1 then vW k b x else 0
theorem orF_append (v : Ac → BitVec 64) (l m : List Ac) : orF v (l ++ m) = orF v l ||| orF v m := by
  induction l with
  | nil => simp [orF]
  | cons a l ih => rw [List.cons_append, orF, orF, ih, BitVec.or_assoc]
theorem orF_snoc (v : Ac → BitVec 64) (l : List Ac) (x : Ac) : orF v (l ++ [x]) = orF v l ||| v x := by rw [orF_append]; simp [orF]
theorem orF_join (k : Int) (b : Bool) (a e : Ac) (h : a.mk0 = e.mk0) : vW k b (a.join e) = vW k b a ||| vW k b e := by
  have hw : a.who = e.who := by have h2 := congrArg Ac.who h; exact h2
  have hl : a.allow = e.allow := by have h2 := congrArg Ac.allow h; exact h2
  unfold vW
  show (if a.who = k ∧ a.allow = b then bv (bv a.rights ||| bv e.rights).toInt else 0) = _
  rw [hw, hl, bv_toInt]
  split <;> simp
theorem orF_addC (k : Int) (b : Bool) (e : Ac) : ∀ out : List Ac, (out.map Ac.mk0).Nodup → orF (vW k b) (addC out e) = orF (vW k b) out ||| vW k b e := by
  intro out hd
  by_cases hm : e.mk0 ∈ out.map Ac.mk0
  · unfold addC
    rw [if_pos hm]
    induction out with
    | nil => simp at hm
    | cons x l ih =>
      rw [List.map_cons, List.nodup_cons] at hd
      by_cases hx : x.mk0 = e.mk0
      · have hl : l.map (fun a => if a.mk0 = e.mk0 then a.join e else a) = l := by
          conv => rhs; rw [← List.map_id l]
          refine List.map_congr_left fun a ha => ?_
          rw [if_neg]
          · rfl
          · intro h
            exact hd.1 (by rw [hx, ← h]; exact List.mem_map_of_mem ha)
        rw [List.map_cons, hl, if_pos hx, orF, orF, orF_join k b x e hx, BitVec.or_assoc, BitVec.or_assoc, BitVec.or_comm (vW k b e)]
      · have hm' : e.mk0 ∈ l.map Ac.mk0 := by
          rw [List.map_cons] at hm
          rcases List.mem_cons.1 hm with h | h
          · exact absurd h.symm hx
          · exact h
        rw [List.map_cons, if_neg hx, orF, orF, ih hd.2 hm', BitVec.or_assoc]
  · rw [addC_new hm, orF_snoc]
theorem child_or (k : Int) (b : Bool) (rc : Int) (a : List Ac) (h : ∀ x ∈ a, 1 ≤ x.reach ∧ x.reach ≤ 3) : orF (vW k b) (childL a rc) = orF (vX k b) a := by
  suffices H : ∀ (l : List Ac), (∀ x ∈ l, 1 ≤ x.reach ∧ x.reach ≤ 3) → ∀ out : List Ac, (out.map Ac.mk0).Nodup → orF (vW k b) (l.foldl (stepC rc) out) = orF (vW k b) out ||| orF (vX k b) l by
    have := H a h [] (by simp)
    simpa [orF, childL] using this
  intro l
  induction l with
  | nil => intro _ out _; simp [orF]
  | cons x l ih =>
    intro hl out hd
    have hx := hl x (List.mem_cons_self ..)
    have hl' : ∀ y ∈ l, 1 ≤ y.reach ∧ y.reach ≤ 3 := fun y hy => hl y (List.mem_cons_of_mem _ hy)
    have hst : stepC rc out x = if x.reach = 2 ∨ x.reach = 3 then addC out (toC rc x) else out := rfl
    rw [List.foldl_cons, orF, hst]
    by_cases hr : x.reach = 2 ∨ x.reach = 3
    · rw [if_pos hr, ih hl' _ (addC_nodup hd), orF_addC k b _ _ hd, BitVec.or_assoc]
      congr 2
      unfold vX
      rw [if_pos (by omega)]
      rfl
    · rw [if_neg hr, ih hl' _ hd]
      unfold vX
      rw [if_neg (by omega)]
      simp

/-! ### Valid -/
theorem or15 : ∀ x : Fin 16, ∀ y : Fin 16, 1 ≤ x.val → 1 ≤ (bv (x.val : Int) ||| bv (y.val : Int)).toInt ∧ (bv (x.val : Int) ||| bv (y.val : Int)).toInt ≤ 15 := by decide +kernel
theorem or_range {x y : Int} (hx : 1 ≤ x ∧ x ≤ 15) (hy : 1 ≤ y ∧ y ≤ 15) : 1 ≤ (bv x ||| bv y).toInt ∧ (bv x ||| bv y).toInt ≤ 15 := by
  have := or15 ⟨x.toNat, by omega⟩ ⟨y.toNat, by omega⟩ (by show 1 ≤ x.toNat; omega)
  have e1 : ((x.toNat : Nat) : Int) = x := by omega
  have e2 : ((y.toNat : Nat) : Int) = y := by omega
  dsimp only at this
  rw [e1, e2] at this
  exact this
theorem right_iff {a : Ac} : right a = true ↔ (-2 ≤ a.who ∧ a.who ≤ 999) ∧ (1 ≤ a.rights ∧ a.rights ≤ 15) ∧ (1 ≤ a.reach ∧ a.reach ≤ 3) := by
  unfold right
  simp only [Bool.and_eq_true, decide_eq_true_eq]
  omega
theorem right_join {a e : Ac} (ha : right a = true) (he : right e = true) : right (a.join e) = true := by
  rw [right_iff] at ha he ⊢
  exact ⟨ha.1, or_range ha.2.1 he.2.1, ha.2.2⟩
theorem childL_right (rc : Int) (hrc : 1 ≤ rc ∧ rc ≤ 3) (l : List Ac) (h : ∀ a ∈ l, right a = true) : ∀ a ∈ childL l rc, right a = true := by
  suffices H : ∀ (l : List Ac), (∀ a ∈ l, right a = true) → ∀ out : List Ac, (∀ a ∈ out, right a = true) → ∀ a ∈ l.foldl (stepC rc) out, right a = true from H l h [] (by simp)
  intro l
  induction l with
  | nil => exact fun _ _ h => h
  | cons x l ih =>
    intro hl out ho
    refine ih (fun y hy => hl y (List.mem_cons_of_mem _ hy)) _ ?_
    have hx : right (toC rc x) = true := by
      have := right_iff.1 (hl x (List.mem_cons_self ..))
      exact right_iff.2 ⟨this.1, this.2.1, hrc⟩
    unfold stepC
    split
    · unfold addC
      split
      · intro a ha
        obtain ⟨b, hb, rfl⟩ := List.mem_map.1 ha
        split
        · exact right_join (ho b hb) hx
        · exact ho b hb
      · intro a ha
        rcases List.mem_append.1 ha with h1 | h1
        · exact ho a h1
        · simp at h1; rw [h1]; exact hx
    · exact ho
theorem goV_given : ∀ (l seen : List Ac) (g : Bool), (∀ a ∈ l, right a = true ∧ a.given = true) → (l.map Ac.mk0).Nodup → (∀ a ∈ l, a.mk0 ∉ seen) → goV seen g l = true
  | [], _, _, _, _, _ => rfl
  | a :: l, seen, g, h, hd, hs => by
    rw [List.map_cons, List.nodup_cons] at hd
    obtain ⟨hr, hg⟩ := h a (List.mem_cons_self ..)
    have hr' := right_iff.1 hr
    have hin : inR a = true := by unfold inR; simp only [Bool.and_eq_true, decide_eq_true_eq]; omega
    have h0 : (a.rights == 0) = false := by simp; omega
    have hb : badV seen g a = false := by
      unfold badV
      rw [hin, h0, hg, decide_eq_false (hs a (List.mem_cons_self ..))]
      simp
    unfold goV
    rw [if_neg (by rw [hb]; simp)]
    refine goV_given l _ _ (fun b hb => h b (List.mem_cons_of_mem _ hb)) hd.2 fun b hb hm => ?_
    rcases List.mem_cons.1 hm with h1 | h1
    · exact hd.1 (by rw [← h1]; exact List.mem_map_of_mem hb)
    · exact hs b (List.mem_cons_of_mem _ hb) h1
theorem child_valid (l : List Ac) (dir : Bool) (h : ∀ a ∈ l, right a = true) (hl : l.length ≤ 16) : validB (childL l (rcOf dir)) = true := by
  unfold validB
  rw [decide_eq_true (Nat.le_trans (childL_len _ _) hl), Bool.true_and]
  refine goV_given _ _ _ (fun a ha => ⟨childL_right _ ?_ l h a ha, (childL_given l _ a ha).1⟩) (childL_nodup _ _) (by simp)
  cases dir <;> simp [rcOf]

/-! ### The children's children -/
theorem toC_mark (rc : Int) {a e : Ac} (ha : a.given = true ∧ a.reach = 2) : (toC rc a).mk0 = (toC rc e).mk0 ↔ a.mk0 = (toC 2 e).mk0 := by
  obtain ⟨aw, al, ar, ae, ag⟩ := a
  obtain ⟨rfl, rfl⟩ := ha
  simp [toC, Ac.mk0]
theorem toC_step (rc : Int) (out : List Ac) (e : Ac) (ho : ∀ a ∈ out, a.given = true ∧ a.reach = 2) : stepC rc (out.map (toC rc)) e = (stepC 2 out e).map (toC rc) := by
  unfold stepC
  split
  · unfold addC
    have hm : ((toC rc e).mk0 ∈ (out.map (toC rc)).map Ac.mk0) ↔ ((toC 2 e).mk0 ∈ out.map Ac.mk0) := by
      simp only [List.map_map, List.mem_map, Function.comp]
      constructor
      · rintro ⟨a, ha, h⟩
        exact ⟨a, ha, (toC_mark rc (ho a ha)).1 h⟩
      · rintro ⟨a, ha, h⟩
        exact ⟨a, ha, (toC_mark rc (ho a ha)).2 h⟩
    by_cases h : (toC 2 e).mk0 ∈ out.map Ac.mk0
    · rw [if_pos h, if_pos (hm.2 h), List.map_map, List.map_map]
      refine List.map_congr_left fun a ha => ?_
      simp only [Function.comp]
      by_cases hk : a.mk0 = (toC 2 e).mk0
      · rw [if_pos hk, if_pos ((toC_mark rc (ho a ha)).2 hk)]
        rfl
      · rw [if_neg hk, if_neg (fun h => hk ((toC_mark rc (ho a ha)).1 h))]
    · rw [if_neg h, if_neg (fun h' => h (hm.1 h')), List.map_append]
      rfl
  · rfl
theorem child_to (rc : Int) (l : List Ac) : childL l rc = (childL l 2).map (toC rc) := by
  suffices H : ∀ (l out : List Ac), (∀ a ∈ out, a.given = true ∧ a.reach = 2) → l.foldl (stepC rc) (out.map (toC rc)) = (l.foldl (stepC 2) out).map (toC rc) from H l [] (by simp)
  intro l
  induction l with
  | nil => exact fun _ _ => rfl
  | cons e l ih =>
    intro out ho
    rw [List.foldl_cons, List.foldl_cons, toC_step rc out e ho]
    exact ih _ (foldC_all (p := fun a => a.given = true ∧ a.reach = 2) 2 (fun _ _ h => h) [e] (fun _ _ => ⟨rfl, rfl⟩) out ho)
theorem child_map (rc : Int) (X : List Ac) (hd : (X.map Ac.mk0).Nodup) (h : ∀ a ∈ X, a.given = true ∧ a.reach = 2) : childL X rc = X.map (toC rc) := by
  suffices H : ∀ (l P : List Ac), ((P ++ l).map Ac.mk0).Nodup → (∀ a ∈ P ++ l, a.given = true ∧ a.reach = 2) → l.foldl (stepC rc) (P.map (toC rc)) = (P ++ l).map (toC rc) from H X [] hd h
  intro l
  induction l with
  | nil => intro P _ _; simp
  | cons x l ih =>
    intro P hP hq
    have hx := hq x (by simp)
    have hnew : (toC rc x).mk0 ∉ (P.map (toC rc)).map Ac.mk0 := by
      intro hm
      simp only [List.map_map, List.mem_map, Function.comp] at hm
      obtain ⟨a, ha, he⟩ := hm
      have hk := (toC_mark rc (e := x) (hq a (by simp [ha]))).1 he
      have hxx : (toC 2 x).mk0 = x.mk0 := by
        obtain ⟨xw, xl, xr, xe, xg⟩ := x
        obtain ⟨rfl, rfl⟩ := hx
        rfl
      rw [List.map_append, List.nodup_append] at hP
      exact hP.2.2 a.mk0 (List.mem_map_of_mem ha) x.mk0 (by simp) (hk.trans hxx)
    have hst : stepC rc (P.map (toC rc)) x = (P ++ [x]).map (toC rc) := by
      unfold stepC
      rw [if_pos (.inl hx.2), addC_new hnew, List.map_append]
      rfl
    rw [List.foldl_cons, hst]
    have := ih (P ++ [x]) (by simpa using hP) (by simpa using hq)
    rw [this]
    simp
theorem child_two (rc : Int) (l : List Ac) : childL (childL l 2) rc = childL l rc := by
  rw [child_map rc (childL l 2) (childL_nodup l 2) (childL_given l 2), ← child_to]
end Ap
end Go.Proofs.Ytkpedfigaofloaa
