/-
  Plain facts of the rights that a list gives: what one entry more at either end does.
-/
import Derived.Test.YtkpedfigaofloaaPf
namespace Go.Proofs.Ytkpedfigaofloaa
namespace Ap
theorem bit_ext {x y : BitVec 64} (h : ∀ i, i < 64 → x.getLsbD i = y.getLsbD i) : x = y := BitVec.eq_of_getLsbD_eq h
/-- A fold from another start. -/
theorem foldR_from (who owner : Int) (s : BitVec 64 × BitVec 64) (hs : s.2 &&& 15 = s.2) (l : List Ac) :
    l.foldl (stepR who owner) s = (s.1 ||| ((foldR l who owner).1 &&& s.2), (foldR l who owner).2 &&& s.2) := by
  suffices H : ∀ (l : List Ac) (t : BitVec 64 × BitVec 64), l.foldl (stepR who owner) (s.1 ||| (t.1 &&& s.2), t.2 &&& s.2) = (s.1 ||| ((l.foldl (stepR who owner) t).1 &&& s.2), (l.foldl (stepR who owner) t).2 &&& s.2) by
    have h := H l (0, 15)
    have e : (s.1 ||| ((0 : BitVec 64) &&& s.2), (15 : BitVec 64) &&& s.2) = s := by
      rw [BitVec.and_comm 15, hs]
      simp
    rw [show ((0, 15) : BitVec 64 × BitVec 64).1 = 0 from rfl, show ((0, 15) : BitVec 64 × BitVec 64).2 = 15 from rfl, e] at h
    exact h
  intro l
  induction l with
  | nil => exact fun _ => rfl
  | cons e l ih =>
    intro t
    rw [List.foldl_cons, List.foldl_cons, ← ih]
    congr 1
    unfold stepR
    split
    · split
      · refine Prod.ext ?_ ?_
        · refine bit_ext fun i hi => ?_
          simp only [BitVec.getLsbD_or, BitVec.getLsbD_and]
          cases s.1.getLsbD i <;> cases s.2.getLsbD i <;> cases t.1.getLsbD i <;> cases t.2.getLsbD i <;> cases (bv e.rights).getLsbD i <;> rfl
        · refine bit_ext fun i hi => ?_
          simp only [BitVec.getLsbD_and, BitVec.getLsbD_not, hi, decide_true, Bool.true_and]
          cases s.2.getLsbD i <;> cases t.2.getLsbD i <;> cases (bv e.rights).getLsbD i <;> rfl
      · refine Prod.ext rfl ?_
        refine bit_ext fun i hi => ?_
        simp only [BitVec.getLsbD_and, BitVec.getLsbD_not, hi, decide_true, Bool.true_and]
        cases s.2.getLsbD i <;> cases t.2.getLsbD i <;> cases (bv e.rights).getLsbD i <;> rfl
    · rfl
theorem foldR_small (l : List Ac) (who owner : Int) : (foldR l who owner).1 &&& 15 = (foldR l who owner).1 ∧ (foldR l who owner).2 &&& 15 = (foldR l who owner).2 := by
  suffices H : ∀ (l : List Ac) (t : BitVec 64 × BitVec 64), t.1 &&& 15 = t.1 ∧ t.2 &&& 15 = t.2 → (l.foldl (stepR who owner) t).1 &&& 15 = (l.foldl (stepR who owner) t).1 ∧ (l.foldl (stepR who owner) t).2 &&& 15 = (l.foldl (stepR who owner) t).2 from
    H l (0, 15) ⟨by decide, by decide⟩
  intro l
  induction l with
  | nil => exact fun _ h => h
  | cons e l ih =>
    intro t ht
    obtain ⟨h1, h2⟩ := ht
    refine ih _ ?_
    have and15 : ∀ x y : BitVec 64, y &&& 15 = y → (x &&& y) &&& 15 = x &&& y := fun x y h => by rw [BitVec.and_assoc, h]
    have or15 : ∀ x y : BitVec 64, x &&& 15 = x → y &&& 15 = y → (x ||| y) &&& 15 = x ||| y := fun x y hx hy => by
      refine bit_ext fun i hi => ?_
      have hx' := congrArg (fun z => BitVec.getLsbD z i) hx
      have hy' := congrArg (fun z => BitVec.getLsbD z i) hy
      simp only [BitVec.getLsbD_and, BitVec.getLsbD_or] at hx' hy' ⊢
      revert hx' hy'
      cases x.getLsbD i <;> cases y.getLsbD i <;> cases (15 : BitVec 64).getLsbD i <;> simp
    have hn : (t.2 &&& ~~~(bv e.rights)) &&& 15 = t.2 &&& ~~~(bv e.rights) := by rw [BitVec.and_comm t.2]; exact and15 _ _ h2
    unfold stepR
    split
    · split
      · exact ⟨or15 _ _ h1 (and15 _ _ h2), hn⟩
      · exact ⟨h1, hn⟩
    · exact ⟨h1, h2⟩
theorem small_toInt {x : BitVec 64} (h : x &&& 15 = x) : 0 ≤ x.toInt ∧ x.toInt ≤ 15 := by
  have h1 : x.toNat ≤ 15 := by
    rw [← h, BitVec.toNat_and]
    exact Nat.and_le_right
  rw [BitVec.toInt_eq_toNat_of_lt (by omega)]
  omega
theorem bv_small {x : Int} (h : 1 ≤ x ∧ x ≤ 15) : bv x &&& 15 = bv x := by
  have H : ∀ y : Fin 16, bv (y.val : Int) &&& 15 = bv (y.val : Int) := by decide +kernel
  have := H ⟨x.toNat, by omega⟩
  have e1 : ((x.toNat : Nat) : Int) = x := by omega
  dsimp only at this
  rw [e1] at this
  exact this
/-- An entry more at the end, for one who is neither the number 0 nor the owner. -/
theorem foldR_last (l : List Ac) (e : Ac) (who owner : Int) : (foldR l who owner).1 &&& ~~~(foldR (l ++ [e]) who owner).1 = 0 ∧ (e.allow = false → (foldR (l ++ [e]) who owner).1 = (foldR l who owner).1) ∧ (cnt e who owner = false → (foldR (l ++ [e]) who owner).1 = (foldR l who owner).1) := by
  rw [foldR_snoc]
  unfold stepR
  have self : ∀ x : BitVec 64, x &&& ~~~x = 0 := fun x => by simp
  cases hc : cnt e who owner <;> cases ha : e.allow <;> simp
  refine bit_ext fun i hi => ?_
  simp only [BitVec.getLsbD_and, BitVec.getLsbD_not, BitVec.getLsbD_or, hi, decide_true, Bool.true_and]
  cases (foldR l who owner).1.getLsbD i <;> simp
/-- An entry more in front. -/
theorem foldR_first (l : List Ac) (e : Ac) (who owner : Int) (hr : 1 ≤ e.rights ∧ e.rights ≤ 15) :
    (foldR (e :: l) who owner).1 = if cnt e who owner = true then (if e.allow = true then (foldR l who owner).1 ||| bv e.rights else (foldR l who owner).1 &&& ~~~(bv e.rights)) else (foldR l who owner).1 := by
  obtain ⟨h1, _⟩ := foldR_small l who owner
  have h3 := bv_small hr
  show (l.foldl (stepR who owner) (stepR who owner (0, 15) e)).1 = _
  obtain ⟨p, hp⟩ : ∃ p, (foldR l who owner).1 = p := ⟨_, rfl⟩
  obtain ⟨r, hr'⟩ : ∃ r, bv e.rights = r := ⟨_, rfl⟩
  have hn : ((15 : BitVec 64) &&& ~~~r) &&& 15 = (15 : BitVec 64) &&& ~~~r := by
    rw [BitVec.and_comm, ← BitVec.and_assoc]; simp
  have e1 : stepR who owner (0, 15) e = if cnt e who owner = true then (if e.allow = true then (0 : BitVec 64) ||| (r &&& 15) else 0, 15 &&& ~~~r) else (0, 15) := by
    unfold stepR; rw [hr']
  rw [e1]
  rw [hr'] at h3 ⊢
  rw [hp] at h1
  cases hc : cnt e who owner
  · simp only [Bool.false_eq_true, if_false]; rfl
  · simp only [if_true]
    rw [foldR_from who owner _ hn l, hp]
    cases ha : e.allow
    · simp only [Bool.false_eq_true, if_false]
      refine bit_ext fun i hi => ?_
      have h1' := congrArg (fun z => BitVec.getLsbD z i) h1
      simp only [BitVec.getLsbD_and, BitVec.getLsbD_or, BitVec.getLsbD_not, hi, decide_true, Bool.true_and] at h1' ⊢
      revert h1'
      cases p.getLsbD i <;> cases r.getLsbD i <;> cases (15 : BitVec 64).getLsbD i <;> simp
    · simp only [if_true]
      refine bit_ext fun i hi => ?_
      have h1' := congrArg (fun z => BitVec.getLsbD z i) h1
      have h3' := congrArg (fun z => BitVec.getLsbD z i) h3
      simp only [BitVec.getLsbD_and, BitVec.getLsbD_or, BitVec.getLsbD_not, hi, decide_true, Bool.true_and] at h1' h3' ⊢
      revert h1' h3'
      cases p.getLsbD i <;> cases r.getLsbD i <;> cases (15 : BitVec 64).getLsbD i <;> simp
theorem or_small {x y : BitVec 64} (hx : x &&& 15 = x) (hy : y &&& 15 = y) : (x ||| y) &&& 15 = x ||| y := by
  refine bit_ext fun i hi => ?_
  have hx' := congrArg (fun z => BitVec.getLsbD z i) hx
  have hy' := congrArg (fun z => BitVec.getLsbD z i) hy
  simp only [BitVec.getLsbD_and, BitVec.getLsbD_or] at hx' hy' ⊢
  revert hx' hy'
  cases x.getLsbD i <;> cases y.getLsbD i <;> cases (15 : BitVec 64).getLsbD i <;> simp
theorem rightsV_small (l : List Ac) (who owner : Int) : rightsV l who owner &&& 15 = rightsV l who owner := by
  unfold rightsV
  split
  · decide
  · split
    · exact or_small (foldR_small l who owner).1 (by decide)
    · exact (foldR_small l who owner).1
theorem rightsV_rule (l : List Ac) (who owner : Int) (h : who = 0 ∨ who = owner) : rightsV l who owner &&& 8 = 8 := by
  unfold rightsV
  split
  · decide
  · rename_i h0
    rw [if_pos (h.resolve_left h0)]
    refine bit_ext fun i hi => ?_
    simp only [BitVec.getLsbD_and, BitVec.getLsbD_or]
    cases (foldR l who owner).1.getLsbD i <;> cases (8 : BitVec 64).getLsbD i <;> rfl
theorem rightsV_other (l : List Ac) (who owner : Int) (h0 : who ≠ 0) (h1 : who ≠ owner) : rightsV l who owner = (foldR l who owner).1 := by
  unfold rightsV
  rw [if_neg h0, if_neg h1]
theorem rightsV_zero (l : List Ac) (owner : Int) : rightsV l 0 owner = 15 := by unfold rightsV; rw [if_pos rfl]
/-- An entry counts for one who is not the owner. -/
theorem cnt_other {ew : Int} {el : Bool} {er ee : Int} {eg : Bool} {who owner : Int} (h1 : who ≠ owner) (hr : 1 ≤ ee ∧ ee ≤ 3) : cnt ⟨ew, el, er, ee, eg⟩ who owner = !((ee == 3) || ((ew != who) && (ew != -1))) := by
  have hw : (who == owner) = false := by simpa using h1
  have h3 : ee = 1 ∨ ee = 2 ∨ ee = 3 := by omega
  unfold cnt
  dsimp only
  rw [hw]
  rcases h3 with rfl | rfl | rfl <;> cases ha : (ew == who) <;> cases hb : (ew == -1) <;> simp [bne, ha, hb]
end Ap
end Go.Proofs.Ytkpedfigaofloaa
