/-
  Plain facts for the law ExtentBytes: its two loops make bytesErr and bytesOut.
-/
import Derived.Test.YtggnklcjhbahhaaEt
namespace Go.Proofs.Ytggnklcjhbahhaa
open Go.RowKit Ex
set_option maxHeartbeats 400000
set_option maxRecDepth 100000

theorem out_next {bs : List (Int × Int)} {l : List Blb} {t : Nat} {x : Int × Int} (hx : bs[t]? = some x) : bytesOut (bs.take (t + 1)) l = bytesOut (bs.take t) l ++ (byteOf l x).toList := by
  obtain ⟨hl, hx⟩ := List.getElem?_eq_some_iff.1 hx
  unfold bytesOut
  rw [List.take_succ_eq_append_getElem hl, List.filterMap_append, hx]
  cases h : byteOf l x <;> simp [h]
/-- One round of the law's first loop; of its second. -/
def errStep (l : List Blb) (e : Int) (x : Int × Int) : Int := if x.1 = -1 then 60 else if (byteOf l x).isNone then (if e = 0 then 90 else e) else e
def errStep2 (e : Int) (x : Int × Int) : Int := if x.1 = -1 then 60 else e
def errL (l : List Blb) (bs : List (Int × Int)) : Int := bs.foldl (errStep l) 0
def errL2 (e : Int) (bs : List (Int × Int)) : Int := bs.foldl errStep2 e
theorem errL_next {bs : List (Int × Int)} {l : List Blb} {t : Nat} {x : Int × Int} (hx : bs[t]? = some x) : errL l (bs.take (t + 1)) = errStep l (errL l (bs.take t)) x := by
  obtain ⟨hl, hx⟩ := List.getElem?_eq_some_iff.1 hx
  unfold errL
  rw [List.take_succ_eq_append_getElem hl, List.foldl_append, hx]
  rfl
theorem errL2_next {bs : List (Int × Int)} {e : Int} {t : Nat} {x : Int × Int} (hx : bs[t]? = some x) : errL2 e (bs.take (t + 1)) = errStep2 (errL2 e (bs.take t)) x := by
  obtain ⟨hl, hx⟩ := List.getElem?_eq_some_iff.1 hx
  unfold errL2
  rw [List.take_succ_eq_append_getElem hl, List.foldl_append, hx]
  rfl
theorem errL2_eq : ∀ (bs : List (Int × Int)) (e : Int), errL2 e bs = if bs.any (fun x => x.1 == -1) then 60 else e
  | [], e => rfl
  | x :: bs, e => by
    show errL2 (errStep2 e x) bs = _
    rw [errL2_eq bs]
    unfold errStep2
    by_cases h : x.1 = -1
    · simp [h]
    · have hb : (x.1 == -1) = false := beq_false_of_ne h
      rw [if_neg h, List.any_cons, hb, Bool.false_or]
theorem errL_go (l : List Blb) : ∀ (bs : List (Int × Int)) (e : Int), (e = 0 ∨ e = 90) → bs.any (fun x => x.1 == -1) = false → bs.foldl (errStep l) e = if bs.any (fun x => (byteOf l x).isNone) then 90 else e
  | [], e, _, _ => rfl
  | x :: bs, e, he, hn => by
    simp only [List.any_cons, Bool.or_eq_false_iff] at hn
    obtain ⟨h1, h2⟩ := hn
    have h1' : ¬ x.1 = -1 := by simpa using h1
    rw [List.foldl_cons]
    by_cases hb : (byteOf l x).isNone = true
    · have hs : errStep l e x = 90 := by
        unfold errStep
        rw [if_neg h1', if_pos hb]
        rcases he with rfl | rfl <;> rfl
      rw [hs, errL_go l bs 90 (.inr rfl) h2]
      simp only [List.any_cons, hb, Bool.true_or, if_true]
      split <;> rfl
    · have hs : errStep l e x = e := by
        unfold errStep
        rw [if_neg h1', if_neg hb]
      rw [hs, errL_go l bs e he h2]
      have hb' : (byteOf l x).isNone = false := Bool.not_eq_true _ ▸ hb
      simp only [List.any_cons, hb', Bool.false_or]
theorem err_all (bs : List (Int × Int)) (l : List Blb) : errL2 (errL l bs) bs = bytesErr bs l := by
  rw [errL2_eq]
  unfold bytesErr
  split
  · rfl
  · rename_i h
    have h' : bs.any (fun x => x.1 == -1) = false := Bool.not_eq_true _ ▸ h
    exact errL_go l bs 0 (.inl rfl) h'
end Go.Proofs.Ytggnklcjhbahhaa
