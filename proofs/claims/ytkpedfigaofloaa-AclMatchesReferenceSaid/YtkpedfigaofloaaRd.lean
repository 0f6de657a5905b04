/-
  Walk of the law file's short: at most twenty entries of a list, in a list of its own.
-/
import Derived.Test.YtkpedfigaofloaaAi
namespace Go.Proofs.Ytkpedfigaofloaa
open Go.RowKit Ap
set_option maxHeartbeats 400000

set_option maxHeartbeats 1000000 in
theorem short_any (A : Option Addr) (n c : Nat) (l : List Ac) (hn : l.length = n) (hnc : n ≤ c) (hc : c ≤ 9223372036854775807) (h0 : A = none → n = 0 ∧ c = 0) (w : World) (hA : Aces w A l) :
    Calls Try.prog 11 #[.slice A n c] w fun e w' => ∃ A' m c', e = .returned (.slice A' m c') ∧ w'.ownsRow w.heap.size 31 5 (.slice A' m c') m (encs (l.take 20)) ∧ Below w.heap.size w w' := by
  cases A with
  | none =>
    obtain ⟨rfl, rfl⟩ := h0 rfl
    obtain rfl : l = [] := List.eq_nil_of_length_eq_zero hn
    clear hn hA h0
    go_enter Try.func11, Try.ntmps11
    go_wp2
    go_ret
    exact ⟨some ⟨w.heap.size, 0, none⟩, 0, 0, rfl, own_empty _ _ _, by go_grown⟩
  | some ad =>
    have hw : ∃ m : Nat, m = min n 20 ∧ (l.take 20).length = m ∧ m ≤ 20 ∧ m ≤ c := ⟨min n 20, rfl, by rw [List.length_take, hn]; omega, by omega, by omega⟩
    obtain ⟨m, hm, hml, hm20, hmc⟩ := hw
    have HT := Lib.hid ((hA.take 20).below ((Below.refl _ w).alloc (Nat.le_refl _) (.cells #[] 31)))
    have HML := Lib.hid hml
    have HO := Lib.hid (own_empty w 31 5)
    have hb : (m : Int) ≤ (c : Int) := by omega
    have hs : w.heap.size ≤ (w.alloc (.cells #[] 31)).heap.size := by simp
    by_cases h20 : n ≤ 20
    · obtain rfl : m = n := by omega
      have m1 : (m : Int) ≤ 20 := by omega
      have m3 : ¬ (20 : Int) < (m : Int) := by omega
      clear hn hA hml hm h0
      go_enter Try.func11, Try.ntmps11
      go_wp2_with (at_builtin; refine wpList_append_two rfl _ _ rfl w.heap.size rfl (l1 := []) HO.out rfl HT.out HML.out (by simp) (by omega) hs ?_; intro A3 c3 w3 hown' hgrow)
      rw [Nat.zero_add, List.nil_append] at hown'
      go_ret
      exact ⟨A3, _, c3, rfl, hown', ((Below.refl _ w).alloc (Nat.le_refl _) _).grown hgrow hs (fun j hj => by cases hj; exact Nat.le_refl _)⟩
    · obtain rfl : m = 20 := by omega
      have m1 : (20 : Int) < (n : Int) := by omega
      have m2 : ¬ (n : Int) ≤ 20 := by omega
      clear hn hA hml hm h0
      go_enter Try.func11, Try.ntmps11
      go_wp2_with (at_builtin; refine wpList_append_two rfl _ _ rfl w.heap.size rfl (l1 := []) HO.out rfl HT.out HML.out (by simp) (by omega) hs ?_; intro A3 c3 w3 hown' hgrow)
      rw [Nat.zero_add, List.nil_append] at hown'
      go_ret
      exact ⟨A3, _, c3, rfl, hown', ((Below.refl _ w).alloc (Nat.le_refl _) _).grown hgrow hs (fun j hj => by cases hj; exact Nat.le_refl _)⟩
end Go.Proofs.Ytkpedfigaofloaa
