/-
  Walks of the reference's Right, One, Size and Valid.
-/
import Derived.Test.YtggnklcjhbahhaaEb
namespace Go.Proofs.Ytggnklcjhbahhaa
open Go.RowKit Ex
set_option maxHeartbeats 400000
set_option maxRecDepth 100000

theorem Right_any (p : Pc) (w : World) :
    Calls Try.prog 34 #[pv p] w fun e w' => e = .returned (.bool (rightB p)) ∧ Below w.heap.size w w' := by
  obtain ⟨id, fr, n⟩ := p
  simp only [pv]
  go_enter Try.func34, Try.ntmps34
  go_wp2
  all_goals
    go_ret
    refine ⟨ret_bool ?_, by go_grown⟩
    rw [Bool.eq_iff_iff, right_iff]
    simp at *
    omega

theorem One_any (p q : Pc) (hs : -9223372036854775808 ≤ p.fr + p.n ∧ p.fr + p.n ≤ 9223372036854775807) (w : World) :
    Calls Try.prog 35 #[pv p, pv q] w fun e w' => e = .returned (.bool (oneB p q)) ∧ Below w.heap.size w w' := by
  obtain ⟨id, fr, n⟩ := p
  obtain ⟨id2, fr2, n2⟩ := q
  simp only [pv] at hs ⊢
  go_enter Try.func35, Try.ntmps35
  go_wp2
  all_goals
    go_ret
    refine ⟨ret_bool ?_, by go_grown⟩
    rw [Bool.eq_iff_iff, one_iff]
    simp at *
    omega

set_option maxHeartbeats 1000000 in
theorem Size_any (A : Option Addr) (n c : Nat) (l : List Pc) (hn : l.length = n) (hl : n ≤ 4294967296) (hp : ∀ p ∈ l, 0 ≤ p.n) (hs : sizeL l ≤ 4294967296) (w : World) (hA : Pcs w A l) :
    Calls Try.prog 15 #[.slice A n c] w fun e w' => e = .returned (.int .i64 (sizeL l)) ∧ w' = w := by
  have HN := Lib.hid hn
  have SA := Lib.hid hA
  have HS := Lib.hid (sizeL_le hp)
  clear hn hA hp
  go_enter Try.func15, Try.ntmps15
  go_wp2
  go_loop [3, 4] (fun s i => ∃ k : Nat, k ≤ n ∧ i = .int .i64 k ∧ s = .int .i64 (sizeL (l.take k))) (fun _ i => n - (intOf i).toNat)
  case atStart => exact ⟨0, Nat.zero_le _, rfl, rfl⟩
  case round =>
    obtain ⟨k, hk, rfl, rfl⟩ := hrel
    by_cases hlt : k < n
    · have hkl : k < l.length := by rw [HN.out]; exact hlt
      have hg : l[k]? = some l[k] := List.getElem?_eq_getElem hkl
      obtain ⟨g, o, rfl, _, q0, q1, q2⟩ := SA.out.at_ hg
      have h1 := HS.out k
      have h2 := HS.out (k + 1)
      have h3 := sizeL_take hg
      obtain ⟨s, hs1⟩ : ∃ s, sizeL (l.take k) = s := ⟨_, rfl⟩
      rw [hs1] at h1 h3
      rw [h3] at h2
      rw [hs1]
      have H3 := Lib.hid h3
      have kn : (k : Int) < (n : Int) := Int.ofNat_lt.2 hlt
      have k0 : (0 : Int) ≤ (k : Int) := Int.natCast_nonneg k
      obtain ⟨x, hx⟩ : ∃ x, l[k].n = x := ⟨_, rfl⟩
      rw [hx] at H3 h2 q2
      clear hs1 h3 hg hx
      go_wp2
      go_round
      case rel => exact ⟨k + 1, by omega, by go_num, by rw [H3.out]⟩
      case measure => simp [intOf]; omega
    · obtain rfl : k = n := by omega
      have he : l.take k = l := List.take_of_length_le (by rw [HN.out]; exact Nat.le_refl _)
      rw [he]
      go_wp2
      go_ret
      exact ⟨rfl, rfl⟩
end Go.Proofs.Ytggnklcjhbahhaa
