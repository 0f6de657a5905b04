/-
  Walks of the program's fits and length, and of the three tests that are handed to first.
-/
import Derived.Test.YtoodeoglpdapiaaUg
import Derived.Test.YtoodeoglpdapiaaSq
namespace Go.Proofs.Ytoodeoglpdapiaa
open Go.RowKit Gf
set_option maxHeartbeats 400000

def fitsB (k n : Int) : Bool := decide (1 ≤ k) && (decide (k ≤ n) && decide (n ≤ 12))
theorem fitsB_iff {k n : Int} : fitsB k n = true ↔ 1 ≤ k ∧ k ≤ n ∧ n ≤ 12 := by
  unfold fitsB; simp only [Bool.and_eq_true, decide_eq_true_eq]
theorem fits_any (k n : Int) (w : World) :
    Calls Try.prog 34 #[.int .i64 k, .int .i64 n] w fun e w' => e = .returned (.bool (fitsB k n)) ∧ w' = w := by
  by_cases h1 : 1 ≤ k
  · by_cases h2 : k ≤ n
    · by_cases h3 : n ≤ 12
      all_goals
        go_enter Try.func34, Try.ntmps34
        go_wp2
        go_ret
        exact ⟨ret_bool (by simp [fitsB, h1, h2, h3]), rfl⟩
    · go_enter Try.func34, Try.ntmps34
      go_wp2
      go_ret
      exact ⟨ret_bool (by simp [fitsB]; omega), rfl⟩
  · go_enter Try.func34, Try.ntmps34
    go_wp2
    go_ret
    exact ⟨ret_bool (by simp [fitsB]; omega), rfl⟩

theorem length_any (size k : Nat) (hs : size ≤ 4294967296) (hk1 : 1 ≤ k) (hk : k ≤ 4294967296) (w : World) :
    Calls Try.prog 41 #[.int .i64 size, .int .i64 k] w fun e w' => e = .returned (.int .i64 (longN size k : Nat)) ∧ w' = w := by
  have h1 : size / k ≤ size := Nat.div_le_self _ _
  have e1 : (size : Int).tdiv (k : Int) = ((size / k : Nat) : Int) := by simp [Int.tdiv_eq_ediv_of_nonneg]
  have e2 : (size : Int).tmod (k : Int) = ((size % k : Nat) : Int) := by simp [Int.tmod_eq_emod_of_nonneg]
  have e1' : (size : Int) / (k : Int) = ((size / k : Nat) : Int) := by simp
  have e2' : (size : Int) % (k : Int) = ((size % k : Nat) : Int) := by simp
  have hk0 : ¬ ((k : Int) == 0) = true := by simp; omega
  unfold longN
  obtain ⟨q, hq⟩ : ∃ q, size / k = q := ⟨_, rfl⟩
  obtain ⟨r, hr⟩ : ∃ r, size % k = r := ⟨_, rfl⟩
  rw [hq] at h1 e1 e1' ⊢
  rw [hr] at e2 e2' ⊢
  clear hq hr
  by_cases h0 : r = 0
  · subst h0
    rw [if_pos rfl]
    go_enter Try.func41, Try.ntmps41
    go_wp2
    go_ret
    exact ⟨rfl, rfl⟩
  · rw [if_neg h0]
    have hn0 : ((r : Int) != 0) = true := by simp; omega
    go_enter Try.func41, Try.ntmps41
    go_wp2
    go_ret
    exact ⟨rfl, rfl⟩

theorem testE_any (i : Int) (w : World) :
    Calls Try.prog 44 #[.int .i64 i] w fun e w' => e = .returned (.bool true) ∧ ∃ n, w' = w.drewN n := by
  go_enter Try.func44, Try.ntmps44
  go_wp2
  go_ret
  exact ⟨rfl, 0, rfl⟩

theorem testD_any (bl be : Nat) (A : Option Addr) (n c : Nat) (ls : List (List UInt8)) (hn : ls.length = n) (L : Nat) (i : Nat) (hi : i < n) (w : World)
    (hb : w.cell? ⟨bl, 0, none⟩ = some (.slice A n c)) (he : w.cell? ⟨be, 0, none⟩ = some (.int .i64 L)) (hA : Lists w A ls) :
    Calls Try.prog 46 #[.int .i64 i, .pointer (some ⟨bl, 0, none⟩), .pointer (some ⟨be, 0, none⟩)] w fun e w' => e = .returned (.bool (isT ls L (-1) i)) ∧ ∃ n, w' = w.drewN n := by
  have hil : i < ls.length := by omega
  obtain ⟨g, o, rfl, hg, hc⟩ := hA (List.ne_nil_of_length_pos (by omega))
  obtain ⟨B, cb, h1, _⟩ := hc i ls[i] (List.getElem?_eq_getElem hil)
  have hT : isT ls L (-1) i = (ls[i].length == L) := by
    unfold isT
    rw [List.getElem?_eq_getElem hil, show decide ((i : Int) ≠ -1) = true from by simp, Bool.true_and]; rfl
  rw [hT]
  obtain ⟨r, hr⟩ : ∃ r, ls[i].length = r := ⟨_, rfl⟩
  rw [hr] at h1 ⊢
  have i0 : (0 : Int) ≤ (i : Int) := by omega
  have i1 : (i : Int) < (n : Int) := by omega
  rename_i hgar
  clear hgar hn hA hc hT hr hil
  by_cases hrl : r = L
  · have hb1 : ((r : Int) == (L : Int)) = true := by simp [hrl]
    have HR := Lib.hid hrl
    clear hrl
    go_enter Try.func46, Try.ntmps46
    go_wp2
    go_quiet (fail)
    go_wp2
    go_ret
    exact ⟨ret_bool (by simp [HR.out]), _, rfl⟩
  · have hb1 : ((r : Int) == (L : Int)) = false := by simp; omega
    have HR := Lib.hid hrl
    clear hrl
    go_enter Try.func46, Try.ntmps46
    go_wp2
    go_quiet (fail)
    go_wp2
    go_ret
    exact ⟨ret_bool (by simp [HR.out]), _, rfl⟩

theorem testR_any (bi bl be : Nat) (A : Option Addr) (n c : Nat) (ls : List (List UInt8)) (hn : ls.length = n) (q L : Nat) (i : Nat) (hi : i < n) (w : World)
    (hq : w.cell? ⟨bi, 0, none⟩ = some (.int .i64 q)) (hb : w.cell? ⟨bl, 0, none⟩ = some (.slice A n c)) (he : w.cell? ⟨be, 0, none⟩ = some (.int .i64 L)) (hA : Lists w A ls) :
    Calls Try.prog 47 #[.int .i64 i, .pointer (some ⟨bi, 0, none⟩), .pointer (some ⟨bl, 0, none⟩), .pointer (some ⟨be, 0, none⟩)] w fun e w' => e = .returned (.bool (isT ls L q i)) ∧ ∃ n, w' = w.drewN n := by
  have hil : i < ls.length := by omega
  obtain ⟨g, o, rfl, hg, hc⟩ := hA (List.ne_nil_of_length_pos (by omega))
  obtain ⟨B, cb, h1, _⟩ := hc i ls[i] (List.getElem?_eq_getElem hil)
  have hT : isT ls L q i = (decide ((i : Int) ≠ q) && (ls[i].length == L)) := by
    unfold isT
    rw [List.getElem?_eq_getElem hil]; rfl
  rw [hT]
  obtain ⟨r, hr⟩ : ∃ r, ls[i].length = r := ⟨_, rfl⟩
  rw [hr] at h1 ⊢
  have i0 : (0 : Int) ≤ (i : Int) := by omega
  have i1 : (i : Int) < (n : Int) := by omega
  rename_i hgar
  clear hgar hn hA hc hT hr hil
  by_cases hiq : (i : Int) = q
  · have hb0 : ((i : Int) != (q : Int)) = false := by simp [hiq]
    have HQ := Lib.hid hiq
    clear hiq
    go_enter Try.func47, Try.ntmps47
    go_wp2
    go_quiet (fail)
    go_wp2
    go_ret
    exact ⟨ret_bool (by simp [HQ.out]), _, rfl⟩
  · have hb0 : ((i : Int) != (q : Int)) = true := by simp [hiq]
    have HQ := Lib.hid hiq
    clear hiq
    by_cases hrl : r = L
    · have hb1 : ((r : Int) == (L : Int)) = true := by simp [hrl]
      have HR := Lib.hid hrl
      clear hrl
      go_enter Try.func47, Try.ntmps47
      go_wp2
      go_quiet (fail)
      go_wp2
      go_ret
      exact ⟨ret_bool (by simp [HR.out, HQ.out]), _, rfl⟩
    · have hb1 : ((r : Int) == (L : Int)) = false := by simp; omega
      have HR := Lib.hid hrl
      clear hrl
      go_enter Try.func47, Try.ntmps47
      go_wp2
      go_quiet (fail)
      go_wp2
      go_ret
      exact ⟨ret_bool (by simp [HR.out]), _, rfl⟩
end Go.Proofs.Ytoodeoglpdapiaa
