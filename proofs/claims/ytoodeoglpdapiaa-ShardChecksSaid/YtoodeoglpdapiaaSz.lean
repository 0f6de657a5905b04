/-
  What the law file's functions and the reference's return, in one form each for all arguments.
-/
import Derived.Test.YtoodeoglpdapiaaSv
namespace Go.Proofs.Ytoodeoglpdapiaa
open Go.RowKit Gf
set_option maxHeartbeats 400000

def EncR (b : List UInt8) (k n : Int) : List (List UInt8) × Int := if 1 ≤ k ∧ k ≤ n ∧ n ≤ 12 then (encL b k.toNat n.toNat, 0) else ([], 1)
def DecR (ls : List (List UInt8)) (k size : Int) : List UInt8 × Int :=
  if properB ls.length k = false ∨ size < 0 then ([], 1) else if (ptsL ls k.toNat (longN size.toNat k.toNat) (-1)).length < k.toNat then ([], 70) else (decL ls k.toNat size.toNat, 0)
def RebR (ls : List (List UInt8)) (k i : Int) : List UInt8 × Int :=
  if properB ls.length k = false ∨ i < 0 ∨ (ls.length : Int) ≤ i then ([], 1) else if (rebP ls k.toNat i.toNat).length < k.toNat then ([], 70) else (rebL ls k.toNat i.toNat, 0)
def ChkR (ls : List (List UInt8)) (k : Int) : Bool := properB ls.length k && chkL ls k.toNat
theorem lists_nil (w : World) (A : Option Addr) : Lists w A [] := fun h => absurd rfl h
theorem Sll.plain {okO okR : Nat → Prop} {W : World} {A : Option Addr} {n c : Nat} {ls : List (List UInt8)} (h : Sll okO okR W A n c ls) : Lists W A ls := h.lists.lists
section
variable {Env : World → Prop} (P : Prg Env)
include P
theorem encU (ok : Nat → Prop) (A : Option Addr) (nb cb : Nat) (b : List UInt8) (k n : Int) (w : World) (hE : Env w) (hA : Slb ok w A nb cb b) (hl : nb ≤ 100) (hk : (Lit.int .i64 k).wf = true) (hn : (Lit.int .i64 n).wf = true) :
    Calls Try.prog 11 #[.slice A nb cb, .int .i64 k, .int .i64 n] w fun e w' => ∃ A' c', e = .returned (.agg #[.slice A' (EncR b k n).1.length c', .int .i64 (EncR b k n).2]) ∧ Lists w' A' (EncR b k n).1 ∧ Below w.heap.size w w' := by
  unfold EncR
  by_cases h : 1 ≤ k ∧ k ≤ n ∧ n ≤ 12
  · rw [if_pos h]
    obtain ⟨k', rfl⟩ := Int.eq_ofNat_of_zero_le (show 0 ≤ k by omega)
    obtain ⟨n', rfl⟩ := Int.eq_ofNat_of_zero_le (show 0 ≤ n by omega)
    refine (enc_yes P ok A nb cb b k' n' w hE hA hl (by omega) (by omega) (by omega)).mono ?_
    rintro e w' ⟨A', c', rfl, hS, hb⟩
    exact ⟨A', c', by simp [encL_len], hS.plain, hb⟩
  · rw [if_neg h]
    refine (enc_no P ok A nb cb b k n w hE hA hl h hk hn).mono ?_
    rintro e w' ⟨A', c', rfl, hb⟩
    exact ⟨A', c', rfl, lists_nil _ _, hb⟩
theorem decU (okO okR : Nat → Prop) (A : Option Addr) (n c : Nat) (ls : List (List UInt8)) (k size : Int) (w : World) (hE : Env w) (hA : Sll okO okR w A n c ls) (hs : size ≤ 200) (hk : (Lit.int .i64 k).wf = true) (hz : (Lit.int .i64 size).wf = true) :
    Calls Try.prog 15 #[.slice A n c, .int .i64 k, .int .i64 size] w fun e w' => ∃ A' m c', e = .returned (.agg #[.slice A' m c', .int .i64 (DecR ls k size).2]) ∧ (DecR ls k size).1.length = m ∧ Byts w' A' (DecR ls k size).1 ∧ Below w.heap.size w w' := by
  unfold DecR
  by_cases h : properB ls.length k = false ∨ size < 0
  · rw [if_pos h]
    rw [hA.len] at h
    refine (dec_arg P okO okR A n c ls k size w hE hA h hk hz).mono ?_
    rintro e w' ⟨A', c', rfl, hb⟩
    exact ⟨A', 0, c', rfl, rfl, Byts.nil _ _, hb⟩
  · rw [if_neg h]
    have hp : properB n k = true := by
      rw [← hA.len]
      cases hp : properB ls.length k
      · exact absurd (.inl hp) h
      · rfl
    obtain ⟨q1, q2, q3⟩ := properB_iff.1 hp
    obtain ⟨k', rfl⟩ := Int.eq_ofNat_of_zero_le (show 0 ≤ k by omega)
    obtain ⟨s', rfl⟩ := Int.eq_ofNat_of_zero_le (show 0 ≤ size by
      by_cases h2 : size < 0
      · exact absurd (.inr h2) h
      · omega)
    simp only [Int.toNat_natCast]
    by_cases hf : (ptsL ls k' (longN s' k') (-1)).length < k'
    · rw [if_pos hf]
      refine (dec_few P okO okR A n c ls k' s' w hE hA hp (by omega) hf).mono ?_
      rintro e w' ⟨A', c', rfl, hb⟩
      exact ⟨A', 0, c', rfl, rfl, Byts.nil _ _, hb⟩
    · rw [if_neg hf]
      have hle := ptsL_le ls k' (longN s' k') (-1)
      refine (dec_yes P okO okR A n c ls k' s' w hE hA hp (by omega) (by omega)).mono ?_
      rintro e w' ⟨A', c', rfl, hS, hb⟩
      exact ⟨A', s', c', rfl, hS.len, hS.byts.byts, hb⟩
theorem rebU (okO okR : Nat → Prop) (A : Option Addr) (n c : Nat) (ls : List (List UInt8)) (k i : Int) (w : World) (hE : Env w) (hA : Sll okO okR w A n c ls) (hr : Short ls) (hk : (Lit.int .i64 k).wf = true) (hz : (Lit.int .i64 i).wf = true) :
    Calls Try.prog 17 #[.slice A n c, .int .i64 k, .int .i64 i] w fun e w' => ∃ A' m c', e = .returned (.agg #[.slice A' m c', .int .i64 (RebR ls k i).2]) ∧ (RebR ls k i).1.length = m ∧ Byts w' A' (RebR ls k i).1 ∧ Below w.heap.size w w' := by
  unfold RebR
  by_cases h : properB ls.length k = false ∨ i < 0 ∨ (ls.length : Int) ≤ i
  · rw [if_pos h]
    rw [hA.len] at h
    refine (reb_arg P okO okR A n c ls k i w hE hA h hk hz).mono ?_
    rintro e w' ⟨A', c', rfl, hb⟩
    exact ⟨A', 0, c', rfl, rfl, Byts.nil _ _, hb⟩
  · rw [if_neg h]
    rw [hA.len] at h
    have hp : properB n k = true := by
      cases hp : properB n k
      · exact absurd (.inl hp) h
      · rfl
    obtain ⟨q1, q2, q3⟩ := properB_iff.1 hp
    have hi0 : ¬ i < 0 := fun e => h (.inr (.inl e))
    have hi1 : ¬ (n : Int) ≤ i := fun e => h (.inr (.inr e))
    obtain ⟨k', rfl⟩ := Int.eq_ofNat_of_zero_le (show 0 ≤ k by omega)
    obtain ⟨i', rfl⟩ := Int.eq_ofNat_of_zero_le (show 0 ≤ i by omega)
    simp only [Int.toNat_natCast]
    by_cases hf : (rebP ls k' i').length < k'
    · rw [if_pos hf]
      refine (reb_few P okO okR A n c ls k' i' w hE hA hr hp (by omega) hf).mono ?_
      rintro e w' ⟨A', c', rfl, hb⟩
      exact ⟨A', 0, c', rfl, rfl, Byts.nil _ _, hb⟩
    · rw [if_neg hf]
      have hle : (rebP ls k' i').length ≤ k' := ptsL_le _ _ _ _
      refine (reb_yes P okO okR A n c ls k' i' w hE hA hr hp (by omega) (by omega)).mono ?_
      rintro e w' ⟨A', m, c', rfl, hS, hb⟩
      exact ⟨A', m, c', rfl, hS.len, hS.byts.byts, hb⟩
theorem chkU (okO okR : Nat → Prop) (A : Option Addr) (n c : Nat) (ls : List (List UInt8)) (k : Int) (w : World) (hE : Env w) (hA : Sll okO okR w A n c ls) (hr : Short ls) (hk : (Lit.int .i64 k).wf = true) :
    Calls Try.prog 19 #[.slice A n c, .int .i64 k] w fun e w' => e = .returned (.bool (ChkR ls k)) ∧ Below w.heap.size w w' := by
  unfold ChkR
  rw [hA.len]
  cases hp : properB n k
  · exact P.chkArg okO okR A n c ls k w hE hA hp hk
  · obtain ⟨q1, q2, q3⟩ := properB_iff.1 hp
    obtain ⟨k', rfl⟩ := Int.eq_ofNat_of_zero_le (show 0 ≤ k by omega)
    exact P.chk okO okR A n c ls k' w hE hA hr hp
end
/- The reference's. -/
theorem encV (A : Option Addr) (nb cb : Nat) (b : List UInt8) (k n : Int) (w : World) (hA : Byts w A b) (hn : b.length = nb) (hl : nb ≤ 100) :
    Calls Try.prog 12 #[.slice A nb cb, .int .i64 k, .int .i64 n] w fun e w' => ∃ A' c', e = .returned (.agg #[.slice A' (EncR b k n).1.length c', .int .i64 (EncR b k n).2]) ∧ Sll (w.heap.size ≤ ·) (w.heap.size ≤ ·) w' A' (EncR b k n).1.length c' (EncR b k n).1 ∧ Below w.heap.size w w' := by
  unfold EncR
  by_cases h : 1 ≤ k ∧ k ≤ n ∧ n ≤ 12
  · rw [if_pos h]
    obtain ⟨k', rfl⟩ := Int.eq_ofNat_of_zero_le (show 0 ≤ k by omega)
    obtain ⟨n', rfl⟩ := Int.eq_ofNat_of_zero_le (show 0 ≤ n by omega)
    refine (Encode_yes A nb cb b hn (by omega) k' n' (by omega) (by omega) (by omega) w hA).mono ?_
    rintro e w' ⟨A', c', rfl, hS, hb⟩
    have hS' := (Sll.own hS).mono (okO' := (w.heap.size ≤ ·)) (okR' := (w.heap.size ≤ ·)) (fun _ _ h => by omega) (fun _ _ h => by omega)
    exact ⟨A', c', by simp [encL_len], by simpa [encL_len] using hS', hb⟩
  · rw [if_neg h]
    refine (Encode_no A nb cb k n h w).mono ?_
    rintro e w' ⟨rfl, hb⟩
    exact ⟨none, 0, rfl, ⟨rfl, Nat.le_refl _, by decide, fun _ => rfl, fun h => absurd rfl h⟩, hb⟩
theorem decV (A : Option Addr) (n c : Nat) (ls : List (List UInt8)) (k size : Int) (w : World) (hA : Lists w A ls) (hn : ls.length = n) (hs : size ≤ 200) :
    Calls Try.prog 16 #[.slice A n c, .int .i64 k, .int .i64 size] w fun e w' => ∃ A' m c', e = .returned (.agg #[.slice A' m c', .int .i64 (DecR ls k size).2]) ∧ (DecR ls k size).1.length = m ∧ Byts w' A' (DecR ls k size).1 ∧ Below w.heap.size w w' := by
  unfold DecR
  rw [hn]
  by_cases h : properB n k = false ∨ size < 0
  · rw [if_pos h]
    refine (Decode_arg A n c k size h w).mono ?_
    rintro e w' ⟨rfl, hb⟩
    exact ⟨none, 0, 0, rfl, rfl, Byts.nil _ _, hb⟩
  · rw [if_neg h]
    have hp : properB n k = true := by
      cases hp : properB n k
      · exact absurd (.inl hp) h
      · rfl
    obtain ⟨q1, q2, q3⟩ := properB_iff.1 hp
    obtain ⟨k', rfl⟩ := Int.eq_ofNat_of_zero_le (show 0 ≤ k by omega)
    obtain ⟨s', rfl⟩ := Int.eq_ofNat_of_zero_le (show 0 ≤ size by
      by_cases h2 : size < 0
      · exact absurd (.inr h2) h
      · omega)
    simp only [Int.toNat_natCast]
    by_cases hf : (ptsL ls k' (longN s' k') (-1)).length < k'
    · rw [if_pos hf]
      refine (Decode_few A n c ls hn k' s' hp (by omega) hf w hA).mono ?_
      rintro e w' ⟨rfl, hb⟩
      exact ⟨none, 0, 0, rfl, rfl, Byts.nil _ _, hb⟩
    · rw [if_neg hf]
      have hle := ptsL_le ls k' (longN s' k') (-1)
      refine (Decode_yes A n c ls hn k' s' hp (by omega) (by omega) w hA).mono ?_
      rintro e w' ⟨A', c', rfl, hS, hlen, hb⟩
      exact ⟨A', s', c', rfl, hlen, hS, hb⟩
theorem rebV (A : Option Addr) (n c : Nat) (ls : List (List UInt8)) (k i : Int) (w : World) (hA : Lists w A ls) (hn : ls.length = n) (hr : Short ls) :
    Calls Try.prog 18 #[.slice A n c, .int .i64 k, .int .i64 i] w fun e w' => ∃ A' m c', e = .returned (.agg #[.slice A' m c', .int .i64 (RebR ls k i).2]) ∧ (RebR ls k i).1.length = m ∧ Byts w' A' (RebR ls k i).1 ∧ Below w.heap.size w w' := by
  unfold RebR
  rw [hn]
  by_cases h : properB n k = false ∨ i < 0 ∨ (n : Int) ≤ i
  · rw [if_pos h]
    refine (Rebuild_arg A n c k i h w).mono ?_
    rintro e w' ⟨rfl, hb⟩
    exact ⟨none, 0, 0, rfl, rfl, Byts.nil _ _, hb⟩
  · rw [if_neg h]
    have hp : properB n k = true := by
      cases hp : properB n k
      · exact absurd (.inl hp) h
      · rfl
    obtain ⟨q1, q2, q3⟩ := properB_iff.1 hp
    have hi0 : ¬ i < 0 := fun e => h (.inr (.inl e))
    have hi1 : ¬ (n : Int) ≤ i := fun e => h (.inr (.inr e))
    obtain ⟨k', rfl⟩ := Int.eq_ofNat_of_zero_le (show 0 ≤ k by omega)
    obtain ⟨i', rfl⟩ := Int.eq_ofNat_of_zero_le (show 0 ≤ i by omega)
    simp only [Int.toNat_natCast]
    refine (Rebuild_any A n c ls hn (fun r hr' => Nat.le_trans (hr r hr') (by decide)) k' i' hp (by omega) w hA).mono ?_
    rintro e w' ⟨⟨hf, rfl⟩ | ⟨hf, A', c', rfl, hS, _, _⟩, hb⟩
    · rw [if_pos hf]
      exact ⟨none, 0, 0, rfl, rfl, Byts.nil _ _, hb⟩
    · rw [if_neg (by omega)]
      exact ⟨A', _, c', rfl, rfl, hS.byts, hb⟩
theorem chkV (A : Option Addr) (n c : Nat) (ls : List (List UInt8)) (k : Int) (w : World) (hA : Lists w A ls) (hn : ls.length = n) (hnc : n ≤ c) (hr : Short ls) :
    Calls Try.prog 20 #[.slice A n c, .int .i64 k] w fun e w' => e = .returned (.bool (ChkR ls k)) ∧ Below w.heap.size w w' := by
  unfold ChkR
  rw [hn]
  cases hp : properB n k
  · refine (Check_arg A n c k hp w).mono ?_
    rintro e w' ⟨rfl, rfl⟩
    exact ⟨rfl, Below.refl _ _⟩
  · obtain ⟨q1, q2, q3⟩ := properB_iff.1 hp
    obtain ⟨k', rfl⟩ := Int.eq_ofNat_of_zero_le (show 0 ≤ k by omega)
    exact Check_any A n c ls hn hnc (fun r hr' => Nat.le_trans (hr r hr') (by decide)) k' hp w hA
end Go.Proofs.Ytoodeoglpdapiaa
