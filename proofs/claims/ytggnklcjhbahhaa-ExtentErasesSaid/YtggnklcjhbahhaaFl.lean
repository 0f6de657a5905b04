/-
  Contracts of the landed package: Part, Put, Cut.
-/
import Derived.Test.YtggnklcjhbahhaaFk
namespace Go.Proofs.Ytggnklcjhbahhaa
open Go.RowKit Go.Shelf Ex
attribute [local go_sem] Oper.semAt_some
set_option maxHeartbeats 400000
set_option maxRecDepth 100000

theorem partB_len (bs : List (Int × Int)) (off k : Int) : (partB bs off k).length ≤ bs.length := by
  unfold partB
  split
  · rw [List.length_drop, List.length_take]; omega
  · simp
theorem exPart_any (A : Option Addr) (n c : Nat) (b : List Pc) (h : Bod b n) (off k : Int) (ho : -9223372036854775808 ≤ off ∧ off ≤ 9223372036854775807) (hk : -9223372036854775808 ≤ k ∧ k ≤ 9223372036854775807) (w : World) (hA : Pcs w A b) :
    Calls Try.prog 13 #[.slice A n c, .int .i64 off, .int .i64 k] w fun e w' => ∃ A' m c' r, e = .returned (.slice A' m c') ∧ Sp w.heap.size w' A' m c' r ∧ validL r = true ∧ eachL r = partB (eachL b) off k ∧ Below w.heap.size w w' := by
  have CS := Lib.hid (h.sizeC A c hA w (Below.refl _ _))
  have CW := Lib.hid (fun W hW lo hi h1 h2 h3 h4 => h.withinC A c hA W hW lo hi h1 h2 h3 h4)
  have s0 := h.size0
  have s1 := h.size
  obtain ⟨s, hs⟩ : ∃ s, sizeL b = s := ⟨_, rfl⟩
  rw [hs] at CS s0 s1
  have HR := Lib.hid h.right
  have HL := Lib.hid (show (eachL b).length ≤ 1048576 from by have := eachL_len (l := b) (fun p hp => by have := (right_iff.1 (h.right p hp)).1; omega); omega)
  clear hA
  by_cases h0 : off < 0
  · have CW1 := Lib.hid (fun W hW => CW.out W hW (0) (min (max (off + max k 0) 0) s) (by omega) (by omega) (by omega) (by omega))
    have CJ := Lib.hid (fun (W : World) (v : Value) (hG : Gives W v (withinL (0) (min (max (off + max k 0) 0) s) 0 b)) => joined_c [(v, withinL (0) (min (max (off + max k 0) 0) s) 0 b)] (by simp) W (fun r hr => by rw [List.mem_singleton.1 hr]; exact hG) (by simpa [flatR] using fun p hp => within_right HR.out p hp) (by have hsz := HL.out; have he := (part_each1 HR.out (k := k) h0 (hi := min (max (off + max k 0) 0) s) (by rw [hs])); simp only [flatR, List.map_cons, List.map_nil, List.flatten_cons, List.flatten_nil, List.append_nil]; rw [he]; exact Nat.le_trans (partB_len _ _ _) hsz) (withinL (0) (min (max (off + max k 0) 0) s) 0 b) (by simp [flatR]) [v] rfl 1 rfl)
    have HE := Lib.hid (part_each1 HR.out (k := k) h0 (hi := min (max (off + max k 0) 0) s) (by rw [hs]))
    clear h
    go_enter Try.func13, Try.ntmps13
    go_wp2_with (first | (go_at_call 19; refine CS.out.mono ?_; rintro e w1 ⟨rfl, hb1⟩; have HB1 := Lib.hid hb1; clear hb1) | (go_at_call 33; refine (CW1.out _ HB1.out).mono ?_; rintro e w2 ⟨gf, lb, rfl, hg2, hb2⟩; have HB2 := Lib.hid (HB1.out.trans (hb2.mono HB1.out.size)); have HG2 := Lib.hid hg2; clear hb2 hg2) | (go_at_call 32; refine (CJ.out _ _ HG2.out).mono ?_; rintro e w3 ⟨A', m, c', rfl, hr1, hr2, hr3, hr4⟩; have HX := Lib.hid (And.intro hr1 (And.intro hr2 (And.intro hr3 hr4))); clear hr1 hr2 hr3 hr4))
    go_ret
    obtain ⟨x1, x2, x3, x4⟩ := HX.out
    exact ⟨_, _, _, _, rfl, x1.mono HB2.out.size, x2, x3.trans HE.out, HB2.out.trans (x4.mono HB2.out.size)⟩
  · have CW1 := Lib.hid (fun W hW => CW.out W hW (off) (off + min (max k 0) (s - off)) (by omega) (by omega) (by omega) (by omega))
    have CJ := Lib.hid (fun (W : World) (v : Value) (hG : Gives W v (withinL (off) (off + min (max k 0) (s - off)) 0 b)) => joined_c [(v, withinL (off) (off + min (max k 0) (s - off)) 0 b)] (by simp) W (fun r hr => by rw [List.mem_singleton.1 hr]; exact hG) (by simpa [flatR] using fun p hp => within_right HR.out p hp) (by have hsz := HL.out; have he := (part_each0 HR.out (k := k) (off := off) (hi := off + min (max k 0) (s - off)) (by omega) (by rw [hs])); simp only [flatR, List.map_cons, List.map_nil, List.flatten_cons, List.flatten_nil, List.append_nil]; rw [he]; exact Nat.le_trans (partB_len _ _ _) hsz) (withinL (off) (off + min (max k 0) (s - off)) 0 b) (by simp [flatR]) [v] rfl 1 rfl)
    have HE := Lib.hid (part_each0 HR.out (k := k) (off := off) (hi := off + min (max k 0) (s - off)) (by omega) (by rw [hs]))
    clear h
    go_enter Try.func13, Try.ntmps13
    go_wp2_with (first | (go_at_call 19; refine CS.out.mono ?_; rintro e w1 ⟨rfl, hb1⟩; have HB1 := Lib.hid hb1; clear hb1) | (go_at_call 33; refine (CW1.out _ HB1.out).mono ?_; rintro e w2 ⟨gf, lb, rfl, hg2, hb2⟩; have HB2 := Lib.hid (HB1.out.trans (hb2.mono HB1.out.size)); have HG2 := Lib.hid hg2; clear hb2 hg2) | (go_at_call 32; refine (CJ.out _ _ HG2.out).mono ?_; rintro e w3 ⟨A', m, c', rfl, hr1, hr2, hr3, hr4⟩; have HX := Lib.hid (And.intro hr1 (And.intro hr2 (And.intro hr3 hr4))); clear hr1 hr2 hr3 hr4))
    go_ret
    obtain ⟨x1, x2, x3, x4⟩ := HX.out
    exact ⟨_, _, _, _, rfl, x1.mono HB2.out.size, x2, x3.trans HE.out, HB2.out.trans (x4.mono HB2.out.size)⟩
end Go.Proofs.Ytggnklcjhbahhaa
