/-
  Walks of the closure of Put (is this the entry of the mark?), and of the library's IndexFunc with it.
-/
import Derived.Test.YtkpedfigaofloaaAi
import Derived.Deep.RegionHeld3
namespace Go.Proofs.Ytkpedfigaofloaa
open Go.RowKit Ap
set_option maxHeartbeats 400000

/-- The five cells of the mark that the closure has captured. -/
def Mk (b : Nat) (m : Ac) (W : World) : Prop :=
  W.cell? ⟨b, 0, none⟩ = some (.int .i64 m.who) ∧ W.cell? ⟨b, 1, none⟩ = some (.bool m.allow) ∧ W.cell? ⟨b, 2, none⟩ = some (.int .i64 m.rights) ∧ W.cell? ⟨b, 3, none⟩ = some (.int .i64 m.reach) ∧ W.cell? ⟨b, 4, none⟩ = some (.bool m.given)
theorem Mk.step {b : Nat} {m : Ac} {W W' : World} (h : Mk b m W) (hb : Below W.heap.size W W') : Mk b m W' :=
  keep5 h.1 h.2.1 h.2.2.1 h.2.2.2.1 h.2.2.2.2 hb
theorem Mk.lt {b : Nat} {m : Ac} {W : World} (h : Mk b m W) : b < W.heap.size := block_lt_of_cell h.1

def Both (b g : Nat) (m a : Ac) (w W : World) : Prop :=
  W.cell? ⟨b, 0, none⟩ = some (.int .i64 m.who) ∧ W.cell? ⟨b, 1, none⟩ = some (.bool m.allow) ∧ W.cell? ⟨b, 2, none⟩ = some (.int .i64 m.rights) ∧ W.cell? ⟨b, 3, none⟩ = some (.int .i64 m.reach) ∧ W.cell? ⟨b, 4, none⟩ = some (.bool m.given) ∧
  W.cell? ⟨g, 0, none⟩ = some (.int .i64 a.who) ∧ W.cell? ⟨g, 1, none⟩ = some (.bool a.allow) ∧ W.cell? ⟨g, 2, none⟩ = some (.int .i64 a.rights) ∧ W.cell? ⟨g, 3, none⟩ = some (.int .i64 a.reach) ∧ W.cell? ⟨g, 4, none⟩ = some (.bool a.given) ∧ Below w.heap.size w W
theorem Both.step {b g : Nat} {m a : Ac} {w W W' : World} (h : Both b g m a w W) (hb : Below W.heap.size W W') : Both b g m a w W' := by
  obtain ⟨m0, m1, m2, m3, m4, a0, a1, a2, a3, a4, hw⟩ := h
  obtain ⟨m0, m1, m2, m3, m4⟩ := keep5 m0 m1 m2 m3 m4 hb
  obtain ⟨a0, a1, a2, a3, a4⟩ := keep5 a0 a1 a2 a3 a4 hb
  exact ⟨m0, m1, m2, m3, m4, a0, a1, a2, a3, a4, hw.trans (hb.mono hw.size)⟩

set_option maxHeartbeats 1000000 in
theorem isMark_any (a m : Ac) (b : Nat) (w : World) (hM : Mk b m w) :
    Calls Try.prog 42 #[av a, .pointer (some ⟨b, 0, none⟩)] w fun e w' => e = .returned (.bool (decide (a.mk0 = m))) ∧ Below w.heap.size w w' := by
  have cM := fun W => markOf_any a W
  have hne := eqlMark a.mk0 m
  have gM := guardMark
  obtain ⟨aw, al, ri, re, ag⟩ := a
  obtain ⟨mw, ml, mi, me, mg⟩ := m
  obtain ⟨r, hr⟩ : ∃ r, decide ((⟨aw, al, ri, re, ag⟩ : Ac).mk0 = ⟨mw, ml, mi, me, mg⟩) = r := ⟨_, rfl⟩
  rw [hr] at hne ⊢
  unfold av at cM hne ⊢
  dsimp only [Ac.mk0] at cM hne ⊢
  have hb := hM.lt
  obtain ⟨m0, m1, m2, m3, m4⟩ := hM
  dsimp only at m0 m1 m2 m3 m4
  have CM := Lib.hid cM
  clear cM hr
  go_enter Try.func42, Try.ntmps42
  go_wp2
  have o0 := heap_alloc_new w (.cells #[.int .i64 aw, .bool al, .int .i64 ri, .int .i64 re, .bool ag] 31)
  have ha := after5 (w := w) (v0 := .int .i64 aw) (v1 := .bool al) (v2 := .int .i64 ri) (v3 := .int .i64 re) (v4 := .bool ag) (t := 31) (Below.refl _ _)
  obtain ⟨a0, a1, a2, a3, a4, _⟩ := ha
  have G0 := Lib.hid (show Both b w.heap.size ⟨mw, ml, mi, me, mg⟩ ⟨aw, al, ri, re, ag⟩ w (w.alloc (.cells #[.int .i64 aw, .bool al, .int .i64 ri, .int .i64 re, .bool ag] 31)).drew from
    ⟨alloc_keep m0, alloc_keep m1, alloc_keep m2, alloc_keep m3, alloc_keep m4, a0, a1, a2, a3, a4, ((Below.refl _ w).alloc (Nat.le_refl _) _).drew⟩)
  clear o0 a0 a1 a2 a3 a4 m0 m1 m2 m3 m4
  first | (go_region_held (fun W' => W'.cell? ⟨b, 0, none⟩ = some (.int .i64 mw) ∧ W'.cell? ⟨b, 1, none⟩ = some (.bool ml) ∧ W'.cell? ⟨b, 2, none⟩ = some (.int .i64 mi) ∧ W'.cell? ⟨b, 3, none⟩ = some (.int .i64 me) ∧ W'.cell? ⟨b, 4, none⟩ = some (.bool mg) ∧ W'.cell? ⟨w.heap.size, 0, none⟩ = some (.int .i64 aw) ∧ W'.cell? ⟨w.heap.size, 1, none⟩ = some (.bool al) ∧ W'.cell? ⟨w.heap.size, 2, none⟩ = some (.int .i64 ri) ∧ W'.cell? ⟨w.heap.size, 3, none⟩ = some (.int .i64 re) ∧ W'.cell? ⟨w.heap.size, 4, none⟩ = some (.bool ag) ∧ Below w.heap.size w W') (first | exact G0.out | exact G1.out | fail) (first | (go_at_call 33; refine (CM.out _).mono ?_; rintro e w1 ⟨rfl, hb1⟩; have G1 := Lib.hid (G0.out.step hb1)))) | fail
  go_wp2
  go_ret
  exact ⟨rfl, G1.out.2.2.2.2.2.2.2.2.2.2⟩

def idxI (l : List Ac) (m : Ac) : Int := match placeN l m with | some i => (i : Int) | none => -1
theorem placeN_take {l : List Ac} {k : Nat} {m : Ac} (hk : k < l.length) (h : placeN (l.take k) m = none) : (l[k].mk0 = m → placeN l m = some k) ∧ (¬ l[k].mk0 = m → placeN (l.take (k + 1)) m = none) := by
  refine ⟨fun e => ?_, fun e => ?_⟩
  · unfold placeN at h ⊢
    rw [List.findIdx?_eq_some_iff_getElem]
    refine ⟨hk, by simpa using e, fun j hj => ?_⟩
    rw [List.findIdx?_eq_none_iff] at h
    have := h (l[j]'(by omega)) (by rw [List.mem_take_iff_getElem]; exact ⟨j, by omega, rfl⟩)
    simpa using this
  · rw [List.take_succ_eq_append_getElem hk]
    rw [placeN_none] at h ⊢
    rw [List.map_append, List.mem_append]
    rintro (h1 | h1)
    · exact h h1
    · simp at h1; exact e h1.symm

set_option maxHeartbeats 1000000 in
theorem indexFunc_any (A : Option Addr) (n c : Nat) (l : List Ac) (hn : l.length = n) (hl : n ≤ 1000) (m : Ac) (b : Nat) (w : World) (hA : Aces w A l) (hM : Mk b m w) :
    Calls Try.prog 41 #[.slice A n c, .func (.func 42) #[] #[.pointer (some ⟨b, 0, none⟩)]] w fun e w' => e = .returned (.int .i64 (idxI l m)) ∧ Below w.heap.size w w' := by
  have HN := Lib.hid hn
  have SA := Lib.hid hA
  have SM := Lib.hid hM
  clear hn hA hM
  go_enter Try.func41, Try.ntmps41
  go_wp2
  go_loopw [5, 8] (fun _ i wr => ∃ k : Nat, k ≤ n ∧ i = .int .i64 k ∧ placeN (l.take k) m = none ∧ Below w.heap.size w wr) (fun _ i _ => n - (intOf i).toNat)
  case atStart => exact ⟨0, Nat.zero_le _, rfl, rfl, Below.refl _ _⟩
  case round =>
    obtain ⟨k, hk, rfl, hpl, hbw⟩ := hrel
    have hbs := hbw.size
    have HPL := Lib.hid hpl
    clear hpl
    by_cases hlt : k < n
    · have hkl : k < l.length := by rw [HN.out]; exact hlt
      obtain ⟨g, o, rfl, hg, hc⟩ := (SA.out.below hbw) (List.ne_nil_of_length_pos (by omega))
      obtain ⟨c0, c1, c2, c3, c4⟩ := hc k l[k] (List.getElem?_eq_getElem hkl)
      have hst := placeN_take hkl HPL.out
      obtain ⟨x, hx⟩ : ∃ a, l[k] = a := ⟨_, rfl⟩
      rw [hx] at c0 c1 c2 c3 c4 hst
      have cC := isMark_any x m b wr (SM.out.step hbw)
      have HST := Lib.hid hst
      obtain ⟨aw, al, ri, re, ag⟩ := x
      dsimp only at c0 c1 c2 c3 c4
      unfold av at cC
      dsimp only at cC
      clear hc hx SA hst
      by_cases he : (⟨aw, al, ri, re, ag⟩ : Ac).mk0 = m
      · rw [decide_eq_true he] at cC
        have HE := Lib.hid he
        have CC := Lib.hid cC
        clear he cC
        go_wp2_with (go_at_call 42; refine CC.out.mono ?_; rintro e w1 ⟨rfl, hb1⟩)
        go_ret
        refine ⟨ret_int ?_, hbw.trans (hb1.mono hbs)⟩
        unfold idxI; rw [HST.out.1 HE.out]
      · rw [decide_eq_false he] at cC
        have HE := Lib.hid he
        have CC := Lib.hid cC
        clear he cC
        go_wp2_with (go_at_call 42; refine CC.out.mono ?_; rintro e w1 ⟨rfl, hb1⟩)
        go_roundw
        case rel => exact ⟨k + 1, by omega, by go_num, HST.out.2 HE.out, hbw.trans (hb1.mono hbs)⟩
        case measure => simp [intOf]; omega
    · obtain rfl : k = n := by omega
      have hfull : l.take k = l := List.take_of_length_le (by rw [HN.out]; exact Nat.le_refl _)
      have HR := Lib.hid (show idxI l m = -1 by unfold idxI; rw [← hfull, HPL.out])
      clear hfull
      go_wp2
      go_ret
      exact ⟨ret_int HR.out.symm, hbw⟩
end Go.Proofs.Ytkpedfigaofloaa
