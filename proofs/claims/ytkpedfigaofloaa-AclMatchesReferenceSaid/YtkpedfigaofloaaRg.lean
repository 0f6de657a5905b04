/-
  Walk of the reference's Again and Allows' own list functions.
-/
import Derived.Test.YtkpedfigaofloaaRf
namespace Go.Proofs.Ytkpedfigaofloaa
open Go.RowKit Ap
set_option maxHeartbeats 400000

theorem ragain_any (A A2 : Option Addr) (n c n2 c2 : Nat) (l d : List Ac) (hn : l.length = n) (hl : n ≤ 1000) (hn2 : d.length = n2) (hl2 : n2 ≤ 1000) (isDir : Bool) (w : World) (hA : Aces w A l) (hA2 : Aces w A2 d) :
    Calls Try.prog 24 #[.slice A n c, .slice A2 n2 c2, .bool isDir] w fun e w' => ∃ A' m c', e = .returned (.slice A' m c') ∧ w'.ownsRow w.heap.size 31 5 (.slice A' m c') m (encs (againL l d isDir)) ∧ Below w.heap.size w w' := by
  have C1 := Lib.hid (rown_any A n c l hn hl false w hA)
  have C2 := Lib.hid (fun W (hb : Below w.heap.size w W) => rchild_any A2 n2 c2 d hn2 hl2 isDir W (hA2.below hb))
  have h1 := ownL_len l false
  have h2 := childL_len d (rcOf isDir)
  rw [hn] at h1
  rw [hn2] at h2
  clear hn hn2 hA hA2
  unfold againL
  go_enter Try.func24, Try.ntmps24
  go_wp2_with (first | (go_at_call 30; refine C1.out.mono ?_; rintro e w1 ⟨A1, m1, c1, rfl, hr1, hb1⟩; have hr1 := Lib.hid hr1) | (go_at_call 22; refine (C2.out _ hb1).mono ?_; rintro e w2 ⟨A3, m3, c3, rfl, hr3, hb2⟩; have hr1' := Lib.hid (own_keep hr1.out hb2); have hr3 := Lib.hid hr3; have q1 := own_len hr1.out; have q2 := own_len hr3.out; have hb12 := hb1.trans (hb2.mono hb1.size); have hs2 := hb12.size) | (at_builtin; refine wpList_append_two rfl _ _ rfl w.heap.size rfl hr1'.out rfl (Aces.of_own hr3.out) q2 (own_none hr3.out) (by omega) hs2 ?_; intro A' c' w3 hown' hgrow))
  go_ret
  exact ⟨A', _, c', rfl, hown', hb12.grown hgrow hs2 (fun j hj => (hr1'.out.lt j hj).1)⟩
end Go.Proofs.Ytkpedfigaofloaa
