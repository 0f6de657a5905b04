/-
  Walk of the program's Again; the append of one list to another, which may be nil.
-/
import Derived.Test.YtkpedfigaofloaaAh
import Derived.Laws.AppendOwnNone
namespace Go.Proofs.Ytkpedfigaofloaa
open Go.RowKit Ap
set_option maxHeartbeats 400000

theorem wpList_append_two {w : World} {ops : Array Oper} {rest : List Oper} {o : Oper} {a : Act} {Q : Exit → Act → World → Prop} (hgd : o.guard = none) (s x : Operand)
    (ho : o.op = .call { callee := .builtin .append, args := #[s, x], argTypes := #[22, 22] }) (base : Nat) {A A2 : Option Addr} {n c m c2 : Nat} {l1 l2 : List Ac} (hs : a.eval s = .slice A n c) (hown : w.ownsRow base 31 5 (.slice A n c) n (encs l1))
    (hx : a.eval x = .slice A2 m c2) (hA2 : Aces w A2 l2) (hl2 : l2.length = m) (hn2 : A2 = none → m = 0 ∧ c2 = 0) (hsz : n + m ≤ 4000) (hbase : base ≤ w.heap.size)
    (h : ∀ A' c' w', w'.ownsRow base 31 5 (.slice A' (n + m) c') (n + m) (encs (l1 ++ l2)) → w.grownBy w' (Value.slice A n c).ownBlock → wpList Try.prog ops Q rest (a.put o.dst (.slice A' (n + m) c')) w') : wpList Try.prog ops Q (o :: rest) a w := by
  obtain ⟨i0, hi, hz0, hz1, hz2⟩ := info_parts info_ace
  cases A2 with
  | none =>
    obtain ⟨rfl, rfl⟩ := hn2 rfl
    obtain rfl := List.length_eq_zero_iff.1 hl2
    refine wpList_append_own_none hgd s x 22 ho base 31 i0 5 Try.underlying22 hi _ n (encs l1) hs hown hx ?_
    exact h A c w (by simpa using hown) (World.grownBy.refl _ _)
  | some ad =>
    have hnews : ∀ j u, (encs l2)[j]? = some u → w.cell? (ad.add j) = some u := by
      by_cases hn0 : l2 = []
      · subst hn0; intro j u hu; cases hu
      · obtain ⟨g, o, hAe, _, hc⟩ := hA2 hn0
        obtain rfl : ad = ⟨g, o, none⟩ := by injection hAe
        exact Aces.cells hc
    refine wpList_append_own w hgd s x 22 ho base 31 i0 _ 5 40 Try.underlying22 hi hz0 hz1 hz2 rfl (by decide) _ n (encs l1) hs hown ad m c2 (encs l2) hx (by rw [encs_length, hl2]) hnews (encs_one' l2) (by unfold maxLen; omega) (by omega) hbase (fun v' w' hown' hg _ => ?_)
    obtain ⟨A', c', rfl⟩ := own_form hown'
    exact h A' c' w' (by rw [encs_append]; exact hown') hg

def againL (l d : List Ac) (isDir : Bool) : List Ac := ownL l false ++ childL d (rcOf isDir)
theorem ownL_len (l : List Ac) (g : Bool) : (ownL l g).length ≤ l.length := List.length_filter_le _ _

theorem again_any (A A2 : Option Addr) (n c n2 c2 : Nat) (l d : List Ac) (hn : l.length = n) (hl : n ≤ 1000) (hn2 : d.length = n2) (hl2 : n2 ≤ 1000) (hok : ∀ a ∈ d, a.ok) (isDir : Bool) (w : World) (hA : Aces w A l) (hA2 : Aces w A2 d) :
    Calls Try.prog 23 #[.slice A n c, .slice A2 n2 c2, .bool isDir] w fun e w' => ∃ A' m c', e = .returned (.slice A' m c') ∧ w'.ownsRow w.heap.size 31 5 (.slice A' m c') m (encs (againL l d isDir)) ∧ Below w.heap.size w w' := by
  have C1 := Lib.hid (ownOf_any A n c l hn hl w hA)
  have C2 := Lib.hid (fun W (hb : Below w.heap.size w W) => child_any A2 n2 c2 d hn2 hl2 hok isDir W (hA2.below hb))
  have h1 := ownL_len l false
  have h2 := childL_len d (rcOf isDir)
  rw [hn] at h1
  rw [hn2] at h2
  clear hn hn2 hok hA hA2
  unfold againL
  go_enter Try.func23, Try.ntmps23
  go_wp2_with (first | (go_at_call 39; refine C1.out.mono ?_; rintro e w1 ⟨A1, m1, c1, rfl, hr1, hb1⟩; have hr1 := Lib.hid hr1) | (go_at_call 21; refine (C2.out _ hb1).mono ?_; rintro e w2 ⟨A3, m3, c3, rfl, hr3, hb2⟩; have hr1' := Lib.hid (own_keep hr1.out hb2); have hr3 := Lib.hid hr3; have q1 := own_len hr1.out; have q2 := own_len hr3.out; have hb12 := hb1.trans (hb2.mono hb1.size); have hs2 := hb12.size) | (at_builtin; refine wpList_append_two rfl _ _ rfl w.heap.size rfl hr1'.out rfl (Aces.of_own hr3.out) q2 (own_none hr3.out) (by omega) hs2 ?_; intro A' c' w3 hown' hgrow))
  go_ret
  exact ⟨A', _, c', rfl, hown', hb12.grown hgrow hs2 (fun j hj => (hr1'.out.lt j hj).1)⟩
end Go.Proofs.Ytkpedfigaofloaa
