/-
  The reference's Merge, all ways.
-/
import Derived.Test.YtkpedfigaofloaaRi
namespace Go.Proofs.Ytkpedfigaofloaa
open Go.RowKit Ap
set_option maxHeartbeats 400000

theorem rmerge_any (A0 A1 A2 : Option Addr) (n0 c0 n1 c1 n2 c2 : Nat) (base mine theirs : List Ac) (h0 : base.length = n0) (l0 : n0 ≤ 12) (h1 : mine.length = n1) (l1 : n1 ≤ 12) (h2 : theirs.length = n2) (l2 : n2 ≤ 12)
    (G0 : Ap.Good base) (G1 : Ap.Good mine) (G2 : Ap.Good theirs) (s1 : A1 = none → n1 = 0 ∧ c1 = 0) (w : World) (a0 : Aces w A0 base) (a1 : Aces w A1 mine) (a2 : Aces w A2 theirs) :
    Calls Try.prog 28 #[.slice A0 n0 c0, .slice A1 n1 c1, .slice A2 n2 c2] w (MRes (mergeS base mine theirs) w) := by
  unfold mergeS
  by_cases e1 : mine = base
  · rw [if_pos e1]
    exact rmerge_eq1 A0 A1 A2 n0 c0 n1 c1 n2 c2 base mine theirs h0 (by omega) h1 (by omega) h2 e1 w a0 a1 a2
  · rw [if_neg e1]
    by_cases e2 : theirs = base ∨ mine = theirs
    · rw [if_pos e2]
      exact rmerge_eq2 A0 A1 A2 n0 c0 n1 c1 n2 c2 base mine theirs h0 (by omega) h1 (by omega) h2 (by omega) e1 e2 w a0 a1 a2
    · rw [if_neg e2, ← refM_eq G0 G1 G2]
      exact rmerge_main A0 A1 A2 n0 c0 n1 c1 n2 c2 base mine theirs h0 l0 h1 l1 h2 l2 G0 G1 G2 s1 e1 (fun e => e2 (.inl e)) (fun e => e2 (.inr e)) w a0 a1 a2
end Go.Proofs.Ytkpedfigaofloaa
