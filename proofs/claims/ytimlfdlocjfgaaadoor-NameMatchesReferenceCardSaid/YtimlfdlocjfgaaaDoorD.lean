/-
  Walks of the iterator over a text's parts (a range over a function): for every loop body that keeps what lay before. The world must hold some integer in the library's variable MaxLen.
-/
import Derived.RangeFuncNested
import Derived.RangeFuncBox
import Derived.RangeFuncBound
import Derived.RangeFuncCalls
import Derived.RangeFuncLeaves
import Derived.Shelf.Abstract
import Derived.Shelf.RegionOpen
import Derived.WalkKit
import Derived.OwnWalkIn
import Derived.TacticsInMore
import Derived.LoopNIn
import Derived.LoopIn
import Derived.Maps.AppendAt
import Derived.Test.YtimlfdlocjfgaaaDoorB
import Derived.Test.YtimlfdlocjfgaaaDoorPn
import Derived.Test.YtimlfdlocjfgaaaDoorShelf
namespace Go.Proofs.YtimlfdlocjfgaaaDoor
open Go.RowKit Go.Shelf Pl
attribute [local go_sem] Oper.semAt_some

/-- A text that a Go string can hold. -/
abbrev Tx := { x : ByteArray // x.size ≤ maxLen }
def txs (l : List Tx) : List Bs := l.map fun x => x.1.data.toList
theorem txs_snoc (l : List Tx) (x : Tx) : txs (l ++ [x]) = txs l ++ [x.1.data.toList] := by simp [txs]

def moreLen (r m : Value) : Nat := match r, m with
  | .string s, .bool true => s.size + 1
  | _, _ => 0

theorem names_any (F : Fence) (n : Nat) (h45 : F.fn 45) (hro : F.round = none) (p : ByteArray) (w : World) :
    CallsIn F n Tryd.prog 45 #[.string p] w fun e w' => e = .returned (.func (.func 51) #[] #[.pointer (some ⟨w.heap.size, 0, none⟩)]) ∧ w' = w.alloc (.cells #[.string p] 9) := by
  refine callsIn_of_wp Tryd.func45 rfl h45 ?_ hro
  simp only [Tryd.ntmps45, List.size_toArray, List.length_cons, List.length_nil, Nat.reduceAdd, Nat.reduceSub, Array.replicate_succ, Array.replicate_zero, List.push_toArray, List.append_toArray, List.nil_append, List.cons_append]
  gi_wp2
  go_ret
  exact ⟨rfl, rfl⟩

theorem cut_any (F : Fence) (n : Nat) (hF : F = Fence.wide) (s : ByteArray) (m : Int) (w : World) (hs : s.size < 4294967281) (hm : w.cell? ⟨2, 0, none⟩ = some (.int .i64 m)) :
    CallsIn F n Tryd.prog 52 #[.string s, .string ⟨#[47]⟩] w fun e w' => e = .returned (.tuple #[.string (mk (Lib.cut s.data.toList [47]).1), .string (mk (Lib.cut s.data.toList [47]).2.1), .bool (Lib.cut s.data.toList [47]).2.2]) ∧ ∃ q, w' = w.drewN q := by
  subst hF
  exact callsIn_wide.2 (Tryd.strings_Cut s ⟨#[47]⟩ m w hs hm)

set_option maxRecDepth 100000 in
set_option maxHeartbeats 1000000 in
theorem names1_in (n : Nat) (hn : 1 ≤ n) (l Bn n₀ : Nat) (p : ByteArray) (hp : p.size < 4294967281) (J Jx : List Tx → World → Prop)
    (hY : ∀ (pre : List Tx) (x : Tx) W, J pre W → pre.length < (cut p.data.toList).length → YieldAt Fence.wide (n - 1) Tryd.prog l #[.string x.1] W fun e W' =>
      (e = .returned (.bool true) ∧ J (pre ++ [x]) W' ∧ Below n₀ W W') ∨ (e = .returned (.bool false) ∧ Jx (pre ++ [x]) W'))
    (W : World) (hJ : AbidesFrom W.heap.size J) (h2 : 2 < n₀) (m : Int) (hm : W.cell? ⟨2, 0, none⟩ = some (.int .i64 m)) (hBn : W.cell? ⟨Bn, 0, none⟩ = some (.string p)) (h0 : J [] W) :
    CallsIn Fence.wide n Tryd.prog 51 #[.func (.yield l) #[] #[], .pointer (some ⟨Bn, 0, none⟩)] W fun e W' => (∃ v, e = .returned v) ∧
      ((∃ ys, txs ys = cut p.data.toList ∧ J ys W') ∨ (∃ pre, txs pre <+: cut p.data.toList ∧ Jx pre W')) := by
  have hJd : ∀ s (A : World) (q : Nat), J s A → J s (A.drewN q) := fun s A q h => hJ s A _ none h ⟨rfl, rfl, rfl, Nat.le_refl _, fun _ _ _ => rfl⟩ (fun r e => by cases e)
  have HJ := Lib.hid hJ
  have HJd := Lib.hid hJd
  have HY := Lib.hid hY
  clear hJ hJd hY
  have h53 : Fence.wide.fn 51 := trivial
  refine callsIn_of_wp Tryd.func51 rfl h53 ?_ rfl
  simp only [Tryd.ntmps51, List.size_toArray, List.length_cons, List.length_nil, Nat.reduceAdd, Nat.reduceSub, Array.replicate_succ, Array.replicate_zero, List.push_toArray, List.append_toArray, List.nil_append, List.cons_append]
  gi_wp2
  gi_region
  gi_wp2
  gi_loopw [3, 4] (fun r b wr => ∃ (s : ByteArray) (f : Bool) (pre : List Tx), r = .string s ∧ b = .bool f ∧ s.size ≤ p.size ∧ J pre wr ∧ wr.cell? ⟨2, 0, none⟩ = some (.int .i64 m) ∧
      (f = true → txs pre ++ cutGo [] s.data.toList = cut p.data.toList) ∧ (f = false → txs pre = cut p.data.toList))
    (fun r b _ => moreLen r b)
  case atStart =>
    refine ⟨p, _, [], rfl, rfl, Nat.le_refl _, HJd.out [] W 1 h0, hm, fun h => ?_, fun h => ?_⟩
    · rw [cutGo_cut (fun e => by rw [Lib.toList_data, e] at h; simp at h)]; rfl
    · have : p.data.toList = [] := by rw [Lib.toList_data] at h; simpa using h
      rw [this]; rfl
  case round =>
    obtain ⟨s, f, pre, rfl, rfl, hsz, hJs, hms, hgo, hend⟩ := hrel
    cases f with
    | false =>
      have HE := Lib.hid (hend rfl)
      clear hgo hend
      gi_wp2
      go_end0
      exact ⟨⟨_, rfl⟩, .inl ⟨pre, HE.out, hJs⟩⟩
    | true =>
      have hg := hgo rfl
      have hst := cutGo_step s.data.toList []
      have hcl := libcut_len s.data.toList
      have hcl2 := libcut_len2 s.data.toList
      have cC := fun W' hm' => cut_any Fence.wide (n - 1) rfl s m W' (by omega) hm'
      obtain ⟨a, ha⟩ : ∃ a, mk (Lib.cut s.data.toList [47]).1 = a := ⟨_, rfl⟩
      obtain ⟨r2, hr2⟩ : ∃ r2, mk (Lib.cut s.data.toList [47]).2.1 = r2 := ⟨_, rfl⟩
      obtain ⟨f2, hf2⟩ : ∃ f2, (Lib.cut s.data.toList [47]).2.2 = f2 := ⟨_, rfl⟩
      have ha' : (Lib.cut s.data.toList [47]).1 = a.data.toList := by rw [← ha, mk_data]
      have hr2' : (Lib.cut s.data.toList [47]).2.1 = r2.data.toList := by rw [← hr2, mk_data]
      simp only [ha, hr2, hf2] at cC
      rw [ha', hr2', hf2] at hst
      rw [ha', hr2', hf2, ← Lib.size_eq, ← Lib.size_eq, ← Lib.size_eq] at hcl
      rw [hst, List.nil_append] at hg
      obtain ⟨hca, hcr⟩ := hcl
      rw [hr2', ← Lib.size_eq, ← Lib.size_eq] at hcl2
      have hlen : pre.length < (cut p.data.toList).length := by rw [← hg]; simp [txs]
      have HG := Lib.hid hg
      have CC := Lib.hid cC
      have HCR := Lib.hid hcr
      clear hgo hend hg hst ha hr2 hf2 ha' hr2' cC hcr
      have hxs : a.size ≤ maxLen := by unfold maxLen; omega
      gi_wp2_with fail
      refine ⟨trivial, ?_⟩
      gi_at_call 52
      refine (CC.out _ hms).mono ?_
      rintro e w' ⟨rfl, q, rfl⟩
      obtain ⟨fn, tmps, assign, body, hy, hR⟩ := HY.out pre ⟨a, hxs⟩ (wr.drewN q) (HJd.out pre wr q hJs) hlen
      dsimp only at hy
      gi_wp2
      refine hR.mono ?_
      rintro e W3 (⟨rfl, hJ3, hk3⟩ | ⟨rfl, hJx3⟩)
      · have hm3 : W3.cell? ⟨2, 0, none⟩ = some (.int .i64 m) := (hk3.cell (p := ⟨2, 0, none⟩) h2).trans hms
        gi_wp2
        go_roundw
        case rel =>
          refine ⟨r2, f2, pre ++ [⟨a, hxs⟩], rfl, rfl, ?_, hJ3, hm3, fun h => ?_, fun h => ?_⟩
          · omega
          · rw [← HG.out, txs_snoc, h]; simp
          · rw [← HG.out, txs_snoc, h]; simp
        case measure =>
          cases f2
          · simp [moreLen]
          · have := HCR.out rfl; simp [moreLen]; omega
      · gi_wp2
        refine bodyPost_ret (results_none rfl _ _ _) rfl ?_
        refine ⟨⟨_, rfl⟩, .inr ⟨pre ++ [⟨a, hxs⟩], ?_, hJx3⟩⟩
        rw [← HG.out, txs_snoc]
        exact ⟨_, by rw [List.append_assoc]; rfl⟩
end Go.Proofs.YtimlfdlocjfgaaaDoor
