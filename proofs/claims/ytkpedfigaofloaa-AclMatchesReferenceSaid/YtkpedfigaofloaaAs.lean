/-
  Walk of the fixed examples of the law file: they answer true in whatever world.
-/
import Derived.Test.YtkpedfigaofloaaAq
namespace Go.Proofs.Ytkpedfigaofloaa
open Go.RowKit Ap
set_option maxHeartbeats 400000

/-- The three lists of the examples. -/
def Ex (g1 g2 g3 : Nat) (w W : World) : Prop := Aces W (some ⟨g1, 0, none⟩) exL ∧ Aces W (some ⟨g2, 0, none⟩) exU ∧ Aces W (some ⟨g3, 0, none⟩) exH ∧ Below w.heap.size w W
theorem Ex.step {g1 g2 g3 : Nat} {w W W' : World} (h : Ex g1 g2 g3 w W) (hb : Below W.heap.size W W') : Ex g1 g2 g3 w W' :=
  ⟨h.1.below hb, h.2.1.below hb, h.2.2.1.below hb, h.2.2.2.trans (hb.mono h.2.2.2.size)⟩

theorem ex_start (w : World) : Ex w.heap.size (w.heap.size + 1) (w.heap.size + 2) w (((w.alloc (.cells #[.int .i64 5, .bool false, .int .i64 2, .int .i64 2, .bool false, .int .i64 (-1), .bool true, .int .i64 3, .int .i64 2, .bool false] 31)).alloc (.cells #[.int .i64 5, .bool true, .int .i64 1, .int .i64 3, .bool false] 31)).alloc (.cells #[.int .i64 5, .bool true, .int .i64 1, .int .i64 1, .bool true] 31)) := by
  have a1 := Aces.lit w exL 31
  have a2 := Aces.lit (w.alloc (.cells (encs exL).toArray 31)) exU 31
  have a3 := Aces.lit ((w.alloc (.cells (encs exL).toArray 31)).alloc (.cells (encs exU).toArray 31)) exH 31
  have e1 : (w.alloc (.cells (encs exL).toArray 31)).heap.size = w.heap.size + 1 := by simp
  have e2 : ((w.alloc (.cells (encs exL).toArray 31)).alloc (.cells (encs exU).toArray 31)).heap.size = w.heap.size + 2 := by simp
  rw [e1] at a2
  rw [e2] at a3
  exact ⟨(a1.below ((Below.refl _ _).alloc (Nat.le_refl _) _)).below ((Below.refl _ _).alloc (Nat.le_refl _) _), a2.below ((Below.refl _ _).alloc (Nat.le_refl _) _), a3, (((Below.refl _ w).alloc (Nat.le_refl _) _).alloc (by simp) _).alloc (by simp; omega) _⟩

theorem more_cell {W : World} {base g c : Nat} (h : W.ownsRow base 31 5 (.slice (some ⟨g, 0, none⟩) 1 c) 1 (encs exM)) : W.cell? ⟨g, 2, none⟩ = some (.int .i64 6) := by
  have := h.cellAt 2 (by omega)
  exact this
theorem row_some {w : World} {base n c : Nat} {e : TypeId} {s : Nat} {A : Option Addr} {xs : List Value} (h : w.ownsRow base e s (.slice A n c) n xs) (hn : 0 < n) : ∃ g, A = some ⟨g, 0, none⟩ := by
  obtain ⟨g, cap, hv, _, _⟩ := h.form hn
  injection hv with h1 h2 h3
  exact ⟨g, h1⟩
theorem ex_cells {g1 g2 g3 : Nat} {w W : World} (h : Ex g1 g2 g3 w W) :
    (W.cell? ⟨g1, 0, none⟩ = some (.int .i64 5) ∧ W.cell? ⟨g1, 1, none⟩ = some (.bool false) ∧ W.cell? ⟨g1, 2, none⟩ = some (.int .i64 2) ∧ W.cell? ⟨g1, 3, none⟩ = some (.int .i64 2) ∧ W.cell? ⟨g1, 4, none⟩ = some (.bool false)) ∧
    (W.cell? ⟨g1, 5, none⟩ = some (.int .i64 (-1)) ∧ W.cell? ⟨g1, 6, none⟩ = some (.bool true) ∧ W.cell? ⟨g1, 7, none⟩ = some (.int .i64 3) ∧ W.cell? ⟨g1, 8, none⟩ = some (.int .i64 2) ∧ W.cell? ⟨g1, 9, none⟩ = some (.bool false)) ∧
    (W.cell? ⟨g3, 0, none⟩ = some (.int .i64 5) ∧ W.cell? ⟨g3, 1, none⟩ = some (.bool true) ∧ W.cell? ⟨g3, 2, none⟩ = some (.int .i64 1) ∧ W.cell? ⟨g3, 3, none⟩ = some (.int .i64 1) ∧ W.cell? ⟨g3, 4, none⟩ = some (.bool true)) := by
  obtain ⟨h1, _, h3, _⟩ := h
  obtain ⟨g, o, hA, _, hc⟩ := h1 (by simp [exL])
  obtain ⟨g', o', hA', _, hc'⟩ := h3 (by simp [exH])
  injection hA with e1
  injection e1 with e2 e3 _
  subst e2 e3
  injection hA' with e1
  injection e1 with e2 e3 _
  subst e2 e3
  exact ⟨hc 0 _ rfl, hc 1 _ rfl, hc' 0 _ rfl⟩

def Fin (g g1 g3 bb : Nat) (A11 : Option Addr) (c11 : Nat) (W : World) : Prop := W.cell? ⟨g, 2, none⟩ = some (.int .i64 6) ∧ W.cell? ⟨bb, 0, none⟩ = some (.slice A11 0 c11) ∧ W.cell? ⟨bb, 1, none⟩ = some (.bool false) ∧ W.cell? ⟨g1, 0, none⟩ = some (.int .i64 5) ∧ W.cell? ⟨g1, 1, none⟩ = some (.bool false) ∧ W.cell? ⟨g1, 2, none⟩ = some (.int .i64 2) ∧ W.cell? ⟨g1, 3, none⟩ = some (.int .i64 2) ∧ W.cell? ⟨g1, 4, none⟩ = some (.bool false) ∧ W.cell? ⟨g1, 5, none⟩ = some (.int .i64 (-1)) ∧ W.cell? ⟨g1, 6, none⟩ = some (.bool true) ∧ W.cell? ⟨g1, 7, none⟩ = some (.int .i64 3) ∧ W.cell? ⟨g1, 8, none⟩ = some (.int .i64 2) ∧ W.cell? ⟨g1, 9, none⟩ = some (.bool false) ∧ W.cell? ⟨g3, 0, none⟩ = some (.int .i64 5) ∧ W.cell? ⟨g3, 1, none⟩ = some (.bool true) ∧ W.cell? ⟨g3, 2, none⟩ = some (.int .i64 1) ∧ W.cell? ⟨g3, 3, none⟩ = some (.int .i64 1) ∧ W.cell? ⟨g3, 4, none⟩ = some (.bool true)
theorem Fin.step {g g1 g3 bb : Nat} {A11 : Option Addr} {c11 : Nat} {W W' : World} (h : Fin g g1 g3 bb A11 c11 W) (hb : Below W.heap.size W W') : Fin g g1 g3 bb A11 c11 W' := by
  obtain ⟨q0, q1, q2, q3, q4, q5, q6, q7, q8, q9, q10, q11, q12, q13, q14, q15, q16, q17⟩ := h
  exact ⟨(hb.cell (block_lt_of_cell q0)).trans q0, (hb.cell (block_lt_of_cell q1)).trans q1, (hb.cell (block_lt_of_cell q2)).trans q2, (hb.cell (block_lt_of_cell q3)).trans q3, (hb.cell (block_lt_of_cell q4)).trans q4, (hb.cell (block_lt_of_cell q5)).trans q5, (hb.cell (block_lt_of_cell q6)).trans q6, (hb.cell (block_lt_of_cell q7)).trans q7, (hb.cell (block_lt_of_cell q8)).trans q8, (hb.cell (block_lt_of_cell q9)).trans q9, (hb.cell (block_lt_of_cell q10)).trans q10, (hb.cell (block_lt_of_cell q11)).trans q11, (hb.cell (block_lt_of_cell q12)).trans q12, (hb.cell (block_lt_of_cell q13)).trans q13, (hb.cell (block_lt_of_cell q14)).trans q14, (hb.cell (block_lt_of_cell q15)).trans q15, (hb.cell (block_lt_of_cell q16)).trans q16, (hb.cell (block_lt_of_cell q17)).trans q17⟩
theorem balloc (W : World) (o : Obj) : Below W.heap.size W (W.alloc o) := (Below.refl _ W).alloc (Nat.le_refl _) o
theorem bdrew (W : World) : Below W.heap.size W W.drew := (Below.refl _ W).drew

set_option maxRecDepth 100000 in
set_option maxHeartbeats 8000000 in
theorem sanity_any (w : World) : Calls Try.prog 10 #[] w fun e w' => e = .returned (.bool true) ∧ Below w.heap.size w w' := by
  obtain ⟨v1, v2, v3, v4, v5, v6, v7, v8, v9, v10, v11, v12, v13, v14, v15, v16, v17⟩ := ex_vals
  obtain ⟨okL, okU, okH, okM⟩ := ex_ok
  have R := fun (g1 g2 g3 : Nat) (who owner r : Int) (hr : (rightsV exL who owner).toInt = r) W (h : Ex g1 g2 g3 w W) => (rights_any (some ⟨g1, 0, none⟩) 2 2 exL rfl (by omega) who owner W h.1).mono (R' := fun e w' => e = .returned (.int .i64 r) ∧ Ex g1 g2 g3 w w') fun _ _ ⟨he, hb⟩ => ⟨by rw [he, hr], h.step hb⟩
  have RN := fun (g1 g2 g3 : Nat) W (h : Ex g1 g2 g3 w W) => (rights_any none 0 0 [] rfl (by omega) 0 9 W (Aces.nil _ _)).mono (R' := fun e w' => e = .returned (.int .i64 15) ∧ Ex g1 g2 g3 w w') fun _ _ ⟨he, hb⟩ => ⟨by rw [he, v4], h.step hb⟩
  have RU := fun (g1 g2 g3 : Nat) W (h : Ex g1 g2 g3 w W) => (rights_any (some ⟨g2, 0, none⟩) 1 1 exU rfl (by omega) 5 9 W h.2.1).mono (R' := fun e w' => e = .returned (.int .i64 0) ∧ Ex g1 g2 g3 w w') fun _ _ ⟨he, hb⟩ => ⟨by rw [he, v5], h.step hb⟩
  have AL := fun (g1 g2 g3 : Nat) (want : Int) (r : Bool) (hr : allowsB exL 6 9 want = r) W (h : Ex g1 g2 g3 w W) => (allows_any (some ⟨g1, 0, none⟩) 2 2 exL rfl (by omega) 6 9 want W h.1).mono (R' := fun e w' => e = .returned (.bool r) ∧ Ex g1 g2 g3 w w') fun _ _ ⟨he, hb⟩ => ⟨by rw [he, hr], h.step hb⟩
  have P1 := fun (g1 g2 g3 : Nat) W (h : Ex g1 g2 g3 w W) => (put_set (some ⟨g2, 0, none⟩) 1 1 exU ⟨5, true, 6, 3, false⟩ rfl okU (by intro e; cases e) v8 0 v9 (by decide) W h.2.1).mono (R' := fun e w' => ∃ g c, e = .returned (.tuple #[.slice (some ⟨g, 0, none⟩) 1 c, .int .i64 0]) ∧ w'.ownsRow W.heap.size 31 5 (.slice (some ⟨g, 0, none⟩) 1 c) 1 (encs exM) ∧ Ex g1 g2 g3 w w')
    fun _ _ ⟨A', c', he, hr, hb⟩ => by
      obtain ⟨g, rfl⟩ := row_some hr (by omega)
      exact ⟨g, c', he, hr, h.step hb⟩
  have P2 := fun (g1 g2 g3 : Nat) W (h : Ex g1 g2 g3 w W) => (put_del (some ⟨g2, 0, none⟩) 1 1 exU ⟨5, true, 0, 3, false⟩ rfl okU (by intro e; cases e) v10 0 v9 rfl W h.2.1).mono (R' := fun e w' => ∃ A c, e = .returned (.tuple #[.slice A 0 c, .int .i64 0]) ∧ Ex g1 g2 g3 w w' ∧ Below W.heap.size W w')
    fun _ _ ⟨A', c', he, hr, hb⟩ => ⟨A', c', he, h.step hb, hb⟩
  have P3 := fun (g1 g2 g3 : Nat) W (h : Ex g1 g2 g3 w W) => (put_bad (some ⟨g2, 0, none⟩) 1 1 exU ⟨5, true, 6, 3, true⟩ rfl (by omega) okU v11 W h.2.1).mono (R' := fun e w' => e = .returned (.tuple #[.slice none 0 0, .int .i64 20]) ∧ Ex g1 g2 g3 w w' ∧ Below W.heap.size W w')
    fun _ _ ⟨he, hb⟩ => ⟨he, h.step hb, hb⟩
  have MG := fun (g1 g2 g3 g c : Nat) W (h : Ex g1 g2 g3 w W) (ha : Aces W (some ⟨g, 0, none⟩) exM) => (lmerged_any (some ⟨g2, 0, none⟩) (some ⟨g, 0, none⟩) (some ⟨g1, 0, none⟩) 1 1 1 c 2 2 exU exM exL rfl (by omega) rfl (by omega) rfl (by omega) okU okM okL (by intro e; cases e) (by intro e; cases e) W h.2.1 ha h.1 _ v12).mono (R' := fun e w' => ∃ A c, e = .returned (.agg #[.slice A 0 c, .bool false]) ∧ Ex g1 g2 g3 w w' ∧ Below W.heap.size W w')
    fun _ _ ⟨A', m, c', he, hr, hb⟩ => by
      obtain rfl : 0 = m := own_len hr
      exact ⟨A', c', he, h.step hb, hb⟩
  have CH := fun (g1 g2 g3 : Nat) W (h : Ex g1 g2 g3 w W) => (child_any (some ⟨g2, 0, none⟩) 1 1 exU rfl (by omega) okU false W h.2.1).mono (R' := fun e w' => ∃ A c, e = .returned (.slice A 1 c) ∧ Aces w' A exH ∧ Ex g1 g2 g3 w w' ∧ Below W.heap.size W w')
    fun _ _ ⟨A', m, c', he, hr, hb⟩ => by
      rw [show rcOf false = 1 from rfl, v13] at hr
      obtain rfl : 1 = m := own_len hr
      exact ⟨A', c', he, Aces.of_own hr, h.step hb, hb⟩
  have RS := fun (g1 g2 g3 : Nat) (A : Option Addr) (c : Nat) W (h : Ex g1 g2 g3 w W) (ha : Aces W A exH) => (rsame_any A (some ⟨g3, 0, none⟩) 1 1 c 1 exH exH rfl rfl (by omega) (by omega) W ha h.2.2.1).mono (R' := fun e w' => e = .returned (.bool true) ∧ Ex g1 g2 g3 w w' ∧ Below W.heap.size W w')
    fun _ _ ⟨he, hb⟩ => ⟨by rw [he, decide_eq_true rfl], h.step hb, hb⟩
  have VL := fun (g1 g2 g3 : Nat) W (h : Ex g1 g2 g3 w W) => (valid_any (some ⟨g1, 0, none⟩) 2 2 exL rfl (by omega) okL W h.1).mono (R' := fun e w' => e = .returned (.bool true) ∧ Ex g1 g2 g3 w w' ∧ Below W.heap.size W w') fun _ _ ⟨he, hb⟩ => ⟨by rw [he, v14], h.step hb, hb⟩
  have VN := fun (g1 g2 g3 : Nat) W (h : Ex g1 g2 g3 w W) => (valid_any none 0 0 [] rfl (by omega) (by intro a ha; cases ha) W (Aces.nil _ _)).mono (R' := fun e w' => e = .returned (.bool true) ∧ Ex g1 g2 g3 w w' ∧ Below W.heap.size W w') fun _ _ ⟨he, hb⟩ => ⟨by rw [he, v15], h.step hb, hb⟩
  have VT := fun (g1 g2 g3 : Nat) W (h : Ex g1 g2 g3 w W) => (valid_any (some ⟨W.heap.size, 0, none⟩) 2 2 [⟨5, false, 2, 2, false⟩, ⟨5, false, 2, 2, false⟩] rfl (by omega) (fun a ha => okL a (by simp at ha; subst ha; simp [exL])) _ (Aces.lit W _ 31)).mono (R' := fun e w' => e = .returned (.bool false) ∧ Ex g1 g2 g3 w w' ∧ Below W.heap.size W w') fun _ _ ⟨he, hb⟩ => ⟨by rw [he, v16], (h.step (balloc _ _)).step hb, (balloc _ _).trans (hb.mono (balloc _ _).size)⟩
  have AG := fun (g1 g2 g3 : Nat) W (h : Ex g1 g2 g3 w W) => (again_any (some ⟨g1, 0, none⟩) (some ⟨g2, 0, none⟩) 2 2 1 1 exL exU rfl (by omega) rfl (by omega) okU false W h.1 h.2.1).mono (R' := fun e w' => ∃ A c, e = .returned (.slice A 3 c) ∧ Aces w' A (exL ++ exH) ∧ Ex g1 g2 g3 w w' ∧ Below W.heap.size W w')
    fun _ _ ⟨A', m, c', he, hr, hb⟩ => by
      rw [v17] at hr
      obtain rfl : 3 = m := own_len hr
      exact ⟨A', c', he, Aces.of_own hr, h.step hb, hb⟩
  have AB := fun (g1 g2 g3 : Nat) W (h : Ex g1 g2 g3 w W) => (AG g1 g2 g3 (W.alloc (.cells (encs (exL ++ exH)).toArray 31)) (h.step (balloc _ _))).mono (R' := fun e w' => ∃ A c, e = .returned (.slice A 3 c) ∧ Aces w' A (exL ++ exH) ∧ Aces w' (some ⟨W.heap.size, 0, none⟩) (exL ++ exH) ∧ Ex g1 g2 g3 w w' ∧ Below W.heap.size W w')
    fun _ _ ⟨A', c', he, ha, hx, hb⟩ => ⟨A', c', he, ha, (Aces.lit W _ 31).below hb, hx, (balloc _ _).trans (hb.mono (balloc _ _).size)⟩
  have SA := fun (g1 g2 g3 : Nat) (A : Option Addr) (c : Nat) W (h : Ex g1 g2 g3 w W) (ha : Aces W A (exL ++ exH)) => (same_any A (some ⟨W.heap.size, 0, none⟩) 3 3 c 3 (exL ++ exH) (exL ++ exH) rfl rfl (by omega) (by omega) _ (ha.below (balloc _ _)) (Aces.lit W _ 31)).mono (R' := fun e w' => e = .returned (.bool true) ∧ Ex g1 g2 g3 w w' ∧ Below W.heap.size W w')
    fun _ _ ⟨he, hb⟩ => ⟨by rw [he, decide_eq_true rfl], (h.step (balloc _ _)).step hb, (balloc _ _).trans (hb.mono (balloc _ _).size)⟩
  have SB := fun (g1 g2 g3 b : Nat) (A : Option Addr) (c : Nat) W (h : Ex g1 g2 g3 w W) (ha : Aces W A (exL ++ exH)) (hn : Aces W (some ⟨b, 0, none⟩) (exL ++ exH)) => (same_any A (some ⟨b, 0, none⟩) 3 3 c 3 (exL ++ exH) (exL ++ exH) rfl rfl (by omega) (by omega) W ha hn).mono (R' := fun e w' => e = .returned (.bool true) ∧ Ex g1 g2 g3 w w' ∧ Below W.heap.size W w')
    fun _ _ ⟨he, hb⟩ => ⟨by rw [he, decide_eq_true rfl], h.step hb, hb⟩
  have HAB := Lib.hid AB
  have HSB := Lib.hid SB
  clear AB SB
  unfold av at P1 P2 P3
  dsimp only at P1 P2 P3
  have HP1 := Lib.hid P1
  have HP2 := Lib.hid P2
  have HP3 := Lib.hid P3
  have HMG := Lib.hid MG
  have HCH := Lib.hid CH
  have HRS := Lib.hid RS
  have HVL := Lib.hid VL
  have HVN := Lib.hid VN
  have HVT := Lib.hid VT
  have HAG := Lib.hid AG
  have HSA := Lib.hid SA
  clear P1 P2 P3 MG CH RS VL VN VT AG SA
  have HR := Lib.hid R
  have HRN := Lib.hid RN
  have HRU := Lib.hid RU
  have HAL := Lib.hid AL
  have V := Lib.hid (And.intro v1 (And.intro v2 (And.intro v3 (And.intro v6 v7))))
  clear R RN RU AL v1 v2 v3 v4 v5 v6 v7 v8 v9 v10 v11 v12 v13 v14 v15 v16 v17 okL okU okH okM
  go_enter Try.func10, Try.ntmps10
  go_upto_region 3 with (fail)
  go_cut [3] (fun s3 wx => s3 = .slice (some ⟨w.heap.size + 2, 0, none⟩) 1 1 ∧ Ex w.heap.size (w.heap.size + 1) (w.heap.size + 2) w wx)
  case first =>
    go_wp2_with fail
    go_meet
    exact ⟨rfl, ex_start w⟩
  case rest =>
    obtain ⟨rfl, hx⟩ := hcut
    have hx := Lib.hid hx
    go_wp2_with (first | (go_at_call 15; first | ((with_reducible refine (HR.out _ _ _ 5 9 1 V.out.1 _ hx.out).mono ?_); rintro x w1 ⟨rfl, hx⟩; have hx := Lib.hid hx) | ((with_reducible refine (HR.out _ _ _ 6 9 3 V.out.2.1 _ hx.out).mono ?_); rintro x w2 ⟨rfl, hx⟩; have hx := Lib.hid hx) | ((with_reducible refine (HR.out _ _ _ 9 9 11 V.out.2.2.1 _ hx.out).mono ?_); rintro x w3 ⟨rfl, hx⟩; have hx := Lib.hid hx) | ((with_reducible refine (HRN.out _ _ _ _ hx.out).mono ?_); rintro x w4 ⟨rfl, hx⟩; have hx := Lib.hid hx) | ((with_reducible refine (HRU.out _ _ _ _ hx.out).mono ?_); rintro x w5 ⟨rfl, hx⟩; have hx := Lib.hid hx)) | (go_at_call 17; first | ((with_reducible refine (HAL.out _ _ _ 3 true V.out.2.2.2.1 _ hx.out).mono ?_); rintro x w6 ⟨rfl, hx⟩; have hx := Lib.hid hx) | ((with_reducible refine (HAL.out _ _ _ 4 false V.out.2.2.2.2 _ hx.out).mono ?_); rintro x w7 ⟨rfl, hx⟩; have hx := Lib.hid hx)) | (go_at_call 25; first | ((with_reducible refine (HP1.out _ _ _ _ hx.out).mono ?_); rintro x w8 ⟨g, cm, rfl, hr, hx⟩; have hx := Lib.hid hx; have hr := Lib.hid hr) | ((with_reducible refine (HP2.out _ _ _ _ hx.out).mono ?_); rintro x w9 ⟨A9, c9, rfl, hx, hb⟩; have hx := Lib.hid hx; have hr := Lib.hid (own_keep hr.out hb)) | ((with_reducible refine (HP3.out _ _ _ _ hx.out).mono ?_); rintro x w10 ⟨rfl, hx, hb⟩; have hx := Lib.hid hx; have hr := Lib.hid (own_keep hr.out hb))) | (go_at_call 27; refine (HMG.out _ _ _ _ _ _ hx.out (Aces.of_own hr.out)).mono ?_; rintro x w11 ⟨A11, c11, rfl, hx, hb⟩; have hx := Lib.hid hx; have hr := Lib.hid (own_keep hr.out hb)))
    obtain ⟨b0, b1⟩ := two_start w11 (.slice A11 0 c11) (.bool false) 42
    have F := Lib.hid (show Fin g w.heap.size (w.heap.size + 2) w11.heap.size A11 c11 (w11.alloc (.cells #[.slice A11 0 c11, .bool false] 42)).drew from by
      obtain ⟨⟨l0, l1, l2, l3, l4⟩, ⟨l5, l6, l7, l8, l9⟩, p0, p1, p2, p3, p4⟩ := ex_cells ((hx.out.step (balloc _ (.cells #[.slice A11 0 c11, .bool false] 42))).step (bdrew _))
      exact ⟨more_cell (own_keep (own_keep hr.out (balloc _ _)) (bdrew _)), b0, b1, l0, l1, l2, l3, l4, l5, l6, l7, l8, l9, p0, p1, p2, p3, p4⟩)
    have hx := Lib.hid ((hx.out.step (balloc _ (.cells #[.slice A11 0 c11, .bool false] 42))).step (bdrew _))
    clear b0 b1
    simp only [List.append]
    clear HR HRN HRU HAL V HP1 HP2 HP3 HMG hr
    first | (go_region_held (fun W' => W'.cell? ⟨g, 2, none⟩ = some (.int .i64 6) ∧ W'.cell? ⟨w11.heap.size, 0, none⟩ = some (.slice A11 0 c11) ∧ W'.cell? ⟨w11.heap.size, 1, none⟩ = some (.bool false) ∧ W'.cell? ⟨w.heap.size, 0, none⟩ = some (.int .i64 5) ∧ W'.cell? ⟨w.heap.size, 1, none⟩ = some (.bool false) ∧ W'.cell? ⟨w.heap.size, 2, none⟩ = some (.int .i64 2) ∧ W'.cell? ⟨w.heap.size, 3, none⟩ = some (.int .i64 2) ∧ W'.cell? ⟨w.heap.size, 4, none⟩ = some (.bool false) ∧ W'.cell? ⟨w.heap.size, 5, none⟩ = some (.int .i64 (-1)) ∧ W'.cell? ⟨w.heap.size, 6, none⟩ = some (.bool true) ∧ W'.cell? ⟨w.heap.size, 7, none⟩ = some (.int .i64 3) ∧ W'.cell? ⟨w.heap.size, 8, none⟩ = some (.int .i64 2) ∧ W'.cell? ⟨w.heap.size, 9, none⟩ = some (.bool false) ∧ W'.cell? ⟨w.heap.size + 2, 0, none⟩ = some (.int .i64 5) ∧ W'.cell? ⟨w.heap.size + 2, 1, none⟩ = some (.bool true) ∧ W'.cell? ⟨w.heap.size + 2, 2, none⟩ = some (.int .i64 1) ∧ W'.cell? ⟨w.heap.size + 2, 3, none⟩ = some (.int .i64 1) ∧ W'.cell? ⟨w.heap.size + 2, 4, none⟩ = some (.bool true)) (first | with_reducible exact F.out | exact F.out | exact (F.out.step (balloc _ _)) | fail) (first | (go_at_call 21; (with_reducible refine (HCH.out _ _ _ _ hx.out).mono ?_); rintro x w12 ⟨A12, c12, rfl, ha, hx, hb⟩; have ha := Lib.hid ha; have hx := Lib.hid hx; have F := Lib.hid (F.out.step hb)) | (go_at_call 20; (with_reducible refine (HRS.out _ _ _ _ _ _ hx.out ha.out).mono ?_); rintro x w13 ⟨rfl, hx, hb⟩; have hx := Lib.hid hx; have F := Lib.hid (F.out.step hb)) | (go_at_call 13; first | ((with_reducible refine (HVL.out _ _ _ _ hx.out).mono ?_); rintro x w14 ⟨rfl, hx, hb⟩; have hx := Lib.hid hx; have F := Lib.hid (F.out.step hb)) | ((with_reducible refine (HVN.out _ _ _ _ hx.out).mono ?_); rintro x w15 ⟨rfl, hx, hb⟩; have hx := Lib.hid hx; have F := Lib.hid (F.out.step hb)) | (refine (HVT.out _ _ _ _ hx.out).mono ?_; rintro x w16 ⟨rfl, hx, hb⟩; have hx := Lib.hid hx; have F := Lib.hid (F.out.step hb))) | (go_at_call 23; first | ((with_reducible refine (HAG.out _ _ _ _ hx.out).mono ?_); rintro x w17 ⟨A17, c17, rfl, ha, hx, hb⟩; have ha := Lib.hid ha; have hx := Lib.hid hx; have F := Lib.hid (F.out.step hb)) | (refine (HAB.out _ _ _ _ hx.out).mono ?_; rintro x w17 ⟨A17, c17, rfl, ha, hn, hx, hb⟩; have ha := Lib.hid ha; have hn := Lib.hid hn; have hx := Lib.hid hx; have F := Lib.hid (F.out.step hb))) | (go_at_call 19; first | ((with_reducible refine (HSB.out _ _ _ _ _ _ _ hx.out ha.out hn.out).mono ?_); rintro x w18 ⟨rfl, hx, hb⟩; have hx := Lib.hid hx; have F := Lib.hid (F.out.step hb)) | (refine (HSA.out _ _ _ _ _ _ hx.out ha.out).mono ?_; rintro x w18 ⟨rfl, hx, hb⟩; have hx := Lib.hid hx; have F := Lib.hid (F.out.step hb))))) | fail
    all_goals
      go_wp2
      go_ret
      exact ⟨rfl, hx.out.2.2.2⟩
end Go.Proofs.Ytkpedfigaofloaa
