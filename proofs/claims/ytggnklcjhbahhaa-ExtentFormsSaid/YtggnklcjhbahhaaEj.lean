/-
  Walks of the law file's put, cut, same and sane, for whatever program keeps its contracts.
-/
import Derived.Test.YtggnklcjhbahhaaEi
namespace Go.Proofs.Ytggnklcjhbahhaa
open Go.RowKit Ex
set_option maxHeartbeats 400000
set_option maxRecDepth 100000

theorem wrap_cut (A : Option Addr) (nb cb : Nat) (n : Int) (w : World) (R : Value → Int → World → Prop)
    (hC : Calls Try.prog 40 #[.slice A nb cb, .int .i64 n] (w.alloc (.cells #[.slice none 0 0, .int .i64 0] 40)) fun e w' => ∃ A' m c' er, e = .returned (.tuple #[.slice A' m c', .int .i64 er]) ∧ R (.slice A' m c') er w' ∧ Below (w.heap.size + 1) (w.alloc (.cells #[.slice none 0 0, .int .i64 0] 40)) w') :
    Calls Try.prog 23 #[.slice A nb cb, .int .i64 n] w fun e w' => ∃ v er W, e = .returned (.agg #[v, .int .i64 er]) ∧ R v er W ∧ w' = (W.setCell ⟨w.heap.size, 0, none⟩ v).setCell ⟨w.heap.size, 1, none⟩ (.int .i64 er) ∧ RBox w 40 W := by
  have HB := Lib.hid (rbox_start w 40)
  have HC := Lib.hid hC
  clear hC
  go_enter Try.func23, Try.ntmps23
  go_wp2_with (go_at_call 40; refine HC.out.mono ?_; rintro e w1 ⟨A', m, c', er, rfl, hR, hb1⟩; have hB1 := HB.out.step (hb1.mono (by rw [box_size]; exact Nat.le_refl _)); obtain ⟨⟨z0, e0⟩, ⟨z1, e1⟩, f0, f1⟩ := hB1.cells; have hls := hB1.2.size; have HB1 := Lib.hid hB1; have HR := Lib.hid hR)
  have hd := set_results HB1.out (.slice A' m c') er
  refine bodyPost_ret (v := .agg #[.slice A' m c', .int .i64 er]) ?_ rfl ⟨_, _, w1, rfl, HR.out, rfl, HB1.out⟩
  simp [results, Try.results23, go_sem, hd.1, hd.2]
theorem Si.boxed {lo n c s : Nat} {w : World} {A : Option Addr} {xs : List Int} (h : Si lo w A n c s xs) (t : TypeId) : Si lo (w.alloc (.cells #[.slice none 0 0, .int .i64 0] t)) A n c s xs := h.below ((Below.refl _ w).alloc (Nat.le_refl _) _)
theorem Si.unbox {n c s : Nat} {w W : World} {A : Option Addr} {xs : List Int} (h : Si (w.heap.size + 1) W A n c s xs) (v : Value) (er : Int) : Si w.heap.size ((W.setCell ⟨w.heap.size, 0, none⟩ v).setCell ⟨w.heap.size, 1, none⟩ (.int .i64 er)) A n c s xs :=
  ((h.set (p := ⟨w.heap.size, 0, none⟩) (Nat.lt_succ_self _) _).set (p := ⟨w.heap.size, 1, none⟩) (Nat.lt_succ_self _) _).mono (Nat.le_succ _)
theorem env_box {Env : World → Prop} (P : Prg Env) {w : World} (hE : Env w) (t : TypeId) : Env (w.alloc (.cells #[.slice none 0 0, .int .i64 0] t)) := P.env hE ((Below.refl _ w).alloc (Nat.le_refl _) _)
section
variable {Env : World → Prop} (P : Prg Env) {A : Option Addr} {n c : Nat} {b : List Pc} {w : World} (hE : Env w) (hA : Sp 0 w A n c b) (hv : validL b = true)
include P hE hA hv
theorem put_arg (off id k : Int) (h1 : (Lit.int .i64 off).wf = true) (h2 : (Lit.int .i64 id).wf = true) (h3 : (Lit.int .i64 k).wf = true) (h : ¬ (1 ≤ id ∧ id < 4096 ∧ 0 ≤ off ∧ 1 ≤ k)) :
    Calls Try.prog 20 #[.slice A n c, .int .i64 off, .int .i64 id, .int .i64 k] w fun e w' => ∃ A' c', e = .returned (.agg #[.slice A' 0 c', .int .i64 1]) ∧ Below w.heap.size w w' := by
  refine (wrap_put _ _ _ _ _ _ w (fun v er _ => ∃ A' c', v = .slice A' 0 c' ∧ er = 1) ?_).mono ?_
  · refine (P.putArg A n c b off id k _ (env_box P hE _) (hA.boxed _) hv h1 h2 h3 h).mono ?_
    rintro e w' ⟨A', c', rfl, hb⟩
    exact ⟨A', 0, c', 1, rfl, ⟨A', c', rfl, rfl⟩, hb.mono (by rw [box_size]; exact Nat.le_refl _)⟩
  · rintro e w' ⟨v, er, W, rfl, ⟨A', c', rfl, rfl⟩, rfl, hB⟩
    exact ⟨A', c', rfl, rbox_end hB _ _⟩
theorem put_big (off id k : Int) (h1 : (Lit.int .i64 off).wf = true) (h2 : (Lit.int .i64 id).wf = true) (h3 : (Lit.int .i64 k).wf = true) (g1 : 1 ≤ id) (g2 : id < 4096) (g3 : 0 ≤ off) (g4 : 1 ≤ k) (g5 : 1048576 < off + k) :
    Calls Try.prog 20 #[.slice A n c, .int .i64 off, .int .i64 id, .int .i64 k] w fun e w' => ∃ A' c', e = .returned (.agg #[.slice A' 0 c', .int .i64 2]) ∧ Below w.heap.size w w' := by
  refine (wrap_put _ _ _ _ _ _ w (fun v er _ => ∃ A' c', v = .slice A' 0 c' ∧ er = 2) ?_).mono ?_
  · refine (P.putBig A n c b off id k _ (env_box P hE _) (hA.boxed _) hv h1 h2 h3 g1 g2 g3 g4 g5).mono ?_
    rintro e w' ⟨A', c', rfl, hb⟩
    exact ⟨A', 0, c', 2, rfl, ⟨A', c', rfl, rfl⟩, hb.mono (by rw [box_size]; exact Nat.le_refl _)⟩
  · rintro e w' ⟨v, er, W, rfl, ⟨A', c', rfl, rfl⟩, rfl, hB⟩
    exact ⟨A', c', rfl, rbox_end hB _ _⟩
theorem put_yes (off id k : Int) (g1 : 1 ≤ id) (g2 : id < 4096) (g3 : 0 ≤ off) (g4 : 1 ≤ k) (g5 : off + k ≤ 1048576) :
    Calls Try.prog 20 #[.slice A n c, .int .i64 off, .int .i64 id, .int .i64 k] w fun e w' => ∃ A' m c' r, e = .returned (.agg #[.slice A' m c', .int .i64 0]) ∧ Sp w.heap.size w' A' m c' r ∧ validL r = true ∧ eachL r = putB (eachL b) off id k ∧ Below w.heap.size w w' := by
  refine (wrap_put _ _ _ _ _ _ w (fun v er W => ∃ A' m c' r, v = .slice A' m c' ∧ er = 0 ∧ Sp (w.heap.size + 1) W A' m c' r ∧ validL r = true ∧ eachL r = putB (eachL b) off id k) ?_).mono ?_
  · refine (P.putYes A n c b off id k _ (env_box P hE _) (hA.boxed _) hv g1 g2 g3 g4 g5).mono ?_
    rintro e w' ⟨A', m, c', r, rfl, hS, hr, he, hb⟩
    rw [box_size] at hS
    exact ⟨A', m, c', 0, rfl, ⟨A', m, c', r, rfl, rfl, hS, hr, he⟩, hb.mono (by rw [box_size]; exact Nat.le_refl _)⟩
  · rintro e w' ⟨v, er, W, rfl, ⟨A', m, c', r, rfl, rfl, hS, hr, he⟩, rfl, hB⟩
    exact ⟨A', m, c', r, rfl, hS.unbox _ _, hr, he, rbox_end hB _ _⟩
theorem cut_arg (k : Int) (h1 : (Lit.int .i64 k).wf = true) (h : k < 0) :
    Calls Try.prog 23 #[.slice A n c, .int .i64 k] w fun e w' => ∃ A' c', e = .returned (.agg #[.slice A' 0 c', .int .i64 1]) ∧ Below w.heap.size w w' := by
  refine (wrap_cut _ _ _ _ w (fun v er _ => ∃ A' c', v = .slice A' 0 c' ∧ er = 1) ?_).mono ?_
  · refine (P.cutArg A n c b k _ (env_box P hE _) (hA.boxed _) hv h1 h).mono ?_
    rintro e w' ⟨A', c', rfl, hb⟩
    exact ⟨A', 0, c', 1, rfl, ⟨A', c', rfl, rfl⟩, hb.mono (by rw [box_size]; exact Nat.le_refl _)⟩
  · rintro e w' ⟨v, er, W, rfl, ⟨A', c', rfl, rfl⟩, rfl, hB⟩
    exact ⟨A', c', rfl, rbox_end hB _ _⟩
theorem cut_big (k : Int) (h1 : (Lit.int .i64 k).wf = true) (h : 1048576 < k) :
    Calls Try.prog 23 #[.slice A n c, .int .i64 k] w fun e w' => ∃ A' c', e = .returned (.agg #[.slice A' 0 c', .int .i64 2]) ∧ Below w.heap.size w w' := by
  refine (wrap_cut _ _ _ _ w (fun v er _ => ∃ A' c', v = .slice A' 0 c' ∧ er = 2) ?_).mono ?_
  · refine (P.cutBig A n c b k _ (env_box P hE _) (hA.boxed _) hv h1 h).mono ?_
    rintro e w' ⟨A', c', rfl, hb⟩
    exact ⟨A', 0, c', 2, rfl, ⟨A', c', rfl, rfl⟩, hb.mono (by rw [box_size]; exact Nat.le_refl _)⟩
  · rintro e w' ⟨v, er, W, rfl, ⟨A', c', rfl, rfl⟩, rfl, hB⟩
    exact ⟨A', c', rfl, rbox_end hB _ _⟩
theorem cut_yes (k : Int) (g3 : 0 ≤ k) (g5 : k ≤ 1048576) :
    Calls Try.prog 23 #[.slice A n c, .int .i64 k] w fun e w' => ∃ A' m c' r, e = .returned (.agg #[.slice A' m c', .int .i64 0]) ∧ Sp w.heap.size w' A' m c' r ∧ validL r = true ∧ eachL r = cutB (eachL b) k ∧ Below w.heap.size w w' := by
  refine (wrap_cut _ _ _ _ w (fun v er W => ∃ A' m c' r, v = .slice A' m c' ∧ er = 0 ∧ Sp (w.heap.size + 1) W A' m c' r ∧ validL r = true ∧ eachL r = cutB (eachL b) k) ?_).mono ?_
  · refine (P.cutYes A n c b k _ (env_box P hE _) (hA.boxed _) hv g3 g5).mono ?_
    rintro e w' ⟨A', m, c', r, rfl, hS, hr, he, hb⟩
    rw [box_size] at hS
    exact ⟨A', m, c', 0, rfl, ⟨A', m, c', r, rfl, rfl, hS, hr, he⟩, hb.mono (by rw [box_size]; exact Nat.le_refl _)⟩
  · rintro e w' ⟨v, er, W, rfl, ⟨A', m, c', r, rfl, rfl, hS, hr, he⟩, rfl, hB⟩
    exact ⟨A', m, c', r, rfl, hS.unbox _ _, hr, he, rbox_end hB _ _⟩
end
set_option maxHeartbeats 1000000 in
theorem same_any (A A2 : Option Addr) (n n2 c c2 : Nat) (l l2 : List Pc) (hn : l.length = n) (hn2 : l2.length = n2) (hl : n ≤ 4294967296) (hl2 : n2 ≤ 4294967296) (e e2 : Int) (w : World) (hA : Pcs w A l) (hA2 : Pcs w A2 l2) :
    Calls Try.prog 22 #[.agg #[.slice A n c, .int .i64 e], .agg #[.slice A2 n2 c2, .int .i64 e2]] w fun d w' => d = .returned (.bool (decide (l = l2) && (e == e2))) ∧ Below w.heap.size w w' := by
  have hW : Below w.heap.size w ((w.alloc (.cells #[.slice A n c, .int .i64 e] 40)).alloc (.cells #[.slice A2 n2 c2, .int .i64 e2] 40)) := by go_grown
  have HC := Lib.hid (Same_any A A2 n n2 c c2 l l2 hn hn2 hl hl2 ((w.alloc (.cells #[.slice A n c, .int .i64 e] 40)).alloc (.cells #[.slice A2 n2 c2, .int .i64 e2] 40)) (hA.below hW) (hA2.below hW))
  obtain ⟨d1, h1⟩ : ∃ d, decide (l = l2) = d := ⟨_, rfl⟩
  obtain ⟨d2, h2⟩ : ∃ d, (e == e2) = d := ⟨_, rfl⟩
  rw [h1] at HC ⊢
  rw [h2]
  have hk : ∀ W, Below ((w.alloc (.cells #[.slice A n c, .int .i64 e] 40)).alloc (.cells #[.slice A2 n2 c2, .int .i64 e2] 40)).heap.size ((w.alloc (.cells #[.slice A n c, .int .i64 e] 40)).alloc (.cells #[.slice A2 n2 c2, .int .i64 e2] 40)) W → W.cell? ⟨w.heap.size, 1, none⟩ = some (.int .i64 e) ∧ W.cell? ⟨w.heap.size + 1, 1, none⟩ = some (.int .i64 e2) := fun W hb => by
    have a1 : ((w.alloc (.cells #[.slice A n c, .int .i64 e] 40)).alloc (.cells #[.slice A2 n2 c2, .int .i64 e2] 40)).cell? ⟨w.heap.size, 1, none⟩ = some (.int .i64 e) := cell_of_row _ _ 1 _ _ _ (heap_alloc2_old w _ _)
    have a2 : ((w.alloc (.cells #[.slice A n c, .int .i64 e] 40)).alloc (.cells #[.slice A2 n2 c2, .int .i64 e2] 40)).cell? ⟨w.heap.size + 1, 1, none⟩ = some (.int .i64 e2) := cell_of_row _ _ 1 _ _ _ (heap_alloc2_new w _ _)
    exact ⟨(hb.cell (block_lt_of_cell a1)).trans a1, (hb.cell (block_lt_of_cell a2)).trans a2⟩
  have HK := Lib.hid hk
  clear hn hn2 hA hA2 h1 hk
  cases d1
  · go_enter Try.func22, Try.ntmps22
    go_wp2_with (go_at_call 17; with_reducible refine HC.out.mono ?_; rintro e w1 ⟨rfl, hb1⟩; obtain ⟨y0, y1⟩ := HK.out _ hb1)
    go_ret
    exact ⟨rfl, hW.trans (hb1.mono hW.size)⟩
  · go_enter Try.func22, Try.ntmps22
    go_wp2_with (go_at_call 17; with_reducible refine HC.out.mono ?_; rintro e w1 ⟨rfl, hb1⟩; obtain ⟨y0, y1⟩ := HK.out _ hb1)
    go_ret
    exact ⟨by simp, hW.trans (hb1.mono hW.size)⟩
set_option maxHeartbeats 1000000 in
theorem sane_yes (A : Option Addr) (n c : Nat) (l : List Pc) (hn : l.length = n) (hl : n ≤ 4294967296) (hv : validL l = true) (hs : sizeL l ≤ 1000) (w : World) (hA : Pcs w A l) :
    Calls Try.prog 21 #[.agg #[.slice A n c, .int .i64 0]] w fun d w' => d = .returned (.bool true) ∧ Below w.heap.size w w' := by
  have hW : Below w.heap.size w (w.alloc (.cells #[.slice A n c, .int .i64 0] 40)) := by go_grown
  have HV := Lib.hid (Valid_any A n c l hn hl (w.alloc (.cells #[.slice A n c, .int .i64 0] 40)) (hA.below hW))
  rw [hv] at HV
  have hpos : ∀ p ∈ l, 0 ≤ p.n := fun p hp => by have := (valid_iff.1 hv).1.pos p hp; omega
  have HZ := Lib.hid (fun W (hb : Below (w.alloc (.cells #[.slice A n c, .int .i64 0] 40)).heap.size (w.alloc (.cells #[.slice A n c, .int .i64 0] 40)) W) => Size_any A n c l hn hl hpos (by omega) W ((hA.below hW).below hb))
  have hk : ∀ W, Below (w.alloc (.cells #[.slice A n c, .int .i64 0] 40)).heap.size (w.alloc (.cells #[.slice A n c, .int .i64 0] 40)) W → W.cell? ⟨w.heap.size, 0, none⟩ = some (.slice A n c) := fun W hb => by
    have a1 : (w.alloc (.cells #[.slice A n c, .int .i64 0] 40)).cell? ⟨w.heap.size, 0, none⟩ = some (.slice A n c) := cell_of_row _ _ 0 _ _ _ (heap_alloc_new w _)
    exact (hb.cell (block_lt_of_cell a1)).trans a1
  have HK := Lib.hid hk
  obtain ⟨z, hz⟩ : ∃ z, sizeL l = z := ⟨_, rfl⟩
  rw [hz] at hs HZ
  clear hn hA hv hpos hk hz
  go_enter Try.func21, Try.ntmps21
  go_wp2_with (first | (go_at_call 14; with_reducible refine HV.out.mono ?_; rintro e w1 ⟨rfl, hb1⟩; have y0 := HK.out _ hb1; have HZ1 := Lib.hid (HZ.out _ hb1)) | (go_at_call 15; with_reducible refine HZ1.out.mono ?_; rintro e w2 ⟨rfl, rfl⟩))
  go_ret
  exact ⟨by simp, hW.trans (hb1.mono hW.size)⟩
end Go.Proofs.Ytggnklcjhbahhaa
