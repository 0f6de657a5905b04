/-
  The walk of the law AclMerge.
-/
import Derived.Test.YtkpedfigaofloaaPn
import Derived.Test.YtkpedfigaofloaaRe
import Derived.Test.YtkpedfigaofloaaAw
namespace Go.Proofs.Ytkpedfigaofloaa
open Go.RowKit Ap
set_option maxHeartbeats 400000

/-- The block of an array of three slices. -/
def Box3 (b : Nat) (v0 v1 v2 : Value) (w W : World) : Prop :=
  W.cell? ⟨b, 0, none⟩ = some v0 ∧ W.cell? ⟨b, 1, none⟩ = some v1 ∧ W.cell? ⟨b, 2, none⟩ = some v2 ∧ Below w.heap.size w W
theorem Box3.step {b : Nat} {v0 v1 v2 : Value} {w W W' : World} (h : Box3 b v0 v1 v2 w W) (hb : Below W.heap.size W W') : Box3 b v0 v1 v2 w W' :=
  ⟨(hb.cell (block_lt_of_cell h.1)).trans h.1, (hb.cell (block_lt_of_cell h.2.1)).trans h.2.1, (hb.cell (block_lt_of_cell h.2.2.1)).trans h.2.2.1, h.2.2.2.trans (hb.mono h.2.2.2.size)⟩
theorem Box3.drew {b : Nat} {v0 v1 v2 : Value} {w W : World} (h : Box3 b v0 v1 v2 w W) : Box3 b v0 v1 v2 w W.drew := h.step (Below.refl _ W).drew
theorem Box3.flat {b : Nat} {v0 v1 v2 : Value} {w W : World} (h : Box3 b v0 v1 v2 w W) : W.cell? ⟨b, 0, none⟩ = some v0 ∧ W.cell? ⟨b, 1, none⟩ = some v1 ∧ W.cell? ⟨b, 2, none⟩ = some v2 := ⟨h.1, h.2.1, h.2.2.1⟩
theorem Box3.bel {b : Nat} {v0 v1 v2 : Value} {w W : World} (h : Box3 b v0 v1 v2 w W) : Below w.heap.size w W := h.2.2.2
theorem box3_new {v0 v1 v2 : Value} {w : World} {t : TypeId} : Box3 w.heap.size v0 v1 v2 w (w.alloc (.cells #[v0, v1, v2] t)) := by
  have h0 := Go.heap_alloc_new w (.cells #[v0, v1, v2] t)
  have d0 := fun i => cell_of_row _ w.heap.size i _ _ _ h0
  exact ⟨d0 0, d0 1, d0 2, by go_grown⟩
/-- A call of merged: what it gives. -/
abbrev GivesM (args : Array Value) (W : World) (X : List Ac) (n : Nat) (ok : Bool) : Prop :=
  Calls Try.prog 27 args W fun e w' => ∃ A c, e = .returned (.agg #[.slice A n c, .bool ok]) ∧ Aces w' A X ∧ Below W.heap.size W w'
theorem merged_gives (A0 A1 A2 : Option Addr) (n0 c0 n1 c1 n2 c2 : Nat) (base mine theirs : List Ac) (h0 : base.length = n0) (l0 : n0 ≤ 1000) (h1 : mine.length = n1) (l1 : n1 ≤ 1000) (h2 : theirs.length = n2) (l2 : n2 ≤ 1000)
    (o0 : Ap.Good base) (o1 : Ap.Good mine) (o2 : Ap.Good theirs) (s1 : A1 = none → n1 = 0 ∧ c1 = 0) (s2 : A2 = none → n2 = 0 ∧ c2 = 0) (X : List Ac) (ok : Bool) (n : Nat) (hX : mergeS base mine theirs = (X, ok)) (hn : X.length = n) (w : World) (a0 : Aces w A0 base) (a1 : Aces w A1 mine) (a2 : Aces w A2 theirs) :
    GivesM #[.slice A0 n0 c0, .slice A1 n1 c1, .slice A2 n2 c2] w X n ok :=
  (lmerged_any A0 A1 A2 n0 c0 n1 c1 n2 c2 base mine theirs h0 l0 h1 l1 h2 l2 o0.ok o1.ok o2.ok s1 s2 w a0 a1 a2 (X, ok) hX).mono fun _ _ ⟨A', m, c', he, hr, hb⟩ => by
    have := own_len hr
    obtain rfl : m = n := by rw [← hn]; exact this.symm
    exact ⟨A', c', he, Aces.of_own hr, hb⟩
/-- What stands behind both merges. -/
def Mst (Ab Am At : Option Addr) (B M T : List Ac) (g7 g8 : Nat) (A7 A8 : Option Addr) (X Y : List Ac) (v7 v8 : Value) (ok : Bool) (w W : World) : Prop :=
  Three Ab Am At B M T w W ∧ Aces W A7 X ∧ Aces W A8 Y ∧ W.cell? ⟨g7, 0, none⟩ = some v7 ∧ W.cell? ⟨g7, 1, none⟩ = some (.bool ok) ∧ W.cell? ⟨g8, 0, none⟩ = some v8 ∧ W.cell? ⟨g8, 1, none⟩ = some (.bool ok)
theorem Mst.step {Ab Am At : Option Addr} {B M T : List Ac} {g7 g8 : Nat} {A7 A8 : Option Addr} {X Y : List Ac} {v7 v8 : Value} {ok : Bool} {w W W' : World} (h : Mst Ab Am At B M T g7 g8 A7 A8 X Y v7 v8 ok w W) (hb : Below W.heap.size W W') : Mst Ab Am At B M T g7 g8 A7 A8 X Y v7 v8 ok w W' := by
  obtain ⟨h1, h2, h3, h4, h5, h6, h7⟩ := h
  exact ⟨h1.step hb, h2.below hb, h3.below hb, (hb.cell (block_lt_of_cell h4)).trans h4, (hb.cell (block_lt_of_cell h5)).trans h5, (hb.cell (block_lt_of_cell h6)).trans h6, (hb.cell (block_lt_of_cell h7)).trans h7⟩
theorem Mst.b {Ab Am At : Option Addr} {B M T : List Ac} {g7 g8 : Nat} {A7 A8 : Option Addr} {X Y : List Ac} {v7 v8 : Value} {ok : Bool} {w W : World} (h : Mst Ab Am At B M T g7 g8 A7 A8 X Y v7 v8 ok w W) : Aces W Ab B := h.1.1
theorem Mst.m {Ab Am At : Option Addr} {B M T : List Ac} {g7 g8 : Nat} {A7 A8 : Option Addr} {X Y : List Ac} {v7 v8 : Value} {ok : Bool} {w W : World} (h : Mst Ab Am At B M T g7 g8 A7 A8 X Y v7 v8 ok w W) : Aces W Am M := h.1.2.1
theorem Mst.t {Ab Am At : Option Addr} {B M T : List Ac} {g7 g8 : Nat} {A7 A8 : Option Addr} {X Y : List Ac} {v7 v8 : Value} {ok : Bool} {w W : World} (h : Mst Ab Am At B M T g7 g8 A7 A8 X Y v7 v8 ok w W) : Aces W At T := h.1.2.2.1
theorem Mst.x {Ab Am At : Option Addr} {B M T : List Ac} {g7 g8 : Nat} {A7 A8 : Option Addr} {X Y : List Ac} {v7 v8 : Value} {ok : Bool} {w W : World} (h : Mst Ab Am At B M T g7 g8 A7 A8 X Y v7 v8 ok w W) : Aces W A7 X := h.2.1
theorem Mst.y {Ab Am At : Option Addr} {B M T : List Ac} {g7 g8 : Nat} {A7 A8 : Option Addr} {X Y : List Ac} {v7 v8 : Value} {ok : Bool} {w W : World} (h : Mst Ab Am At B M T g7 g8 A7 A8 X Y v7 v8 ok w W) : Aces W A8 Y := h.2.2.1
/-- A property of the world that calls keep, and an entry in memory. -/
def Rst (Q : World → Prop) (g p : Nat) (x : Ac) (W : World) : Prop := Q W ∧ At W g p x
theorem Rst.q {Q : World → Prop} {g p : Nat} {x : Ac} {W : World} (h : Rst Q g p x W) : Q W := h.1
theorem rst_step {Q : World → Prop} (hQ : ∀ W W', Q W → Below W.heap.size W W' → Q W') {g p : Nat} {x : Ac} {W W' : World} (h : Rst Q g p x W) (hb : Below W.heap.size W W') : Rst Q g p x W' := ⟨hQ _ _ h.1 hb, h.2.below hb⟩
theorem Rst.drew {Q : World → Prop} {g p : Nat} {x : Ac} {W : World} (h : Rst Q g p x W) (hQ : ∀ W, Q W → Q W.drew) : Rst Q g p x W.drew := ⟨hQ _ h.1, h.2.below (Below.refl _ W).drew⟩
theorem Rst.flat {Q : World → Prop} {g p : Nat} {x : Ac} {W : World} (h : Rst Q g p x W) : W.cell? ⟨g, p, none⟩ = some (.int .i64 x.who) ∧ W.cell? ⟨g, p + 1, none⟩ = some (.bool x.allow) ∧ W.cell? ⟨g, p + 2, none⟩ = some (.int .i64 x.rights) ∧ W.cell? ⟨g, p + 3, none⟩ = some (.int .i64 x.reach) ∧ W.cell? ⟨g, p + 4, none⟩ = some (.bool x.given) := h.2
theorem flat15 {Q : World → Prop} {g p : Nat} {x : Ac} {W : World} (h : Rst Q g p x W) {Ab Am At : Option Addr} {B M T : List Ac} {g7 g8 : Nat} {A7 A8 : Option Addr} {X Y : List Ac} {v7 v8 : Value} {ok : Bool} {w : World} (hm : Mst Ab Am At B M T g7 g8 A7 A8 X Y v7 v8 ok w W) :
    W.cell? ⟨g, p, none⟩ = some (.int .i64 x.who) ∧ W.cell? ⟨g, p + 1, none⟩ = some (.bool x.allow) ∧ W.cell? ⟨g, p + 2, none⟩ = some (.int .i64 x.rights) ∧ W.cell? ⟨g, p + 3, none⟩ = some (.int .i64 x.reach) ∧ W.cell? ⟨g, p + 4, none⟩ = some (.bool x.given) ∧
    W.cell? ⟨g7, 0, none⟩ = some v7 ∧ W.cell? ⟨g7, 1, none⟩ = some (.bool ok) ∧ W.cell? ⟨g8, 0, none⟩ = some v8 := by
  obtain ⟨h0, h1, h2, h3, h4⟩ := h.2
  obtain ⟨_, _, _, q0, q1, q2, _⟩ := hm
  exact ⟨h0, h1, h2, h3, h4, q0, q1, q2⟩
theorem field_m0 (A : Option Addr) (n c : Nat) (b : Bool) (W : World) : (Instr.field 42 (.agg #[.slice A n c, .bool b]) 0).run Try.prog W = .ok (.slice A n c) W := by kernel_rfl
theorem listL_len' (l : List Tri) : (listL l).length ≤ l.length := by
  unfold listL
  rw [List.length_append, own_parts]
  have := foldT_len (l.take 12) []
  rw [List.length_take] at this
  simp only [List.length_nil, Nat.zero_add] at this
  unfold rawT
  omega
theorem min8 (n : Nat) : ∃ m : Nat, (if (8 : Int) < (n : Int) then (8 : Int) else (n : Int)) = (m : Int) ∧ m = min n 8 := ⟨min n 8, by split <;> omega, rfl⟩

/-- Both merges of one pair of lists. -/
theorem merge_pair {B M T : List Ac} (gB : Ap.Good B) (gM : Ap.Good M) (gT : Ap.Good T) (hl : M.length + T.length ≤ 16) :
    ∃ X Y nx ok, mergeS B M T = (X, ok) ∧ mergeS B T M = (Y, ok) ∧ X.length = nx ∧ Y.length = nx ∧ nx ≤ 16 ∧ (ok = false → nx = 0 ∧ (B ++ M ++ T).any (clashE B M T) = true) ∧
      (ok = true → Ap.Good X ∧ (∀ e, clashE B M T e = false) ∧ (∀ e, atL X e = wantE B M T e) ∧ ∀ e, atL Y e = wantE B M T e) ∧ ∀ x ∈ X, atL (B ++ M ++ T) x ≠ 0 := by
  have hr : ∀ a ∈ B ++ M ++ T, right a = true := fun a ha => by
    rcases List.mem_append.1 ha with h | h
    · rcases List.mem_append.1 h with h | h
      · exact gB.right a h
      · exact gM.right a h
    · exact gT.right a h
  rcases mergeS_spec gB gM gT hl with ⟨⟨e, he, hc⟩, h1⟩ | ⟨h1, h2, h3, h4, h5⟩
  · rcases mergeS_spec gB gT gM (by omega) with ⟨_, h2⟩ | ⟨h2, _⟩
    · refine ⟨[], [], 0, false, h1, h2, rfl, rfl, by omega, fun _ => ⟨rfl, List.any_eq_true.2 ⟨e, ?_, hc⟩⟩, (by simp), (by simp)⟩
      rw [List.append_assoc]
      exact List.mem_append_right _ he
    · have := h2 e
      rw [clash_swap, hc] at this
      cases this
  · rcases mergeS_spec gB gT gM (by omega) with ⟨⟨e, he, hc⟩, _⟩ | ⟨k1, k2, k3, k4, k5⟩
    · rw [clash_swap, h1 e] at hc
      cases hc
    · have k5' : ∀ e, atL (mergeS B T M).1 e = wantE B M T e := fun e => by rw [k5, want_swap (h1 e)]
      refine ⟨(mergeS B M T).1, (mergeS B T M).1, (mergeS B M T).1.length, true, by rw [← h2], by rw [← k2], rfl, (same_length h3 k3 fun e => by rw [h5, k5']).symm, h4, (by simp), fun _ => ⟨h3, h1, h5, k5'⟩, fun x hx => ?_⟩
      have e1 := atL_mem h3.nodup hx (e := x) rfl
      rw [h5] at e1
      have e2 := (right_iff.1 (h3.right x hx)).2.1
      rw [Ne, atL_zero hr, Classical.not_not, List.map_append, List.map_append, List.mem_append, List.mem_append]
      by_cases hm : x.mk0 ∈ M.map Ac.mk0
      · exact .inl (.inr hm)
      · by_cases ht : x.mk0 ∈ T.map Ac.mk0
        · exact .inr ht
        · unfold wantE wantR at e1
          rw [atL_none hm, atL_none ht] at e1
          split at e1 <;> omega
theorem two_boxes {w : World} {t : TypeId} {v7 u7 v8 u8 : Value} :
    Below w.heap.size w ((w.alloc (.cells #[v7, u7] t)).alloc (.cells #[v8, u8] t)) ∧ ((w.alloc (.cells #[v7, u7] t)).alloc (.cells #[v8, u8] t)).cell? ⟨w.heap.size, 0, none⟩ = some v7 ∧ ((w.alloc (.cells #[v7, u7] t)).alloc (.cells #[v8, u8] t)).cell? ⟨w.heap.size, 1, none⟩ = some u7 ∧
      ((w.alloc (.cells #[v7, u7] t)).alloc (.cells #[v8, u8] t)).cell? ⟨w.heap.size + 1, 0, none⟩ = some v8 ∧ ((w.alloc (.cells #[v7, u7] t)).alloc (.cells #[v8, u8] t)).cell? ⟨w.heap.size + 1, 1, none⟩ = some u8 := by
  have n1 := heap_alloc_new w (.cells #[v7, u7] t)
  have n2 := heap_alloc_new (w.alloc (.cells #[v7, u7] t)) (.cells #[v8, u8] t)
  have s1 : (w.alloc (.cells #[v7, u7] t)).heap.size = w.heap.size + 1 := by simp
  rw [s1] at n2
  exact ⟨((Below.refl _ w).alloc (Nat.le_refl _) _).alloc (by simp) _, alloc_keep (cell_of_row _ w.heap.size 0 #[v7, u7] t (0, 0) n1), alloc_keep (cell_of_row _ w.heap.size 1 #[v7, u7] t (0, 0) n1), cell_of_row _ (w.heap.size + 1) 0 #[v8, u8] t (0, 0) n2, cell_of_row _ (w.heap.size + 1) 1 #[v8, u8] t (0, 0) n2⟩

set_option maxRecDepth 100000 in
set_option maxHeartbeats 4000000 in
theorem lawMerge_any (A0 : Option Addr) (n0 c0 : Nat) (l0 : List Tri) (A1 : Option Addr) (n1 c1 : Nat) (l1 : List Tri) (A2 : Option Addr) (n2 c2 : Nat) (l2 : List Tri)
    (e0 : l0.length = n0) (b0 : n0 ≤ c0) (e1 : l1.length = n1) (b1 : n1 ≤ c1) (e2 : l2.length = n2) (b2 : n2 ≤ c2) (w : World) (y0 : Tris w A0 l0) (y1 : Tris w A1 l1) (y2 : Tris w A2 l2) :
    Calls Try.prog 8 #[.agg #[.slice A0 n0 c0, .slice A1 n1 c1, .slice A2 n2 c2]] w fun e w' => e = .returned (.bool true) ∧ Below w.heap.size w w' := by
  obtain ⟨B, hB⟩ : ∃ a, listL (l0.take 8) = a := ⟨_, rfl⟩
  obtain ⟨M, hM⟩ : ∃ a, listL (l1.take 8) = a := ⟨_, rfl⟩
  obtain ⟨T, hT⟩ : ∃ a, listL (l2.take 8) = a := ⟨_, rfl⟩
  obtain ⟨m0, k0, hm0⟩ := min8 n0
  obtain ⟨m1, k1, hm1⟩ := min8 n1
  obtain ⟨m2, k2, hm2⟩ := min8 n2
  have t0 : (l0.take 8).length = m0 := by rw [List.length_take]; omega
  have t1 : (l1.take 8).length = m1 := by rw [List.length_take]; omega
  have t2 : (l2.take 8).length = m2 := by rw [List.length_take]; omega
  have lenB : B.length ≤ 8 := by rw [← hB]; exact Nat.le_trans (listL_len' _) (by omega)
  have lenM : M.length ≤ 8 := by rw [← hM]; exact Nat.le_trans (listL_len' _) (by omega)
  have lenT : T.length ≤ 8 := by rw [← hT]; exact Nat.le_trans (listL_len' _) (by omega)
  have gB : Ap.Good B := by rw [← hB]; exact listL_good _
  have gM : Ap.Good M := by rw [← hM]; exact listL_good _
  have gT : Ap.Good T := by rw [← hT]; exact listL_good _
  obtain ⟨nb, hnb⟩ : ∃ n, B.length = n := ⟨_, rfl⟩
  obtain ⟨nm, hnm⟩ : ∃ n, M.length = n := ⟨_, rfl⟩
  obtain ⟨nt, hnt⟩ : ∃ n, T.length = n := ⟨_, rfl⟩
  rw [hnb] at lenB
  rw [hnm] at lenM
  rw [hnt] at lenT
  have C0 := Lib.hid (fun W (h : Below w.heap.size w W) => gives_of hnb (by have := list_any A0 m0 c0 (l0.take 8) t0 (by omega) W ((y0.take 8).below h); rw [hB] at this; exact this))
  have C1 := Lib.hid (fun W (h : Below w.heap.size w W) => gives_of hnm (by have := list_any A1 m1 c1 (l1.take 8) t1 (by omega) W ((y1.take 8).below h); rw [hM] at this; exact this))
  have C2 := Lib.hid (fun W (h : Below w.heap.size w W) => gives_of hnt (by have := list_any A2 m2 c2 (l2.take 8) t2 (by omega) W ((y2.take 8).below h); rw [hT] at this; exact this))
  have d0 : (m0 : Int) ≤ (c0 : Int) := by omega
  have d1 : (m1 : Int) ≤ (c1 : Int) := by omega
  have d2 : (m2 : Int) ≤ (c2 : Int) := by omega
  have HNB := Lib.hid hnb
  have HNM := Lib.hid hnm
  have HNT := Lib.hid hnt
  have GB := Lib.hid gB
  have GM := Lib.hid gM
  have GT := Lib.hid gT
  have X0 := Lib.hid (box3_new (v0 := .slice A0 n0 c0) (v1 := .slice A1 n1 c1) (v2 := .slice A2 n2 c2) (w := w) (t := 24))
  clear hB hM hT hm0 hm1 hm2 t0 t1 t2 gB gM gT hnb hnm hnt e0 e1 e2 b0 b1 b2 y0 y1 y2
  go_enter Try.func8, Try.ntmps8
  go_upto_region 2 with (go_at_call 10; refine (sanity_any _).mono ?_; rintro e w1 ⟨rfl, hb1⟩; have X1 := Lib.hid (X0.out.step hb1); clear hb1)
  obtain ⟨q0, q1, q2⟩ := X1.out.flat
  go_cut [4, 5, 6] (fun s4 s5 s6 wx => ∃ (Ab : Option Addr) (cb : Nat) (Am : Option Addr) (cm : Nat) (At : Option Addr) (ct : Nat), s4 = .slice Ab nb cb ∧ s5 = .slice Am nm cm ∧ s6 = .slice At nt ct ∧ (Ab = none → nb = 0 ∧ cb = 0) ∧ (Am = none → nm = 0 ∧ cm = 0) ∧ (At = none → nt = 0 ∧ ct = 0) ∧ Three Ab Am At B M T w wx)
  case first =>
    as_aux_lemma =>
    refine wp_region_held_drew (S := (fun W' => W'.cell? ⟨w.heap.size, 0, none⟩ = some (.slice A0 n0 c0) ∧ W'.cell? ⟨w.heap.size, 1, none⟩ = some (.slice A1 n1 c1) ∧ W'.cell? ⟨w.heap.size, 2, none⟩ = some (.slice A2 n2 c2))) (by kernel_rfl) (by exact X1.out.drew.flat) (fun hHeld => ?_)
    refine wpAnyH_take (i := 0) (oi := { dst := some 18, op := Op.indexAddr 24 (Operand.tmp 1) (Operand.const (Value.int IntKind.i64 0)), type := 0, pos := "law.go:157", after := #[], guard := none }) (v := ?_) rfl (by kernel_rfl) (by kernel_rfl) (by kernel_rfl) (fun _ _ _ h => h) (Or.inl ⟨by rfl, ?_⟩) (by assumption) ?_
    rotate_left
    · ((intro w' hSw); (try dsimp only at hSw); go_simp; all_goals (with_reducible rfl))
    simp only [Act.put, List.setIfInBounds_toArray, List.set_cons_zero, List.set_cons_succ]
    refine wpAnyH_take (i := 1) (oi := { dst := some 19, op := Op.load 23 (Operand.tmp 18), type := 23, pos := "law.go:157", after := #[{ on := 0, ground := Ground.data }], guard := none }) (v := ?_) rfl (by kernel_rfl) (by kernel_rfl) (by kernel_rfl) (fun _ _ _ h => h) (Or.inl ⟨by rfl, ?_⟩) (by assumption) ?_
    rotate_left
    · ((intro w' hSw); (try dsimp only at hSw); go_simp; all_goals (with_reducible rfl))
    simp only [Act.put, List.setIfInBounds_toArray, List.set_cons_zero, List.set_cons_succ]
    refine wpAnyH_take (i := 2) (oi := { dst := some 20, op := Op.indexAddr 24 (Operand.tmp 1) (Operand.const (Value.int IntKind.i64 0)), type := 0, pos := "law.go:157", after := #[], guard := none }) (v := ?_) rfl (by kernel_rfl) (by kernel_rfl) (by kernel_rfl) (fun _ _ _ h => h) (Or.inl ⟨by rfl, ?_⟩) (by assumption) ?_
    rotate_left
    · ((intro w' hSw); (try dsimp only at hSw); go_simp; all_goals (with_reducible rfl))
    simp only [Act.put, List.setIfInBounds_toArray, List.set_cons_zero, List.set_cons_succ]
    refine wpAnyH_take (i := 3) (oi := { dst := some 21, op := Op.load 23 (Operand.tmp 20), type := 23, pos := "law.go:157", after := #[{ on := 2, ground := Ground.data }], guard := none }) (v := ?_) rfl (by kernel_rfl) (by kernel_rfl) (by kernel_rfl) (fun _ _ _ h => h) (Or.inl ⟨by rfl, ?_⟩) (by assumption) ?_
    rotate_left
    · ((intro w' hSw); (try dsimp only at hSw); go_simp; all_goals (with_reducible rfl))
    simp only [Act.put, List.setIfInBounds_toArray, List.set_cons_zero, List.set_cons_succ]
    refine wpAnyH_take (i := 4) (oi := { dst := some 22, op := Op.call { callee := Callee.builtin Builtin.len, args := #[Operand.tmp 21], argTypes := #[23] }, type := 3, pos := "law.go:157", after := #[{ on := 3, ground := Ground.data }], guard := none }) (v := ?_) rfl (by kernel_rfl) (by kernel_rfl) (by kernel_rfl) (fun _ _ _ h => h) (Or.inl ⟨by rfl, ?_⟩) (by assumption) ?_
    rotate_left
    · ((intro w' hSw); (try dsimp only at hSw); go_simp; all_goals (with_reducible rfl))
    simp only [Act.put, List.setIfInBounds_toArray, List.set_cons_zero, List.set_cons_succ]
    refine wpAnyH_take (i := 5) (oi := { dst := some 23, op := Op.call { callee := Callee.builtin Builtin.min, args := #[Operand.tmp 22, Operand.const (Value.int IntKind.i64 8)], argTypes := #[3, 3] }, type := 3, pos := "law.go:157", after := #[{ on := 4, ground := Ground.data }], guard := none }) (v := ?_) rfl (by kernel_rfl) (by kernel_rfl) (by kernel_rfl) (fun _ _ _ h => h) (Or.inl ⟨by rfl, ?_⟩) (by assumption) ?_
    rotate_left
    · ((intro w' hSw); (try dsimp only at hSw); go_simp; all_goals (with_reducible rfl))
    simp only [Act.put, List.setIfInBounds_toArray, List.set_cons_zero, List.set_cons_succ]
    refine wpAnyH_take (i := 6) (oi := { dst := some 24, op := Op.slice 23 (Operand.tmp 19) none (some (Operand.tmp 23)) none, type := 23, pos := "law.go:157", after := #[{ on := 1, ground := Ground.data }, { on := 5, ground := Ground.data }], guard := none }) (v := ?_) rfl (by kernel_rfl) (by kernel_rfl) (by kernel_rfl) (fun _ _ _ h => h) (Or.inl ⟨by rfl, ?_⟩) (by assumption) ?_
    rotate_left
    · ((intro w' hSw); (try dsimp only at hSw); go_simp; all_goals (with_reducible rfl))
    simp only [Act.put, List.setIfInBounds_toArray, List.set_cons_zero, List.set_cons_succ]
    refine wpAnyH_take (i := 8) (oi := { dst := some 26, op := Op.indexAddr 24 (Operand.tmp 1) (Operand.const (Value.int IntKind.i64 1)), type := 0, pos := "law.go:157", after := #[], guard := none }) (v := ?_) rfl (by kernel_rfl) (by kernel_rfl) (by kernel_rfl) (fun _ _ _ h => h) (Or.inl ⟨by rfl, ?_⟩) (by assumption) ?_
    rotate_left
    · ((intro w' hSw); (try dsimp only at hSw); go_simp; all_goals (with_reducible rfl))
    simp only [Act.put, List.setIfInBounds_toArray, List.set_cons_zero, List.set_cons_succ]
    refine wpAnyH_take (i := 9) (oi := { dst := some 27, op := Op.load 23 (Operand.tmp 26), type := 23, pos := "law.go:157", after := #[{ on := 8, ground := Ground.data }], guard := none }) (v := ?_) rfl (by kernel_rfl) (by kernel_rfl) (by kernel_rfl) (fun _ _ _ h => h) (Or.inl ⟨by rfl, ?_⟩) (by assumption) ?_
    rotate_left
    · ((intro w' hSw); (try dsimp only at hSw); go_simp; all_goals (with_reducible rfl))
    simp only [Act.put, List.setIfInBounds_toArray, List.set_cons_zero, List.set_cons_succ]
    refine wpAnyH_take (i := 10) (oi := { dst := some 28, op := Op.indexAddr 24 (Operand.tmp 1) (Operand.const (Value.int IntKind.i64 1)), type := 0, pos := "law.go:157", after := #[], guard := none }) (v := ?_) rfl (by kernel_rfl) (by kernel_rfl) (by kernel_rfl) (fun _ _ _ h => h) (Or.inl ⟨by rfl, ?_⟩) (by assumption) ?_
    rotate_left
    · ((intro w' hSw); (try dsimp only at hSw); go_simp; all_goals (with_reducible rfl))
    simp only [Act.put, List.setIfInBounds_toArray, List.set_cons_zero, List.set_cons_succ]
    refine wpAnyH_take (i := 11) (oi := { dst := some 29, op := Op.load 23 (Operand.tmp 28), type := 23, pos := "law.go:157", after := #[{ on := 10, ground := Ground.data }], guard := none }) (v := ?_) rfl (by kernel_rfl) (by kernel_rfl) (by kernel_rfl) (fun _ _ _ h => h) (Or.inl ⟨by rfl, ?_⟩) (by assumption) ?_
    rotate_left
    · ((intro w' hSw); (try dsimp only at hSw); go_simp; all_goals (with_reducible rfl))
    simp only [Act.put, List.setIfInBounds_toArray, List.set_cons_zero, List.set_cons_succ]
    refine wpAnyH_take (i := 12) (oi := { dst := some 30, op := Op.call { callee := Callee.builtin Builtin.len, args := #[Operand.tmp 29], argTypes := #[23] }, type := 3, pos := "law.go:157", after := #[{ on := 11, ground := Ground.data }], guard := none }) (v := ?_) rfl (by kernel_rfl) (by kernel_rfl) (by kernel_rfl) (fun _ _ _ h => h) (Or.inl ⟨by rfl, ?_⟩) (by assumption) ?_
    rotate_left
    · ((intro w' hSw); (try dsimp only at hSw); go_simp; all_goals (with_reducible rfl))
    simp only [Act.put, List.setIfInBounds_toArray, List.set_cons_zero, List.set_cons_succ]
    refine wpAnyH_take (i := 13) (oi := { dst := some 31, op := Op.call { callee := Callee.builtin Builtin.min, args := #[Operand.tmp 30, Operand.const (Value.int IntKind.i64 8)], argTypes := #[3, 3] }, type := 3, pos := "law.go:157", after := #[{ on := 12, ground := Ground.data }], guard := none }) (v := ?_) rfl (by kernel_rfl) (by kernel_rfl) (by kernel_rfl) (fun _ _ _ h => h) (Or.inl ⟨by rfl, ?_⟩) (by assumption) ?_
    rotate_left
    · ((intro w' hSw); (try dsimp only at hSw); go_simp; all_goals (with_reducible rfl))
    simp only [Act.put, List.setIfInBounds_toArray, List.set_cons_zero, List.set_cons_succ]
    refine wpAnyH_take (i := 14) (oi := { dst := some 32, op := Op.slice 23 (Operand.tmp 27) none (some (Operand.tmp 31)) none, type := 23, pos := "law.go:157", after := #[{ on := 9, ground := Ground.data }, { on := 13, ground := Ground.data }], guard := none }) (v := ?_) rfl (by kernel_rfl) (by kernel_rfl) (by kernel_rfl) (fun _ _ _ h => h) (Or.inl ⟨by rfl, ?_⟩) (by assumption) ?_
    rotate_left
    · ((intro w' hSw); (try dsimp only at hSw); go_simp; all_goals (with_reducible rfl))
    simp only [Act.put, List.setIfInBounds_toArray, List.set_cons_zero, List.set_cons_succ]
    refine wpAnyH_take (i := 16) (oi := { dst := some 34, op := Op.indexAddr 24 (Operand.tmp 1) (Operand.const (Value.int IntKind.i64 2)), type := 0, pos := "law.go:157", after := #[], guard := none }) (v := ?_) rfl (by kernel_rfl) (by kernel_rfl) (by kernel_rfl) (fun _ _ _ h => h) (Or.inl ⟨by rfl, ?_⟩) (by assumption) ?_
    rotate_left
    · ((intro w' hSw); (try dsimp only at hSw); go_simp; all_goals (with_reducible rfl))
    simp only [Act.put, List.setIfInBounds_toArray, List.set_cons_zero, List.set_cons_succ]
    refine wpAnyH_take (i := 17) (oi := { dst := some 35, op := Op.load 23 (Operand.tmp 34), type := 23, pos := "law.go:157", after := #[{ on := 16, ground := Ground.data }], guard := none }) (v := ?_) rfl (by kernel_rfl) (by kernel_rfl) (by kernel_rfl) (fun _ _ _ h => h) (Or.inl ⟨by rfl, ?_⟩) (by assumption) ?_
    rotate_left
    · ((intro w' hSw); (try dsimp only at hSw); go_simp; all_goals (with_reducible rfl))
    simp only [Act.put, List.setIfInBounds_toArray, List.set_cons_zero, List.set_cons_succ]
    refine wpAnyH_take (i := 18) (oi := { dst := some 36, op := Op.indexAddr 24 (Operand.tmp 1) (Operand.const (Value.int IntKind.i64 2)), type := 0, pos := "law.go:157", after := #[], guard := none }) (v := ?_) rfl (by kernel_rfl) (by kernel_rfl) (by kernel_rfl) (fun _ _ _ h => h) (Or.inl ⟨by rfl, ?_⟩) (by assumption) ?_
    rotate_left
    · ((intro w' hSw); (try dsimp only at hSw); go_simp; all_goals (with_reducible rfl))
    simp only [Act.put, List.setIfInBounds_toArray, List.set_cons_zero, List.set_cons_succ]
    refine wpAnyH_take (i := 19) (oi := { dst := some 37, op := Op.load 23 (Operand.tmp 36), type := 23, pos := "law.go:157", after := #[{ on := 18, ground := Ground.data }], guard := none }) (v := ?_) rfl (by kernel_rfl) (by kernel_rfl) (by kernel_rfl) (fun _ _ _ h => h) (Or.inl ⟨by rfl, ?_⟩) (by assumption) ?_
    rotate_left
    · ((intro w' hSw); (try dsimp only at hSw); go_simp; all_goals (with_reducible rfl))
    simp only [Act.put, List.setIfInBounds_toArray, List.set_cons_zero, List.set_cons_succ]
    refine wpAnyH_take (i := 20) (oi := { dst := some 38, op := Op.call { callee := Callee.builtin Builtin.len, args := #[Operand.tmp 37], argTypes := #[23] }, type := 3, pos := "law.go:157", after := #[{ on := 19, ground := Ground.data }], guard := none }) (v := ?_) rfl (by kernel_rfl) (by kernel_rfl) (by kernel_rfl) (fun _ _ _ h => h) (Or.inl ⟨by rfl, ?_⟩) (by assumption) ?_
    rotate_left
    · ((intro w' hSw); (try dsimp only at hSw); go_simp; all_goals (with_reducible rfl))
    simp only [Act.put, List.setIfInBounds_toArray, List.set_cons_zero, List.set_cons_succ]
    refine wpAnyH_take (i := 21) (oi := { dst := some 39, op := Op.call { callee := Callee.builtin Builtin.min, args := #[Operand.tmp 38, Operand.const (Value.int IntKind.i64 8)], argTypes := #[3, 3] }, type := 3, pos := "law.go:157", after := #[{ on := 20, ground := Ground.data }], guard := none }) (v := ?_) rfl (by kernel_rfl) (by kernel_rfl) (by kernel_rfl) (fun _ _ _ h => h) (Or.inl ⟨by rfl, ?_⟩) (by assumption) ?_
    rotate_left
    · ((intro w' hSw); (try dsimp only at hSw); go_simp; all_goals (with_reducible rfl))
    simp only [Act.put, List.setIfInBounds_toArray, List.set_cons_zero, List.set_cons_succ]
    refine wpAnyH_take (i := 22) (oi := { dst := some 40, op := Op.slice 23 (Operand.tmp 35) none (some (Operand.tmp 39)) none, type := 23, pos := "law.go:157", after := #[{ on := 17, ground := Ground.data }, { on := 21, ground := Ground.data }], guard := none }) (v := ?_) rfl (by kernel_rfl) (by kernel_rfl) (by kernel_rfl) (fun _ _ _ h => h) (Or.inl ⟨by rfl, ?_⟩) (by assumption) ?_
    rotate_left
    · ((intro w' hSw); (try dsimp only at hSw); go_simp; all_goals (with_reducible rfl))
    simp only [Act.put, List.setIfInBounds_toArray, List.set_cons_zero, List.set_cons_succ]
    refine wpAnyH_ready (rs := [7]) (by kernel_rfl) (by simp) ?_
    refine AllReadyH.cons rfl (fun K hK => ?_) AllReadyH.nil
    go_simp
    go_wp2_with (go_at_call 12; (with_reducible refine (C0.out _ X1.out.drew.bel).mono ?_); rintro e w2 ⟨Ab, cb, rfl, ub, nub, hb2⟩; have X2 := Lib.hid (X1.out.drew.step hb2); have UB := Lib.hid ub; have NB := Lib.hid nub; clear ub nub hb2)
    refine hK.out _ _ ?_ (fun hHeld => ?_)
    · exact X2.out.flat
    clear hK K
    refine wpAnyH_ready (rs := [15]) (by kernel_rfl) (by simp) ?_
    refine AllReadyH.cons rfl (fun K hK => ?_) AllReadyH.nil
    go_simp
    go_wp2_with (go_at_call 12; (with_reducible refine (C1.out _ X2.out.bel).mono ?_); rintro e w3 ⟨Am, cm, rfl, um, num, hb3⟩; have X3 := Lib.hid (X2.out.step hb3); have UB3 := Lib.hid (UB.out.below hb3); have UM := Lib.hid um; have NM := Lib.hid num; clear um num hb3)
    refine hK.out _ _ ?_ (fun hHeld => ?_)
    · exact X3.out.flat
    clear hK K
    refine wpAnyH_ready (rs := [23]) (by kernel_rfl) (by simp) ?_
    refine AllReadyH.cons rfl (fun K hK => ?_) AllReadyH.nil
    go_simp
    go_wp2_with (go_at_call 12; (with_reducible refine (C2.out _ X3.out.bel).mono ?_); rintro e w4 ⟨At, ct, rfl, ut, nut, hb4⟩; have X4 := Lib.hid (X3.out.step hb4); have TH := Lib.hid (show Three Ab Am At B M T w w4 from ⟨UB3.out.below hb4, UM.out.below hb4, ut, X4.out.bel⟩); have NT := Lib.hid nut; clear ut nut hb4)
    refine hK.out _ _ ?_ (fun hHeld => ?_)
    · exact X4.out.flat
    clear hK K
    refine wpAnyH_take (i := 24) (oi := { dst := some 4, op := Op.assign (Operand.tmp 25), type := 22, pos := "law.go:157", after := #[{ on := 7, ground := Ground.data }, { on := 23, ground := Ground.chain }, { on := 0, ground := Ground.phase }, { on := 1, ground := Ground.phase }, { on := 2, ground := Ground.phase }, { on := 3, ground := Ground.phase }, { on := 4, ground := Ground.phase }, { on := 5, ground := Ground.phase }, { on := 6, ground := Ground.phase }, { on := 7, ground := Ground.phase }, { on := 8, ground := Ground.textOnly Departure.lateStores }, { on := 9, ground := Ground.textOnly Departure.lateStores }, { on := 10, ground := Ground.textOnly Departure.lateStores }, { on := 11, ground := Ground.textOnly Departure.lateStores }, { on := 12, ground := Ground.textOnly Departure.lateStoresUnsure }, { on := 13, ground := Ground.textOnly Departure.lateStoresUnsure }, { on := 14, ground := Ground.textOnly Departure.lateStoresUnsure }, { on := 15, ground := Ground.textOnly Departure.lateStoresUnsure }, { on := 16, ground := Ground.textOnly Departure.lateStores }, { on := 17, ground := Ground.textOnly Departure.lateStores }, { on := 18, ground := Ground.textOnly Departure.lateStores }, { on := 19, ground := Ground.textOnly Departure.lateStores }, { on := 20, ground := Ground.textOnly Departure.lateStoresUnsure }, { on := 21, ground := Ground.textOnly Departure.lateStoresUnsure }, { on := 22, ground := Ground.textOnly Departure.lateStoresUnsure }, { on := 23, ground := Ground.textOnly Departure.lateStoresUnsure }], guard := none }) (v := ?_) rfl (by kernel_rfl) (by kernel_rfl) (by kernel_rfl) (fun _ _ _ h => h) (Or.inl ⟨by rfl, ?_⟩) (by assumption) ?_
    rotate_left
    · ((intro w' hSw); (try dsimp only at hSw); go_simp; all_goals (with_reducible rfl))
    simp only [Act.put, List.setIfInBounds_toArray, List.set_cons_zero, List.set_cons_succ]
    refine wpAnyH_take (i := 25) (oi := { dst := some 5, op := Op.assign (Operand.tmp 33), type := 22, pos := "law.go:157", after := #[{ on := 15, ground := Ground.data }, { on := 24, ground := Ground.chain }, { on := 0, ground := Ground.phase }, { on := 1, ground := Ground.phase }, { on := 2, ground := Ground.phase }, { on := 3, ground := Ground.phase }, { on := 4, ground := Ground.phase }, { on := 5, ground := Ground.phase }, { on := 6, ground := Ground.phase }, { on := 7, ground := Ground.phase }, { on := 8, ground := Ground.phase }, { on := 9, ground := Ground.phase }, { on := 10, ground := Ground.phase }, { on := 11, ground := Ground.phase }, { on := 12, ground := Ground.phase }, { on := 13, ground := Ground.phase }, { on := 14, ground := Ground.phase }, { on := 15, ground := Ground.phase }, { on := 16, ground := Ground.textOnly Departure.lateStores }, { on := 17, ground := Ground.textOnly Departure.lateStores }, { on := 18, ground := Ground.textOnly Departure.lateStores }, { on := 19, ground := Ground.textOnly Departure.lateStores }, { on := 20, ground := Ground.textOnly Departure.lateStoresUnsure }, { on := 21, ground := Ground.textOnly Departure.lateStoresUnsure }, { on := 22, ground := Ground.textOnly Departure.lateStoresUnsure }, { on := 23, ground := Ground.textOnly Departure.lateStoresUnsure }, { on := 24, ground := Ground.phase }], guard := none }) (v := ?_) rfl (by kernel_rfl) (by kernel_rfl) (by kernel_rfl) (fun _ _ _ h => h) (Or.inl ⟨by rfl, ?_⟩) (by assumption) ?_
    rotate_left
    · ((intro w' hSw); (try dsimp only at hSw); go_simp; all_goals (with_reducible rfl))
    simp only [Act.put, List.setIfInBounds_toArray, List.set_cons_zero, List.set_cons_succ]
    refine wpAnyH_take (i := 26) (oi := { dst := some 6, op := Op.assign (Operand.tmp 41), type := 22, pos := "law.go:157", after := #[{ on := 23, ground := Ground.data }, { on := 25, ground := Ground.chain }, { on := 0, ground := Ground.phase }, { on := 1, ground := Ground.phase }, { on := 2, ground := Ground.phase }, { on := 3, ground := Ground.phase }, { on := 4, ground := Ground.phase }, { on := 5, ground := Ground.phase }, { on := 6, ground := Ground.phase }, { on := 7, ground := Ground.phase }, { on := 8, ground := Ground.phase }, { on := 9, ground := Ground.phase }, { on := 10, ground := Ground.phase }, { on := 11, ground := Ground.phase }, { on := 12, ground := Ground.phase }, { on := 13, ground := Ground.phase }, { on := 14, ground := Ground.phase }, { on := 15, ground := Ground.phase }, { on := 16, ground := Ground.phase }, { on := 17, ground := Ground.phase }, { on := 18, ground := Ground.phase }, { on := 19, ground := Ground.phase }, { on := 20, ground := Ground.phase }, { on := 21, ground := Ground.phase }, { on := 22, ground := Ground.phase }, { on := 23, ground := Ground.phase }, { on := 24, ground := Ground.phase }, { on := 25, ground := Ground.phase }], guard := none }) (v := ?_) rfl (by kernel_rfl) (by kernel_rfl) (by kernel_rfl) (fun _ _ _ h => h) (Or.inl ⟨by rfl, ?_⟩) (by assumption) ?_
    rotate_left
    · ((intro w' hSw); (try dsimp only at hSw); go_simp; all_goals (with_reducible rfl))
    simp only [Act.put, List.setIfInBounds_toArray, List.set_cons_zero, List.set_cons_succ]
    refine wpAnyH_done (by kernel_rfl) ?_ _
    all_goals (go_wp2_with fail; go_meet)
    all_goals exact ⟨Ab, cb, Am, cm, At, ct, rfl, rfl, rfl, NB.out, NM.out, NT.out, TH.out⟩
  case rest =>
    obtain ⟨Ab, cb, Am, cm, At, ct, rfl, rfl, rfl, nub, num, nut, hT⟩ := hcut
    have NB := Lib.hid nub
    have NM := Lib.hid num
    have NT := Lib.hid nut
    have TH := Lib.hid hT
    clear nub num nut hT X0 X1 C0 C1 C2 q0 q1 q2 d0 d1 d2 k0 k1 k2
    obtain ⟨X, Y, nx, ok, hX, hY, lx, ly, lx16, hno, hok, hall⟩ := merge_pair GB.out GM.out GT.out (by rw [HNM.out, HNT.out]; omega)
    have CM1 := Lib.hid (fun W (h : Three Ab Am At B M T w W) => merged_gives Ab Am At nb cb nm cm nt ct B M T HNB.out (by omega) HNM.out (by omega) HNT.out (by omega) GB.out GM.out GT.out NM.out NT.out X ok nx hX lx W h.1 h.2.1 h.2.2.1)
    have CM2 := Lib.hid (fun W (h : Three Ab Am At B M T w W) => merged_gives Ab At Am nb cb nt ct nm cm B T M HNB.out (by omega) HNT.out (by omega) HNM.out (by omega) GB.out GT.out GM.out NT.out NM.out Y ok nx hY ly W h.1 h.2.2.1 h.2.1)
    have CM3 := Lib.hid (fun W (h : Three Ab Am At B M T w W) => merged_gives Ab Ab At nb cb nb cb nt ct B B T HNB.out (by omega) HNB.out (by omega) HNT.out (by omega) GB.out GB.out GT.out NB.out NT.out T true nt (by simp [mergeS]) HNT.out W h.1 h.1 h.2.2.1)
    have CM4 := Lib.hid (fun W (h : Three Ab Am At B M T w W) => merged_gives Ab Am Ab nb cb nm cm nb cb B M B HNB.out (by omega) HNM.out (by omega) HNB.out (by omega) GB.out GM.out GB.out NM.out NB.out M true nm (by unfold mergeS; by_cases h : M = B <;> simp [h]) HNM.out W h.1 h.2.1 h.1)
    have CS1 := Lib.hid (fun (A A' : Option Addr) (c c' : Nat) W (h : Aces W A T) (h' : Aces W A' T) => rs_true A A' c c' nt T HNT.out (by omega) W h h')
    have CS2 := Lib.hid (fun (A A' : Option Addr) (c c' : Nat) W (h : Aces W A M) (h' : Aces W A' M) => rs_true A A' c c' nm M HNM.out (by omega) W h h')
    have LX := Lib.hid lx
    have LY := Lib.hid ly
    have HNO := Lib.hid hno
    have HOK := Lib.hid hok
    have HALL := Lib.hid hall
    clear hX hY lx ly hno hok hall
    go_upto_region 3 with fail
    go_cut [7, 8] (fun s7 s8 wx => ∃ (g7 g8 : Nat) (A7 A8 : Option Addr) (c7 c8 : Nat), s7 = .pointer (some ⟨g7, 0, none⟩) ∧ s8 = .pointer (some ⟨g8, 0, none⟩) ∧ Mst Ab Am At B M T g7 g8 A7 A8 X Y (.slice A7 nx c7) (.slice A8 nx c8) ok w wx)
    case first =>
      as_aux_lemma =>
      go_wp2_with (go_at_call 27; first
        | ((with_reducible refine (CM1.out _ TH.out).mono ?_); rintro e w2 ⟨A7, c7, rfl, u7, hb2⟩; have T2 := Lib.hid (TH.out.step hb2); have U7 := Lib.hid u7; clear u7 hb2)
        | ((with_reducible refine (CM2.out _ T2.out).mono ?_); rintro e w3 ⟨A8, c8, rfl, u8, hb3⟩; have T3 := Lib.hid (T2.out.step hb3); have U73 := Lib.hid (U7.out.below hb3); have U8 := Lib.hid u8; clear u8 hb3))
      go_meet
      obtain ⟨hbl, z0, z1, z2, z3⟩ := (two_boxes (w := w3) (t := 42) (v7 := .slice A7 nx c7) (u7 := .bool ok) (v8 := .slice A8 nx c8) (u8 := .bool ok))
      exact ⟨w3.heap.size, w3.heap.size + 1, A7, A8, c7, c8, rfl, rfl, T3.out.step hbl, U73.out.below hbl, U8.out.below hbl, z0, z1, z2, z3⟩
    case rest =>
      obtain ⟨g7, g8, A7, A8, c7, c8, rfl, rfl, hM⟩ := hcut
      have HM := Lib.hid hM
      clear hM TH CM1 CM2
      go_upto_region 4 with fail
      obtain ⟨_, _, _, q0, q1, q2, q3⟩ := HM.out
      go_cut [88] (fun s88 wx => s88 = .bool false ∧ Mst Ab Am At B M T g7 g8 A7 A8 X Y (.slice A7 nx c7) (.slice A8 nx c8) ok w wx)
      case first =>
        as_aux_lemma =>
        cases ok
        · have hnx := (HNO.out rfl).1
          subst hnx
          go_wp2
          go_meet
          exact ⟨rfl, HM.out⟩
        · have gX := (HOK.out rfl).1
          have CV := Lib.hid (fun W (h : Aces W A7 X) => by have := rvalid_any A7 nx c7 X LX.out (by omega) W h; rw [gX.valid (by rw [LX.out]; exact lx16)] at this; exact this)
          clear gX
          go_wp2_with (go_at_call 14; (with_reducible refine (CV.out _ HM.out.x).mono ?_); rintro y w4 ⟨rfl, hb4⟩)
          go_meet
          exact ⟨rfl, HM.out.step hb4⟩
      case rest =>
        obtain ⟨rfl, hM⟩ := hcut
        have HM := Lib.hid hM
        clear hM q0 q1 q2 q3
        go_upto_region 6 with fail
        go_cut [9, 10] (fun s9 s10 wx => ∃ (A9 : Option Addr) (c9 : Nat), s9 = .slice A9 (nb + nm + nt) c9 ∧ s10 = .bool false ∧ Aces wx A9 (B ++ M ++ T) ∧ Mst Ab Am At B M T g7 g8 A7 A8 X Y (.slice A7 nx c7) (.slice A8 nx c8) ok w wx)
        case first =>
          as_aux_lemma =>
          go_wp2_with (first
            | (at_builtin; refine wpList_append_two rfl _ _ rfl wc.heap.size rfl HO4.out rfl HM4.out.t HNT.out NT.out (by omega) hs4 ?_; intro A5 c5 w5 hown5 hgrow5; have HB5 := Lib.hid (HB4.out.grown hgrow5 hs4 (fun j hj => (HO4.out.lt j hj).1)))
            | (at_builtin; refine wpList_append_two rfl _ _ rfl wc.heap.size rfl HO3.out rfl HM3.out.m HNM.out NM.out (by omega) hs3 ?_; intro A4 c4 w4 hown4 hgrow4; have HB4 := Lib.hid (HB3.out.grown hgrow4 hs3 (fun j hj => (HO3.out.lt j hj).1)); have HO4 := Lib.hid hown4; have HM4 := Lib.hid (HM.out.step HB4.out); have hs4 := HB4.out.size; clear hown4 hgrow4)
            | (at_builtin; refine wpList_append_two rfl _ _ rfl wc.heap.size rfl (l1 := []) (own_empty wc _ 5) rfl (HM.out.step ((Below.refl _ wc).alloc (Nat.le_refl _) _)).b HNB.out NB.out (by omega) (by simp) ?_; intro A3 c3 w3 hown3 hgrow3; rw [Nat.zero_add, List.nil_append] at hown3; have HB3 := Lib.hid (((Below.refl _ wc).alloc (Nat.le_refl _) _).grown hgrow3 (by simp) (fun j hj => by cases hj; exact Nat.le_refl _)); have HO3 := Lib.hid hown3; have HM3 := Lib.hid (HM.out.step HB3.out); have hs3 := HB3.out.size; clear hown3 hgrow3))
          go_meet
          exact ⟨A5, c5, rfl, rfl, Aces.of_own hown5, HM.out.step HB5.out⟩
        case rest =>
          obtain ⟨A9, c9, rfl, rfl, hA9, hM⟩ := hcut
          obtain ⟨all, hall⟩ : ∃ l, B ++ M ++ T = l := ⟨_, rfl⟩
          obtain ⟨na, hna⟩ : ∃ n, nb + nm + nt = n := ⟨_, rfl⟩
          have hal : all.length = na := by rw [← hall, List.length_append, List.length_append, HNB.out, HNM.out, HNT.out]; exact hna
          have hno := HNO.out
          have hxn := HALL.out
          rw [hall] at hA9 hno hxn
          rw [hna]
          have hna1 : na ≤ 24 := by omega
          obtain ⟨Q, hQ⟩ : ∃ Q : World → Prop, Q = fun W => Aces W A9 all ∧ Mst Ab Am At B M T g7 g8 A7 A8 X Y (.slice A7 nx c7) (.slice A8 nx c8) ok w W := ⟨_, rfl⟩
          have QO := Lib.hid (show ∀ W, Q W → Aces W A9 all ∧ Mst Ab Am At B M T g7 g8 A7 A8 X Y (.slice A7 nx c7) (.slice A8 nx c8) ok w W from fun W h => by rw [hQ] at h; exact h)
          have QS := Lib.hid (show ∀ W W', Q W → Below W.heap.size W W' → Q W' from fun W W' h hb => by rw [hQ] at h ⊢; exact ⟨h.1.below hb, h.2.step hb⟩)
          have QD := Lib.hid (show ∀ W, Q W → Q W.drew from fun W h => QS.out W _ h (Below.refl _ W).drew)
          have Q0 := Lib.hid (show Q wc by rw [hQ]; exact ⟨hA9, hM⟩)
          have HAL := Lib.hid hal
          have HNO2 := Lib.hid hno
          have HXN := Lib.hid hxn
          obtain ⟨CL, hCL⟩ : ∃ f, clashE B M T = f := ⟨_, rfl⟩
          have HCL := Lib.hid hCL
          have hok := HOK.out
          rw [hCL] at hno hok
          have HV := Lib.hid (show all.any CL = !ok by
            cases ok
            · exact (hno rfl).2
            · rw [Bool.not_true, List.any_eq_false]
              intro e _
              simp [(hok rfl).2.1 e])
          clear hall hna hal hno hxn hA9 hM hQ HM HNO HALL hCL hok
          go_wp2
          go_loopw [10, 11, 12, 13, 14, 15] (fun s10 s11 _ _ _ _ wr => ∃ i : Nat, i ≤ na ∧ s11 = .int .i64 i ∧ s10 = .bool ((all.take i).any CL) ∧ Q wr) (fun _ s11 _ _ _ _ _ => na - (intOf s11).toNat)
          case atStart => exact ⟨0, Nat.zero_le _, rfl, rfl, Q0.out⟩
          case round =>
            as_aux_lemma =>
            obtain ⟨i, hi, rfl, rfl, hq⟩ := hrel
            by_cases hlt : i < na
            · have hil : i < all.length := by rw [HAL.out]; exact hlt
              obtain ⟨g, o, hAe, hg, hc⟩ := (QO.out _ hq).1 (List.ne_nil_of_length_pos (by omega))
              subst hAe
              have hxat := hc i all[i] (List.getElem?_eq_getElem hil)
              have hany : (all.take (i + 1)).any CL = ((all.take i).any CL || CL all[i]) := by rw [List.take_succ_eq_append_getElem hil, List.any_append]; simp
              obtain ⟨x, hx⟩ : ∃ y, all[i] = y := ⟨_, rfl⟩
              rw [hx] at hxat hany
              obtain ⟨u, hu⟩ : ∃ u, (all.take i).any CL = u := ⟨_, rfl⟩
              rw [hu] at hany ⊢
              have ca0 := fun W (h : Q W) => at_any Ab nb cb B x HNB.out (by omega) W (QO.out W h).2.b
              have ca1 := fun W (h : Q W) => at_any Am nm cm M x HNM.out (by omega) W (QO.out W h).2.m
              have ca2 := fun W (h : Q W) => at_any At nt ct T x HNT.out (by omega) W (QO.out W h).2.t
              have cx := fun W (h : Q W) => at_any A7 nx c7 X x LX.out (by omega) W (QO.out W h).2.x
              have cy := fun W (h : Q W) => at_any A8 nx c8 Y x LY.out (by omega) W (QO.out W h).2.y
              obtain ⟨bE, hbE⟩ : ∃ r, atL B x = r := ⟨_, rfl⟩
              obtain ⟨mE, hmE⟩ : ∃ r, atL M x = r := ⟨_, rfl⟩
              obtain ⟨tE, htE⟩ : ∃ r, atL T x = r := ⟨_, rfl⟩
              have hcl : CL x = clashR bE mE tE := by rw [← HCL.out]; unfold clashE; rw [hbE, hmE, htE]
              obtain ⟨wE, hwE⟩ : ∃ r, wantR bE mE tE = r := ⟨_, rfl⟩
              have hwx : ok = true → atL X x = wE := fun h => by rw [(HOK.out h).2.2.1 x]; unfold wantE; rw [hbE, hmE, htE, hwE]
              have hwy : ok = true → atL Y x = wE := fun h => by rw [(HOK.out h).2.2.2 x]; unfold wantE; rw [hbE, hmE, htE, hwE]
              rw [hbE] at ca0
              rw [hmE] at ca1
              rw [htE] at ca2
              rw [hcl] at hany
              have R0 := Lib.hid (show Rst Q g (o + i * 5) x wr from ⟨hq, hxat⟩)
              obtain ⟨xw, xl, xr, xe, xg⟩ := x
              unfold av at ca0 ca1 ca2 cx cy
              dsimp only at ca0 ca1 ca2 cx cy
              have CA0 := Lib.hid ca0
              have CA1 := Lib.hid ca1
              have CA2 := Lib.hid ca2
              have CX0 := Lib.hid cx
              have CY0 := Lib.hid cy
              have HANY := Lib.hid hany
              have HWE := Lib.hid hwE
              have HWX := Lib.hid hwx
              have HWY := Lib.hid hwy
              have i0 : (0 : Int) ≤ (i : Int) := by omega
              have i1 : (i : Int) < (na : Int) := by omega
              clear hq hc hxat hany hx hu ca0 ca1 ca2 cx cy hbE hmE htE hcl hwE hwx hwy
              go_upto_region 10 with fail
              go_cut [12, 13, 14] (fun s12 s13 s14 wx => s12 = .int .i64 bE ∧ s13 = .int .i64 mE ∧ s14 = .int .i64 tE ∧ Rst Q g (o + i * 5) ⟨xw, xl, xr, xe, xg⟩ wx)
              case first =>
                as_aux_lemma =>
                refine wp_region_held_drew (S := (fun W' => W'.cell? ⟨g, o + i * 5, none⟩ = some (.int .i64 xw) ∧ W'.cell? ⟨g, o + i * 5 + 1, none⟩ = some (.bool xl) ∧ W'.cell? ⟨g, o + i * 5 + 2, none⟩ = some (.int .i64 xr) ∧ W'.cell? ⟨g, o + i * 5 + 3, none⟩ = some (.int .i64 xe) ∧ W'.cell? ⟨g, o + i * 5 + 4, none⟩ = some (.bool xg))) (by kernel_rfl) (by exact (R0.out.drew QD.out).flat) (fun hHeld => ?_)
                refine wpAnyH_take (i := 0) (oi := { dst := some 102, op := Op.move (Operand.tmp 4), type := 22, pos := "law.go:164", after := #[], guard := none }) (v := ?_) rfl (by kernel_rfl) (by kernel_rfl) (by kernel_rfl) (fun _ _ _ h => h) (Or.inl ⟨by rfl, ?_⟩) (by assumption) ?_
                rotate_left
                · ((intro w' hSw); (try dsimp only at hSw); go_simp; all_goals (with_reducible rfl))
                simp only [Act.put, List.setIfInBounds_toArray, List.set_cons_zero, List.set_cons_succ]
                refine wpAnyH_take (i := 1) (oi := { dst := some 103, op := Op.move (Operand.tmp 9), type := 22, pos := "law.go:164", after := #[], guard := none }) (v := ?_) rfl (by kernel_rfl) (by kernel_rfl) (by kernel_rfl) (fun _ _ _ h => h) (Or.inl ⟨by rfl, ?_⟩) (by assumption) ?_
                rotate_left
                · ((intro w' hSw); (try dsimp only at hSw); go_simp; all_goals (with_reducible rfl))
                simp only [Act.put, List.setIfInBounds_toArray, List.set_cons_zero, List.set_cons_succ]
                refine wpAnyH_take (i := 2) (oi := { dst := some 104, op := Op.move (Operand.tmp 11), type := 3, pos := "law.go:164", after := #[], guard := none }) (v := ?_) rfl (by kernel_rfl) (by kernel_rfl) (by kernel_rfl) (fun _ _ _ h => h) (Or.inl ⟨by rfl, ?_⟩) (by assumption) ?_
                rotate_left
                · ((intro w' hSw); (try dsimp only at hSw); go_simp; all_goals (with_reducible rfl))
                simp only [Act.put, List.setIfInBounds_toArray, List.set_cons_zero, List.set_cons_succ]
                refine wpAnyH_take (i := 3) (oi := { dst := some 105, op := Op.indexAddr 22 (Operand.tmp 103) (Operand.tmp 104), type := 0, pos := "law.go:164", after := #[{ on := 1, ground := Ground.data }, { on := 2, ground := Ground.data }], guard := none }) (v := ?_) rfl (by kernel_rfl) (by kernel_rfl) (by kernel_rfl) (fun _ _ _ h => h) (Or.inl ⟨by rfl, ?_⟩) (by assumption) ?_
                rotate_left
                · ((intro w' hSw); (try dsimp only at hSw); go_simp; all_goals (with_reducible rfl))
                simp only [Act.put, List.setIfInBounds_toArray, List.set_cons_zero, List.set_cons_succ]
                refine wpAnyH_take (i := 4) (oi := { dst := some 106, op := Op.load 31 (Operand.tmp 105), type := 31, pos := "law.go:164", after := #[{ on := 3, ground := Ground.data }], guard := none }) (v := ?_) rfl (by kernel_rfl) (by kernel_rfl) (by kernel_rfl) (fun _ _ _ h => h) (Or.inl ⟨by rfl, ?_⟩) (by assumption) ?_
                rotate_left
                · ((intro w' hSw); (try dsimp only at hSw); go_simp; all_goals (with_reducible rfl))
                simp only [Act.put, List.setIfInBounds_toArray, List.set_cons_zero, List.set_cons_succ]
                refine wpAnyH_take (i := 6) (oi := { dst := some 108, op := Op.move (Operand.tmp 5), type := 22, pos := "law.go:164", after := #[], guard := none }) (v := ?_) rfl (by kernel_rfl) (by kernel_rfl) (by kernel_rfl) (fun _ _ _ h => h) (Or.inl ⟨by rfl, ?_⟩) (by assumption) ?_
                rotate_left
                · ((intro w' hSw); (try dsimp only at hSw); go_simp; all_goals (with_reducible rfl))
                simp only [Act.put, List.setIfInBounds_toArray, List.set_cons_zero, List.set_cons_succ]
                refine wpAnyH_take (i := 7) (oi := { dst := some 109, op := Op.move (Operand.tmp 9), type := 22, pos := "law.go:164", after := #[], guard := none }) (v := ?_) rfl (by kernel_rfl) (by kernel_rfl) (by kernel_rfl) (fun _ _ _ h => h) (Or.inl ⟨by rfl, ?_⟩) (by assumption) ?_
                rotate_left
                · ((intro w' hSw); (try dsimp only at hSw); go_simp; all_goals (with_reducible rfl))
                simp only [Act.put, List.setIfInBounds_toArray, List.set_cons_zero, List.set_cons_succ]
                refine wpAnyH_take (i := 8) (oi := { dst := some 110, op := Op.move (Operand.tmp 11), type := 3, pos := "law.go:164", after := #[], guard := none }) (v := ?_) rfl (by kernel_rfl) (by kernel_rfl) (by kernel_rfl) (fun _ _ _ h => h) (Or.inl ⟨by rfl, ?_⟩) (by assumption) ?_
                rotate_left
                · ((intro w' hSw); (try dsimp only at hSw); go_simp; all_goals (with_reducible rfl))
                simp only [Act.put, List.setIfInBounds_toArray, List.set_cons_zero, List.set_cons_succ]
                refine wpAnyH_take (i := 9) (oi := { dst := some 111, op := Op.indexAddr 22 (Operand.tmp 109) (Operand.tmp 110), type := 0, pos := "law.go:164", after := #[{ on := 7, ground := Ground.data }, { on := 8, ground := Ground.data }], guard := none }) (v := ?_) rfl (by kernel_rfl) (by kernel_rfl) (by kernel_rfl) (fun _ _ _ h => h) (Or.inl ⟨by rfl, ?_⟩) (by assumption) ?_
                rotate_left
                · ((intro w' hSw); (try dsimp only at hSw); go_simp; all_goals (with_reducible rfl))
                simp only [Act.put, List.setIfInBounds_toArray, List.set_cons_zero, List.set_cons_succ]
                refine wpAnyH_take (i := 10) (oi := { dst := some 112, op := Op.load 31 (Operand.tmp 111), type := 31, pos := "law.go:164", after := #[{ on := 9, ground := Ground.data }], guard := none }) (v := ?_) rfl (by kernel_rfl) (by kernel_rfl) (by kernel_rfl) (fun _ _ _ h => h) (Or.inl ⟨by rfl, ?_⟩) (by assumption) ?_
                rotate_left
                · ((intro w' hSw); (try dsimp only at hSw); go_simp; all_goals (with_reducible rfl))
                simp only [Act.put, List.setIfInBounds_toArray, List.set_cons_zero, List.set_cons_succ]
                refine wpAnyH_take (i := 12) (oi := { dst := some 114, op := Op.move (Operand.tmp 6), type := 22, pos := "law.go:164", after := #[], guard := none }) (v := ?_) rfl (by kernel_rfl) (by kernel_rfl) (by kernel_rfl) (fun _ _ _ h => h) (Or.inl ⟨by rfl, ?_⟩) (by assumption) ?_
                rotate_left
                · ((intro w' hSw); (try dsimp only at hSw); go_simp; all_goals (with_reducible rfl))
                simp only [Act.put, List.setIfInBounds_toArray, List.set_cons_zero, List.set_cons_succ]
                refine wpAnyH_take (i := 13) (oi := { dst := some 115, op := Op.move (Operand.tmp 9), type := 22, pos := "law.go:164", after := #[], guard := none }) (v := ?_) rfl (by kernel_rfl) (by kernel_rfl) (by kernel_rfl) (fun _ _ _ h => h) (Or.inl ⟨by rfl, ?_⟩) (by assumption) ?_
                rotate_left
                · ((intro w' hSw); (try dsimp only at hSw); go_simp; all_goals (with_reducible rfl))
                simp only [Act.put, List.setIfInBounds_toArray, List.set_cons_zero, List.set_cons_succ]
                refine wpAnyH_take (i := 14) (oi := { dst := some 116, op := Op.move (Operand.tmp 11), type := 3, pos := "law.go:164", after := #[], guard := none }) (v := ?_) rfl (by kernel_rfl) (by kernel_rfl) (by kernel_rfl) (fun _ _ _ h => h) (Or.inl ⟨by rfl, ?_⟩) (by assumption) ?_
                rotate_left
                · ((intro w' hSw); (try dsimp only at hSw); go_simp; all_goals (with_reducible rfl))
                simp only [Act.put, List.setIfInBounds_toArray, List.set_cons_zero, List.set_cons_succ]
                refine wpAnyH_take (i := 15) (oi := { dst := some 117, op := Op.indexAddr 22 (Operand.tmp 115) (Operand.tmp 116), type := 0, pos := "law.go:164", after := #[{ on := 13, ground := Ground.data }, { on := 14, ground := Ground.data }], guard := none }) (v := ?_) rfl (by kernel_rfl) (by kernel_rfl) (by kernel_rfl) (fun _ _ _ h => h) (Or.inl ⟨by rfl, ?_⟩) (by assumption) ?_
                rotate_left
                · ((intro w' hSw); (try dsimp only at hSw); go_simp; all_goals (with_reducible rfl))
                simp only [Act.put, List.setIfInBounds_toArray, List.set_cons_zero, List.set_cons_succ]
                refine wpAnyH_take (i := 16) (oi := { dst := some 118, op := Op.load 31 (Operand.tmp 117), type := 31, pos := "law.go:164", after := #[{ on := 15, ground := Ground.data }], guard := none }) (v := ?_) rfl (by kernel_rfl) (by kernel_rfl) (by kernel_rfl) (fun _ _ _ h => h) (Or.inl ⟨by rfl, ?_⟩) (by assumption) ?_
                rotate_left
                · ((intro w' hSw); (try dsimp only at hSw); go_simp; all_goals (with_reducible rfl))
                simp only [Act.put, List.setIfInBounds_toArray, List.set_cons_zero, List.set_cons_succ]
                refine wpAnyH_ready (rs := [5]) (by kernel_rfl) (by simp) ?_
                refine AllReadyH.cons rfl (fun K hK => ?_) AllReadyH.nil
                go_simp
                go_wp2_with (go_at_call 31; (with_reducible refine (CA0.out _ (R0.out.drew QD.out).q).mono ?_); rintro y w2 ⟨rfl, hb⟩; have R2 := Lib.hid (rst_step QS.out (R0.out.drew QD.out) hb); clear hb)
                refine hK.out _ _ ?_ (fun hHeld => ?_)
                · exact R2.out.flat
                clear hK K
                refine wpAnyH_ready (rs := [11]) (by kernel_rfl) (by simp) ?_
                refine AllReadyH.cons rfl (fun K hK => ?_) AllReadyH.nil
                go_simp
                go_wp2_with (go_at_call 31; (with_reducible refine (CA1.out _ R2.out.q).mono ?_); rintro y w3 ⟨rfl, hb⟩; have R3 := Lib.hid (rst_step QS.out R2.out hb); clear hb)
                refine hK.out _ _ ?_ (fun hHeld => ?_)
                · exact R3.out.flat
                clear hK K
                refine wpAnyH_ready (rs := [17]) (by kernel_rfl) (by simp) ?_
                refine AllReadyH.cons rfl (fun K hK => ?_) AllReadyH.nil
                go_simp
                go_wp2_with (go_at_call 31; (with_reducible refine (CA2.out _ R3.out.q).mono ?_); rintro y w4 ⟨rfl, hb⟩; have R4 := Lib.hid (rst_step QS.out R3.out hb); clear hb)
                refine hK.out _ _ ?_ (fun hHeld => ?_)
                · exact R4.out.flat
                clear hK K
                refine wpAnyH_take (i := 18) (oi := { dst := some 12, op := Op.assign (Operand.tmp 107), type := 3, pos := "law.go:164", after := #[{ on := 5, ground := Ground.data }, { on := 17, ground := Ground.chain }, { on := 0, ground := Ground.phase }, { on := 1, ground := Ground.phase }, { on := 2, ground := Ground.phase }, { on := 3, ground := Ground.phase }, { on := 4, ground := Ground.phase }, { on := 5, ground := Ground.phase }, { on := 6, ground := Ground.textOnly Departure.lateStores }, { on := 7, ground := Ground.textOnly Departure.lateStores }, { on := 8, ground := Ground.textOnly Departure.lateStores }, { on := 9, ground := Ground.textOnly Departure.lateStores }, { on := 10, ground := Ground.textOnly Departure.lateStores }, { on := 11, ground := Ground.textOnly Departure.lateStoresUnsure }, { on := 12, ground := Ground.textOnly Departure.lateStores }, { on := 13, ground := Ground.textOnly Departure.lateStores }, { on := 14, ground := Ground.textOnly Departure.lateStores }, { on := 15, ground := Ground.textOnly Departure.lateStores }, { on := 16, ground := Ground.textOnly Departure.lateStores }, { on := 17, ground := Ground.textOnly Departure.lateStoresUnsure }], guard := none }) (v := ?_) rfl (by kernel_rfl) (by kernel_rfl) (by kernel_rfl) (fun _ _ _ h => h) (Or.inl ⟨by rfl, ?_⟩) (by assumption) ?_
                rotate_left
                · ((intro w' hSw); (try dsimp only at hSw); go_simp; all_goals (with_reducible rfl))
                simp only [Act.put, List.setIfInBounds_toArray, List.set_cons_zero, List.set_cons_succ]
                refine wpAnyH_take (i := 19) (oi := { dst := some 13, op := Op.assign (Operand.tmp 113), type := 3, pos := "law.go:164", after := #[{ on := 11, ground := Ground.data }, { on := 18, ground := Ground.chain }, { on := 0, ground := Ground.phase }, { on := 1, ground := Ground.phase }, { on := 2, ground := Ground.phase }, { on := 3, ground := Ground.phase }, { on := 4, ground := Ground.phase }, { on := 5, ground := Ground.phase }, { on := 6, ground := Ground.phase }, { on := 7, ground := Ground.phase }, { on := 8, ground := Ground.phase }, { on := 9, ground := Ground.phase }, { on := 10, ground := Ground.phase }, { on := 11, ground := Ground.phase }, { on := 12, ground := Ground.textOnly Departure.lateStores }, { on := 13, ground := Ground.textOnly Departure.lateStores }, { on := 14, ground := Ground.textOnly Departure.lateStores }, { on := 15, ground := Ground.textOnly Departure.lateStores }, { on := 16, ground := Ground.textOnly Departure.lateStores }, { on := 17, ground := Ground.textOnly Departure.lateStoresUnsure }, { on := 18, ground := Ground.phase }], guard := none }) (v := ?_) rfl (by kernel_rfl) (by kernel_rfl) (by kernel_rfl) (fun _ _ _ h => h) (Or.inl ⟨by rfl, ?_⟩) (by assumption) ?_
                rotate_left
                · ((intro w' hSw); (try dsimp only at hSw); go_simp; all_goals (with_reducible rfl))
                simp only [Act.put, List.setIfInBounds_toArray, List.set_cons_zero, List.set_cons_succ]
                refine wpAnyH_take (i := 20) (oi := { dst := some 14, op := Op.assign (Operand.tmp 119), type := 3, pos := "law.go:164", after := #[{ on := 17, ground := Ground.data }, { on := 19, ground := Ground.chain }, { on := 0, ground := Ground.phase }, { on := 1, ground := Ground.phase }, { on := 2, ground := Ground.phase }, { on := 3, ground := Ground.phase }, { on := 4, ground := Ground.phase }, { on := 5, ground := Ground.phase }, { on := 6, ground := Ground.phase }, { on := 7, ground := Ground.phase }, { on := 8, ground := Ground.phase }, { on := 9, ground := Ground.phase }, { on := 10, ground := Ground.phase }, { on := 11, ground := Ground.phase }, { on := 12, ground := Ground.phase }, { on := 13, ground := Ground.phase }, { on := 14, ground := Ground.phase }, { on := 15, ground := Ground.phase }, { on := 16, ground := Ground.phase }, { on := 17, ground := Ground.phase }, { on := 18, ground := Ground.phase }, { on := 19, ground := Ground.phase }], guard := none }) (v := ?_) rfl (by kernel_rfl) (by kernel_rfl) (by kernel_rfl) (fun _ _ _ h => h) (Or.inl ⟨by rfl, ?_⟩) (by assumption) ?_
                rotate_left
                · ((intro w' hSw); (try dsimp only at hSw); go_simp; all_goals (with_reducible rfl))
                simp only [Act.put, List.setIfInBounds_toArray, List.set_cons_zero, List.set_cons_succ]
                refine wpAnyH_done (by kernel_rfl) ?_ _
                all_goals (go_wp2_with fail; go_meet)
                all_goals exact ⟨rfl, rfl, rfl, R4.out⟩
              case rest =>
                obtain ⟨rfl, rfl, rfl, hR⟩ := hcut
                have R4 := Lib.hid hR
                clear hR R0 CA0 CA1 CA2
                go_upto_region 11 with fail
                go_cut [10] (fun s10 wx => s10 = .bool (u || clashR bE mE tE) ∧ Rst Q g (o + i * 5) ⟨xw, xl, xr, xe, xg⟩ wx)
                case first =>
                  as_aux_lemma =>
                  obtain ⟨p1, hp1⟩ : ∃ v, (mE != bE) = v := ⟨_, rfl⟩
                  obtain ⟨p2, hp2⟩ : ∃ v, (tE != bE) = v := ⟨_, rfl⟩
                  obtain ⟨p3, hp3⟩ : ∃ v, (mE != tE) = v := ⟨_, rfl⟩
                  have HC := Lib.hid (show clashR bE mE tE = (p1 && p2 && p3) by unfold clashR; rw [hp1, hp2, hp3])
                  cases u
                  · cases p1
                    · go_wp2
                      go_meet
                      exact ⟨by rw [HC.out]; rfl, R4.out⟩
                    · cases p2
                      · go_wp2
                        go_meet
                        exact ⟨by rw [HC.out]; rfl, R4.out⟩
                      · cases p3
                        all_goals (go_wp2; go_meet; exact ⟨by rw [HC.out]; rfl, R4.out⟩)
                  · go_wp2
                    go_meet
                    exact ⟨by simp, R4.out⟩
                case rest =>
                  obtain ⟨rfl, hR⟩ := hcut
                  have R5 := Lib.hid hR
                  clear hR R4
                  obtain ⟨u2, hu2⟩ : ∃ v, (u || clashR bE mE tE) = v := ⟨_, rfl⟩
                  rw [hu2]
                  have HU2 := Lib.hid hu2
                  clear hu2
                  go_upto_if 139 with fail
                  go_cut [15] (fun s15 wx => s15 = .int .i64 wE ∧ Rst Q g (o + i * 5) ⟨xw, xl, xr, xe, xg⟩ wx)
                  case first =>
                    as_aux_lemma =>
                    by_cases hmb : mE = bE
                    · have HW := Lib.hid (show tE = wE by rw [← HWE.out]; unfold wantR; rw [if_pos hmb])
                      have bm : (mE == bE) = true := by simp [hmb]
                      clear hmb
                      go_wp2
                      go_meet
                      exact ⟨by rw [HW.out], R5.out⟩
                    · have HW := Lib.hid (show mE = wE by rw [← HWE.out]; unfold wantR; rw [if_neg hmb])
                      have bm : (mE == bE) = false := by simp [hmb]
                      clear hmb
                      go_wp2
                      go_meet
                      exact ⟨by rw [HW.out], R5.out⟩
                  case rest =>
                    obtain ⟨rfl, hR⟩ := hcut
                    have R6 := Lib.hid hR
                    clear hR R5
                    go_upto_region 15 with fail
                    go_cut [164] (fun s164 wx => s164 = .bool false ∧ Rst Q g (o + i * 5) ⟨xw, xl, xr, xe, xg⟩ wx)
                    case first =>
                      as_aux_lemma =>
                      cases ok
                      · obtain ⟨_, _, _, q0, q1, q2, q3⟩ := (QO.out _ R6.out.q).2
                        go_quiet (fail)
                        go_wp2
                        go_meet
                        exact ⟨rfl, rst_step QS.out R6.out (below_drewN _ _)⟩
                      · have cx := CX0.out
                        have cy := CY0.out
                        rw [HWX.out rfl] at cx
                        rw [HWY.out rfl] at cy
                        have CX := Lib.hid cx
                        have CY := Lib.hid cy
                        have we0 : (wE != wE) = false := by simp
                        clear cx cy CX0 CY0
                        refine wp_region_held_drew (S := (fun W' => W'.cell? ⟨g, o + i * 5, none⟩ = some (.int .i64 xw) ∧ W'.cell? ⟨g, o + i * 5 + 1, none⟩ = some (.bool xl) ∧ W'.cell? ⟨g, o + i * 5 + 2, none⟩ = some (.int .i64 xr) ∧ W'.cell? ⟨g, o + i * 5 + 3, none⟩ = some (.int .i64 xe) ∧ W'.cell? ⟨g, o + i * 5 + 4, none⟩ = some (.bool xg) ∧ W'.cell? ⟨g7, 0, none⟩ = some (.slice A7 nx c7) ∧ W'.cell? ⟨g7, 1, none⟩ = some (.bool true) ∧ W'.cell? ⟨g8, 0, none⟩ = some (.slice A8 nx c8))) (by kernel_rfl) (by exact flat15 (R6.out.drew QD.out) (QO.out _ (R6.out.drew QD.out).q).2) (fun hHeld => ?_)
                        refine wpAnyH_take (i := 0) (oi := { dst := some 141, op := Op.fieldAddr 42 (Operand.tmp 7) 1, type := 0, pos := "law.go:170", after := #[], guard := none }) (v := ?_) rfl (by kernel_rfl) (by kernel_rfl) (by kernel_rfl) (fun _ _ _ h => h) (Or.inl ⟨by rfl, ?_⟩) (by assumption) ?_
                        rotate_left
                        · ((intro w' hSw); (try dsimp only at hSw); go_simp; all_goals (with_reducible rfl))
                        simp only [Act.put, List.setIfInBounds_toArray, List.set_cons_zero, List.set_cons_succ]
                        refine wpAnyH_take (i := 1) (oi := { dst := some 142, op := Op.load 4 (Operand.tmp 141), type := 4, pos := "law.go:170", after := #[{ on := 0, ground := Ground.data }], guard := none }) (v := ?_) rfl (by kernel_rfl) (by kernel_rfl) (by kernel_rfl) (fun _ _ _ h => h) (Or.inl ⟨by rfl, ?_⟩) (by assumption) ?_
                        rotate_left
                        · ((intro w' hSw); (try dsimp only at hSw); go_simp; all_goals (with_reducible rfl))
                        simp only [Act.put, List.setIfInBounds_toArray, List.set_cons_zero, List.set_cons_succ]
                        refine wpAnyH_take (i := 2) (oi := { dst := some 143, op := Op.move (Operand.tmp 142), type := 4, pos := "law.go:170", after := #[{ on := 1, ground := Ground.data }], guard := none }) (v := ?_) rfl (by kernel_rfl) (by kernel_rfl) (by kernel_rfl) (fun _ _ _ h => h) (Or.inl ⟨by rfl, ?_⟩) (by assumption) ?_
                        rotate_left
                        · ((intro w' hSw); (try dsimp only at hSw); go_simp; all_goals (with_reducible rfl))
                        simp only [Act.put, List.setIfInBounds_toArray, List.set_cons_zero, List.set_cons_succ]
                        refine wpAnyH_take (i := 3) (oi := { dst := some 144, op := Op.fieldAddr 42 (Operand.tmp 7) 0, type := 0, pos := "law.go:170", after := #[{ on := 2, ground := Ground.guard }], guard := some (2, true) }) (v := ?_) rfl (by kernel_rfl) (by kernel_rfl) (by kernel_rfl) (fun _ _ _ h => h) (Or.inl ⟨by rfl, ?_⟩) (by assumption) ?_
                        rotate_left
                        · ((intro w' hSw); (try dsimp only at hSw); go_simp; all_goals (with_reducible rfl))
                        simp only [Act.put, List.setIfInBounds_toArray, List.set_cons_zero, List.set_cons_succ]
                        refine wpAnyH_take (i := 4) (oi := { dst := some 145, op := Op.load 22 (Operand.tmp 144), type := 22, pos := "law.go:170", after := #[{ on := 3, ground := Ground.data }, { on := 2, ground := Ground.guard }], guard := some (2, true) }) (v := ?_) rfl (by kernel_rfl) (by kernel_rfl) (by kernel_rfl) (fun _ _ _ h => h) (Or.inl ⟨by rfl, ?_⟩) (by assumption) ?_
                        rotate_left
                        · ((intro w' hSw); (try dsimp only at hSw); go_simp; all_goals (with_reducible rfl))
                        simp only [Act.put, List.setIfInBounds_toArray, List.set_cons_zero, List.set_cons_succ]
                        refine wpAnyH_take (i := 5) (oi := { dst := some 146, op := Op.move (Operand.tmp 9), type := 22, pos := "law.go:170", after := #[{ on := 2, ground := Ground.guard }], guard := some (2, true) }) (v := ?_) rfl (by kernel_rfl) (by kernel_rfl) (by kernel_rfl) (fun _ _ _ h => h) (Or.inl ⟨by rfl, ?_⟩) (by assumption) ?_
                        rotate_left
                        · ((intro w' hSw); (try dsimp only at hSw); go_simp; all_goals (with_reducible rfl))
                        simp only [Act.put, List.setIfInBounds_toArray, List.set_cons_zero, List.set_cons_succ]
                        refine wpAnyH_take (i := 6) (oi := { dst := some 147, op := Op.move (Operand.tmp 11), type := 3, pos := "law.go:170", after := #[{ on := 2, ground := Ground.guard }], guard := some (2, true) }) (v := ?_) rfl (by kernel_rfl) (by kernel_rfl) (by kernel_rfl) (fun _ _ _ h => h) (Or.inl ⟨by rfl, ?_⟩) (by assumption) ?_
                        rotate_left
                        · ((intro w' hSw); (try dsimp only at hSw); go_simp; all_goals (with_reducible rfl))
                        simp only [Act.put, List.setIfInBounds_toArray, List.set_cons_zero, List.set_cons_succ]
                        refine wpAnyH_take (i := 7) (oi := { dst := some 148, op := Op.indexAddr 22 (Operand.tmp 146) (Operand.tmp 147), type := 0, pos := "law.go:170", after := #[{ on := 5, ground := Ground.data }, { on := 6, ground := Ground.data }, { on := 2, ground := Ground.guard }], guard := some (2, true) }) (v := ?_) rfl (by kernel_rfl) (by kernel_rfl) (by kernel_rfl) (fun _ _ _ h => h) (Or.inl ⟨by rfl, ?_⟩) (by assumption) ?_
                        rotate_left
                        · ((intro w' hSw); (try dsimp only at hSw); go_simp; all_goals (with_reducible rfl))
                        simp only [Act.put, List.setIfInBounds_toArray, List.set_cons_zero, List.set_cons_succ]
                        refine wpAnyH_take (i := 8) (oi := { dst := some 149, op := Op.load 31 (Operand.tmp 148), type := 31, pos := "law.go:170", after := #[{ on := 7, ground := Ground.data }, { on := 2, ground := Ground.guard }], guard := some (2, true) }) (v := ?_) rfl (by kernel_rfl) (by kernel_rfl) (by kernel_rfl) (fun _ _ _ h => h) (Or.inl ⟨by rfl, ?_⟩) (by assumption) ?_
                        rotate_left
                        · ((intro w' hSw); (try dsimp only at hSw); go_simp; all_goals (with_reducible rfl))
                        simp only [Act.put, List.setIfInBounds_toArray, List.set_cons_zero, List.set_cons_succ]
                        refine wpAnyH_take (i := 10) (oi := { dst := some 151, op := Op.move (Operand.tmp 15), type := 3, pos := "law.go:170", after := #[{ on := 2, ground := Ground.guard }], guard := some (2, true) }) (v := ?_) rfl (by kernel_rfl) (by kernel_rfl) (by kernel_rfl) (fun _ _ _ h => h) (Or.inl ⟨by rfl, ?_⟩) (by assumption) ?_
                        rotate_left
                        · ((intro w' hSw); (try dsimp only at hSw); go_simp; all_goals (with_reducible rfl))
                        simp only [Act.put, List.setIfInBounds_toArray, List.set_cons_zero, List.set_cons_succ]
                        refine wpAnyH_ready (rs := [9]) (by kernel_rfl) (by simp) ?_
                        refine AllReadyH.cons rfl (fun K hK => ?_) AllReadyH.nil
                        go_simp
                        go_wp2_with (go_at_call 31; (with_reducible refine (CX.out _ (R6.out.drew QD.out).q).mono ?_); rintro y w7 ⟨rfl, hb⟩; have R7 := Lib.hid (rst_step QS.out (R6.out.drew QD.out) hb); clear hb)
                        refine hK.out _ _ ?_ (fun hHeld => ?_)
                        · exact flat15 R7.out (QO.out _ R7.out.q).2
                        clear hK K
                        refine wpAnyH_take (i := 11) (oi := { dst := some 152, op := Op.binOp BinOp.neq 3 (Operand.tmp 150) (Operand.tmp 151) 3, type := 4, pos := "law.go:170", after := #[{ on := 9, ground := Ground.data }, { on := 10, ground := Ground.data }, { on := 2, ground := Ground.guard }], guard := some (2, true) }) (v := ?_) rfl (by kernel_rfl) (by kernel_rfl) (by kernel_rfl) (fun _ _ _ h => h) (Or.inl ⟨by rfl, ?_⟩) (by assumption) ?_
                        rotate_left
                        · ((intro w' hSw); (try dsimp only at hSw); go_simp; all_goals (with_reducible rfl))
                        simp only [Act.put, List.setIfInBounds_toArray, List.set_cons_zero, List.set_cons_succ]
                        refine wpAnyH_take (i := 12) (oi := { dst := some 153, op := Op.move (Operand.tmp 152), type := 4, pos := "law.go:170", after := #[{ on := 11, ground := Ground.data }, { on := 9, ground := Ground.chain }, { on := 2, ground := Ground.guard }], guard := some (2, true) }) (v := ?_) rfl (by kernel_rfl) (by kernel_rfl) (by kernel_rfl) (fun _ _ _ h => h) (Or.inl ⟨by rfl, ?_⟩) (by assumption) ?_
                        rotate_left
                        · ((intro w' hSw); (try dsimp only at hSw); go_simp; all_goals (with_reducible rfl))
                        simp only [Act.put, List.setIfInBounds_toArray, List.set_cons_zero, List.set_cons_succ]
                        refine wpAnyH_take (i := 13) (oi := { dst := some 154, op := Op.fieldAddr 42 (Operand.tmp 8) 0, type := 0, pos := "law.go:170", after := #[{ on := 12, ground := Ground.guard }], guard := some (12, false) }) (v := ?_) rfl (by kernel_rfl) (by kernel_rfl) (by kernel_rfl) (fun _ _ _ h => h) (Or.inl ⟨by rfl, ?_⟩) (by assumption) ?_
                        rotate_left
                        · ((intro w' hSw); (try dsimp only at hSw); go_simp; all_goals (with_reducible rfl))
                        simp only [Act.put, List.setIfInBounds_toArray, List.set_cons_zero, List.set_cons_succ]
                        refine wpAnyH_take (i := 14) (oi := { dst := some 155, op := Op.load 22 (Operand.tmp 154), type := 22, pos := "law.go:170", after := #[{ on := 13, ground := Ground.data }, { on := 12, ground := Ground.guard }], guard := some (12, false) }) (v := ?_) rfl (by kernel_rfl) (by kernel_rfl) (by kernel_rfl) (fun _ _ _ h => h) (Or.inl ⟨by rfl, ?_⟩) (by assumption) ?_
                        rotate_left
                        · ((intro w' hSw); (try dsimp only at hSw); go_simp; all_goals (with_reducible rfl))
                        simp only [Act.put, List.setIfInBounds_toArray, List.set_cons_zero, List.set_cons_succ]
                        refine wpAnyH_take (i := 15) (oi := { dst := some 156, op := Op.move (Operand.tmp 9), type := 22, pos := "law.go:170", after := #[{ on := 12, ground := Ground.guard }], guard := some (12, false) }) (v := ?_) rfl (by kernel_rfl) (by kernel_rfl) (by kernel_rfl) (fun _ _ _ h => h) (Or.inl ⟨by rfl, ?_⟩) (by assumption) ?_
                        rotate_left
                        · ((intro w' hSw); (try dsimp only at hSw); go_simp; all_goals (with_reducible rfl))
                        simp only [Act.put, List.setIfInBounds_toArray, List.set_cons_zero, List.set_cons_succ]
                        refine wpAnyH_take (i := 16) (oi := { dst := some 157, op := Op.move (Operand.tmp 11), type := 3, pos := "law.go:170", after := #[{ on := 12, ground := Ground.guard }], guard := some (12, false) }) (v := ?_) rfl (by kernel_rfl) (by kernel_rfl) (by kernel_rfl) (fun _ _ _ h => h) (Or.inl ⟨by rfl, ?_⟩) (by assumption) ?_
                        rotate_left
                        · ((intro w' hSw); (try dsimp only at hSw); go_simp; all_goals (with_reducible rfl))
                        simp only [Act.put, List.setIfInBounds_toArray, List.set_cons_zero, List.set_cons_succ]
                        refine wpAnyH_take (i := 17) (oi := { dst := some 158, op := Op.indexAddr 22 (Operand.tmp 156) (Operand.tmp 157), type := 0, pos := "law.go:170", after := #[{ on := 15, ground := Ground.data }, { on := 16, ground := Ground.data }, { on := 12, ground := Ground.guard }], guard := some (12, false) }) (v := ?_) rfl (by kernel_rfl) (by kernel_rfl) (by kernel_rfl) (fun _ _ _ h => h) (Or.inl ⟨by rfl, ?_⟩) (by assumption) ?_
                        rotate_left
                        · ((intro w' hSw); (try dsimp only at hSw); go_simp; all_goals (with_reducible rfl))
                        simp only [Act.put, List.setIfInBounds_toArray, List.set_cons_zero, List.set_cons_succ]
                        refine wpAnyH_take (i := 18) (oi := { dst := some 159, op := Op.load 31 (Operand.tmp 158), type := 31, pos := "law.go:170", after := #[{ on := 17, ground := Ground.data }, { on := 12, ground := Ground.guard }], guard := some (12, false) }) (v := ?_) rfl (by kernel_rfl) (by kernel_rfl) (by kernel_rfl) (fun _ _ _ h => h) (Or.inl ⟨by rfl, ?_⟩) (by assumption) ?_
                        rotate_left
                        · ((intro w' hSw); (try dsimp only at hSw); go_simp; all_goals (with_reducible rfl))
                        simp only [Act.put, List.setIfInBounds_toArray, List.set_cons_zero, List.set_cons_succ]
                        refine wpAnyH_take (i := 20) (oi := { dst := some 161, op := Op.move (Operand.tmp 15), type := 3, pos := "law.go:170", after := #[{ on := 12, ground := Ground.guard }], guard := some (12, false) }) (v := ?_) rfl (by kernel_rfl) (by kernel_rfl) (by kernel_rfl) (fun _ _ _ h => h) (Or.inl ⟨by rfl, ?_⟩) (by assumption) ?_
                        rotate_left
                        · ((intro w' hSw); (try dsimp only at hSw); go_simp; all_goals (with_reducible rfl))
                        simp only [Act.put, List.setIfInBounds_toArray, List.set_cons_zero, List.set_cons_succ]
                        refine wpAnyH_ready (rs := [19]) (by kernel_rfl) (by simp) ?_
                        refine AllReadyH.cons rfl (fun K hK => ?_) AllReadyH.nil
                        go_simp
                        go_wp2_with (go_at_call 31; (with_reducible refine (CY.out _ R7.out.q).mono ?_); rintro y w8 ⟨rfl, hb⟩; have R8 := Lib.hid (rst_step QS.out R7.out hb); clear hb)
                        refine hK.out _ _ ?_ (fun hHeld => ?_)
                        · exact flat15 R8.out (QO.out _ R8.out.q).2
                        clear hK K
                        refine wpAnyH_take (i := 21) (oi := { dst := some 162, op := Op.binOp BinOp.neq 3 (Operand.tmp 160) (Operand.tmp 161) 3, type := 4, pos := "law.go:170", after := #[{ on := 19, ground := Ground.data }, { on := 20, ground := Ground.data }, { on := 12, ground := Ground.guard }], guard := some (12, false) }) (v := ?_) rfl (by kernel_rfl) (by kernel_rfl) (by kernel_rfl) (fun _ _ _ h => h) (Or.inl ⟨by rfl, ?_⟩) (by assumption) ?_
                        rotate_left
                        · ((intro w' hSw); (try dsimp only at hSw); go_simp; all_goals (with_reducible rfl))
                        simp only [Act.put, List.setIfInBounds_toArray, List.set_cons_zero, List.set_cons_succ]
                        refine wpAnyH_take (i := 22) (oi := { dst := some 163, op := Op.pick (Operand.tmp 153) (Operand.const (Value.bool true)) (Operand.tmp 162), type := 4, pos := "law.go:170", after := #[{ on := 12, ground := Ground.data }, { on := 21, ground := Ground.data }, { on := 2, ground := Ground.guard }], guard := some (2, true) }) (v := ?_) rfl (by kernel_rfl) (by kernel_rfl) (by kernel_rfl) (fun _ _ _ h => h) (Or.inl ⟨by rfl, ?_⟩) (by assumption) ?_
                        rotate_left
                        · ((intro w' hSw); (try dsimp only at hSw); go_simp; all_goals (with_reducible rfl))
                        simp only [Act.put, List.setIfInBounds_toArray, List.set_cons_zero, List.set_cons_succ]
                        refine wpAnyH_take (i := 23) (oi := { dst := some 164, op := Op.pick (Operand.tmp 143) (Operand.tmp 163) (Operand.const (Value.bool false)), type := 4, pos := "law.go:170", after := #[{ on := 2, ground := Ground.data }, { on := 22, ground := Ground.data }], guard := none }) (v := ?_) rfl (by kernel_rfl) (by kernel_rfl) (by kernel_rfl) (fun _ _ _ h => h) (Or.inl ⟨by rfl, ?_⟩) (by assumption) ?_
                        rotate_left
                        · ((intro w' hSw); (try dsimp only at hSw); go_simp; all_goals (with_reducible rfl))
                        simp only [Act.put, List.setIfInBounds_toArray, List.set_cons_zero, List.set_cons_succ]
                        refine wpAnyH_done (by kernel_rfl) ?_ _
                        all_goals (go_wp2_with fail; go_meet)
                        all_goals exact ⟨rfl, R8.out⟩
                    case rest =>
                      obtain ⟨rfl, hR⟩ := hcut
                      have R9 := Lib.hid hR
                      clear hR R6
                      go_wp2
                      go_roundw
                      case rel => exact ⟨i + 1, by omega, by go_num, by rw [HANY.out, HU2.out], R9.out.q⟩
                      case measure => simp [intOf]; omega
            · obtain rfl : i = na := by omega
              have hfull : all.take i = all := List.take_of_length_le (by rw [HAL.out]; exact Nat.le_refl _)
              rw [hfull, HV.out]
              have Q1 := Lib.hid hq
              clear hfull hq
              go_wp2
              go_loopw [16] (fun s16 wz => ∃ k : Nat, k ≤ nx ∧ s16 = .int .i64 k ∧ Q wz) (fun s16 _ => nx - (intOf s16).toNat)
              case atStart => exact ⟨0, Nat.zero_le _, rfl, Q1.out⟩
              case round =>
                as_aux_lemma =>
                obtain ⟨k, hk, rfl, hq⟩ := hrel
                by_cases hlt2 : k < nx
                · have hkl : k < X.length := by rw [LX.out]; exact hlt2
                  obtain ⟨_, _, _, q0, q1, _, _⟩ := (QO.out _ hq).2
                  obtain ⟨gx, ox, hAx, _, hcx⟩ := (QO.out _ hq).2.x (List.ne_nil_of_length_pos (by omega))
                  have hxat := hcx k X[k] (List.getElem?_eq_getElem hkl)
                  have hr0 := HXN.out X[k] (List.getElem_mem hkl)
                  obtain ⟨x, hx⟩ : ∃ y, X[k] = y := ⟨_, rfl⟩
                  rw [hx] at hxat hr0
                  have ca := fun W (h : Q W) => at_any A9 i c9 all x HAL.out (by omega) W (QO.out W h).1
                  obtain ⟨r, hr⟩ : ∃ r, atL all x = r := ⟨_, rfl⟩
                  rw [hr] at ca hr0
                  obtain ⟨xw, xl, xr, xe, xg⟩ := x
                  unfold av at ca
                  dsimp only at ca
                  have CA := Lib.hid ca
                  have Q2 := Lib.hid hq
                  have br : (r == 0) = false := by simp [hr0]
                  have i0 : (0 : Int) ≤ (k : Int) := by omega
                  have i1 : (k : Int) < (nx : Int) := by omega
                  subst hAx
                  obtain ⟨e0, e1, e2, e3, e4⟩ := hxat
                  dsimp only at e0 e1 e2 e3 e4
                  clear hq hcx hx ca hr hr0
                  go_wp2_with (go_at_call 31; (with_reducible refine (CA.out _ Q2.out).mono ?_); rintro y w4 ⟨rfl, hb⟩; have Q3 := Lib.hid (QS.out _ _ Q2.out hb); clear hb)
                  go_roundw
                  case rel => exact ⟨k + 1, by omega, by go_num, Q3.out⟩
                  case measure => simp [intOf]; omega
                · obtain rfl : k = nx := by omega
                  obtain ⟨_, _, _, q0, q1, _, _⟩ := (QO.out _ hq).2
                  have Q2 := Lib.hid hq
                  have kf := field_m0
                  have THR := Lib.hid (fun W (h : Q W) => (QO.out W h).2.1)
                  clear hq Q1
                  cases ok
                  all_goals
                    go_wp2_with (first
                      | (go_at_call 27; first
                        | ((with_reducible refine (CM3.out _ (THR.out _ Q2.out)).mono ?_); rintro e w5 ⟨A5, c5, rfl, v, hb⟩; have Q3 := Lib.hid (QS.out _ _ Q2.out hb); have U5 := Lib.hid v; clear v hb)
                        | ((with_reducible refine (CM4.out _ (THR.out _ Q4.out)).mono ?_); rintro e w7 ⟨A7', c7', rfl, v, hb⟩; have Q5 := Lib.hid (QS.out _ _ Q4.out hb); have U7 := Lib.hid v; clear v hb))
                      | (go_at_call 20; first
                        | ((with_reducible refine (CS1.out _ _ _ _ _ U5.out (QO.out _ Q3.out).2.t).mono ?_); rintro y w6 ⟨rfl, hb⟩; have Q4 := Lib.hid (QS.out _ _ Q3.out hb); clear hb)
                        | ((with_reducible refine (CS2.out _ _ _ _ _ U7.out (QO.out _ Q5.out).2.m).mono ?_); rintro y w8 ⟨rfl, hb⟩; have Q6 := Lib.hid (QS.out _ _ Q5.out hb); clear hb)))
                    go_ret
                    exact ⟨rfl, (THR.out _ Q6.out).2.2.2⟩
end Go.Proofs.Ytkpedfigaofloaa
