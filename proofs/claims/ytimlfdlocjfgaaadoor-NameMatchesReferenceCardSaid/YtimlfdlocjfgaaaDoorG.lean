/-
  Walks of the small functions that put the results of Parts, Join, Split, Parse and Swap into structs. The world must hold the program's table of kinds.
-/
import Derived.Test.YtimlfdlocjfgaaaDoorF
namespace Go.Proofs.YtimlfdlocjfgaaaDoor
open Go.RowKit Pl
set_option maxHeartbeats 400000

/-- The slice that starts at A, in a block from lo on, holds these texts. -/
def Strs (lo : Nat) (w : World) (A : Option Addr) (l : List Bs) : Prop :=
  l ≠ [] → ∃ g, A = some ⟨g, 0, none⟩ ∧ lo ≤ g ∧ g < w.heap.size ∧ ∀ (j : Nat) (x : Bs), l[j]? = some x → w.cell? ⟨g, j, none⟩ = some (.string (mk x))
theorem Strs.below {lo : Nat} {w w' : World} {A : Option Addr} {l : List Bs} (h : Strs lo w A l) (hb : Below w.heap.size w w') : Strs lo w' A l := fun hn => by
  obtain ⟨g, hA, hlo, hg, hc⟩ := h hn
  exact ⟨g, hA, hlo, Nat.lt_of_lt_of_le hg hb.size, fun j x hx => (hb.cell (p := ⟨g, j, none⟩) hg).trans (hc j x hx)⟩
theorem Strs.mono {lo lo' : Nat} {w : World} {A : Option Addr} {l : List Bs} (h : Strs lo w A l) (hl : lo' ≤ lo) : Strs lo' w A l := fun hn => by
  obtain ⟨g, hA, hlo, hg, hc⟩ := h hn
  exact ⟨g, hA, by omega, hg, hc⟩
theorem Strs.set {lo : Nat} {w : World} {A : Option Addr} {l : List Bs} (h : Strs lo w A l) {p : Addr} (hp : p.block < lo) (u : Value) : Strs lo (w.setCell p u) A l := fun hn => by
  obtain ⟨g, hA, hlo, hg, hc⟩ := h hn
  exact ⟨g, hA, hlo, by simpa [World.setCell] using hg, fun j x hx => (World.cell?_setCell_other w p ⟨g, j, none⟩ u (fun e => by rw [e] at hp; simp at hp; omega)).trans (hc j x hx)⟩
theorem Strs.nil (lo : Nat) (w : World) (A : Option Addr) : Strs lo w A [] := fun h => absurd rfl h
theorem Strs.of_own {w : World} {base n c : Nat} {e : TypeId} {A : Option Addr} {l : List Bs} (h : w.ownsRow base e 1 (.slice A n c) n (strs l)) : Strs base w A l := fun hn => by
  have hl : (strs l).length = n * 1 := h.1
  have hpos : 0 < n := by
    have : 0 < l.length := List.length_pos_iff.2 hn
    simp [strs] at hl; omega
  obtain ⟨g, cap, hv, hlo, hlt⟩ := h.form hpos
  have hA : A = some ⟨g, 0, none⟩ := by injection hv
  refine ⟨g, hA, hlo, hlt, fun j x hx => ?_⟩
  have := h.cells (g := g) (by rw [hA]; rfl) j (.string (mk x)) (by simp [strs, hx])
  have ha : (⟨g, 0, none⟩ : Addr).add j = ⟨g, j, none⟩ := by unfold Addr.add; split <;> simp_all
  rw [ha] at this
  exact this

def partsS (p : Bs) : List Bs × Int := if isPath p = true then (cut p, 0) else ([], 10)

theorem partsS_any (p : ByteArray) (hp : p.size < 4294967281) (w : World) (hE : Env w) :
    Calls Tryd.prog 35 #[.string p] w fun e w' => ∃ A c, e = .returned (.tuple #[.slice A (partsS p.data.toList).1.length c, .int .i64 (partsS p.data.toList).2]) ∧ Strs w.heap.size w' A (partsS p.data.toList).1 ∧ Below w.heap.size w w' := by
  unfold partsS
  cases h : isPath p.data.toList
  · refine (parts_no p hp w hE h).mono ?_
    rintro e w' ⟨rfl, hb⟩
    exact ⟨none, 0, by simp, by simpa using Strs.nil _ _ _, hb⟩
  · refine (parts_yes p hp w hE h rfl).mono ?_
    rintro e w' ⟨A, c, rfl, hr, hb⟩
    exact ⟨A, c, by simp, by simpa using Strs.of_own hr, hb⟩

/-- A new block of two, or of three, cells behind a call. -/
theorem after2 {w w1 : World} {x y : Value} {t : TypeId} (hb : Below (w.alloc (.cells #[x, y] t)).heap.size (w.alloc (.cells #[x, y] t)) w1) :
    w1.cell? ⟨w.heap.size, 0, none⟩ = some x ∧ w1.cell? ⟨w.heap.size, 1, none⟩ = some y ∧ w1.frozen? ⟨w.heap.size, 0, none⟩ = false ∧ w1.frozen? ⟨w.heap.size, 1, none⟩ = false ∧ w.heap.size < w1.heap.size := by
  have hn := heap_alloc_new w (.cells #[x, y] t)
  have hl : w.heap.size < (w.alloc (.cells #[x, y] t)).heap.size := by simp
  have h0 := cell_of_row (w.alloc (.cells #[x, y] t)) w.heap.size 0 #[x, y] t (0, 0) hn
  have h1 := cell_of_row (w.alloc (.cells #[x, y] t)) w.heap.size 1 #[x, y] t (0, 0) hn
  have f0 := frozen_of_row (w.alloc (.cells #[x, y] t)) w.heap.size 0 #[x, y] t hn
  have f1 := frozen_of_row (w.alloc (.cells #[x, y] t)) w.heap.size 1 #[x, y] t hn
  exact ⟨(hb.cell (p := ⟨w.heap.size, 0, none⟩) hl).trans h0, (hb.cell (p := ⟨w.heap.size, 1, none⟩) hl).trans h1, (hb.frozen (p := ⟨w.heap.size, 0, none⟩) hl).trans f0, (hb.frozen (p := ⟨w.heap.size, 1, none⟩) hl).trans f1, Nat.lt_of_lt_of_le hl hb.size⟩
theorem after3 {w w1 : World} {x y z : Value} {t : TypeId} (hb : Below (w.alloc (.cells #[x, y, z] t)).heap.size (w.alloc (.cells #[x, y, z] t)) w1) :
    w1.cell? ⟨w.heap.size, 0, none⟩ = some x ∧ w1.cell? ⟨w.heap.size, 1, none⟩ = some y ∧ w1.cell? ⟨w.heap.size, 2, none⟩ = some z ∧ w1.frozen? ⟨w.heap.size, 0, none⟩ = false ∧ w1.frozen? ⟨w.heap.size, 1, none⟩ = false ∧ w1.frozen? ⟨w.heap.size, 2, none⟩ = false ∧ w.heap.size < w1.heap.size := by
  have hn := heap_alloc_new w (.cells #[x, y, z] t)
  have hl : w.heap.size < (w.alloc (.cells #[x, y, z] t)).heap.size := by simp
  have h0 := cell_of_row (w.alloc (.cells #[x, y, z] t)) w.heap.size 0 #[x, y, z] t (0, 0) hn
  have h1 := cell_of_row (w.alloc (.cells #[x, y, z] t)) w.heap.size 1 #[x, y, z] t (0, 0) hn
  have h2 := cell_of_row (w.alloc (.cells #[x, y, z] t)) w.heap.size 2 #[x, y, z] t (0, 0) hn
  have f0 := frozen_of_row (w.alloc (.cells #[x, y, z] t)) w.heap.size 0 #[x, y, z] t hn
  have f1 := frozen_of_row (w.alloc (.cells #[x, y, z] t)) w.heap.size 1 #[x, y, z] t hn
  have f2 := frozen_of_row (w.alloc (.cells #[x, y, z] t)) w.heap.size 2 #[x, y, z] t hn
  exact ⟨(hb.cell (p := ⟨w.heap.size, 0, none⟩) hl).trans h0, (hb.cell (p := ⟨w.heap.size, 1, none⟩) hl).trans h1, (hb.cell (p := ⟨w.heap.size, 2, none⟩) hl).trans h2, (hb.frozen (p := ⟨w.heap.size, 0, none⟩) hl).trans f0, (hb.frozen (p := ⟨w.heap.size, 1, none⟩) hl).trans f1, (hb.frozen (p := ⟨w.heap.size, 2, none⟩) hl).trans f2, Nat.lt_of_lt_of_le hl hb.size⟩
theorem below_new {w w1 : World} {o : Obj} (hb : Below (w.alloc o).heap.size (w.alloc o) w1) : Below w.heap.size w w1 := ((Below.refl _ w).alloc (Nat.le_refl _) _).trans (hb.mono (by simp))
theorem Env.alloc {w : World} (h : Env w) (o : Obj) : Env (w.alloc o) := h.below ((Below.refl _ w).alloc (Nat.le_refl _) _)

theorem lparts_any (p : ByteArray) (hp : p.size < 4294967281) (w : World) (hE : Env w) :
    Calls Tryd.prog 16 #[.string p] w fun e w' => ∃ A c, e = .returned (.agg #[.slice A (partsS p.data.toList).1.length c, .int .i64 (partsS p.data.toList).2]) ∧ Strs w.heap.size w' A (partsS p.data.toList).1 ∧ Below w.heap.size w w' := by
  have c1 := partsS_any p hp (w.alloc (.cells #[.slice none 0 0, .int .i64 0] 32)) (hE.alloc _)
  obtain ⟨l, hl⟩ : ∃ l, (partsS p.data.toList).1 = l := ⟨_, rfl⟩
  obtain ⟨er, her⟩ : ∃ er, (partsS p.data.toList).2 = er := ⟨_, rfl⟩
  rw [hl, her] at c1 ⊢
  obtain ⟨k, hk⟩ : ∃ k, l.length = k := ⟨_, rfl⟩
  rw [hk] at c1 ⊢
  have C1 := Lib.hid c1
  clear c1 hl her hk
  go_enter Tryd.func16, Tryd.ntmps16
  go_wp2_with (go_at_call 35; refine C1.out.mono ?_; rintro e w1 ⟨A, c, rfl, hS, hb1⟩; obtain ⟨h0, h1, f0, f1, hlt⟩ := after2 hb1)
  refine bodyPost_ret (v := .agg #[.slice A k c, .int .i64 er]) (by simp [results, Tryd.results16, go_sem, h0, h1]) rfl ⟨A, c, rfl, ?_, ?_⟩
  · exact ((hS.set (p := ⟨w.heap.size, 0, none⟩) (by simp) _).set (p := ⟨w.heap.size, 1, none⟩) (by simp) _).mono (by simp)
  · exact ((below_new hb1).setCell (p := ⟨w.heap.size, 0, none⟩) (Nat.le_refl _) _).setCell (p := ⟨w.heap.size, 1, none⟩) (Nat.le_refl _) _

theorem ljoin_any (d n : ByteArray) (hd : d.size < 4294967281) (hn : n.size ≤ 4294967281) (w : World) (hE : Env w) :
    Calls Tryd.prog 18 #[.string d, .string n] w fun e w' => e = .returned (.agg #[.string (mk (joinS d.data.toList n.data.toList).1), .int .i64 (joinS d.data.toList n.data.toList).2]) ∧ Below w.heap.size w w' := by
  have c1 := join_any d n hd hn (w.alloc (.cells #[.string ⟨#[]⟩, .int .i64 0] 35)) (hE.alloc _)
  obtain ⟨l, hl⟩ : ∃ l, mk (joinS d.data.toList n.data.toList).1 = l := ⟨_, rfl⟩
  obtain ⟨er, her⟩ : ∃ er, (joinS d.data.toList n.data.toList).2 = er := ⟨_, rfl⟩
  rw [hl, her] at c1 ⊢
  have C1 := Lib.hid c1
  clear c1 hl her
  go_enter Tryd.func18, Tryd.ntmps18
  go_wp2_with (go_at_call 36; refine C1.out.mono ?_; rintro e w1 ⟨rfl, hb1⟩; obtain ⟨h0, h1, f0, f1, hlt⟩ := after2 hb1)
  refine bodyPost_ret (v := .agg #[.string l, .int .i64 er]) (by simp [results, Tryd.results18, go_sem, h0, h1]) rfl ⟨rfl, ?_⟩
  exact ((below_new hb1).setCell (p := ⟨w.heap.size, 0, none⟩) (Nat.le_refl _) _).setCell (p := ⟨w.heap.size, 1, none⟩) (Nat.le_refl _) _

theorem lparse_any (s : ByteArray) (hs : s.size < 4294967281) (w : World) (hE : Env w) :
    Calls Tryd.prog 22 #[.string s] w fun e w' => e = .returned (.agg #[.string (mk (parseS s.data.toList).1), .int .i64 (parseS s.data.toList).2]) ∧ Below w.heap.size w w' := by
  have c1 := parse_any s hs (w.alloc (.cells #[.string ⟨#[]⟩, .int .i64 0] 35)) (hE.alloc _)
  obtain ⟨l, hl⟩ : ∃ l, mk (parseS s.data.toList).1 = l := ⟨_, rfl⟩
  obtain ⟨er, her⟩ : ∃ er, (parseS s.data.toList).2 = er := ⟨_, rfl⟩
  rw [hl, her] at c1 ⊢
  have C1 := Lib.hid c1
  clear c1 hl her
  go_enter Tryd.func22, Tryd.ntmps22
  go_wp2_with (go_at_call 38; refine C1.out.mono ?_; rintro e w1 ⟨rfl, hb1⟩; obtain ⟨h0, h1, f0, f1, hlt⟩ := after2 hb1)
  refine bodyPost_ret (v := .agg #[.string l, .int .i64 er]) (by simp [results, Tryd.results22, go_sem, h0, h1]) rfl ⟨rfl, ?_⟩
  exact ((below_new hb1).setCell (p := ⟨w.heap.size, 0, none⟩) (Nat.le_refl _) _).setCell (p := ⟨w.heap.size, 1, none⟩) (Nat.le_refl _) _

theorem lsplit_any (p : ByteArray) (hs : p.size < 4294967281) (w : World) (hE : Env w) :
    Calls Tryd.prog 20 #[.string p] w fun e w' => e = .returned (.agg #[.string (mk (splitS p.data.toList).1), .string (mk (splitS p.data.toList).2.1), .int .i64 (splitS p.data.toList).2.2]) ∧ Below w.heap.size w w' := by
  have c1 := split_any p hs (w.alloc (.cells #[.string ⟨#[]⟩, .string ⟨#[]⟩, .int .i64 0] 38)) (hE.alloc _)
  obtain ⟨l, hl⟩ : ∃ l, mk (splitS p.data.toList).1 = l := ⟨_, rfl⟩
  obtain ⟨l2, hl2⟩ : ∃ l, mk (splitS p.data.toList).2.1 = l := ⟨_, rfl⟩
  obtain ⟨er, her⟩ : ∃ er, (splitS p.data.toList).2.2 = er := ⟨_, rfl⟩
  rw [hl, hl2, her] at c1 ⊢
  have C1 := Lib.hid c1
  clear c1 hl hl2 her
  go_enter Tryd.func20, Tryd.ntmps20
  go_wp2_with (go_at_call 37; refine C1.out.mono ?_; rintro e w1 ⟨rfl, hb1⟩; obtain ⟨h0, h1, h2, f0, f1, f2, hlt⟩ := after3 hb1)
  refine bodyPost_ret (v := .agg #[.string l, .string l2, .int .i64 er]) (by simp [results, Tryd.results20, go_sem, h0, h1, h2]) rfl ⟨rfl, ?_⟩
  exact (((below_new hb1).setCell (p := ⟨w.heap.size, 0, none⟩) (Nat.le_refl _) _).setCell (p := ⟨w.heap.size, 1, none⟩) (Nat.le_refl _) _).setCell (p := ⟨w.heap.size, 2, none⟩) (Nat.le_refl _) _

/-- What Swap answers: the text, and whether it was swapped. -/
def swapT (q f t : Bs) : Bs := if belowB q f = true then swapS q f t else q
theorem lswap_any (q f t : ByteArray) (w : World) (hs : t.size + 1 + q.size ≤ 9223372036854775807) :
    Calls Tryd.prog 26 #[.string q, .string f, .string t] w fun e w' => e = .returned (.agg #[.string (mk (swapT q.data.toList f.data.toList t.data.toList)), .bool (belowB q.data.toList f.data.toList)]) ∧ Below w.heap.size w w' := by
  have c1 := swap_any q f t (w.alloc (.cells #[.string ⟨#[]⟩, .bool false] 43)) hs
  unfold swapT
  obtain ⟨l, hl⟩ : ∃ l, mk (if belowB q.data.toList f.data.toList = true then swapS q.data.toList f.data.toList t.data.toList else q.data.toList) = l := ⟨_, rfl⟩
  obtain ⟨b, hb⟩ : ∃ b, belowB q.data.toList f.data.toList = b := ⟨_, rfl⟩
  rw [hl, hb] at c1
  rw [hl, hb]
  have C1 := Lib.hid c1
  clear c1 hl hb
  go_enter Tryd.func26, Tryd.ntmps26
  go_wp2_with (go_at_call 42; refine C1.out.mono ?_; rintro e w1 ⟨rfl, rfl⟩)
  refine bodyPost_ret (v := .agg #[.string l, .bool b]) (by simp [results, Tryd.results26, go_sem]) rfl ⟨rfl, ?_⟩
  go_grown
end Go.Proofs.YtimlfdlocjfgaaaDoor
