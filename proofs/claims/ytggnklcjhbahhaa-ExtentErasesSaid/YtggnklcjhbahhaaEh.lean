/-
  Walk of the reference's Made.
-/
import Derived.Test.YtggnklcjhbahhaaEg
namespace Go.Proofs.Ytggnklcjhbahhaa
open Go.RowKit Ex
set_option maxHeartbeats 400000
set_option maxRecDepth 100000

/-- Three bytes, of which a piece is made. -/
abbrev T8 := UInt8 × UInt8 × UInt8
def idT (x : UInt8) : Int := [1, 2, 3, 4, 1, 2, 0, -1].getD (x.toNat % 8) 0
def pcT (t : T8) : Pc := ⟨idT t.1, if 0 < idT t.1 then ((t.2.1.toNat % 20 : Nat) : Int) else 0, ((1 + t.2.2.toNat % 9 : Nat) : Int)⟩
def rawL (l : List T8) : List Pc := (l.take 8).map pcT
def madeL (l : List T8) : List Pc := normL (rawL l)
/-- The slice at A holds these triples of bytes. -/
def Trs (w : World) (A : Option Addr) (l : List T8) : Prop :=
  l ≠ [] → ∃ g o, A = some ⟨g, o, none⟩ ∧ g < w.heap.size ∧ ∀ (j : Nat) (t : T8), l[j]? = some t → w.cell? ⟨g, o + j * 3, none⟩ = some (.int .u8 t.1.toNat) ∧ w.cell? ⟨g, o + j * 3 + 1, none⟩ = some (.int .u8 t.2.1.toNat) ∧ w.cell? ⟨g, o + j * 3 + 2, none⟩ = some (.int .u8 t.2.2.toNat)
abbrev Keep3 (W : World) (g o : Nat) (t : T8) : Prop := W.cell? ⟨g, o, none⟩ = some (.int .u8 t.1.toNat) ∧ W.cell? ⟨g, o + 1, none⟩ = some (.int .u8 t.2.1.toNat) ∧ W.cell? ⟨g, o + 2, none⟩ = some (.int .u8 t.2.2.toNat)
theorem keep3 {W W' : World} {g o : Nat} {t : T8} (h : Keep3 W g o t) (hb : Below W.heap.size W W') : Keep3 W' g o t :=
  ⟨(hb.cell (block_lt_of_cell h.1)).trans h.1, (hb.cell (block_lt_of_cell h.2.1)).trans h.2.1, (hb.cell (block_lt_of_cell h.2.2)).trans h.2.2⟩
theorem Trs.below {w w' : World} {A : Option Addr} {l : List T8} (h : Trs w A l) (hb : Below w.heap.size w w') : Trs w' A l := fun hn => by
  obtain ⟨g, o, hA, hg, hc⟩ := h hn
  exact ⟨g, o, hA, Nat.lt_of_lt_of_le hg hb.size, fun j t ht => keep3 (hc j t ht) hb⟩
def tbl8 : Array Value := #[.int .i64 1, .int .i64 2, .int .i64 3, .int .i64 4, .int .i64 1, .int .i64 2, .int .i64 0, .int .i64 (-1)]
theorem tbl_get (x : UInt8) : tbl8[x.toNat % 8]? = some (.int .i64 (idT x)) := by
  have h : x.toNat % 8 < 8 := Nat.mod_lt _ (by decide)
  unfold idT
  rcases (show x.toNat % 8 = 0 ∨ x.toNat % 8 = 1 ∨ x.toNat % 8 = 2 ∨ x.toNat % 8 = 3 ∨ x.toNat % 8 = 4 ∨ x.toNat % 8 = 5 ∨ x.toNat % 8 = 6 ∨ x.toNat % 8 = 7 by omega) with e | e | e | e | e | e | e | e <;> rw [e] <;> rfl
theorem tbl_cell (x : UInt8) (W : World) (t : TypeId) : (W.alloc (.cells #[.int .i64 1, .int .i64 2, .int .i64 3, .int .i64 4, .int .i64 1, .int .i64 2, .int .i64 0, .int .i64 (-1)] t)).cell? ⟨W.heap.size, x.toNat % 8, none⟩ = some (.int .i64 (idT x)) := by
  exact (cell_of_row _ W.heap.size (x.toNat % 8) tbl8 t (0, 0) (heap_alloc_new W _)).trans (tbl_get x)
theorem tbl_cell2 (x : UInt8) (W : World) (t : TypeId) (o : Obj) : ((W.alloc (.cells #[.int .i64 1, .int .i64 2, .int .i64 3, .int .i64 4, .int .i64 1, .int .i64 2, .int .i64 0, .int .i64 (-1)] t)).alloc o).cell? ⟨W.heap.size, x.toNat % 8, none⟩ = some (.int .i64 (idT x)) := by
  have h := tbl_cell x W t
  exact (((Below.refl _ _).alloc (Nat.le_refl _) o).cell (block_lt_of_cell h)).trans h
theorem tbl_cell3 (x : UInt8) (W : World) (t : TypeId) (o : Obj) : ((W.alloc o).alloc (.cells #[.int .i64 1, .int .i64 2, .int .i64 3, .int .i64 4, .int .i64 1, .int .i64 2, .int .i64 0, .int .i64 (-1)] t)).cell? ⟨W.heap.size + 1, x.toNat % 8, none⟩ = some (.int .i64 (idT x)) := by
  have h := tbl_cell x (W.alloc o) t
  rwa [show (W.alloc o).heap.size = W.heap.size + 1 by simp] at h
/-- What stands behind the making of a piece. -/
def Piece1 (wr : World) (id n : Int) (s5 : Value) (wx : World) : Prop := ∃ b, s5 = .pointer (some ⟨b, 0, none⟩) ∧ wx.heap[b]? = some (.cells #[.int .i64 id, .int .i64 0, .int .i64 n] 66 (0, 0)) ∧ Below wr.heap.size wr wx ∧ wr.heap.size ≤ b
theorem made_box1 (wr : World) (id n : Int) (o : Obj) : Piece1 wr id n (.pointer (some ⟨wr.heap.size + 1, 0, none⟩)) ((wr.alloc o).alloc (.cells #[.int .i64 id, .int .i64 0, .int .i64 n] 66)).drew :=
  ⟨_, rfl, heap_alloc2_new wr _ _, by go_grown, Nat.le_succ _⟩
theorem made_box2 (wr : World) (id n : Int) (o : Obj) : Piece1 wr id n (.pointer (some ⟨wr.heap.size, 0, none⟩)) ((wr.alloc (.cells #[.int .i64 id, .int .i64 0, .int .i64 n] 66)).alloc o).drew :=
  ⟨_, rfl, heap_alloc2_old wr _ _, by go_grown, Nat.le_refl _⟩
theorem own_set_far {w : World} {base : Nat} {e : TypeId} {s : Nat} {v : Value} {n : Nat} {xs : List Value} (h : w.ownsRow base e s v n xs) {p : Addr} (hp : ∀ g, v.ownBlock = some g → p.block ≠ g) (u : Value) : (w.setCell p u).ownsRow base e s v n xs := by
  rcases h with ⟨h1, ⟨h2, h3⟩ | ⟨g, cap, cur, h2, h3, h4, h5⟩⟩
  · exact ⟨h1, .inl ⟨h2, h3⟩⟩
  · exact ⟨h1, .inr ⟨g, cap, cur, h2, h3, (heap_setCell_other w p g u (fun e => hp g (by rw [h2]; rfl) e.symm)).trans h4, h5⟩⟩
theorem cells_newS (w : World) (p : Addr) (v : Value) (cs : Array Value) (t : TypeId) : ∀ j u, cs.toList[j]? = some u → ((w.setCell p v).alloc (.cells cs t)).cell? ((⟨w.heap.size, 0, none⟩ : Addr).add j) = some u := by
  have h := cells_new (w.setCell p v) cs t
  rwa [show (w.setCell p v).heap.size = w.heap.size by simp [World.setCell]] at h
theorem idT_r (x : UInt8) : -1 ≤ idT x ∧ idT x ≤ 4 := by
  unfold idT
  have h : x.toNat % 8 < 8 := Nat.mod_lt _ (by decide)
  rcases (show x.toNat % 8 = 0 ∨ x.toNat % 8 = 1 ∨ x.toNat % 8 = 2 ∨ x.toNat % 8 = 3 ∨ x.toNat % 8 = 4 ∨ x.toNat % 8 = 5 ∨ x.toNat % 8 = 6 ∨ x.toNat % 8 = 7 by omega) with e | e | e | e | e | e | e | e <;> rw [e] <;> decide
theorem pcT_right (t : T8) : rightB (pcT t) = true := by
  have h1 := idT_r t.1
  rw [right_iff]
  unfold pcT
  simp only []
  have h2 : t.2.1.toNat % 20 < 20 := Nat.mod_lt _ (by decide)
  have h3 : t.2.2.toNat % 9 < 9 := Nat.mod_lt _ (by decide)
  split <;> omega
theorem raw_len (l : List T8) : (rawL l).length ≤ 8 := by simp [rawL]; omega
theorem raw_each (l : List T8) : (eachL (rawL l)).length ≤ 72 := by
  have h : ∀ l : List T8, (eachL (l.map pcT)).length ≤ 9 * l.length := by
    intro l
    induction l with
    | nil => simp [eachL]
    | cons t l ih =>
      rw [List.map_cons, eachL_cons, List.length_append, eachP_len, List.length_cons]
      have : (pcT t).n.toNat ≤ 9 := by
        show ((1 + t.2.2.toNat % 9 : Nat) : Int).toNat ≤ 9
        have := Nat.mod_lt t.2.2.toNat (show 0 < 9 by decide)
        omega
      omega
  have h1 := h (l.take 8)
  have h2 : (l.take 8).length ≤ 8 := by simp; omega
  unfold rawL
  omega
theorem made_form (l : List T8) : Ex.Form (madeL l) ∧ (eachL (madeL l)).length ≤ 72 := by
  have h := norm_form (l := rawL l) (fun p hp => .inr (by
    unfold rawL at hp
    obtain ⟨t, _, rfl⟩ := List.mem_map.1 hp
    exact pcT_right t)) (Nat.le_trans (raw_each l) (by decide))
  exact ⟨h.1, by unfold madeL; rw [h.2]; exact raw_each l⟩

set_option maxHeartbeats 8000000 in
theorem Made_any (A : Option Addr) (n c : Nat) (l : List T8) (hn : l.length = n) (_hl : n ≤ 9223372036854775807) (w : World) (hA : Trs w A l) :
    Calls Try.prog 11 #[.slice A n c] w fun e w' => ∃ A' m c', e = .returned (.slice A' m c') ∧ w'.ownsRow w.heap.size 66 3 (.slice A' m c') m (ints (flat3 (madeL l))) ∧ Below w.heap.size w w' := by
  obtain ⟨i0, hi, hz0, hz1, hz2⟩ := info_parts info_piece
  have HN := Lib.hid hn
  have SA := Lib.hid hA
  clear hn hA
  go_enter Try.func11, Try.ntmps11
  go_wp2
  go_loopw [3, 4] (fun s i wr => ∃ (k : Nat) (A' : Option Addr) (c' : Nat), k ≤ n ∧ k ≤ 8 ∧ i = .int .i64 k ∧ s = .slice A' k c' ∧ wr.ownsRow w.heap.size 66 3 (.slice A' k c') k (ints (flat3 ((l.take k).map pcT))) ∧ Below w.heap.size w wr) (fun _ i _ => 8 - (intOf i).toNat)
  case atStart => exact ⟨0, some ⟨w.heap.size, 0, none⟩, 0, Nat.zero_le _, Nat.zero_le _, rfl, rfl, own_empty _ _ _, by go_grown⟩
  case round =>
    obtain ⟨k, A', c', hk, hk8, rfl, rfl, hown, hbw⟩ := hrel
    have hbs := hbw.size
    by_cases hlt : k < n ∧ k < 8
    · obtain ⟨hlt, hlt8⟩ := hlt
      have hkl : k < l.length := by rw [HN.out]; exact hlt
      obtain ⟨g, o, rfl, hg, hc⟩ := SA.out (List.ne_nil_of_length_pos (by omega))
      obtain ⟨t, ht⟩ : ∃ t, l[k] = t := ⟨_, rfl⟩
      have q := keep3 (hc k t (by rw [List.getElem?_eq_getElem hkl, ht])) hbw
      have HTS := Lib.hid (show (l.take (k + 1)).map pcT = (l.take k).map pcT ++ [pcT t] from by rw [List.take_succ_eq_append_getElem hkl, ht, List.map_append]; rfl)
      have kn : (k : Int) < (n : Int) := Int.ofNat_lt.2 hlt
      have k8 : (k : Int) < 8 := by omega
      have k0 : (0 : Int) ≤ (k : Int) := Int.natCast_nonneg k
      have HO := Lib.hid hown
      have HBW := Lib.hid hbw
      have F0 : Hid (Keep3 wr.drew g (o + k * 3) t) := Lib.hid q
      have F00 := Lib.hid q
      have v1 := t.1.toNat_lt
      have v2 := t.2.1.toNat_lt
      have v3 := t.2.2.toNat_lt
      clear hc ht hown hbw
      go_upto_region 5 with (fail)
      go_cut [5] from 17 to 34 (fun s5 wx => Piece1 wr (idT t.1) ((1 + t.2.2.toNat % 9 : Nat) : Int) s5 wx)
      case first =>
        obtain ⟨r, hr⟩ : ∃ r, t.1.toNat % 8 = r := ⟨_, rfl⟩
        have r1 : (t.1.toNat : Int).tmod 8 = (r : Int) := by rw [Int.tmod_eq_emod_of_nonneg (Int.natCast_nonneg _), ← hr]; simp
        have r8 : r < 8 := by rw [← hr]; exact Nat.mod_lt _ (by decide)
        have r8' : (r : Int) < 8 := by omega
        have r0' : (0 : Int) ≤ (r : Int) := Int.natCast_nonneg r
        obtain ⟨s, hs⟩ : ∃ s, t.2.2.toNat % 9 = s := ⟨_, rfl⟩
        have r2 : (t.2.2.toNat : Int).tmod 9 = (s : Int) := by rw [Int.tmod_eq_emod_of_nonneg (Int.natCast_nonneg _), ← hs]; simp
        have s9 : s < 9 := by rw [← hs]; exact Nat.mod_lt _ (by decide)
        have s9' : (s : Int) < 9 := by omega
        have s0' : (0 : Int) ≤ (s : Int) := Int.natCast_nonneg s
        have r3 : IntKind.i64.wrap (t.2.2.toNat : Int) = (t.2.2.toNat : Int) := IntWalk.i64_in _ (by omega)
        have r4 : IntKind.i64.wrap (s : Int) = (s : Int) := IntWalk.i64_in _ (by omega)
        have r5 : IntKind.i64.wrap (1 + (s : Int)) = 1 + (s : Int) := IntWalk.i64_in _ (by omega)
        have r6 : IntKind.u8.wrap (r : Int) = (r : Int) := IntWalk.u8_in _ (by omega)
        have tb1 := fun W => tbl_cell t.1 W 3
        have tb2 := fun W o => tbl_cell2 t.1 W 3 o
        have tb3 := fun W o => tbl_cell3 t.1 W 3 o
        rw [hr] at tb1 tb2 tb3
        have HSE := Lib.hid (show ((1 + t.2.2.toNat % 9 : Nat) : Int) = 1 + (s : Int) from by rw [hs]; simp)
        clear hr hs
        clear q
        refine wp_region_held_drew (S := (fun W' => W'.cell? ⟨g, o + k * 3, none⟩ = some (.int .u8 t.1.toNat) ∧ W'.cell? ⟨g, o + k * 3 + 1, none⟩ = some (.int .u8 t.2.1.toNat) ∧ W'.cell? ⟨g, o + k * 3 + 2, none⟩ = some (.int .u8 t.2.2.toNat))) (by kernel_rfl) (by exact F0.out) (fun hHeld => ?_)
        refine wpAnyH_take (i := 1) (v := ?_) rfl (by kernel_rfl) (by kernel_rfl) (by kernel_rfl) (fun _ _ _ h => h) (Or.inl ⟨by rfl, ?_⟩) (by assumption) ?_
        rotate_left
        · ((intro w' hSw); (try dsimp only at hSw); go_simp; all_goals (with_reducible rfl))
        simp only [Act.put, List.getElem_toArray, List.getElem_cons_succ, List.getElem_cons_zero, List.setIfInBounds_toArray, List.set_cons_zero, List.set_cons_succ]
        refine wpAnyH_take (i := 2) (v := ?_) rfl (by kernel_rfl) (by kernel_rfl) (by kernel_rfl) (fun _ _ _ h => h) (Or.inl ⟨by rfl, ?_⟩) (by assumption) ?_
        rotate_left
        · ((intro w' hSw); (try dsimp only at hSw); go_simp; all_goals (with_reducible rfl))
        simp only [Act.put, List.getElem_toArray, List.getElem_cons_succ, List.getElem_cons_zero, List.setIfInBounds_toArray, List.set_cons_zero, List.set_cons_succ]
        refine wpAnyH_take (i := 3) (v := ?_) rfl (by kernel_rfl) (by kernel_rfl) (by kernel_rfl) (fun _ _ _ h => h) (Or.inl ⟨by rfl, ?_⟩) (by assumption) ?_
        rotate_left
        · ((intro w' hSw); (try dsimp only at hSw); go_simp; all_goals (with_reducible rfl))
        simp only [Act.put, List.getElem_toArray, List.getElem_cons_succ, List.getElem_cons_zero, List.setIfInBounds_toArray, List.set_cons_zero, List.set_cons_succ]
        refine wpAnyH_take (i := 4) (v := ?_) rfl (by kernel_rfl) (by kernel_rfl) (by kernel_rfl) (fun _ _ _ h => h) (Or.inl ⟨by rfl, ?_⟩) (by assumption) ?_
        rotate_left
        · ((intro w' hSw); (try dsimp only at hSw); go_simp; all_goals (with_reducible rfl))
        simp only [Act.put, List.getElem_toArray, List.getElem_cons_succ, List.getElem_cons_zero, List.setIfInBounds_toArray, List.set_cons_zero, List.set_cons_succ]
        refine wpAnyH_take (i := 5) (v := ?_) rfl (by kernel_rfl) (by kernel_rfl) (by kernel_rfl) (fun _ _ _ h => h) (Or.inl ⟨by rfl, ?_⟩) (by assumption) ?_
        rotate_left
        · ((intro w' hSw); (try dsimp only at hSw); go_simp; all_goals (with_reducible rfl))
        simp only [Act.put, List.getElem_toArray, List.getElem_cons_succ, List.getElem_cons_zero, List.setIfInBounds_toArray, List.set_cons_zero, List.set_cons_succ]
        refine wpAnyH_take (i := 6) (v := ?_) rfl (by kernel_rfl) (by kernel_rfl) (by kernel_rfl) (fun _ _ _ h => h) (Or.inl ⟨by rfl, ?_⟩) (by assumption) ?_
        rotate_left
        · ((intro w' hSw); (try dsimp only at hSw); go_simp; all_goals (with_reducible rfl))
        simp only [Act.put, List.getElem_toArray, List.getElem_cons_succ, List.getElem_cons_zero, List.setIfInBounds_toArray, List.set_cons_zero, List.set_cons_succ]
        refine wpAnyH_take (i := 9) (v := ?_) rfl (by kernel_rfl) (by kernel_rfl) (by kernel_rfl) (fun _ _ _ h => h) (Or.inl ⟨by rfl, ?_⟩) (by assumption) ?_
        rotate_left
        · ((intro w' hSw); (try dsimp only at hSw); go_simp; all_goals (with_reducible rfl))
        simp only [Act.put, List.getElem_toArray, List.getElem_cons_succ, List.getElem_cons_zero, List.setIfInBounds_toArray, List.set_cons_zero, List.set_cons_succ]
        refine wpAnyH_take (i := 10) (v := ?_) rfl (by kernel_rfl) (by kernel_rfl) (by kernel_rfl) (fun _ _ _ h => h) (Or.inl ⟨by rfl, ?_⟩) (by assumption) ?_
        rotate_left
        · ((intro w' hSw); (try dsimp only at hSw); go_simp; all_goals (with_reducible rfl))
        simp only [Act.put, List.getElem_toArray, List.getElem_cons_succ, List.getElem_cons_zero, List.setIfInBounds_toArray, List.set_cons_zero, List.set_cons_succ]
        refine wpAnyH_take (i := 11) (v := ?_) rfl (by kernel_rfl) (by kernel_rfl) (by kernel_rfl) (fun _ _ _ h => h) (Or.inl ⟨by rfl, ?_⟩) (by assumption) ?_
        rotate_left
        · ((intro w' hSw); (try dsimp only at hSw); go_simp; all_goals (with_reducible rfl))
        simp only [Act.put, List.getElem_toArray, List.getElem_cons_succ, List.getElem_cons_zero, List.setIfInBounds_toArray, List.set_cons_zero, List.set_cons_succ]
        refine wpAnyH_take (i := 12) (v := ?_) rfl (by kernel_rfl) (by kernel_rfl) (by kernel_rfl) (fun _ _ _ h => h) (Or.inl ⟨by rfl, ?_⟩) (by assumption) ?_
        rotate_left
        · ((intro w' hSw); (try dsimp only at hSw); go_simp; all_goals (with_reducible rfl))
        simp only [Act.put, List.getElem_toArray, List.getElem_cons_succ, List.getElem_cons_zero, List.setIfInBounds_toArray, List.set_cons_zero, List.set_cons_succ]
        refine wpAnyH_take (i := 13) (v := ?_) rfl (by kernel_rfl) (by kernel_rfl) (by kernel_rfl) (fun _ _ _ h => h) (Or.inl ⟨by rfl, ?_⟩) (by assumption) ?_
        rotate_left
        · ((intro w' hSw); (try dsimp only at hSw); go_simp; all_goals (with_reducible rfl))
        simp only [Act.put, List.getElem_toArray, List.getElem_cons_succ, List.getElem_cons_zero, List.setIfInBounds_toArray, List.set_cons_zero, List.set_cons_succ]
        refine wpAnyH_take (i := 14) (v := ?_) rfl (by kernel_rfl) (by kernel_rfl) (by kernel_rfl) (fun _ _ _ h => h) (Or.inl ⟨by rfl, ?_⟩) (by assumption) ?_
        rotate_left
        · ((intro w' hSw); (try dsimp only at hSw); go_simp; all_goals (with_reducible rfl))
        simp only [Act.put, List.getElem_toArray, List.getElem_cons_succ, List.getElem_cons_zero, List.setIfInBounds_toArray, List.set_cons_zero, List.set_cons_succ]
        refine wpAnyH_take (i := 15) (v := ?_) rfl (by kernel_rfl) (by kernel_rfl) (by kernel_rfl) (fun _ _ _ h => h) (Or.inl ⟨by rfl, ?_⟩) (by assumption) ?_
        rotate_left
        · ((intro w' hSw); (try dsimp only at hSw); go_simp; all_goals (with_reducible rfl))
        simp only [Act.put, List.getElem_toArray, List.getElem_cons_succ, List.getElem_cons_zero, List.setIfInBounds_toArray, List.set_cons_zero, List.set_cons_succ]
        refine wpAnyH_take (i := 16) (v := ?_) rfl (by kernel_rfl) (by kernel_rfl) (by kernel_rfl) (fun _ _ _ h => h) (Or.inl ⟨by rfl, ?_⟩) (by assumption) ?_
        rotate_left
        · ((intro w' hSw); (try dsimp only at hSw); go_simp; all_goals (with_reducible rfl))
        simp only [Act.put, List.getElem_toArray, List.getElem_cons_succ, List.getElem_cons_zero, List.setIfInBounds_toArray, List.set_cons_zero, List.set_cons_succ]
        refine wpAnyH_ready (rs := [0, 18]) (by kernel_rfl) (by simp) ?_
        refine (AllReadyH.cons rfl (fun K hK => ?_) (AllReadyH.cons rfl (fun K hK => ?_) AllReadyH.nil))
        · go_simp
          refine hK.out _ _ ?_ (fun hHeld => ?_)
          · exact (keep3 F00.out (by go_grown))
          clear hK K
          refine wpAnyH_take (i := 7) (v := ?_) rfl (by kernel_rfl) (by kernel_rfl) (by kernel_rfl) (fun _ _ _ h => h) (Or.inl ⟨by rfl, ?_⟩) (by assumption) ?_
          rotate_left
          · ((intro w' hSw); (try dsimp only at hSw); go_simp; all_goals (with_reducible rfl))
          simp only [Act.put, List.getElem_toArray, List.getElem_cons_succ, List.getElem_cons_zero, List.setIfInBounds_toArray, List.set_cons_zero, List.set_cons_succ]
          refine wpAnyH_ready (rs := [8, 18]) (by kernel_rfl) (by simp) ?_
          refine (AllReadyH.cons rfl (fun K hK => ?_) (AllReadyH.cons rfl (fun K hK => ?_) AllReadyH.nil))
          · go_simp
            refine hK.out _ _ ?_ (fun hHeld => ?_)
            · exact hHeld
            clear hK K
            refine wpAnyH_take (i := 17) (v := ?_) rfl (by kernel_rfl) (by kernel_rfl) (by kernel_rfl) (fun _ _ _ h => h) (Or.inl ⟨by rfl, ?_⟩) (by assumption) ?_
            rotate_left
            · ((intro w' hSw); (try dsimp only at hSw); go_simp; all_goals (with_reducible rfl))
            simp only [Act.put, List.getElem_toArray, List.getElem_cons_succ, List.getElem_cons_zero, List.setIfInBounds_toArray, List.set_cons_zero, List.set_cons_succ]
            refine wpAnyH_ready (rs := [18]) (by kernel_rfl) (by simp) ?_
            refine (AllReadyH.cons rfl (fun K hK => ?_) AllReadyH.nil)
            go_simp
            refine hK.out _ _ ?_ (fun hHeld => ?_)
            · exact (keep3 F00.out (by go_grown))
            clear hK K
            refine wpAnyH_ready (rs := [19]) (by kernel_rfl) (by simp) ?_
            refine (AllReadyH.cons rfl (fun K hK => ?_) AllReadyH.nil)
            go_simp
            refine hK.out _ _ ?_ (fun hHeld => ?_)
            · exact (keep3 F00.out (by go_grown))
            clear hK K
            refine wpAnyH_done (by kernel_rfl) ?_ _
            go_wp2
            go_meet
            case rel =>
              (rw [HSE.out]; exact made_box1 _ _ _ _)
          · go_simp
            refine hK.out _ _ ?_ (fun hHeld => ?_)
            · exact (keep3 F00.out (by go_grown))
            clear hK K
            refine wpAnyH_ready (rs := [8]) (by kernel_rfl) (by simp) ?_
            refine (AllReadyH.cons rfl (fun K hK => ?_) AllReadyH.nil)
            go_simp
            refine hK.out _ _ ?_ (fun hHeld => ?_)
            · exact hHeld
            clear hK K
            refine wpAnyH_take (i := 17) (v := ?_) rfl (by kernel_rfl) (by kernel_rfl) (by kernel_rfl) (fun _ _ _ h => h) (Or.inl ⟨by rfl, ?_⟩) (by assumption) ?_
            rotate_left
            · ((intro w' hSw); (try dsimp only at hSw); go_simp; all_goals (with_reducible rfl))
            simp only [Act.put, List.getElem_toArray, List.getElem_cons_succ, List.getElem_cons_zero, List.setIfInBounds_toArray, List.set_cons_zero, List.set_cons_succ]
            refine wpAnyH_ready (rs := [19]) (by kernel_rfl) (by simp) ?_
            refine (AllReadyH.cons rfl (fun K hK => ?_) AllReadyH.nil)
            go_simp
            refine hK.out _ _ ?_ (fun hHeld => ?_)
            · exact (keep3 F00.out (by go_grown))
            clear hK K
            refine wpAnyH_done (by kernel_rfl) ?_ _
            go_wp2
            go_meet
            case rel =>
              (rw [HSE.out]; exact made_box1 _ _ _ _)
        · go_simp
          refine hK.out _ _ ?_ (fun hHeld => ?_)
          · exact (keep3 F00.out (by go_grown))
          clear hK K
          refine wpAnyH_ready (rs := [0]) (by kernel_rfl) (by simp) ?_
          refine (AllReadyH.cons rfl (fun K hK => ?_) AllReadyH.nil)
          go_simp
          refine hK.out _ _ ?_ (fun hHeld => ?_)
          · exact (keep3 F00.out (by go_grown))
          clear hK K
          refine wpAnyH_take (i := 7) (v := ?_) rfl (by kernel_rfl) (by kernel_rfl) (by kernel_rfl) (fun _ _ _ h => h) (Or.inl ⟨by rfl, ?_⟩) (by assumption) ?_
          rotate_left
          · ((intro w' hSw); (try dsimp only at hSw); go_simp; all_goals (with_reducible rfl))
          simp only [Act.put, List.getElem_toArray, List.getElem_cons_succ, List.getElem_cons_zero, List.setIfInBounds_toArray, List.set_cons_zero, List.set_cons_succ]
          refine wpAnyH_ready (rs := [8]) (by kernel_rfl) (by simp) ?_
          refine (AllReadyH.cons rfl (fun K hK => ?_) AllReadyH.nil)
          go_simp
          refine hK.out _ _ ?_ (fun hHeld => ?_)
          · exact hHeld
          clear hK K
          refine wpAnyH_take (i := 17) (v := ?_) rfl (by kernel_rfl) (by kernel_rfl) (by kernel_rfl) (fun _ _ _ h => h) (Or.inl ⟨by rfl, ?_⟩) (by assumption) ?_
          rotate_left
          · ((intro w' hSw); (try dsimp only at hSw); go_simp; all_goals (with_reducible rfl))
          simp only [Act.put, List.getElem_toArray, List.getElem_cons_succ, List.getElem_cons_zero, List.setIfInBounds_toArray, List.set_cons_zero, List.set_cons_succ]
          refine wpAnyH_ready (rs := [19]) (by kernel_rfl) (by simp) ?_
          refine (AllReadyH.cons rfl (fun K hK => ?_) AllReadyH.nil)
          go_simp
          refine hK.out _ _ ?_ (fun hHeld => ?_)
          · exact (keep3 F00.out (by go_grown))
          clear hK K
          refine wpAnyH_done (by kernel_rfl) ?_ _
          go_wp2
          go_meet
          case rel =>
            (rw [HSE.out]; exact made_box2 _ _ _ _)
      case rest =>
        obtain ⟨b, rfl, hb, hbx, hbl⟩ := hcut
        have b0 : wc.cell? ⟨b, 0, none⟩ = some (.int .i64 (idT t.1)) := cell_of_row wc b 0 _ _ _ hb
        have b1 : wc.cell? ⟨b, 1, none⟩ = some (.int .i64 0) := cell_of_row wc b 1 _ _ _ hb
        have b2 : wc.cell? ⟨b, 2, none⟩ = some (.int .i64 ((1 + t.2.2.toNat % 9 : Nat) : Int)) := cell_of_row wc b 2 _ _ _ hb
        have f1 := frozen_of_row wc b 1 _ _ hb
        obtain ⟨q0, q1, q2⟩ := keep3 F00.out hbx
        have hbs2 := hbx.size
        have HOc := Lib.hid (own_keep HO.out hbx)
        have HBX := Lib.hid hbx
        have hfar : ∀ g, (Value.slice A' k c').ownBlock = some g → b ≠ g := fun g hg => by have := (HO.out.lt g hg).2; omega
        have HFAR := Lib.hid hfar
        have hbc : b < wc.heap.size := block_lt_of_cell b0
        obtain ⟨nn, hnn⟩ : ∃ x : Int, ((1 + t.2.2.toNat % 9 : Nat) : Int) = x := ⟨_, rfl⟩
        rw [hnn] at b2
        by_cases hid : 0 < idT t.1
        · obtain ⟨f, hf⟩ : ∃ f, t.2.1.toNat % 20 = f := ⟨_, rfl⟩
          have r1 : (t.2.1.toNat : Int).tmod 20 = (f : Int) := by rw [Int.tmod_eq_emod_of_nonneg (Int.natCast_nonneg _), ← hf]; simp
          have r3 : IntKind.i64.wrap (t.2.1.toNat : Int) = (t.2.1.toNat : Int) := IntWalk.i64_in _ (by omega)
          have f20 : f < 20 := by rw [← hf]; exact Nat.mod_lt _ (by decide)
          have HPC := Lib.hid (show pcT t = ⟨idT t.1, (f : Int), nn⟩ from by unfold pcT; rw [if_pos hid, hnn, hf])
          have HNW := Lib.hid (cells_newS wc ⟨b, 1, none⟩ (.int .i64 (f : Int)) #[.int .i64 (idT t.1), .int .i64 (f : Int), .int .i64 nn] 66)
          have HBS := Lib.hid ((HBW.out.trans (HBX.out.mono hbs)).setCell (p := ⟨b, 1, none⟩) (Nat.le_trans hbs hbl) (.int .i64 (f : Int)))
          clear hb hbx hfar q q0 q2 hf hnn
          go_wp2_with (at_builtin; refine wpList_append_own _ rfl _ _ 24 rfl w.heap.size 66 i0 _ 3 24 Try.underlying24 hi hz0 hz1 hz2 rfl (by decide) _ _ _ rfl ((own_set_far HOc.out (p := ⟨b, 1, none⟩) HFAR.out _).alloc _) ⟨wc.heap.size, 0, none⟩ 1 1 (ints (flat3 [pcT t])) rfl rfl (by rw [HPC.out]; exact HNW.out) (ints_cells _) (by unfold maxLen; omega) (by omega) (by simp; omega) ?_; intro v' w7 hown7 hgrow7 _; obtain ⟨g7, c7, rfl⟩ := ownsRow_succ hown7)
          have hb7 : Below w.heap.size w w7 := (HBS.out.alloc (by simpa [World.setCell] using Nat.le_trans hbs hbs2) _).grown hgrow7 (by simp; omega) (fun t ht => (HO.out.lt t ht).1)
          go_roundw
          case rel => exact ⟨k + 1, some ⟨g7, 0, none⟩, c7, by omega, by omega, by go_num, rfl, by rw [HTS.out, flat3_append, ints_append]; exact hown7, hb7⟩
          case measure => simp [intOf]; omega
        · have HPC := Lib.hid (show pcT t = ⟨idT t.1, 0, nn⟩ from by unfold pcT; rw [if_neg hid, hnn])
          clear hb hbx hfar q q0 q1 q2 hnn
          go_wp2_with (at_builtin; refine wpList_append_own _ rfl _ _ 24 rfl w.heap.size 66 i0 _ 3 24 Try.underlying24 hi hz0 hz1 hz2 rfl (by decide) _ _ _ rfl (HOc.out.alloc _) ⟨wc.heap.size, 0, none⟩ 1 1 (ints (flat3 [pcT t])) rfl rfl (by rw [HPC.out]; exact cells_new _ _ _) (ints_cells _) (by unfold maxLen; omega) (by omega) (by simp; omega) ?_; intro v' w7 hown7 hgrow7 _; obtain ⟨g7, c7, rfl⟩ := ownsRow_succ hown7)
          have hb7 : Below w.heap.size w w7 := ((HBW.out.trans (HBX.out.mono hbs)).alloc (Nat.le_trans hbs hbs2) _).grown hgrow7 (by simp; omega) (fun t ht => (HO.out.lt t ht).1)
          go_roundw
          case rel => exact ⟨k + 1, some ⟨g7, 0, none⟩, c7, by omega, by omega, by go_num, rfl, by rw [HTS.out, flat3_append, ints_append]; exact hown7, hb7⟩
          case measure => simp [intOf]; omega
    · have hraw : (l.take k).map pcT = rawL l := by
        unfold rawL
        congr 1
        rcases Nat.lt_or_ge k n with h | h
        · rw [show k = 8 by omega]
        · rw [List.take_of_length_le (by rw [HN.out]; omega), List.take_of_length_le (by rw [HN.out]; omega)]
      rw [hraw] at hown
      have hlen := own_plen hown
      have HNo := Lib.hid (Norm_any A' k c' (rawL l) hlen (by omega) (fun p hp => .inr (by
        unfold rawL at hp
        obtain ⟨t, _, rfl⟩ := List.mem_map.1 hp
        exact pcT_right t)) (Nat.le_trans (raw_each l) (by decide)) wr (Pcs.of_own hown))
      clear hraw hown hlen
      by_cases hkn : k < n
      · have kn : (k : Int) < (n : Int) := Int.ofNat_lt.2 hkn
        have k8 : ¬ (k : Int) < 8 := by omega
        go_wp2_with (go_at_call 18; with_reducible refine HNo.out.mono ?_; rintro e w1 ⟨A7, m7, c7, rfl, hown7, hb7⟩)
        go_ret
        exact ⟨A7, m7, c7, rfl, own_weak hown7 hbs, hbw.trans (hb7.mono hbs)⟩
      · have kn : ¬ (k : Int) < (n : Int) := fun h => hkn (Int.ofNat_lt.1 h)
        go_wp2_with (go_at_call 18; with_reducible refine HNo.out.mono ?_; rintro e w1 ⟨A7, m7, c7, rfl, hown7, hb7⟩)
        go_ret
        exact ⟨A7, m7, c7, rfl, own_weak hown7 hbs, hbw.trans (hb7.mono hbs)⟩
end Go.Proofs.Ytggnklcjhbahhaa
