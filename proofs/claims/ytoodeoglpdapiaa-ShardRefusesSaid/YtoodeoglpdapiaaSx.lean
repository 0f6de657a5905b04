/-
  Walk of the law file's fixed examples: the whole.
-/
import Derived.Test.YtoodeoglpdapiaaSw
namespace Go.Proofs.Ytoodeoglpdapiaa
open Go.RowKit Gf
set_option maxHeartbeats 400000

theorem field_sh (A : Option Addr) (n c : Nat) (e : Int) (W : World) : (Instr.field 29 (.agg #[.slice A n c, .int .i64 e]) 1).run Try.prog W = .ok (.int .i64 e) W := by kernel_rfl
theorem field_by (A : Option Addr) (n c : Nat) (e : Int) (W : World) : (Instr.field 34 (.agg #[.slice A n c, .int .i64 e]) 1).run Try.prog W = .ok (.int .i64 e) W := by kernel_rfl
theorem g_mul1 : ((gm 2 128).toNat : Int) = 29 := by decide +kernel
theorem g_mul2 : ((gm 3 7).toNat : Int) = 9 := by decide +kernel
theorem g_inv1 : ((gi 2).toNat : Int) = 142 := by decide +kernel
theorem g_inv2 : ((gi 0).toNat : Int) = 0 := by decide +kernel

def rowW (W : World) : World := (W.alloc (.cells #[.int .u8 1, .int .u8 2] 5)).alloc (.cells #[.slice (some ⟨W.heap.size, 0, none⟩) 2 2, .slice none 0 0] 22)
theorem row_at (W : World) : Sll (fun _ => True) (fun _ => True) (rowW W) (some ⟨W.heap.size + 1, 0, none⟩) 2 2 [[1, 2], []] := by
  unfold rowW
  refine one_row (g0 := W.heap.size) ?_ ?_ ?_ ?_
  all_goals simp [go_sem]
theorem row_below (W : World) : Below W.heap.size W (rowW W) := by unfold rowW; go_grown
theorem row_call {Env : World → Prop} (P : Prg Env) (W : World) (hE : Env W) :
    Calls Try.prog 15 #[.slice (some ⟨W.heap.size + 1, 0, none⟩) 2 2, .int .i64 2, .int .i64 3] ((W.alloc (.cells #[.int .u8 1, .int .u8 2] 5)).alloc (.cells #[.slice (some ⟨W.heap.size, 0, none⟩) 2 2, .slice none 0 0] 22)) fun e w' => ∃ A' c', e = .returned (.agg #[.slice A' 0 c', .int .i64 70]) ∧ Below W.heap.size W w' := by
  refine (dec_few P (fun _ => True) (fun _ => True) _ 2 2 [[1, 2], []] 2 3 (rowW W) (P.env hE (row_below W)) (row_at W) (by decide) (by decide) ex_few).mono ?_
  rintro e w' ⟨A', c', rfl, hb⟩
  exact ⟨A', c', rfl, (row_below W).trans (hb.mono (row_below W).size)⟩

/-- What is known of the world in the last region: the box of the first result, the first slice of the list, and that all before is as it was. -/
theorem sanS_alloc {bx bw g0 c1 : Nat} {A1 : Option Addr} {wR W : World} (h : W.cell? ⟨bx, 0, none⟩ = some (.slice A1 3 c1) ∧ W.cell? ⟨bx, 1, none⟩ = some (.int .i64 0) ∧ W.cell? ⟨bw, 0, none⟩ = some (.slice (some ⟨g0, 0, none⟩) 2 2) ∧ Below wR.heap.size wR W) (o : Obj) :
    (W.alloc o).cell? ⟨bx, 0, none⟩ = some (.slice A1 3 c1) ∧ (W.alloc o).cell? ⟨bx, 1, none⟩ = some (.int .i64 0) ∧ (W.alloc o).cell? ⟨bw, 0, none⟩ = some (.slice (some ⟨g0, 0, none⟩) 2 2) ∧ Below wR.heap.size wR (W.alloc o) :=
  have hb : Below W.heap.size W (W.alloc o) := (Below.refl _ W).alloc (Nat.le_refl _) o
  ⟨(hb.cell (block_lt_of_cell h.1)).trans h.1, (hb.cell (block_lt_of_cell h.2.1)).trans h.2.1, (hb.cell (block_lt_of_cell h.2.2.1)).trans h.2.2.1, h.2.2.2.trans (hb.mono h.2.2.2.size)⟩
theorem same_shards (A A2 : Option Addr) (n c n2 c2 : Nat) (ls ls2 : List (List UInt8)) (hn : ls.length = n) (hn2 : ls2.length = n2) (hl : n ≤ 9223372036854775806) (w : World) (hA : Lists w A ls) (hA2 : Lists w A2 ls2) :
    Calls Try.prog 13 #[.slice A n c, .slice A2 n2 c2] w fun d w' => d = .returned (.bool (decide (ls = ls2))) ∧ Below w.heap.size w w' :=
  (SameShards_any A A2 n c n2 c2 ls ls2 hn hn2 hl w hA hA2).mono fun _ _ ⟨he, m, hm⟩ => ⟨he, by rw [hm]; exact below_drewN w m⟩
theorem sanS_below {bx bw g0 c1 : Nat} {A1 : Option Addr} {wR W W' : World} (h : W.cell? ⟨bx, 0, none⟩ = some (.slice A1 3 c1) ∧ W.cell? ⟨bx, 1, none⟩ = some (.int .i64 0) ∧ W.cell? ⟨bw, 0, none⟩ = some (.slice (some ⟨g0, 0, none⟩) 2 2) ∧ Below wR.heap.size wR W) (hb : Below W.heap.size W W') :
    W'.cell? ⟨bx, 0, none⟩ = some (.slice A1 3 c1) ∧ W'.cell? ⟨bx, 1, none⟩ = some (.int .i64 0) ∧ W'.cell? ⟨bw, 0, none⟩ = some (.slice (some ⟨g0, 0, none⟩) 2 2) ∧ Below wR.heap.size wR W' :=
  ⟨(hb.cell (block_lt_of_cell h.1)).trans h.1, (hb.cell (block_lt_of_cell h.2.1)).trans h.2.1, (hb.cell (block_lt_of_cell h.2.2.1)).trans h.2.2.1, h.2.2.2.trans (hb.mono h.2.2.2.size)⟩
theorem dec_ex {Env : World → Prop} (P : Prg Env) {bx bw g0 c1 : Nat} {A1 : Option Addr} {wR : World} (hE : Env wR) (W : World) (g g1 g2 : Nat) (h : W.cell? ⟨bx, 0, none⟩ = some (.slice A1 3 c1) ∧ W.cell? ⟨bx, 1, none⟩ = some (.int .i64 0) ∧ W.cell? ⟨bw, 0, none⟩ = some (.slice (some ⟨g0, 0, none⟩) 2 2) ∧ Below wR.heap.size wR W)
    (k0 : W.cell? ⟨g, 0, none⟩ = some (.slice none 0 0)) (k1 : W.cell? ⟨g, 1, none⟩ = some (.slice (some ⟨g1, 0, none⟩) 2 2)) (k2 : W.cell? ⟨g, 2, none⟩ = some (.slice (some ⟨g2, 0, none⟩) 2 2))
    (b0 : W.cell? ⟨g1, 0, none⟩ = some (.int .u8 3)) (b1 : W.cell? ⟨g1, 1, none⟩ = some (.int .u8 0)) (d0 : W.cell? ⟨g2, 0, none⟩ = some (.int .u8 5)) (d1 : W.cell? ⟨g2, 1, none⟩ = some (.int .u8 6)) :
    Calls Try.prog 15 #[.slice (some ⟨g, 0, none⟩) 3 3, .int .i64 2, .int .i64 3] W fun e w' => ∃ A' c', e = .returned (.agg #[.slice A' 3 c', .int .i64 0]) ∧ Byts w' A' [1, 2, 3] ∧ Below W.heap.size W w' := by
  refine (dec_yes P (fun _ => True) (fun _ => True) (some ⟨g, 0, none⟩) 3 3 [[], [3, 0], [5, 6]] 2 3 W (P.env hE h.2.2.2) (gone_rows k0 k1 k2 b0 b1 d0 d1) (by decide) (by decide) ex_pts).mono ?_
  rintro e w' ⟨A', c', rfl, hS, hb⟩
  rw [ex_dec] at hS
  exact ⟨A', c', rfl, hS.byts.byts, hb⟩
theorem three_at {W W' : World} {g : Nat} (hb : Below W.heap.size W W') (h0 : W.cell? ⟨g, 0, none⟩ = some (.int .u8 1)) (h1 : W.cell? ⟨g, 1, none⟩ = some (.int .u8 2)) (h2 : W.cell? ⟨g, 2, none⟩ = some (.int .u8 3)) : Byts W' (some ⟨g, 0, none⟩) [1, 2, 3] :=
  ((three_byts h0 h1 h2).below hb).byts.byts
theorem dec_at0 {Env : World → Prop} (P : Prg Env) {bx bw g0 c1 : Nat} {A1 : Option Addr} {wR : World} (hE : Env wR) (W : World) (h : (((W.alloc (.cells #[.int .u8 3, .int .u8 0] 5)).alloc (.cells #[.int .u8 5, .int .u8 6] 5)).alloc (.cells #[.slice none 0 0, .slice (some ⟨W.heap.size, 0, none⟩) 2 2, .slice (some ⟨W.heap.size + 1, 0, none⟩) 2 2] 22)).cell? ⟨bx, 0, none⟩ = some (.slice A1 3 c1) ∧ (((W.alloc (.cells #[.int .u8 3, .int .u8 0] 5)).alloc (.cells #[.int .u8 5, .int .u8 6] 5)).alloc (.cells #[.slice none 0 0, .slice (some ⟨W.heap.size, 0, none⟩) 2 2, .slice (some ⟨W.heap.size + 1, 0, none⟩) 2 2] 22)).cell? ⟨bx, 1, none⟩ = some (.int .i64 0) ∧ (((W.alloc (.cells #[.int .u8 3, .int .u8 0] 5)).alloc (.cells #[.int .u8 5, .int .u8 6] 5)).alloc (.cells #[.slice none 0 0, .slice (some ⟨W.heap.size, 0, none⟩) 2 2, .slice (some ⟨W.heap.size + 1, 0, none⟩) 2 2] 22)).cell? ⟨bw, 0, none⟩ = some (.slice (some ⟨g0, 0, none⟩) 2 2) ∧ Below wR.heap.size wR (((W.alloc (.cells #[.int .u8 3, .int .u8 0] 5)).alloc (.cells #[.int .u8 5, .int .u8 6] 5)).alloc (.cells #[.slice none 0 0, .slice (some ⟨W.heap.size, 0, none⟩) 2 2, .slice (some ⟨W.heap.size + 1, 0, none⟩) 2 2] 22))) :
    Calls Try.prog 15 #[.slice (some ⟨W.heap.size + 1 + 1, 0, none⟩) 3 3, .int .i64 2, .int .i64 3] (((W.alloc (.cells #[.int .u8 3, .int .u8 0] 5)).alloc (.cells #[.int .u8 5, .int .u8 6] 5)).alloc (.cells #[.slice none 0 0, .slice (some ⟨W.heap.size, 0, none⟩) 2 2, .slice (some ⟨W.heap.size + 1, 0, none⟩) 2 2] 22)) fun e w' => ∃ A' c', e = .returned (.agg #[.slice A' 3 c', .int .i64 0]) ∧ Byts w' A' [1, 2, 3] ∧ Below (((W.alloc (.cells #[.int .u8 3, .int .u8 0] 5)).alloc (.cells #[.int .u8 5, .int .u8 6] 5)).alloc (.cells #[.slice none 0 0, .slice (some ⟨W.heap.size, 0, none⟩) 2 2, .slice (some ⟨W.heap.size + 1, 0, none⟩) 2 2] 22)).heap.size (((W.alloc (.cells #[.int .u8 3, .int .u8 0] 5)).alloc (.cells #[.int .u8 5, .int .u8 6] 5)).alloc (.cells #[.slice none 0 0, .slice (some ⟨W.heap.size, 0, none⟩) 2 2, .slice (some ⟨W.heap.size + 1, 0, none⟩) 2 2] 22)) w' := by
  refine (dec_ex P hE _ _ (W.heap.size) (W.heap.size + 1) h ?_ ?_ ?_ ?_ ?_ ?_ ?_).mono ?_
  rotate_left 7
  · rintro e w' ⟨A', c', rfl, hx, hb⟩
    exact ⟨A', c', rfl, hx, hb⟩
  all_goals simp [go_sem]
theorem dec_at1 {Env : World → Prop} (P : Prg Env) {bx bw g0 c1 : Nat} {A1 : Option Addr} {wR : World} (hE : Env wR) (W : World) (h : ((((W.alloc (.cells #[.int .u8 1, .int .u8 2, .int .u8 3] 5)).alloc (.cells #[.int .u8 3, .int .u8 0] 5)).alloc (.cells #[.int .u8 5, .int .u8 6] 5)).alloc (.cells #[.slice none 0 0, .slice (some ⟨W.heap.size + 1, 0, none⟩) 2 2, .slice (some ⟨W.heap.size + 1 + 1, 0, none⟩) 2 2] 22)).cell? ⟨bx, 0, none⟩ = some (.slice A1 3 c1) ∧ ((((W.alloc (.cells #[.int .u8 1, .int .u8 2, .int .u8 3] 5)).alloc (.cells #[.int .u8 3, .int .u8 0] 5)).alloc (.cells #[.int .u8 5, .int .u8 6] 5)).alloc (.cells #[.slice none 0 0, .slice (some ⟨W.heap.size + 1, 0, none⟩) 2 2, .slice (some ⟨W.heap.size + 1 + 1, 0, none⟩) 2 2] 22)).cell? ⟨bx, 1, none⟩ = some (.int .i64 0) ∧ ((((W.alloc (.cells #[.int .u8 1, .int .u8 2, .int .u8 3] 5)).alloc (.cells #[.int .u8 3, .int .u8 0] 5)).alloc (.cells #[.int .u8 5, .int .u8 6] 5)).alloc (.cells #[.slice none 0 0, .slice (some ⟨W.heap.size + 1, 0, none⟩) 2 2, .slice (some ⟨W.heap.size + 1 + 1, 0, none⟩) 2 2] 22)).cell? ⟨bw, 0, none⟩ = some (.slice (some ⟨g0, 0, none⟩) 2 2) ∧ Below wR.heap.size wR ((((W.alloc (.cells #[.int .u8 1, .int .u8 2, .int .u8 3] 5)).alloc (.cells #[.int .u8 3, .int .u8 0] 5)).alloc (.cells #[.int .u8 5, .int .u8 6] 5)).alloc (.cells #[.slice none 0 0, .slice (some ⟨W.heap.size + 1, 0, none⟩) 2 2, .slice (some ⟨W.heap.size + 1 + 1, 0, none⟩) 2 2] 22))) :
    Calls Try.prog 15 #[.slice (some ⟨W.heap.size + 1 + 1 + 1, 0, none⟩) 3 3, .int .i64 2, .int .i64 3] ((((W.alloc (.cells #[.int .u8 1, .int .u8 2, .int .u8 3] 5)).alloc (.cells #[.int .u8 3, .int .u8 0] 5)).alloc (.cells #[.int .u8 5, .int .u8 6] 5)).alloc (.cells #[.slice none 0 0, .slice (some ⟨W.heap.size + 1, 0, none⟩) 2 2, .slice (some ⟨W.heap.size + 1 + 1, 0, none⟩) 2 2] 22)) fun e w' => ∃ A' c', e = .returned (.agg #[.slice A' 3 c', .int .i64 0]) ∧ Byts w' A' [1, 2, 3] ∧ Byts w' (some ⟨W.heap.size, 0, none⟩) [1, 2, 3] ∧ Below ((((W.alloc (.cells #[.int .u8 1, .int .u8 2, .int .u8 3] 5)).alloc (.cells #[.int .u8 3, .int .u8 0] 5)).alloc (.cells #[.int .u8 5, .int .u8 6] 5)).alloc (.cells #[.slice none 0 0, .slice (some ⟨W.heap.size + 1, 0, none⟩) 2 2, .slice (some ⟨W.heap.size + 1 + 1, 0, none⟩) 2 2] 22)).heap.size ((((W.alloc (.cells #[.int .u8 1, .int .u8 2, .int .u8 3] 5)).alloc (.cells #[.int .u8 3, .int .u8 0] 5)).alloc (.cells #[.int .u8 5, .int .u8 6] 5)).alloc (.cells #[.slice none 0 0, .slice (some ⟨W.heap.size + 1, 0, none⟩) 2 2, .slice (some ⟨W.heap.size + 1 + 1, 0, none⟩) 2 2] 22)) w' := by
  refine (dec_ex P hE _ _ (W.heap.size + 1) (W.heap.size + 1 + 1) h ?_ ?_ ?_ ?_ ?_ ?_ ?_).mono ?_
  rotate_left 7
  · rintro e w' ⟨A', c', rfl, hx, hb⟩
    exact ⟨A', c', rfl, hx, three_at hb (by simp [go_sem]) (by simp [go_sem]) (by simp [go_sem]), hb⟩
  all_goals simp [go_sem]
theorem dec_at2 {Env : World → Prop} (P : Prg Env) {bx bw g0 c1 : Nat} {A1 : Option Addr} {wR : World} (hE : Env wR) (W : World) (h : ((((W.alloc (.cells #[.int .u8 3, .int .u8 0] 5)).alloc (.cells #[.int .u8 1, .int .u8 2, .int .u8 3] 5)).alloc (.cells #[.int .u8 5, .int .u8 6] 5)).alloc (.cells #[.slice none 0 0, .slice (some ⟨W.heap.size, 0, none⟩) 2 2, .slice (some ⟨W.heap.size + 1 + 1, 0, none⟩) 2 2] 22)).cell? ⟨bx, 0, none⟩ = some (.slice A1 3 c1) ∧ ((((W.alloc (.cells #[.int .u8 3, .int .u8 0] 5)).alloc (.cells #[.int .u8 1, .int .u8 2, .int .u8 3] 5)).alloc (.cells #[.int .u8 5, .int .u8 6] 5)).alloc (.cells #[.slice none 0 0, .slice (some ⟨W.heap.size, 0, none⟩) 2 2, .slice (some ⟨W.heap.size + 1 + 1, 0, none⟩) 2 2] 22)).cell? ⟨bx, 1, none⟩ = some (.int .i64 0) ∧ ((((W.alloc (.cells #[.int .u8 3, .int .u8 0] 5)).alloc (.cells #[.int .u8 1, .int .u8 2, .int .u8 3] 5)).alloc (.cells #[.int .u8 5, .int .u8 6] 5)).alloc (.cells #[.slice none 0 0, .slice (some ⟨W.heap.size, 0, none⟩) 2 2, .slice (some ⟨W.heap.size + 1 + 1, 0, none⟩) 2 2] 22)).cell? ⟨bw, 0, none⟩ = some (.slice (some ⟨g0, 0, none⟩) 2 2) ∧ Below wR.heap.size wR ((((W.alloc (.cells #[.int .u8 3, .int .u8 0] 5)).alloc (.cells #[.int .u8 1, .int .u8 2, .int .u8 3] 5)).alloc (.cells #[.int .u8 5, .int .u8 6] 5)).alloc (.cells #[.slice none 0 0, .slice (some ⟨W.heap.size, 0, none⟩) 2 2, .slice (some ⟨W.heap.size + 1 + 1, 0, none⟩) 2 2] 22))) :
    Calls Try.prog 15 #[.slice (some ⟨W.heap.size + 1 + 1 + 1, 0, none⟩) 3 3, .int .i64 2, .int .i64 3] ((((W.alloc (.cells #[.int .u8 3, .int .u8 0] 5)).alloc (.cells #[.int .u8 1, .int .u8 2, .int .u8 3] 5)).alloc (.cells #[.int .u8 5, .int .u8 6] 5)).alloc (.cells #[.slice none 0 0, .slice (some ⟨W.heap.size, 0, none⟩) 2 2, .slice (some ⟨W.heap.size + 1 + 1, 0, none⟩) 2 2] 22)) fun e w' => ∃ A' c', e = .returned (.agg #[.slice A' 3 c', .int .i64 0]) ∧ Byts w' A' [1, 2, 3] ∧ Byts w' (some ⟨W.heap.size + 1, 0, none⟩) [1, 2, 3] ∧ Below ((((W.alloc (.cells #[.int .u8 3, .int .u8 0] 5)).alloc (.cells #[.int .u8 1, .int .u8 2, .int .u8 3] 5)).alloc (.cells #[.int .u8 5, .int .u8 6] 5)).alloc (.cells #[.slice none 0 0, .slice (some ⟨W.heap.size, 0, none⟩) 2 2, .slice (some ⟨W.heap.size + 1 + 1, 0, none⟩) 2 2] 22)).heap.size ((((W.alloc (.cells #[.int .u8 3, .int .u8 0] 5)).alloc (.cells #[.int .u8 1, .int .u8 2, .int .u8 3] 5)).alloc (.cells #[.int .u8 5, .int .u8 6] 5)).alloc (.cells #[.slice none 0 0, .slice (some ⟨W.heap.size, 0, none⟩) 2 2, .slice (some ⟨W.heap.size + 1 + 1, 0, none⟩) 2 2] 22)) w' := by
  refine (dec_ex P hE _ _ (W.heap.size) (W.heap.size + 1 + 1) h ?_ ?_ ?_ ?_ ?_ ?_ ?_).mono ?_
  rotate_left 7
  · rintro e w' ⟨A', c', rfl, hx, hb⟩
    exact ⟨A', c', rfl, hx, three_at hb (by simp [go_sem]) (by simp [go_sem]) (by simp [go_sem]), hb⟩
  all_goals simp [go_sem]
theorem dec_at3 {Env : World → Prop} (P : Prg Env) {bx bw g0 c1 : Nat} {A1 : Option Addr} {wR : World} (hE : Env wR) (W : World) (h : ((((W.alloc (.cells #[.int .u8 3, .int .u8 0] 5)).alloc (.cells #[.int .u8 5, .int .u8 6] 5)).alloc (.cells #[.int .u8 1, .int .u8 2, .int .u8 3] 5)).alloc (.cells #[.slice none 0 0, .slice (some ⟨W.heap.size, 0, none⟩) 2 2, .slice (some ⟨W.heap.size + 1, 0, none⟩) 2 2] 22)).cell? ⟨bx, 0, none⟩ = some (.slice A1 3 c1) ∧ ((((W.alloc (.cells #[.int .u8 3, .int .u8 0] 5)).alloc (.cells #[.int .u8 5, .int .u8 6] 5)).alloc (.cells #[.int .u8 1, .int .u8 2, .int .u8 3] 5)).alloc (.cells #[.slice none 0 0, .slice (some ⟨W.heap.size, 0, none⟩) 2 2, .slice (some ⟨W.heap.size + 1, 0, none⟩) 2 2] 22)).cell? ⟨bx, 1, none⟩ = some (.int .i64 0) ∧ ((((W.alloc (.cells #[.int .u8 3, .int .u8 0] 5)).alloc (.cells #[.int .u8 5, .int .u8 6] 5)).alloc (.cells #[.int .u8 1, .int .u8 2, .int .u8 3] 5)).alloc (.cells #[.slice none 0 0, .slice (some ⟨W.heap.size, 0, none⟩) 2 2, .slice (some ⟨W.heap.size + 1, 0, none⟩) 2 2] 22)).cell? ⟨bw, 0, none⟩ = some (.slice (some ⟨g0, 0, none⟩) 2 2) ∧ Below wR.heap.size wR ((((W.alloc (.cells #[.int .u8 3, .int .u8 0] 5)).alloc (.cells #[.int .u8 5, .int .u8 6] 5)).alloc (.cells #[.int .u8 1, .int .u8 2, .int .u8 3] 5)).alloc (.cells #[.slice none 0 0, .slice (some ⟨W.heap.size, 0, none⟩) 2 2, .slice (some ⟨W.heap.size + 1, 0, none⟩) 2 2] 22))) :
    Calls Try.prog 15 #[.slice (some ⟨W.heap.size + 1 + 1 + 1, 0, none⟩) 3 3, .int .i64 2, .int .i64 3] ((((W.alloc (.cells #[.int .u8 3, .int .u8 0] 5)).alloc (.cells #[.int .u8 5, .int .u8 6] 5)).alloc (.cells #[.int .u8 1, .int .u8 2, .int .u8 3] 5)).alloc (.cells #[.slice none 0 0, .slice (some ⟨W.heap.size, 0, none⟩) 2 2, .slice (some ⟨W.heap.size + 1, 0, none⟩) 2 2] 22)) fun e w' => ∃ A' c', e = .returned (.agg #[.slice A' 3 c', .int .i64 0]) ∧ Byts w' A' [1, 2, 3] ∧ Byts w' (some ⟨W.heap.size + 1 + 1, 0, none⟩) [1, 2, 3] ∧ Below ((((W.alloc (.cells #[.int .u8 3, .int .u8 0] 5)).alloc (.cells #[.int .u8 5, .int .u8 6] 5)).alloc (.cells #[.int .u8 1, .int .u8 2, .int .u8 3] 5)).alloc (.cells #[.slice none 0 0, .slice (some ⟨W.heap.size, 0, none⟩) 2 2, .slice (some ⟨W.heap.size + 1, 0, none⟩) 2 2] 22)).heap.size ((((W.alloc (.cells #[.int .u8 3, .int .u8 0] 5)).alloc (.cells #[.int .u8 5, .int .u8 6] 5)).alloc (.cells #[.int .u8 1, .int .u8 2, .int .u8 3] 5)).alloc (.cells #[.slice none 0 0, .slice (some ⟨W.heap.size, 0, none⟩) 2 2, .slice (some ⟨W.heap.size + 1, 0, none⟩) 2 2] 22)) w' := by
  refine (dec_ex P hE _ _ (W.heap.size) (W.heap.size + 1) h ?_ ?_ ?_ ?_ ?_ ?_ ?_).mono ?_
  rotate_left 7
  · rintro e w' ⟨A', c', rfl, hx, hb⟩
    exact ⟨A', c', rfl, hx, three_at hb (by simp [go_sem]) (by simp [go_sem]) (by simp [go_sem]), hb⟩
  all_goals simp [go_sem]
theorem dec_at4 {Env : World → Prop} (P : Prg Env) {bx bw g0 c1 : Nat} {A1 : Option Addr} {wR : World} (hE : Env wR) (W : World) (h : ((((W.alloc (.cells #[.int .u8 3, .int .u8 0] 5)).alloc (.cells #[.int .u8 5, .int .u8 6] 5)).alloc (.cells #[.slice none 0 0, .slice (some ⟨W.heap.size, 0, none⟩) 2 2, .slice (some ⟨W.heap.size + 1, 0, none⟩) 2 2] 22)).alloc (.cells #[.int .u8 1, .int .u8 2, .int .u8 3] 5)).cell? ⟨bx, 0, none⟩ = some (.slice A1 3 c1) ∧ ((((W.alloc (.cells #[.int .u8 3, .int .u8 0] 5)).alloc (.cells #[.int .u8 5, .int .u8 6] 5)).alloc (.cells #[.slice none 0 0, .slice (some ⟨W.heap.size, 0, none⟩) 2 2, .slice (some ⟨W.heap.size + 1, 0, none⟩) 2 2] 22)).alloc (.cells #[.int .u8 1, .int .u8 2, .int .u8 3] 5)).cell? ⟨bx, 1, none⟩ = some (.int .i64 0) ∧ ((((W.alloc (.cells #[.int .u8 3, .int .u8 0] 5)).alloc (.cells #[.int .u8 5, .int .u8 6] 5)).alloc (.cells #[.slice none 0 0, .slice (some ⟨W.heap.size, 0, none⟩) 2 2, .slice (some ⟨W.heap.size + 1, 0, none⟩) 2 2] 22)).alloc (.cells #[.int .u8 1, .int .u8 2, .int .u8 3] 5)).cell? ⟨bw, 0, none⟩ = some (.slice (some ⟨g0, 0, none⟩) 2 2) ∧ Below wR.heap.size wR ((((W.alloc (.cells #[.int .u8 3, .int .u8 0] 5)).alloc (.cells #[.int .u8 5, .int .u8 6] 5)).alloc (.cells #[.slice none 0 0, .slice (some ⟨W.heap.size, 0, none⟩) 2 2, .slice (some ⟨W.heap.size + 1, 0, none⟩) 2 2] 22)).alloc (.cells #[.int .u8 1, .int .u8 2, .int .u8 3] 5))) :
    Calls Try.prog 15 #[.slice (some ⟨W.heap.size + 1 + 1, 0, none⟩) 3 3, .int .i64 2, .int .i64 3] ((((W.alloc (.cells #[.int .u8 3, .int .u8 0] 5)).alloc (.cells #[.int .u8 5, .int .u8 6] 5)).alloc (.cells #[.slice none 0 0, .slice (some ⟨W.heap.size, 0, none⟩) 2 2, .slice (some ⟨W.heap.size + 1, 0, none⟩) 2 2] 22)).alloc (.cells #[.int .u8 1, .int .u8 2, .int .u8 3] 5)) fun e w' => ∃ A' c', e = .returned (.agg #[.slice A' 3 c', .int .i64 0]) ∧ Byts w' A' [1, 2, 3] ∧ Byts w' (some ⟨W.heap.size + 1 + 1 + 1, 0, none⟩) [1, 2, 3] ∧ Below ((((W.alloc (.cells #[.int .u8 3, .int .u8 0] 5)).alloc (.cells #[.int .u8 5, .int .u8 6] 5)).alloc (.cells #[.slice none 0 0, .slice (some ⟨W.heap.size, 0, none⟩) 2 2, .slice (some ⟨W.heap.size + 1, 0, none⟩) 2 2] 22)).alloc (.cells #[.int .u8 1, .int .u8 2, .int .u8 3] 5)).heap.size ((((W.alloc (.cells #[.int .u8 3, .int .u8 0] 5)).alloc (.cells #[.int .u8 5, .int .u8 6] 5)).alloc (.cells #[.slice none 0 0, .slice (some ⟨W.heap.size, 0, none⟩) 2 2, .slice (some ⟨W.heap.size + 1, 0, none⟩) 2 2] 22)).alloc (.cells #[.int .u8 1, .int .u8 2, .int .u8 3] 5)) w' := by
  refine (dec_ex P hE _ _ (W.heap.size) (W.heap.size + 1) h ?_ ?_ ?_ ?_ ?_ ?_ ?_).mono ?_
  rotate_left 7
  · rintro e w' ⟨A', c', rfl, hx, hb⟩
    exact ⟨A', c', rfl, hx, three_at hb (by simp [go_sem]) (by simp [go_sem]) (by simp [go_sem]), hb⟩
  all_goals simp [go_sem]
theorem dec_at5 {Env : World → Prop} (P : Prg Env) {bx bw g0 c1 : Nat} {A1 : Option Addr} {wR : World} (hE : Env wR) (W : World) (h : (((W.alloc (.cells #[.int .u8 5, .int .u8 6] 5)).alloc (.cells #[.int .u8 3, .int .u8 0] 5)).alloc (.cells #[.slice none 0 0, .slice (some ⟨W.heap.size + 1, 0, none⟩) 2 2, .slice (some ⟨W.heap.size, 0, none⟩) 2 2] 22)).cell? ⟨bx, 0, none⟩ = some (.slice A1 3 c1) ∧ (((W.alloc (.cells #[.int .u8 5, .int .u8 6] 5)).alloc (.cells #[.int .u8 3, .int .u8 0] 5)).alloc (.cells #[.slice none 0 0, .slice (some ⟨W.heap.size + 1, 0, none⟩) 2 2, .slice (some ⟨W.heap.size, 0, none⟩) 2 2] 22)).cell? ⟨bx, 1, none⟩ = some (.int .i64 0) ∧ (((W.alloc (.cells #[.int .u8 5, .int .u8 6] 5)).alloc (.cells #[.int .u8 3, .int .u8 0] 5)).alloc (.cells #[.slice none 0 0, .slice (some ⟨W.heap.size + 1, 0, none⟩) 2 2, .slice (some ⟨W.heap.size, 0, none⟩) 2 2] 22)).cell? ⟨bw, 0, none⟩ = some (.slice (some ⟨g0, 0, none⟩) 2 2) ∧ Below wR.heap.size wR (((W.alloc (.cells #[.int .u8 5, .int .u8 6] 5)).alloc (.cells #[.int .u8 3, .int .u8 0] 5)).alloc (.cells #[.slice none 0 0, .slice (some ⟨W.heap.size + 1, 0, none⟩) 2 2, .slice (some ⟨W.heap.size, 0, none⟩) 2 2] 22))) :
    Calls Try.prog 15 #[.slice (some ⟨W.heap.size + 1 + 1, 0, none⟩) 3 3, .int .i64 2, .int .i64 3] (((W.alloc (.cells #[.int .u8 5, .int .u8 6] 5)).alloc (.cells #[.int .u8 3, .int .u8 0] 5)).alloc (.cells #[.slice none 0 0, .slice (some ⟨W.heap.size + 1, 0, none⟩) 2 2, .slice (some ⟨W.heap.size, 0, none⟩) 2 2] 22)) fun e w' => ∃ A' c', e = .returned (.agg #[.slice A' 3 c', .int .i64 0]) ∧ Byts w' A' [1, 2, 3] ∧ Below (((W.alloc (.cells #[.int .u8 5, .int .u8 6] 5)).alloc (.cells #[.int .u8 3, .int .u8 0] 5)).alloc (.cells #[.slice none 0 0, .slice (some ⟨W.heap.size + 1, 0, none⟩) 2 2, .slice (some ⟨W.heap.size, 0, none⟩) 2 2] 22)).heap.size (((W.alloc (.cells #[.int .u8 5, .int .u8 6] 5)).alloc (.cells #[.int .u8 3, .int .u8 0] 5)).alloc (.cells #[.slice none 0 0, .slice (some ⟨W.heap.size + 1, 0, none⟩) 2 2, .slice (some ⟨W.heap.size, 0, none⟩) 2 2] 22)) w' := by
  refine (dec_ex P hE _ _ (W.heap.size + 1) (W.heap.size) h ?_ ?_ ?_ ?_ ?_ ?_ ?_).mono ?_
  rotate_left 7
  · rintro e w' ⟨A', c', rfl, hx, hb⟩
    exact ⟨A', c', rfl, hx, hb⟩
  all_goals simp [go_sem]
theorem dec_at6 {Env : World → Prop} (P : Prg Env) {bx bw g0 c1 : Nat} {A1 : Option Addr} {wR : World} (hE : Env wR) (W : World) (h : ((((W.alloc (.cells #[.int .u8 1, .int .u8 2, .int .u8 3] 5)).alloc (.cells #[.int .u8 5, .int .u8 6] 5)).alloc (.cells #[.int .u8 3, .int .u8 0] 5)).alloc (.cells #[.slice none 0 0, .slice (some ⟨W.heap.size + 1 + 1, 0, none⟩) 2 2, .slice (some ⟨W.heap.size + 1, 0, none⟩) 2 2] 22)).cell? ⟨bx, 0, none⟩ = some (.slice A1 3 c1) ∧ ((((W.alloc (.cells #[.int .u8 1, .int .u8 2, .int .u8 3] 5)).alloc (.cells #[.int .u8 5, .int .u8 6] 5)).alloc (.cells #[.int .u8 3, .int .u8 0] 5)).alloc (.cells #[.slice none 0 0, .slice (some ⟨W.heap.size + 1 + 1, 0, none⟩) 2 2, .slice (some ⟨W.heap.size + 1, 0, none⟩) 2 2] 22)).cell? ⟨bx, 1, none⟩ = some (.int .i64 0) ∧ ((((W.alloc (.cells #[.int .u8 1, .int .u8 2, .int .u8 3] 5)).alloc (.cells #[.int .u8 5, .int .u8 6] 5)).alloc (.cells #[.int .u8 3, .int .u8 0] 5)).alloc (.cells #[.slice none 0 0, .slice (some ⟨W.heap.size + 1 + 1, 0, none⟩) 2 2, .slice (some ⟨W.heap.size + 1, 0, none⟩) 2 2] 22)).cell? ⟨bw, 0, none⟩ = some (.slice (some ⟨g0, 0, none⟩) 2 2) ∧ Below wR.heap.size wR ((((W.alloc (.cells #[.int .u8 1, .int .u8 2, .int .u8 3] 5)).alloc (.cells #[.int .u8 5, .int .u8 6] 5)).alloc (.cells #[.int .u8 3, .int .u8 0] 5)).alloc (.cells #[.slice none 0 0, .slice (some ⟨W.heap.size + 1 + 1, 0, none⟩) 2 2, .slice (some ⟨W.heap.size + 1, 0, none⟩) 2 2] 22))) :
    Calls Try.prog 15 #[.slice (some ⟨W.heap.size + 1 + 1 + 1, 0, none⟩) 3 3, .int .i64 2, .int .i64 3] ((((W.alloc (.cells #[.int .u8 1, .int .u8 2, .int .u8 3] 5)).alloc (.cells #[.int .u8 5, .int .u8 6] 5)).alloc (.cells #[.int .u8 3, .int .u8 0] 5)).alloc (.cells #[.slice none 0 0, .slice (some ⟨W.heap.size + 1 + 1, 0, none⟩) 2 2, .slice (some ⟨W.heap.size + 1, 0, none⟩) 2 2] 22)) fun e w' => ∃ A' c', e = .returned (.agg #[.slice A' 3 c', .int .i64 0]) ∧ Byts w' A' [1, 2, 3] ∧ Byts w' (some ⟨W.heap.size, 0, none⟩) [1, 2, 3] ∧ Below ((((W.alloc (.cells #[.int .u8 1, .int .u8 2, .int .u8 3] 5)).alloc (.cells #[.int .u8 5, .int .u8 6] 5)).alloc (.cells #[.int .u8 3, .int .u8 0] 5)).alloc (.cells #[.slice none 0 0, .slice (some ⟨W.heap.size + 1 + 1, 0, none⟩) 2 2, .slice (some ⟨W.heap.size + 1, 0, none⟩) 2 2] 22)).heap.size ((((W.alloc (.cells #[.int .u8 1, .int .u8 2, .int .u8 3] 5)).alloc (.cells #[.int .u8 5, .int .u8 6] 5)).alloc (.cells #[.int .u8 3, .int .u8 0] 5)).alloc (.cells #[.slice none 0 0, .slice (some ⟨W.heap.size + 1 + 1, 0, none⟩) 2 2, .slice (some ⟨W.heap.size + 1, 0, none⟩) 2 2] 22)) w' := by
  refine (dec_ex P hE _ _ (W.heap.size + 1 + 1) (W.heap.size + 1) h ?_ ?_ ?_ ?_ ?_ ?_ ?_).mono ?_
  rotate_left 7
  · rintro e w' ⟨A', c', rfl, hx, hb⟩
    exact ⟨A', c', rfl, hx, three_at hb (by simp [go_sem]) (by simp [go_sem]) (by simp [go_sem]), hb⟩
  all_goals simp [go_sem]
theorem dec_at7 {Env : World → Prop} (P : Prg Env) {bx bw g0 c1 : Nat} {A1 : Option Addr} {wR : World} (hE : Env wR) (W : World) (h : ((((W.alloc (.cells #[.int .u8 5, .int .u8 6] 5)).alloc (.cells #[.int .u8 1, .int .u8 2, .int .u8 3] 5)).alloc (.cells #[.int .u8 3, .int .u8 0] 5)).alloc (.cells #[.slice none 0 0, .slice (some ⟨W.heap.size + 1 + 1, 0, none⟩) 2 2, .slice (some ⟨W.heap.size, 0, none⟩) 2 2] 22)).cell? ⟨bx, 0, none⟩ = some (.slice A1 3 c1) ∧ ((((W.alloc (.cells #[.int .u8 5, .int .u8 6] 5)).alloc (.cells #[.int .u8 1, .int .u8 2, .int .u8 3] 5)).alloc (.cells #[.int .u8 3, .int .u8 0] 5)).alloc (.cells #[.slice none 0 0, .slice (some ⟨W.heap.size + 1 + 1, 0, none⟩) 2 2, .slice (some ⟨W.heap.size, 0, none⟩) 2 2] 22)).cell? ⟨bx, 1, none⟩ = some (.int .i64 0) ∧ ((((W.alloc (.cells #[.int .u8 5, .int .u8 6] 5)).alloc (.cells #[.int .u8 1, .int .u8 2, .int .u8 3] 5)).alloc (.cells #[.int .u8 3, .int .u8 0] 5)).alloc (.cells #[.slice none 0 0, .slice (some ⟨W.heap.size + 1 + 1, 0, none⟩) 2 2, .slice (some ⟨W.heap.size, 0, none⟩) 2 2] 22)).cell? ⟨bw, 0, none⟩ = some (.slice (some ⟨g0, 0, none⟩) 2 2) ∧ Below wR.heap.size wR ((((W.alloc (.cells #[.int .u8 5, .int .u8 6] 5)).alloc (.cells #[.int .u8 1, .int .u8 2, .int .u8 3] 5)).alloc (.cells #[.int .u8 3, .int .u8 0] 5)).alloc (.cells #[.slice none 0 0, .slice (some ⟨W.heap.size + 1 + 1, 0, none⟩) 2 2, .slice (some ⟨W.heap.size, 0, none⟩) 2 2] 22))) :
    Calls Try.prog 15 #[.slice (some ⟨W.heap.size + 1 + 1 + 1, 0, none⟩) 3 3, .int .i64 2, .int .i64 3] ((((W.alloc (.cells #[.int .u8 5, .int .u8 6] 5)).alloc (.cells #[.int .u8 1, .int .u8 2, .int .u8 3] 5)).alloc (.cells #[.int .u8 3, .int .u8 0] 5)).alloc (.cells #[.slice none 0 0, .slice (some ⟨W.heap.size + 1 + 1, 0, none⟩) 2 2, .slice (some ⟨W.heap.size, 0, none⟩) 2 2] 22)) fun e w' => ∃ A' c', e = .returned (.agg #[.slice A' 3 c', .int .i64 0]) ∧ Byts w' A' [1, 2, 3] ∧ Byts w' (some ⟨W.heap.size + 1, 0, none⟩) [1, 2, 3] ∧ Below ((((W.alloc (.cells #[.int .u8 5, .int .u8 6] 5)).alloc (.cells #[.int .u8 1, .int .u8 2, .int .u8 3] 5)).alloc (.cells #[.int .u8 3, .int .u8 0] 5)).alloc (.cells #[.slice none 0 0, .slice (some ⟨W.heap.size + 1 + 1, 0, none⟩) 2 2, .slice (some ⟨W.heap.size, 0, none⟩) 2 2] 22)).heap.size ((((W.alloc (.cells #[.int .u8 5, .int .u8 6] 5)).alloc (.cells #[.int .u8 1, .int .u8 2, .int .u8 3] 5)).alloc (.cells #[.int .u8 3, .int .u8 0] 5)).alloc (.cells #[.slice none 0 0, .slice (some ⟨W.heap.size + 1 + 1, 0, none⟩) 2 2, .slice (some ⟨W.heap.size, 0, none⟩) 2 2] 22)) w' := by
  refine (dec_ex P hE _ _ (W.heap.size + 1 + 1) (W.heap.size) h ?_ ?_ ?_ ?_ ?_ ?_ ?_).mono ?_
  rotate_left 7
  · rintro e w' ⟨A', c', rfl, hx, hb⟩
    exact ⟨A', c', rfl, hx, three_at hb (by simp [go_sem]) (by simp [go_sem]) (by simp [go_sem]), hb⟩
  all_goals simp [go_sem]
theorem dec_at8 {Env : World → Prop} (P : Prg Env) {bx bw g0 c1 : Nat} {A1 : Option Addr} {wR : World} (hE : Env wR) (W : World) (h : ((((W.alloc (.cells #[.int .u8 5, .int .u8 6] 5)).alloc (.cells #[.int .u8 3, .int .u8 0] 5)).alloc (.cells #[.int .u8 1, .int .u8 2, .int .u8 3] 5)).alloc (.cells #[.slice none 0 0, .slice (some ⟨W.heap.size + 1, 0, none⟩) 2 2, .slice (some ⟨W.heap.size, 0, none⟩) 2 2] 22)).cell? ⟨bx, 0, none⟩ = some (.slice A1 3 c1) ∧ ((((W.alloc (.cells #[.int .u8 5, .int .u8 6] 5)).alloc (.cells #[.int .u8 3, .int .u8 0] 5)).alloc (.cells #[.int .u8 1, .int .u8 2, .int .u8 3] 5)).alloc (.cells #[.slice none 0 0, .slice (some ⟨W.heap.size + 1, 0, none⟩) 2 2, .slice (some ⟨W.heap.size, 0, none⟩) 2 2] 22)).cell? ⟨bx, 1, none⟩ = some (.int .i64 0) ∧ ((((W.alloc (.cells #[.int .u8 5, .int .u8 6] 5)).alloc (.cells #[.int .u8 3, .int .u8 0] 5)).alloc (.cells #[.int .u8 1, .int .u8 2, .int .u8 3] 5)).alloc (.cells #[.slice none 0 0, .slice (some ⟨W.heap.size + 1, 0, none⟩) 2 2, .slice (some ⟨W.heap.size, 0, none⟩) 2 2] 22)).cell? ⟨bw, 0, none⟩ = some (.slice (some ⟨g0, 0, none⟩) 2 2) ∧ Below wR.heap.size wR ((((W.alloc (.cells #[.int .u8 5, .int .u8 6] 5)).alloc (.cells #[.int .u8 3, .int .u8 0] 5)).alloc (.cells #[.int .u8 1, .int .u8 2, .int .u8 3] 5)).alloc (.cells #[.slice none 0 0, .slice (some ⟨W.heap.size + 1, 0, none⟩) 2 2, .slice (some ⟨W.heap.size, 0, none⟩) 2 2] 22))) :
    Calls Try.prog 15 #[.slice (some ⟨W.heap.size + 1 + 1 + 1, 0, none⟩) 3 3, .int .i64 2, .int .i64 3] ((((W.alloc (.cells #[.int .u8 5, .int .u8 6] 5)).alloc (.cells #[.int .u8 3, .int .u8 0] 5)).alloc (.cells #[.int .u8 1, .int .u8 2, .int .u8 3] 5)).alloc (.cells #[.slice none 0 0, .slice (some ⟨W.heap.size + 1, 0, none⟩) 2 2, .slice (some ⟨W.heap.size, 0, none⟩) 2 2] 22)) fun e w' => ∃ A' c', e = .returned (.agg #[.slice A' 3 c', .int .i64 0]) ∧ Byts w' A' [1, 2, 3] ∧ Byts w' (some ⟨W.heap.size + 1 + 1, 0, none⟩) [1, 2, 3] ∧ Below ((((W.alloc (.cells #[.int .u8 5, .int .u8 6] 5)).alloc (.cells #[.int .u8 3, .int .u8 0] 5)).alloc (.cells #[.int .u8 1, .int .u8 2, .int .u8 3] 5)).alloc (.cells #[.slice none 0 0, .slice (some ⟨W.heap.size + 1, 0, none⟩) 2 2, .slice (some ⟨W.heap.size, 0, none⟩) 2 2] 22)).heap.size ((((W.alloc (.cells #[.int .u8 5, .int .u8 6] 5)).alloc (.cells #[.int .u8 3, .int .u8 0] 5)).alloc (.cells #[.int .u8 1, .int .u8 2, .int .u8 3] 5)).alloc (.cells #[.slice none 0 0, .slice (some ⟨W.heap.size + 1, 0, none⟩) 2 2, .slice (some ⟨W.heap.size, 0, none⟩) 2 2] 22)) w' := by
  refine (dec_ex P hE _ _ (W.heap.size + 1) (W.heap.size) h ?_ ?_ ?_ ?_ ?_ ?_ ?_).mono ?_
  rotate_left 7
  · rintro e w' ⟨A', c', rfl, hx, hb⟩
    exact ⟨A', c', rfl, hx, three_at hb (by simp [go_sem]) (by simp [go_sem]) (by simp [go_sem]), hb⟩
  all_goals simp [go_sem]
theorem dec_at9 {Env : World → Prop} (P : Prg Env) {bx bw g0 c1 : Nat} {A1 : Option Addr} {wR : World} (hE : Env wR) (W : World) (h : ((((W.alloc (.cells #[.int .u8 5, .int .u8 6] 5)).alloc (.cells #[.int .u8 3, .int .u8 0] 5)).alloc (.cells #[.slice none 0 0, .slice (some ⟨W.heap.size + 1, 0, none⟩) 2 2, .slice (some ⟨W.heap.size, 0, none⟩) 2 2] 22)).alloc (.cells #[.int .u8 1, .int .u8 2, .int .u8 3] 5)).cell? ⟨bx, 0, none⟩ = some (.slice A1 3 c1) ∧ ((((W.alloc (.cells #[.int .u8 5, .int .u8 6] 5)).alloc (.cells #[.int .u8 3, .int .u8 0] 5)).alloc (.cells #[.slice none 0 0, .slice (some ⟨W.heap.size + 1, 0, none⟩) 2 2, .slice (some ⟨W.heap.size, 0, none⟩) 2 2] 22)).alloc (.cells #[.int .u8 1, .int .u8 2, .int .u8 3] 5)).cell? ⟨bx, 1, none⟩ = some (.int .i64 0) ∧ ((((W.alloc (.cells #[.int .u8 5, .int .u8 6] 5)).alloc (.cells #[.int .u8 3, .int .u8 0] 5)).alloc (.cells #[.slice none 0 0, .slice (some ⟨W.heap.size + 1, 0, none⟩) 2 2, .slice (some ⟨W.heap.size, 0, none⟩) 2 2] 22)).alloc (.cells #[.int .u8 1, .int .u8 2, .int .u8 3] 5)).cell? ⟨bw, 0, none⟩ = some (.slice (some ⟨g0, 0, none⟩) 2 2) ∧ Below wR.heap.size wR ((((W.alloc (.cells #[.int .u8 5, .int .u8 6] 5)).alloc (.cells #[.int .u8 3, .int .u8 0] 5)).alloc (.cells #[.slice none 0 0, .slice (some ⟨W.heap.size + 1, 0, none⟩) 2 2, .slice (some ⟨W.heap.size, 0, none⟩) 2 2] 22)).alloc (.cells #[.int .u8 1, .int .u8 2, .int .u8 3] 5))) :
    Calls Try.prog 15 #[.slice (some ⟨W.heap.size + 1 + 1, 0, none⟩) 3 3, .int .i64 2, .int .i64 3] ((((W.alloc (.cells #[.int .u8 5, .int .u8 6] 5)).alloc (.cells #[.int .u8 3, .int .u8 0] 5)).alloc (.cells #[.slice none 0 0, .slice (some ⟨W.heap.size + 1, 0, none⟩) 2 2, .slice (some ⟨W.heap.size, 0, none⟩) 2 2] 22)).alloc (.cells #[.int .u8 1, .int .u8 2, .int .u8 3] 5)) fun e w' => ∃ A' c', e = .returned (.agg #[.slice A' 3 c', .int .i64 0]) ∧ Byts w' A' [1, 2, 3] ∧ Byts w' (some ⟨W.heap.size + 1 + 1 + 1, 0, none⟩) [1, 2, 3] ∧ Below ((((W.alloc (.cells #[.int .u8 5, .int .u8 6] 5)).alloc (.cells #[.int .u8 3, .int .u8 0] 5)).alloc (.cells #[.slice none 0 0, .slice (some ⟨W.heap.size + 1, 0, none⟩) 2 2, .slice (some ⟨W.heap.size, 0, none⟩) 2 2] 22)).alloc (.cells #[.int .u8 1, .int .u8 2, .int .u8 3] 5)).heap.size ((((W.alloc (.cells #[.int .u8 5, .int .u8 6] 5)).alloc (.cells #[.int .u8 3, .int .u8 0] 5)).alloc (.cells #[.slice none 0 0, .slice (some ⟨W.heap.size + 1, 0, none⟩) 2 2, .slice (some ⟨W.heap.size, 0, none⟩) 2 2] 22)).alloc (.cells #[.int .u8 1, .int .u8 2, .int .u8 3] 5)) w' := by
  refine (dec_ex P hE _ _ (W.heap.size + 1) (W.heap.size) h ?_ ?_ ?_ ?_ ?_ ?_ ?_).mono ?_
  rotate_left 7
  · rintro e w' ⟨A', c', rfl, hx, hb⟩
    exact ⟨A', c', rfl, hx, three_at hb (by simp [go_sem]) (by simp [go_sem]) (by simp [go_sem]), hb⟩
  all_goals simp [go_sem]
theorem sanS_end {bx bw g0 c1 : Nat} {A1 : Option Addr} {wR W w : World} (h : W.cell? ⟨bx, 0, none⟩ = some (.slice A1 3 c1) ∧ W.cell? ⟨bx, 1, none⟩ = some (.int .i64 0) ∧ W.cell? ⟨bw, 0, none⟩ = some (.slice (some ⟨g0, 0, none⟩) 2 2) ∧ Below wR.heap.size wR W) (hB : Below w.heap.size w wR) : Below w.heap.size w W := hB.trans (h.2.2.2.mono hB.size)
theorem same_ex (W : World) (A A2 : Option Addr) (c : Nat) (h : Byts W A [1, 2, 3]) (h2 : Byts W A2 [1, 2, 3]) :
    Calls Try.prog 14 #[.agg #[.slice A 3 c, .int .i64 0], .agg #[.slice A2 3 3, .int .i64 0]] W fun d w' => d = .returned (.bool true) ∧ Below W.heap.size W w' := by
  have := Same_any A A2 3 c 3 3 [1, 2, 3] [1, 2, 3] rfl rfl 0 0 W h h2
  simpa using this
theorem same_lit (W : World) (A : Option Addr) (c : Nat) (h : Byts W A [1, 2, 3]) :
    Calls Try.prog 14 #[.agg #[.slice A 3 c, .int .i64 0], .agg #[.slice (some ⟨W.heap.size, 0, none⟩) 3 3, .int .i64 0]] (W.alloc (.cells #[.int .u8 1, .int .u8 2, .int .u8 3] 5)) fun d w' => d = .returned (.bool true) ∧ Below (W.alloc (.cells #[.int .u8 1, .int .u8 2, .int .u8 3] 5)).heap.size (W.alloc (.cells #[.int .u8 1, .int .u8 2, .int .u8 3] 5)) w' :=
  same_ex _ A _ c (h.below ((Below.refl _ W).alloc (Nat.le_refl _) _)) (three_byts (by simp [go_sem]) (by simp [go_sem]) (by simp [go_sem])).byts.byts
theorem same_two (W : World) (A A2 : Option Addr) (c : Nat) (h : Byts W A [1, 2]) (h2 : Byts W A2 [1, 2]) :
    Calls Try.prog 14 #[.agg #[.slice A 2 c, .int .i64 0], .agg #[.slice A2 2 2, .int .i64 0]] W fun d w' => d = .returned (.bool true) ∧ Below W.heap.size W w' := by
  have := Same_any A A2 2 c 2 2 [1, 2] [1, 2] rfl rfl 0 0 W h h2
  simpa using this
theorem reb_ex {Env : World → Prop} (P : Prg Env) (A : Option Addr) (W : World) (hE : Env W) (h : Sll (fun _ => True) (fun _ => True) W A 3 3 wantL) :
    Calls Try.prog 17 #[.slice A 3 3, .int .i64 2, .int .i64 0] W fun e w' => ∃ A' c', e = .returned (.agg #[.slice A' 2 c', .int .i64 0]) ∧ Byts w' A' [1, 2] ∧ Below W.heap.size W w' := by
  refine (reb_yes P (fun _ => True) (fun _ => True) A 3 3 wantL 2 0 W hE h short_want (by decide) (by decide) ex_rep).mono ?_
  rintro e w' ⟨A', m, c', rfl, hS, hb⟩
  rw [ex_reb] at hS
  obtain rfl : 2 = m := hS.len
  exact ⟨A', c', rfl, hS.byts.byts, hb⟩
theorem chk_ex {Env : World → Prop} (P : Prg Env) (A : Option Addr) (W : World) (hE : Env W) (h : Sll (fun _ => True) (fun _ => True) W A 3 3 wantL) :
    Calls Try.prog 19 #[.slice A 3 3, .int .i64 2] W fun e w' => e = .returned (.bool true) ∧ Below W.heap.size W w' := by
  have := P.chk (fun _ => True) (fun _ => True) A 3 3 wantL 2 W hE h short_want (by decide)
  rw [ex_chk] at this
  exact this

/-- The world behind the first list of slices. -/
def litW (w : World) : World := ((((w.alloc (.cells #[.int .u8 1, .int .u8 2] 5)).alloc (.cells #[.int .u8 3, .int .u8 0] 5)).alloc (.cells #[.int .u8 5, .int .u8 6] 5)).alloc
  (.cells #[.slice (some ⟨w.heap.size, 0, none⟩) 2 2, .slice (some ⟨w.heap.size + 1, 0, none⟩) 2 2, .slice (some ⟨w.heap.size + 1 + 1, 0, none⟩) 2 2] 22)).alloc (.cells #[.int .u8 1, .int .u8 2, .int .u8 3] 5)
theorem litW_below (w : World) : Below w.heap.size w (litW w) := by unfold litW; go_grown
theorem litW_want (w : World) : Sll (fun _ => True) (fun _ => True) (litW w) (some ⟨w.heap.size + 1 + 1 + 1, 0, none⟩) 3 3 wantL := by
  unfold litW
  refine want_rows (g0 := w.heap.size) (g1 := w.heap.size + 1) (g2 := w.heap.size + 1 + 1) ?_ ?_ ?_ ?_ ?_ ?_ ?_ ?_ ?_
  all_goals simp [go_sem]
theorem litW_first (w : World) : (litW w).cell? ⟨w.heap.size + 1 + 1 + 1, 0, none⟩ = some (.slice (some ⟨w.heap.size, 0, none⟩) 2 2) ∧ Byts (litW w) (some ⟨w.heap.size, 0, none⟩) [1, 2] := by
  refine ⟨by simp [litW, go_sem], (two_byts (a := 1) (b := 2) rfl ?_ ?_ _ rfl).2.byts⟩
  all_goals simp [litW, go_sem]
theorem litW_three (w : World) : Slb (fun _ => True) (litW w) (some ⟨w.heap.size + 1 + 1 + 1 + 1, 0, none⟩) 3 3 [1, 2, 3] := by
  unfold litW
  refine three_byts ?_ ?_ ?_
  all_goals simp [go_sem]

set_option maxHeartbeats 8000000 in
set_option maxRecDepth 20000 in
theorem sanity_any {Env : World → Prop} (P : Prg Env) : SanOk Env := by
  intro w hE
  have HP := Lib.hid P
  have m1 := Lib.hid (fun W hW => mul_is P 2 128 2 128 29 rfl rfl g_mul1 W hW)
  have m2 := Lib.hid (fun W hW => mul_is P 3 7 3 7 9 rfl rfl g_mul2 W hW)
  have i1 := Lib.hid (fun W hW => inv_is P 2 2 142 rfl g_inv1 W hW)
  have i2 := Lib.hid (fun W hW => inv_is P 0 0 0 rfl g_inv2 W hW)
  have k1' := (fun W A h hW => enc_yes P (fun _ => True) A 3 3 [1, 2, 3] 2 3 W hW h (by decide) (by decide) (by decide) (by decide))
  rw [ex_enc] at k1'
  simp only [Int.cast_ofNat_Int] at k1'
  have k1 := Lib.hid k1'
  have k2 := Lib.hid (fun W hW => enc_no P (fun _ => True) none 0 0 [] 3 2 W hW ⟨rfl, Nat.le_refl _, by decide, fun _ => rfl, BytsO.nil⟩ (by decide) (by decide) (by decide) (by decide))
  have k3 := Lib.hid (fun W A h hW => dec_arg P (fun _ => True) (fun _ => True) A 1 3 (wantL.take 1) 2 3 W hW h (.inl (by decide)) (by decide) (by decide))
  have L3 := Lib.hid (litW_three w)
  have LE := Lib.hid (P.env hE (litW_below w))
  have LW := Lib.hid (litW_want w)
  have LB := Lib.hid (litW_below w)
  have K1 := k1.out (litW w) _ L3.out LE.out
  have LB2 := LB.out
  have LW2 := LW.out
  have LE2 := LE.out
  unfold litW at K1 LB2 LW2 LE2
  have HK1 := Lib.hid K1; have LB := Lib.hid LB2; have LW := Lib.hid LW2; have LE := Lib.hid LE2
  clear P K1 LB2 LW2 LE2 L3 k1'
  have kf1 := field_sh
  have kf2 := field_by
  go_enter Try.func10, Try.ntmps10
  go_wp2_with (first
    | (go_at_call 11; first
        | (with_reducible refine HK1.out.mono ?_; rintro e w1 ⟨A1, c1, rfl, hx, hb1⟩; have hE1 := HP.out.env LE.out hb1; have HX := Lib.hid (hx.below ((Below.refl _ w1).alloc (Nat.le_refl _) (.cells #[.slice A1 3 c1, .int .i64 0] 29))); have hE := HP.out.env hE1 ((Below.refl _ w1).alloc (Nat.le_refl _) (.cells #[.slice A1 3 c1, .int .i64 0] 29)); have HW := Lib.hid ((LW.out.below hb1).below ((Below.refl _ w1).alloc (Nat.le_refl _) (.cells #[.slice A1 3 c1, .int .i64 0] 29))); have HB0 := Lib.hid ((LB.out.trans (hb1.mono LB.out.size)).alloc (Nat.le_trans LB.out.size hb1.size) (.cells #[.slice A1 3 c1, .int .i64 0] 29)); have hB := Below.refl (w1.alloc (.cells #[.slice A1 3 c1, .int .i64 0] 29)).heap.size (w1.alloc (.cells #[.slice A1 3 c1, .int .i64 0] 29)))
        | (with_reducible refine (k2.out _ hE).mono ?_; rintro e w' ⟨A2, c2, rfl, hb⟩; have hE := HP.out.env hE hb; have hB := hB.trans (hb.mono hB.size)))
    | (go_at_call 21; (first | with_reducible refine (m1.out _ hE).mono ?_ | with_reducible refine (m2.out _ hE).mono ?_); rintro e w' ⟨rfl, hb⟩; have hE := HP.out.env hE hb; have hB := hB.trans (hb.mono hB.size))
    | (go_at_call 23; (first | with_reducible refine (i1.out _ hE).mono ?_ | with_reducible refine (i2.out _ hE).mono ?_); rintro e w' ⟨rfl, hb⟩; have hE := HP.out.env hE hb; have hB := hB.trans (hb.mono hB.size))
    | (go_at_call 15; first
        | (with_reducible refine (k3.out _ _ ((HW.out.below hB).front 1 (by decide)) hE).mono ?_; rintro e w' ⟨A3, c3, rfl, hb⟩; have hE := HP.out.env hE hb; have hB := hB.trans (hb.mono hB.size))
        | (with_reducible refine (row_call HP.out _ hE).mono ?_; rintro e w' ⟨A4, c4, rfl, hb⟩; have hE := HP.out.env hE hb; have hB := hB.trans (hb.mono hB.size))))
  obtain ⟨wR, hwR⟩ : ∃ W, W = w' := ⟨_, rfl⟩
  subst hwR
  have HXR := Lib.hid (HX.out.below hB)
  have HWR := Lib.hid (HW.out.below hB)
  have HBR := Lib.hid (HB0.out.trans (hB.mono HB0.out.size))
  have HE := Lib.hid hE
  have z0 : (w1.alloc (.cells #[.slice A1 3 c1, .int .i64 0] 29)).cell? ⟨w1.heap.size, 0, none⟩ = some (.slice A1 3 c1) := by simp [go_sem]
  have z1 : (w1.alloc (.cells #[.slice A1 3 c1, .int .i64 0] 29)).cell? ⟨w1.heap.size, 1, none⟩ = some (.int .i64 0) := by simp [go_sem]
  have hbl : Below (litW w).heap.size (litW w) wR := (hb1.alloc hb1.size _).trans (hB.mono (Nat.le_trans hb1.size (by simp)))
  have z2 : wR.cell? ⟨w.heap.size + 1 + 1 + 1, 0, none⟩ = some (.slice (some ⟨w.heap.size, 0, none⟩) 2 2) := (hbl.cell (by simp [litW])).trans (litW_first w).1
  have ZB := Lib.hid ((litW_first w).2.below hbl)
  have HS0 := Lib.hid (show wR.cell? ⟨w1.heap.size, 0, none⟩ = some (.slice A1 3 c1) ∧ wR.cell? ⟨w1.heap.size, 1, none⟩ = some (.int .i64 0) ∧ wR.cell? ⟨w.heap.size + 1 + 1 + 1, 0, none⟩ = some (.slice (some ⟨w.heap.size, 0, none⟩) 2 2) ∧ Below wR.heap.size wR wR from ⟨(hB.cell (block_lt_of_cell z0)).trans z0, (hB.cell (block_lt_of_cell z1)).trans z1, z2, Below.refl _ _⟩)
  have SS := Lib.hid (fun W (h : W.cell? ⟨w1.heap.size, 0, none⟩ = some (.slice A1 3 c1) ∧ W.cell? ⟨w1.heap.size, 1, none⟩ = some (.int .i64 0) ∧ W.cell? ⟨w.heap.size + 1 + 1 + 1, 0, none⟩ = some (.slice (some ⟨w.heap.size, 0, none⟩) 2 2) ∧ Below wR.heap.size wR W) => same_shards A1 (some ⟨w.heap.size + 1 + 1 + 1, 0, none⟩) 3 c1 3 3 wantL wantL rfl rfl (by decide) W (HXR.out.lists.lists.below h.2.2.2) (HWR.out.lists.lists.below h.2.2.2))
  have RR := Lib.hid (fun W (h : W.cell? ⟨w1.heap.size, 0, none⟩ = some (.slice A1 3 c1) ∧ W.cell? ⟨w1.heap.size, 1, none⟩ = some (.int .i64 0) ∧ W.cell? ⟨w.heap.size + 1 + 1 + 1, 0, none⟩ = some (.slice (some ⟨w.heap.size, 0, none⟩) 2 2) ∧ Below wR.heap.size wR W) => reb_ex HP.out (some ⟨w.heap.size + 1 + 1 + 1, 0, none⟩) W (HP.out.env HE.out h.2.2.2) (HWR.out.below h.2.2.2))
  have KC := Lib.hid (fun W (h : W.cell? ⟨w1.heap.size, 0, none⟩ = some (.slice A1 3 c1) ∧ W.cell? ⟨w1.heap.size, 1, none⟩ = some (.int .i64 0) ∧ W.cell? ⟨w.heap.size + 1 + 1 + 1, 0, none⟩ = some (.slice (some ⟨w.heap.size, 0, none⟩) 2 2) ∧ Below wR.heap.size wR W) => chk_ex HP.out (some ⟨w.heap.size + 1 + 1 + 1, 0, none⟩) W (HP.out.env HE.out h.2.2.2) (HWR.out.below h.2.2.2))
  have KA := Lib.hid (fun W (h : W.cell? ⟨w1.heap.size, 0, none⟩ = some (.slice A1 3 c1) ∧ W.cell? ⟨w1.heap.size, 1, none⟩ = some (.int .i64 0) ∧ W.cell? ⟨w.heap.size + 1 + 1 + 1, 0, none⟩ = some (.slice (some ⟨w.heap.size, 0, none⟩) 2 2) ∧ Below wR.heap.size wR W) => HP.out.chkArg (fun _ => True) (fun _ => True) (some ⟨w.heap.size + 1 + 1 + 1, 0, none⟩) 3 3 wantL 0 W (HP.out.env HE.out h.2.2.2) (HWR.out.below h.2.2.2) (by decide) (by decide))
  have S2 := Lib.hid (fun W A c (hA : Byts W A [1, 2]) (h : W.cell? ⟨w1.heap.size, 0, none⟩ = some (.slice A1 3 c1) ∧ W.cell? ⟨w1.heap.size, 1, none⟩ = some (.int .i64 0) ∧ W.cell? ⟨w.heap.size + 1 + 1 + 1, 0, none⟩ = some (.slice (some ⟨w.heap.size, 0, none⟩) 2 2) ∧ Below wR.heap.size wR W) => same_two W A (some ⟨w.heap.size, 0, none⟩) c hA (ZB.out.below h.2.2.2))
  clear hB hE z0 z1 z2 HX HW HB0 HK1 LB LW LE m1 m2 i1 i2 k2 k3 k1 hE1 hx hb1 hbl
  first | (go_region_held (fun W => W.cell? ⟨w1.heap.size, 0, none⟩ = some (.slice A1 3 c1) ∧ W.cell? ⟨w1.heap.size, 1, none⟩ = some (.int .i64 0) ∧ W.cell? ⟨w.heap.size + 1 + 1 + 1, 0, none⟩ = some (.slice (some ⟨w.heap.size, 0, none⟩) 2 2) ∧ Below wR.heap.size wR W) (first | with_reducible exact sanS_below HS0.out (Below.refl _ _).drew | with_reducible exact sanS_alloc (by assumption) _ | with_reducible exact sanS_below (by assumption) hb)
    (first
      | (go_at_call 13; refine (SS.out _ (by assumption)).mono ?_; rintro e w6 ⟨rfl, hb⟩)
      | (go_at_call 15; first
        | (with_reducible refine (dec_at0 HP.out HE.out w6 (by assumption)).mono ?_; rintro e w7 ⟨A5, c5, rfl, hx5, hb⟩)
        | (with_reducible refine (dec_at1 HP.out HE.out w6 (by assumption)).mono ?_; rintro e w7 ⟨A5, c5, rfl, hx5, t3, hb⟩)
        | (with_reducible refine (dec_at2 HP.out HE.out w6 (by assumption)).mono ?_; rintro e w7 ⟨A5, c5, rfl, hx5, t3, hb⟩)
        | (with_reducible refine (dec_at3 HP.out HE.out w6 (by assumption)).mono ?_; rintro e w7 ⟨A5, c5, rfl, hx5, t3, hb⟩)
        | (with_reducible refine (dec_at4 HP.out HE.out w6 (by assumption)).mono ?_; rintro e w7 ⟨A5, c5, rfl, hx5, t3, hb⟩)
        | (with_reducible refine (dec_at5 HP.out HE.out w6 (by assumption)).mono ?_; rintro e w7 ⟨A5, c5, rfl, hx5, hb⟩)
        | (with_reducible refine (dec_at6 HP.out HE.out w6 (by assumption)).mono ?_; rintro e w7 ⟨A5, c5, rfl, hx5, t3, hb⟩)
        | (with_reducible refine (dec_at7 HP.out HE.out w6 (by assumption)).mono ?_; rintro e w7 ⟨A5, c5, rfl, hx5, t3, hb⟩)
        | (with_reducible refine (dec_at8 HP.out HE.out w6 (by assumption)).mono ?_; rintro e w7 ⟨A5, c5, rfl, hx5, t3, hb⟩)
        | (with_reducible refine (dec_at9 HP.out HE.out w6 (by assumption)).mono ?_; rintro e w7 ⟨A5, c5, rfl, hx5, t3, hb⟩))
      | (go_at_call 14; (first | (with_reducible refine (same_ex _ A5 _ c5 hx5 t3).mono ?_) | (with_reducible refine (same_lit _ A5 c5 hx5).mono ?_) | (with_reducible refine (S2.out _ A6 c6 hx6 (by assumption)).mono ?_)); rintro e w8 ⟨rfl, hb⟩)
      | (go_at_call 17; with_reducible refine (RR.out _ (by assumption)).mono ?_; rintro e w9 ⟨A6, c6, rfl, hx6, hb⟩)
      | (go_at_call 19; (first | (with_reducible refine (KC.out _ (by assumption)).mono ?_) | (with_reducible refine (KA.out _ (by assumption)).mono ?_)); rintro e w9 ⟨rfl, hb⟩))) | fail
  all_goals
    go_wp2
    go_ret
    refine ⟨?_, sanS_end (by assumption) HBR.out⟩
    first | rfl | simp
end Go.Proofs.Ytoodeoglpdapiaa
