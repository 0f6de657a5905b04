/-
  Walk of the law file's fixed examples (layer 8), for whatever program keeps its contracts.
-/
import Derived.Test.YtggnklcjhbahhaaEm
import Derived.Test.YtggnklcjhbahhaaEy
import Derived.Lib.SlBytesConst
namespace Go.Proofs.Ytggnklcjhbahhaa
open Go.RowKit Ex
set_option maxHeartbeats 400000
set_option maxRecDepth 100000

def exF : List Pc := [⟨0, 0, 3⟩, ⟨7, 0, 2⟩]
def exS : List Pc := [⟨0, 0, 3⟩, ⟨7, 0, 2⟩, ⟨8, 0, 1⟩]
def exG : List Pc := [⟨0, 0, 3⟩, ⟨-1, 0, 2⟩]
/-- A new row of numbers. -/
theorem si_new (w : World) (xs : List Int) (n s : Nat) (t : TypeId) (hl : xs.length = n * s) (hn : n ≤ 1000) : Si 0 (w.alloc (.cells (ints xs).toArray t)) (some ⟨w.heap.size, 0, none⟩) n n s xs :=
  ⟨hl, Nat.le_refl _, by omega, (fun h => nomatch h), fun _ => ⟨w.heap.size, 0, rfl, Nat.zero_le _, by simp, fun j x hx => by
    rw [cell_of_row _ _ _ _ _ _ (heap_alloc_new w _), Nat.zero_add]
    simpa using ints_get hx⟩⟩

def ex4 : List Pc := [⟨0, 0, 3⟩, ⟨7, 0, 1⟩]
def ex6 : List Pc := [⟨0, 0, 3⟩, ⟨7, 0, 2⟩, ⟨0, 0, 1⟩]
def exP : List Pc := [⟨0, 0, 1⟩, ⟨7, 0, 1⟩]
def exB : List Blb := [(7, [120, 121, 122]), (7, [])]
section
variable {Env : World → Prop} (P : Prg Env) {W : World} (hE : Env W)
include P hE
theorem x_put1 : Calls Try.prog 20 #[.slice none 0 0, .int .i64 3, .int .i64 7, .int .i64 2] W fun e w' => ∃ A' c', e = .returned (.agg #[.slice A' 2 c', .int .i64 0]) ∧ Pcs w' A' exF ∧ Below W.heap.size W w' := by
  refine (put_yes P hE (A := none) (n := 0) (c := 0) (b := []) ⟨rfl, Nat.le_refl _, by omega, fun _ => rfl, fun h => absurd rfl h⟩ (by decide) 3 7 2 (by decide) (by decide) (by decide) (by decide) (by decide)).mono ?_
  rintro e w' ⟨A', m, c', r, rfl, hS, hr, he, hb⟩
  obtain rfl : r = exF := valid_eq hr (by decide) (he.trans (by decide))
  obtain rfl : m = 2 := hS.plen.symm
  exact ⟨A', c', rfl, hS.pcs, hb⟩
variable {A : Option Addr} {c : Nat} (hA : Sp 0 W A 2 c exF)
include hA
theorem x_put2 : Calls Try.prog 20 #[.slice A 2 c, .int .i64 5, .int .i64 8, .int .i64 1] W fun e w' => ∃ A' c', e = .returned (.agg #[.slice A' 3 c', .int .i64 0]) ∧ Pcs w' A' exS ∧ Below W.heap.size W w' := by
  refine (put_yes P hE hA (by decide) 5 8 1 (by decide) (by decide) (by decide) (by decide) (by decide)).mono ?_
  rintro e w' ⟨A', m, c', r, rfl, hS, hr, he, hb⟩
  obtain rfl : r = exS := valid_eq hr (by decide) (he.trans (by decide))
  obtain rfl : m = 3 := hS.plen.symm
  exact ⟨A', c', rfl, hS.pcs, hb⟩
theorem x_cut4 : Calls Try.prog 23 #[.slice A 2 c, .int .i64 4] W fun e w' => ∃ A' c', e = .returned (.agg #[.slice A' 2 c', .int .i64 0]) ∧ Pcs w' A' ex4 ∧ Below W.heap.size W w' := by
  refine (cut_yes P hE hA (by decide) 4 (by decide) (by decide)).mono ?_
  rintro e w' ⟨A', m, c', r, rfl, hS, hr, he, hb⟩
  obtain rfl : r = ex4 := valid_eq hr (by decide) (he.trans (by decide))
  obtain rfl : m = 2 := hS.plen.symm
  exact ⟨A', c', rfl, hS.pcs, hb⟩
theorem x_cut6 : Calls Try.prog 23 #[.slice A 2 c, .int .i64 6] W fun e w' => ∃ A' c', e = .returned (.agg #[.slice A' 3 c', .int .i64 0]) ∧ Pcs w' A' ex6 ∧ Below W.heap.size W w' := by
  refine (cut_yes P hE hA (by decide) 6 (by decide) (by decide)).mono ?_
  rintro e w' ⟨A', m, c', r, rfl, hS, hr, he, hb⟩
  obtain rfl : r = ex6 := valid_eq hr (by decide) (he.trans (by decide))
  obtain rfl : m = 3 := hS.plen.symm
  exact ⟨A', c', rfl, hS.pcs, hb⟩
theorem x_part2 : Calls Try.prog 13 #[.slice A 2 c, .int .i64 2, .int .i64 2] W fun e w' => ∃ A' c', e = .returned (.slice A' 2 c') ∧ Pcs w' A' exP ∧ Below W.heap.size W w' := by
  refine (P.part A 2 c exF 2 2 W hE hA (by decide) (by decide) (by decide)).mono ?_
  rintro e w' ⟨A', m, c', r, rfl, hS, hr, he, hb⟩
  obtain rfl : r = exP := valid_eq hr (by decide) (he.trans (by decide))
  obtain rfl : m = 2 := hS.plen.symm
  exact ⟨A', c', rfl, hS.pcs, hb⟩
theorem x_part5 : Calls Try.prog 13 #[.slice A 2 c, .int .i64 5, .int .i64 1] W fun e w' => ∃ A' c', e = .returned (.slice A' 0 c') ∧ Below W.heap.size W w' := by
  refine (P.part A 2 c exF 5 1 W hE hA (by decide) (by decide) (by decide)).mono ?_
  rintro e w' ⟨A', m, c', r, rfl, hS, hr, he, hb⟩
  obtain rfl : r = [] := valid_eq hr (by decide) (he.trans (by decide))
  obtain rfl : m = 0 := hS.plen.symm
  exact ⟨A', c', rfl, hb⟩
theorem x_erase (A2 : Option Addr) (c2 : Nat) (h2 : Si 0 W A2 1 c2 1 [7]) : Calls Try.prog 24 #[.slice A 2 c, .slice A2 1 c2] W fun e w' => ∃ A' c', e = .returned (.slice A' 2 c') ∧ Pcs w' A' exG ∧ Below W.heap.size W w' := by
  refine (P.erase A A2 2 c 1 c2 exF [7] W hE hA (by decide) h2 (by decide)).mono ?_
  rintro e w' ⟨A', m, c', r, rfl, hS, hr, he, hb⟩
  obtain rfl : r = exG := valid_eq hr (by decide) (he.trans (by decide))
  obtain rfl : m = 2 := hS.plen.symm
  exact ⟨A', c', rfl, hS.pcs, hb⟩
end
theorem x_same (A A2 : Option Addr) (n c c2 : Nat) (l : List Pc) (hn : l.length = n) (hl : n ≤ 100) {W : World} (hA : Pcs W A l) (hA2 : Pcs W A2 l) :
    Calls Try.prog 22 #[.agg #[.slice A n c, .int .i64 0], .agg #[.slice A2 n c2, .int .i64 0]] W fun d w' => d = .returned (.bool true) ∧ Below W.heap.size W w' := by
  have h := same_any A A2 n n c c2 l l hn hn (by omega) (by omega) 0 0 W hA hA2
  rw [show (decide (l = l) && ((0 : Int) == 0)) = true from by simp] at h
  exact h
theorem x_Same (A A2 : Option Addr) (n c c2 : Nat) (l : List Pc) (hn : l.length = n) (hl : n ≤ 100) {W : World} (hA : Pcs W A l) (hA2 : Pcs W A2 l) :
    Calls Try.prog 17 #[.slice A n c, .slice A2 n c2] W fun d w' => d = .returned (.bool true) ∧ Below W.heap.size W w' := by
  have h := Same_any A A2 n n c c2 l l hn hn (by omega) (by omega) W hA hA2
  rw [show decide (l = l) = true from by simp] at h
  exact h

theorem x_read {Env : World → Prop} (P : Prg Env) (PB : PrgB Env) {W : World} (hE : Env W) {A A2 : Option Addr} {c c2 : Nat} (hA : Sp 0 W A 2 c exF) (hL : Bl W A2 2 c2 exB) :
    Calls Try.prog 28 #[.slice A 2 c, .slice A2 2 c2] W fun e w' => ∃ B c', e = .returned (.agg #[.slice B 5 c', .int .i64 0]) ∧ Byt w' B [0, 0, 0, 120, 121] ∧ Below W.heap.size W w' := by
  have h := read_yes P PB hE hA (by decide) hL (by decide) (by decide) (by decide)
  rw [show bytesOut (eachL exF) exB = [0, 0, 0, 120, 121] by decide] at h
  exact h
theorem x_readG {Env : World → Prop} (P : Prg Env) (PB : PrgB Env) {W : World} (hE : Env W) {A : Option Addr} {c : Nat} (hA : Sp 0 W A 2 c exG) :
    Calls Try.prog 28 #[.slice A 2 c, .slice none 0 0] W fun e w' => ∃ B c', e = .returned (.agg #[.slice B 0 c', .int .i64 60]) ∧ Below W.heap.size W w' := by
  have h := read_no P PB hE hA (by decide) (l := []) (A2 := none) (n2 := 0) (c2 := 0) ⟨rfl, Nat.le_refl _, by decide, fun _ => rfl, fun h => absurd rfl h⟩ (by decide) (by decide) (by decide)
  rw [show bytesErr (eachL exG) [] = 60 by decide] at h
  exact h
theorem x_readN {Env : World → Prop} (P : Prg Env) (PB : PrgB Env) {W : World} (hE : Env W) {A : Option Addr} {c : Nat} (hA : Sp 0 W A 2 c exF) :
    Calls Try.prog 28 #[.slice A 2 c, .slice none 0 0] W fun e w' => ∃ B c', e = .returned (.agg #[.slice B 0 c', .int .i64 90]) ∧ Below W.heap.size W w' := by
  have h := read_no P PB hE hA (by decide) (l := []) (A2 := none) (n2 := 0) (c2 := 0) ⟨rfl, Nat.le_refl _, by decide, fun _ => rfl, fun h => absurd rfl h⟩ (by decide) (by decide) (by decide)
  rw [show bytesErr (eachL exF) [] = 90 by decide] at h
  exact h
theorem x_size {Env : World → Prop} (P : Prg Env) {W : World} (hE : Env W) {A : Option Addr} {c : Nat} (hA : Sp 0 W A 3 c exS) :
    Calls Try.prog 19 #[.slice A 3 c] W fun e w' => e = .returned (.int .i64 6) ∧ Below W.heap.size W w' := P.size A 3 c exS W hE hA (by decide)
theorem ok_all {l : List Pc} (h : l.all (fun p => decide ((Lit.int .i64 p.id).wf = true ∧ (Lit.int .i64 p.fr).wf = true ∧ (Lit.int .i64 p.n).wf = true)) = true) : ∀ p ∈ l, Pc.ok p := fun p hp => (show (Lit.int .i64 p.id).wf = true ∧ (Lit.int .i64 p.fr).wf = true ∧ (Lit.int .i64 p.n).wf = true from of_decide_eq_true (List.all_eq_true.1 h p hp))
theorem x_validY {Env : World → Prop} (P : Prg Env) {W : World} (hE : Env W) {A : Option Addr} {c : Nat} (hA : Sp 0 W A 3 c exS) :
    Calls Try.prog 31 #[.slice A 3 c] W fun e w' => e = .returned (.bool true) ∧ Below W.heap.size W w' := P.valid A 3 c exS W hE hA (by decide) (ok_all (by decide))
theorem x_validN {Env : World → Prop} (P : Prg Env) {W : World} (hE : Env W) {A : Option Addr} {c : Nat} (hA : Sp 0 W A 2 c [⟨0, 0, 1⟩, ⟨0, 0, 1⟩]) :
    Calls Try.prog 31 #[.slice A 2 c] W fun e w' => e = .returned (.bool false) ∧ Below W.heap.size W w' := P.valid A 2 c [⟨0, 0, 1⟩, ⟨0, 0, 1⟩] W hE hA (by decide) (ok_all (by decide))
theorem below_alloc (w : World) (o : Obj) : Below w.heap.size w (w.alloc o) := (Below.refl _ w).alloc (Nat.le_refl _) _
theorem Si.pcs {n c : Nat} {w : World} {A : Option Addr} {l : List Pc} (h : Si 0 w A n c 3 (flat3 l)) : Pcs w A l := Sp.pcs h
theorem field_e1 (A : Option Addr) (n c : Nat) (e : Int) (W : World) : (Instr.field 40 (.agg #[.slice A n c, .int .i64 e]) 1).run Try.prog W = .ok (.int .i64 e) W := by kernel_rfl
theorem field_e2 (A : Option Addr) (n c : Nat) (e : Int) (W : World) : (Instr.field 57 (.agg #[.slice A n c, .int .i64 e]) 1).run Try.prog W = .ok (.int .i64 e) W := by kernel_rfl
set_option maxHeartbeats 8000000 in
theorem sanity_any {Env : World → Prop} (P : Prg Env) (PB : PrgB Env) : SanOk Env := by
  intro w hE0
  obtain ⟨i3, hj, hj0, hj1, hj2⟩ := info_parts info_piece
  go_enter Try.func10, Try.ntmps10
  go_upto_region 2 with fail
  have a1 : Sp 0 (w.alloc (.cells (ints (flat3 exF)).toArray 66)) (some ⟨w.heap.size, 0, none⟩) 2 2 exF := si_new w _ 2 3 _ rfl (by decide)
  have a2 : Below w.heap.size w (w.alloc (.cells (ints (flat3 exF)).toArray 66)) := (Below.refl _ w).alloc (Nat.le_refl _) _
  change Code.wp _ _ _ _ (w.alloc (.cells (ints (flat3 exF)).toArray 66))
  obtain ⟨gF, hgF⟩ : ∃ g, w.heap.size = g := ⟨_, rfl⟩
  rw [hgF] at a1 ⊢
  generalize w.alloc (.cells (ints (flat3 exF)).toArray 66) = wA at a1 a2 ⊢
  have HF := Lib.hid a1
  have HBA := Lib.hid a2
  clear a1 a2
  go_upto_region 4 with (at_builtin; first | (refine wpList_append_si rfl _ _ 24 rfl wA.heap.size 66 i3 _ 3 24 Try.underlying24 hj hj0 hj1 hj2 rfl (by decide) _ _ _ rfl (own_empty wA _ 3) (some ⟨gF, 0, none⟩) 2 2 (flat3 exF) rfl (HF.out.below ((Below.refl _ wA).alloc (Nat.le_refl _) _)) (by unfold maxLen; omega) (by omega) (by simp) ?_; intro v' wB hownB hBB; rw [Nat.zero_add, List.nil_append] at hownB; obtain ⟨AB, cB, rfl⟩ := own_form hownB; have HOB := Lib.hid hownB; have HBB := Lib.hid (hBB wA (Nat.le_refl _) ((Below.refl _ wA).alloc (Nat.le_refl _) _)); clear hownB hBB) | (refine wpList_append_si rfl _ _ 24 rfl wA.heap.size 66 i3 _ 3 24 Try.underlying24 hj hj0 hj1 hj2 rfl (by decide) _ _ _ rfl (HOB.out.alloc _) (some ⟨wB.heap.size, 0, none⟩) 1 1 (flat3 [⟨8, 0, 1⟩]) rfl (si_new wB (flat3 [⟨8, 0, 1⟩]) 1 3 66 rfl (by decide)) (by unfold maxLen; omega) (by omega) (by have := HBB.out.size; simp; omega) ?_; intro v' wC hownC hBC; rw [← ints_append, ← flat3_append] at hownC; obtain ⟨AC, cC, rfl⟩ := own_form hownC; have HOC := Lib.hid hownC; have HBC := Lib.hid (hBC wA (Nat.le_refl _) (HBB.out.alloc HBB.out.size _)); clear hownC hBC))
  go_upto_region 5 with fail
  have d1 : Sp 0 (wC.alloc (.cells (ints (flat3 exG)).toArray 66)) (some ⟨wC.heap.size, 0, none⟩) 2 2 exG := si_new wC _ 2 3 _ rfl (by decide)
  have d2 : Below wC.heap.size wC (wC.alloc (.cells (ints (flat3 exG)).toArray 66)) := (Below.refl _ wC).alloc (Nat.le_refl _) _
  change Code.wp _ _ _ _ (wC.alloc (.cells (ints (flat3 exG)).toArray 66))
  obtain ⟨gG, hgG⟩ : ∃ g, wC.heap.size = g := ⟨_, rfl⟩
  rw [hgG] at d1 ⊢
  generalize wC.alloc (.cells (ints (flat3 exG)).toArray 66) = wD at d1 d2 ⊢
  have HG := Lib.hid d1
  have HFD := Lib.hid ((HF.out.below (HBC.out)).below d2)
  have HSD := Lib.hid ((show Sp 0 wC AC 3 cC exS from (Si.own HOC.out).mono (Nat.zero_le _)).below d2)
  have HBD := Lib.hid (HBA.out.trans ((HBC.out.trans (d2.mono HBC.out.size)).mono HBA.out.size))
  clear d1 d2 hgG
  have kc := fun (w : World) (C : Array Value) (n c : Nat) => Lib.run_convert_bytes_const (P := Try.prog) w 55 5 C n c Try.underlying55 Try.underlying5
  go_upto_region 6 with fail
  clear kc
  have e1 : Below wD.heap.size wD ((wD.alloc (.cells #[.int .u8 120, .int .u8 121, .int .u8 122] 5 (3, 4))).alloc (.cells #[.int .i64 7, .slice (some ⟨wD.heap.size, 0, none⟩) 3 3, .int .i64 7, .slice none 0 0] 69)) := ((Below.refl _ wD).alloc (Nat.le_refl _) _).alloc (by simp) _
  have e2 : Bl ((wD.alloc (.cells #[.int .u8 120, .int .u8 121, .int .u8 122] 5 (3, 4))).alloc (.cells #[.int .i64 7, .slice (some ⟨wD.heap.size, 0, none⟩) 3 3, .int .i64 7, .slice none 0 0] 69)) (some ⟨wD.heap.size + 1, 0, none⟩) 2 2 exB := by
    refine ⟨rfl, Nat.le_refl _, by decide, (fun h => nomatch h), fun _ => ⟨wD.heap.size + 1, 0, rfl, by simp, fun j x hx => ?_⟩⟩
    have hc : ∀ i, ((wD.alloc (.cells #[.int .u8 120, .int .u8 121, .int .u8 122] 5 (3, 4))).alloc (.cells #[.int .i64 7, .slice (some ⟨wD.heap.size, 0, none⟩) 3 3, .int .i64 7, .slice none 0 0] 69)).cell? ⟨wD.heap.size + 1, i, none⟩ = #[.int .i64 7, .slice (some ⟨wD.heap.size, 0, none⟩) 3 3, .int .i64 7, .slice none 0 0][i]? := fun i => cell_of_row _ _ _ _ _ _ (heap_alloc2_new wD _ _)
    have hd : ∀ i, ((wD.alloc (.cells #[.int .u8 120, .int .u8 121, .int .u8 122] 5 (3, 4))).alloc (.cells #[.int .i64 7, .slice (some ⟨wD.heap.size, 0, none⟩) 3 3, .int .i64 7, .slice none 0 0] 69)).cell? ⟨wD.heap.size, i, none⟩ = #[.int .u8 120, .int .u8 121, .int .u8 122][i]? := fun i => cell_of_row _ _ _ _ _ _ (heap_alloc2_old wD _ _)
    match j, hx with
    | 0, hx =>
      obtain rfl : x = (7, [120, 121, 122]) := (Option.some.inj hx).symm
      refine ⟨hc 0, some ⟨wD.heap.size, 0, none⟩, 3, by decide, hc 1, fun _ => ⟨wD.heap.size, 0, rfl, by simp; omega, fun i y hy => ?_⟩⟩
      rw [Nat.zero_add, hd]
      match i, hy with
      | 0, hy => obtain rfl : y = 120 := (Option.some.inj hy).symm; rfl
      | 1, hy => obtain rfl : y = 121 := (Option.some.inj hy).symm; rfl
      | 2, hy => obtain rfl : y = 122 := (Option.some.inj hy).symm; rfl
      | i + 3, hy => simp at hy
    | 1, hx =>
      obtain rfl : x = (7, []) := (Option.some.inj hx).symm
      exact ⟨hc 2, none, 0, by decide, hc 3, fun h => absurd rfl h⟩
    | j + 2, hx => simp [exB] at hx
  obtain ⟨gL, hgL⟩ : ∃ g, wD.heap.size + 1 = g := ⟨_, rfl⟩
  rw [hgL] at e2 ⊢
  generalize (wD.alloc (.cells #[.int .u8 120, .int .u8 121, .int .u8 122] 5 (3, 4))).alloc (.cells #[.int .i64 7, .slice (some ⟨wD.heap.size, 0, none⟩) 3 3, .int .i64 7, .slice none 0 0] 69) = wE at e1 e2 ⊢
  have KE := Lib.hid (fun W (h : Below wE.heap.size wE W) => P.env hE0 (HBD.out.trans ((e1.trans (h.mono e1.size)).mono HBD.out.size)))
  have KF := Lib.hid (fun W (h : Below wE.heap.size wE W) => show Sp 0 W (some ⟨gF, 0, none⟩) 2 2 exF from (HFD.out.below e1).below h)
  have KS := Lib.hid (fun W (h : Below wE.heap.size wE W) => show Sp 0 W AC 3 cC exS from (HSD.out.below e1).below h)
  have KG := Lib.hid (fun W (h : Below wE.heap.size wE W) => show Sp 0 W (some ⟨gG, 0, none⟩) 2 2 exG from (HG.out.below e1).below h)
  have KL := Lib.hid (fun W (h : Below wE.heap.size wE W) => show Bl W (some ⟨gL, 0, none⟩) 2 2 exB from e2.below h)
  have KB := Lib.hid (fun W (h : Below wE.heap.size wE W) => show Below w.heap.size w W from HBD.out.trans ((e1.trans (h.mono e1.size)).mono HBD.out.size))
  have KT := Lib.hid (fun W W' (h : Below wE.heap.size wE W) (h2 : Below W.heap.size W W') => show Below wE.heap.size wE W' from h.trans (h2.mono h.size))
  have HV := Lib.hid (show validL exF = true by decide)
  have B0 := Below.refl wE.heap.size wE
  have hf1 := field_e1
  have hf2 := field_e2
  clear e1 e2 hgL hgF hE0
  go_upto_region 7 with (first
    | (go_at_call 20; first
      | (with_reducible refine (put_big P (KE.out _ B5) (KF.out _ B5) HV.out 1048576 1 1 (by decide) (by decide) (by decide) (by decide) (by decide) (by decide) (by decide) (by decide)).mono ?_; rintro e w6 ⟨A6, c6, rfl, hb6⟩; have B6 := KT.out _ _ B5 hb6)
      | (with_reducible refine (put_arg P (KE.out _ B4) (KF.out _ B4) HV.out 0 0 1 (by decide) (by decide) (by decide) (by decide)).mono ?_; rintro e w5 ⟨A5, c5, rfl, hb5⟩; have B5 := KT.out _ _ B4 hb5)
      | (with_reducible refine (x_put2 P (KE.out _ B2) (KF.out _ B2)).mono ?_; rintro e w3 ⟨A3, c3, rfl, hP3, hb3⟩; have B3 := KT.out _ _ B2 hb3)
      | (with_reducible refine (x_put1 P (KE.out _ B0)).mono ?_; rintro e w1 ⟨A1, c1, rfl, hP1, hb1⟩; have B1 := KT.out _ _ B0 hb1))
    | (go_at_call 22; first
      | (with_reducible refine (x_same A3 AC 3 c3 cC exS rfl (by decide) hP3 (KS.out _ B3).pcs).mono ?_; rintro e w4 ⟨rfl, hb4⟩; have B4 := KT.out _ _ B3 hb4)
      | (with_reducible refine (x_same A1 (some ⟨gF, 0, none⟩) 2 c1 2 exF rfl (by decide) hP1 (KF.out _ B1).pcs).mono ?_; rintro e w2 ⟨rfl, hb2⟩; have B2 := KT.out _ _ B1 hb2)))
  go_upto_region 8 with (first
    | (go_at_call 23; first
      | (with_reducible refine (cut_arg P (KE.out _ B10) (KF.out _ B10) HV.out (-1) (by decide) (by decide)).mono ?_; rintro e w11 ⟨A11, c11, rfl, hb11⟩; have B11 := KT.out _ _ B10 hb11)
      | (with_reducible refine (x_cut6 P (KE.out _ B8) (KF.out _ B8)).mono ?_; rintro e w9 ⟨A9, c9, rfl, hP9, hb9⟩; have B9 := KT.out _ _ B8 hb9)
      | (with_reducible refine (x_cut4 P (KE.out _ B6) (KF.out _ B6)).mono ?_; rintro e w7 ⟨A7, c7, rfl, hP7, hb7⟩; have B7 := KT.out _ _ B6 hb7))
    | (go_at_call 22; first
      | (refine (x_same A9 (some ⟨w9.heap.size, 0, none⟩) 3 c9 3 ex6 rfl (by decide) (hP9.below (below_alloc w9 _)) (si_new w9 (flat3 ex6) 3 3 66 rfl (by decide)).pcs).mono ?_; rintro e w10 ⟨rfl, hb10⟩; have B10 := KT.out _ _ (KT.out _ _ B9 (below_alloc w9 _)) hb10)
      | (refine (x_same A7 (some ⟨w7.heap.size, 0, none⟩) 2 c7 2 ex4 rfl (by decide) (hP7.below (below_alloc w7 _)) (si_new w7 (flat3 ex4) 2 3 66 rfl (by decide)).pcs).mono ?_; rintro e w8 ⟨rfl, hb8⟩; have B8 := KT.out _ _ (KT.out _ _ B7 (below_alloc w7 _)) hb8)))
  go_upto_region 9 with (first
    | (go_at_call 13; first
      | (with_reducible refine (x_part5 P (KE.out _ B13) (KF.out _ B13)).mono ?_; rintro e w14 ⟨A14, c14, rfl, hb14⟩; have B14 := KT.out _ _ B13 hb14)
      | (with_reducible refine (x_part2 P (KE.out _ B11) (KF.out _ B11)).mono ?_; rintro e w12 ⟨A12, c12, rfl, hP12, hb12⟩; have B12 := KT.out _ _ B11 hb12))
    | (go_at_call 17; refine (x_Same A12 (some ⟨w12.heap.size, 0, none⟩) 2 c12 2 exP rfl (by decide) (hP12.below (below_alloc w12 _)) (si_new w12 (flat3 exP) 2 3 66 rfl (by decide)).pcs).mono ?_; rintro e w13 ⟨rfl, hb13⟩; have B13 := KT.out _ _ (KT.out _ _ B12 (below_alloc w12 _)) hb13))
  go_upto_region 10 with (go_at_call 28; with_reducible refine (x_read P PB (KE.out _ B14) (KF.out _ B14) (KL.out _ B14)).mono ?_; rintro e w15 ⟨A15, c15, rfl, hY15, hb15⟩; have B15 := KT.out _ _ B14 hb15)
  have b1 : (w15.alloc (.cells #[.slice A15 5 c15, .int .i64 0] 57)).cell? ⟨w15.heap.size, 0, none⟩ = some (.slice A15 5 c15) := cell_of_row _ _ 0 _ _ _ (heap_alloc_new w15 _)
  have b2 : (w15.alloc (.cells #[.slice A15 5 c15, .int .i64 0] 57)).cell? ⟨w15.heap.size, 1, none⟩ = some (.int .i64 0) := cell_of_row _ _ 1 _ _ _ (heap_alloc_new w15 _)
  have B16 := KT.out _ _ B15 (below_alloc w15 (.cells #[.slice A15 5 c15, .int .i64 0] 57))
  have hY16 := hY15.below (below_alloc w15 (.cells #[.slice A15 5 c15, .int .i64 0] 57))
  obtain ⟨gX, hgX⟩ : ∃ g, w15.heap.size = g := ⟨_, rfl⟩
  rw [hgX] at b1 b2 ⊢
  generalize w15.alloc (.cells #[.slice A15 5 c15, .int .i64 0] 57) = w16 at b1 b2 B16 hY16 ⊢
  have KX := Lib.hid (fun W (h : Below w16.heap.size w16 W) => show W.cell? ⟨gX, 0, none⟩ = some (.slice A15 5 c15) ∧ W.cell? ⟨gX, 1, none⟩ = some (.int .i64 0) ∧ (convert 55 9 (.slice A15 5 c15)).run Try.prog W = .ok (.string ⟨#[0, 0, 0, 120, 121]⟩) W from
    ⟨(h.cell (block_lt_of_cell b1)).trans b1, (h.cell (block_lt_of_cell b2)).trans b2, str_any (hY16.below h) 5 c15 rfl⟩)
  have KD := Lib.hid (fun W W' (h : Below w16.heap.size w16 W) (h2 : Below W.heap.size W W') => show Below w16.heap.size w16 W' from h.trans (h2.mono h.size))
  have D0 := Below.refl w16.heap.size w16
  clear b1 b2 hY16 hgX
  go_upto_region 11 with (first
    | (go_at_call 24; refine (x_erase P (KE.out _ (KT.out _ _ B16 (below_alloc w16 _))) (KF.out _ (KT.out _ _ B16 (below_alloc w16 _))) (some ⟨w16.heap.size, 0, none⟩) 1 (si_new w16 [7] 1 1 3 rfl (by decide))).mono ?_; rintro e w17 ⟨A17, c17, rfl, hP17, hb17⟩; have B17 := KT.out _ _ (KT.out _ _ B16 (below_alloc w16 _)) hb17; have D17 := KD.out _ _ (KD.out _ _ D0 (below_alloc w16 _)) hb17)
    | (go_at_call 17; with_reducible refine (x_Same A17 (some ⟨gG, 0, none⟩) 2 c17 2 exG rfl (by decide) hP17 (KG.out _ B17).pcs).mono ?_; rintro e w18 ⟨rfl, hb18⟩; have B18 := KT.out _ _ B17 hb18; have D18 := KD.out _ _ D17 hb18)
    | (go_at_call 28; first
      | (with_reducible refine (x_readN P PB (KE.out _ B19) (KF.out _ B19)).mono ?_; rintro e w20 ⟨A20, c20, rfl, hb20⟩; have B20 := KT.out _ _ B19 hb20)
      | (with_reducible refine (x_readG P PB (KE.out _ B18) (KG.out _ B18)).mono ?_; rintro e w19 ⟨A19, c19, rfl, hb19⟩; have B19 := KT.out _ _ B18 hb19; have x19 := KX.out _ (KD.out _ _ D18 hb19); have y0 := x19.1; have y1 := x19.2.1; have y2 := x19.2.2; clear x19))
    | (go_at_call 19; with_reducible refine (x_size P (KE.out _ B20) (KS.out _ B20)).mono ?_; rintro e w21 ⟨rfl, hb21⟩; have B21 := KT.out _ _ B20 hb21)
    | (go_at_call 31; first
      | (refine (x_validN P (KE.out _ (KT.out _ _ B22 (below_alloc w22 _))) (si_new w22 (flat3 [⟨0, 0, 1⟩, ⟨0, 0, 1⟩]) 2 3 66 rfl (by decide))).mono ?_; rintro e w23 ⟨rfl, hb23⟩; have B23 := KT.out _ _ (KT.out _ _ B22 (below_alloc w22 _)) hb23)
      | (with_reducible refine (x_validY P (KE.out _ B21) (KS.out _ B21)).mono ?_; rintro e w22 ⟨rfl, hb22⟩; have B22 := KT.out _ _ B21 hb22)))
  go_ret
  exact ⟨rfl, KB.out _ B23⟩
end Go.Proofs.Ytggnklcjhbahhaa
