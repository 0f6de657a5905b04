/-
  Texts QeEi QeFa QeFb QeFc QeFd QeFe, put together by program.
-/
import Derived.Test.YtemgejblnionlaaGreatDoorY0
import Derived.Test.YtemgejblnionlaaGreatDoorY14
import Derived.Laws.StructEq
import Derived.RangeFuncNested
import Derived.RangeFuncBox
import Derived.RangeFuncBound
import Derived.RangeFuncCalls
import Derived.RangeFuncLeaves
import Derived.Shelf.Abstract
import Derived.Shelf.RegionOpen
import Derived.WalkKit
import Derived.OwnWalkIn
import Derived.TacticsInMore
import Derived.LoopNIn
import Derived.LoopIn
import Derived.Lib.MinMax
import Derived.Sort.QuietTacIn
namespace Go.Proofs.YtemgejblnionlaaGreatDoor.Ext
open Go.RowKit Ex
set_option maxHeartbeats 400000
set_option maxRecDepth 100000
def CellsN (lo : Nat) (w : World) (A : Option Addr) (xs : List Int) : Prop :=
 xs ≠ [] → ∃ g o, A = some ⟨g, o, none⟩ ∧ lo ≤ g ∧ g < w.heap.size ∧ ∀ (j : Nat) (x : Int), xs[j]? = some x → w.cell? ⟨g, o + j, none⟩ = some (.int .i64 x)
section
variable {lo lo' n c : Nat} {w w' : World} {A : Option Addr} {xs : List Int} {l : List Pc}
theorem CellsN.cells (h : CellsN lo w A xs) : Cells w A xs := fun hn => by
 obtain ⟨g, o, h1, _, h2, h3⟩ := h hn
 exact ⟨g, o, h1, h2, h3⟩
theorem CellsN.below (h : CellsN lo w A xs) (hb : Below w.heap.size w w') : CellsN lo w' A xs := fun hn => by
 obtain ⟨g, o, hA, hk, hg, hc⟩ := h hn
 exact ⟨g, o, hA, hk, Nat.lt_of_lt_of_le hg hb.size, fun j x hx => (hb.cell (p := ⟨g, o + j, none⟩) hg).trans (hc j x hx)⟩
theorem CellsN.mono (h : CellsN lo w A xs) (hl : lo' ≤ lo) : CellsN lo' w A xs := fun hn => by
 obtain ⟨g, o, h1, h0, h2, h3⟩ := h hn
 exact ⟨g, o, h1, Nat.le_trans hl h0, h2, h3⟩
theorem CellsN.set (h : CellsN lo w A xs) {p : Addr} (hp : p.block < lo) (u : Value) : CellsN lo (w.setCell p u) A xs := fun hn => by
 obtain ⟨g, o, hA, hk, hg, hc⟩ := h hn
 exact ⟨g, o, hA, hk, by simpa [World.setCell] using hg, fun j x hx => (World.cell?_setCell_other w p ⟨g, o + j, none⟩ u (fun e => by rw [e] at hp; simp only [] at hp; omega)).trans (hc j x hx)⟩
theorem CellsN.of_own {base s : Nat} {e : TypeId} (h : w.ownsRow base e s (.slice A n c) n (ints xs)) : CellsN base w A xs := fun hn => by
 obtain ⟨g, o, hA, h2, h3⟩ := Cells.of_own h hn
 subst hA
 exact ⟨g, o, rfl, (h.lt g rfl).1, h2, h3⟩
structure Si (lo : Nat) (w : World) (A : Option Addr) (n c s : Nat) (xs : List Int) : Prop where
 len : xs.length = n * s
 cap : n ≤ c
 max : c ≤ 9223372036854775807
 nil : A = none → c = 0
 cells : CellsN lo w A xs
abbrev Sp (lo : Nat) (w : World) (A : Option Addr) (n c : Nat) (l : List Pc) : Prop := Si lo w A n c 3 (flat3 l)
theorem Si.below {s : Nat} (h : Si lo w A n c s xs) (hb : Below w.heap.size w w') : Si lo w' A n c s xs := ⟨h.len, h.cap, h.max, h.nil, h.cells.below hb⟩
theorem Si.mono {s : Nat} (h : Si lo w A n c s xs) (hl : lo' ≤ lo) : Si lo' w A n c s xs := ⟨h.len, h.cap, h.max, h.nil, h.cells.mono hl⟩
theorem Si.set {s : Nat} (h : Si lo w A n c s xs) {p : Addr} (hp : p.block < lo) (u : Value) : Si lo (w.setCell p u) A n c s xs := ⟨h.len, h.cap, h.max, h.nil, h.cells.set hp u⟩
theorem Si.own {base s : Nat} {e : TypeId} (h : w.ownsRow base e s (.slice A n c) n (ints xs)) : Si base w A n c s xs :=
 ⟨by have := own_slen h; rwa [ints_length] at this, (own_cap h).1, (own_cap h).2, own_none h, CellsN.of_own h⟩
theorem Sp.plen (h : Sp lo w A n c l) : l.length = n := by have := h.len; rw [flat3_len] at this; omega
end
def putB (bs : List (Int × Int)) (off id n : Int) : List (Int × Int) := (List.range (max bs.length (off.toNat + n.toNat))).map fun i => if off.toNat ≤ i ∧ i < off.toNat + n.toNat then (id, ((i - off.toNat : Nat) : Int)) else bs[i]?.getD (0, 0)
def cutB (bs : List (Int × Int)) (n : Int) : List (Int × Int) := (List.range n.toNat).map fun i => bs[i]?.getD (0, 0)
def Pc.ok (p : Pc) : Prop := (Lit.int .i64 p.id).wf = true ∧ (Lit.int .i64 p.fr).wf = true ∧ (Lit.int .i64 p.n).wf = true
end Go.Proofs.YtemgejblnionlaaGreatDoor.Ext
namespace Go.Proofs.YtemgejblnionlaaGreatDoor.Ext
open Go.RowKit Ex
set_option maxHeartbeats 400000
set_option maxRecDepth 100000
def chunkB (id : Int) : Bool := decide (1 ≤ id) && decide (id < 4096)
theorem chunk_iff {id : Int} : chunkB id = true ↔ 1 ≤ id ∧ id < 4096 := by simp [chunkB]
theorem chunk_not {id : Int} : chunkB id = false ↔ ¬ (1 ≤ id ∧ id < 4096) := by rw [← chunk_iff]; simp
theorem i64_wf {n : Int} (h : (Lit.int .i64 n).wf = true) : -9223372036854775808 ≤ n ∧ n ≤ 9223372036854775807 := by
 have h' : IntKind.i64.min ≤ n ∧ n ≤ IntKind.i64.max := by simpa [Lit.wf] using h
 exact h'
theorem isChunk_any (id : Int) (w : World) :
 Calls Tryz.prog 232 #[.int .i64 id] w fun e w' => e = .returned (.bool (chunkB id)) ∧ w' = w := by
 go_enter Tryz.func232, Tryz.ntmps232
 go_wp2
 all_goals
  go_ret
  refine ⟨ret_bool ?_, rfl⟩
  rw [Bool.eq_iff_iff, chunk_iff]
  simp at *
  omega
theorem chunk_c {id : Int} {r : Bool} (h : chunkB id = r) (W : World) : Calls Tryz.prog 232 #[.int .i64 id] W fun e w' => e = .returned (.bool r) ∧ w' = W := by
 subst h
 exact isChunk_any id W
theorem isRight_any (p : Pc) (hp : Pc.ok p) (w : World) :
 Calls Tryz.prog 261 #[pv p] w fun e w' => e = .returned (.bool (rightB p)) ∧ Below w.heap.size w w' := by
 obtain ⟨id, fr, n⟩ := p
 have h1 := i64_wf hp.2.1
 have h2 := i64_wf hp.2.2
 simp only [] at h1 h2
 clear hp
 simp only [pv]
 obtain ⟨r, hr⟩ : ∃ r, chunkB id = r := ⟨_, rfl⟩
 have CC := Lib.hid (chunk_c hr)
 have HR := Lib.hid hr
 clear hr
 go_enter Tryz.func261, Tryz.ntmps261
 by_cases c1 : n < 1
 · go_wp2
   go_ret
   refine ⟨ret_bool ?_, by go_grown⟩
   rw [Bool.eq_iff_iff, right_iff]
   simp at *
   omega
 by_cases c2 : fr < 0
 · go_wp2
   go_ret
   refine ⟨ret_bool ?_, by go_grown⟩
   rw [Bool.eq_iff_iff, right_iff]
   simp at *
   omega
 have hw : IntKind.i64.wrap (1048576 - n) = 1048576 - n := IntWalk.i64_in _ (by omega)
 by_cases c3 : fr > 1048576 - n
 · go_wp2
   go_ret
   refine ⟨ret_bool ?_, by go_grown⟩
   rw [Bool.eq_iff_iff, right_iff]
   simp at *
   omega
 cases r
 · have hc := chunk_not.1 HR.out
   go_wp2_with (go_at_call 232; (with_reducible refine (CC.out _).mono ?_); rintro e w1 ⟨rfl, rfl⟩)
   all_goals
    go_ret
    refine ⟨ret_bool ?_, by go_grown⟩
    rw [Bool.eq_iff_iff, right_iff]
    simp at *
    omega
 · have hc := chunk_iff.1 HR.out
   go_wp2_with (go_at_call 232; (with_reducible refine (CC.out _).mono ?_); rintro e w1 ⟨rfl, rfl⟩)
   all_goals
    go_ret
    refine ⟨ret_bool ?_, by go_grown⟩
    rw [Bool.eq_iff_iff, right_iff]
    simp at *
    omega
theorem canBeOne_any (p q : Pc) (hp : 1 ≤ p.id → p.id < 4096) (hs : -9223372036854775808 ≤ p.fr + p.n ∧ p.fr + p.n ≤ 9223372036854775807) (w : World) :
 Calls Tryz.prog 262 #[pv p, pv q] w fun e w' => e = .returned (.bool (oneB p q)) ∧ Below w.heap.size w w' := by
 obtain ⟨id, fr, n⟩ := p
 obtain ⟨id2, fr2, n2⟩ := q
 simp only [pv] at hs hp ⊢
 obtain ⟨r, hr⟩ : ∃ r, chunkB id = r := ⟨_, rfl⟩
 have CC := Lib.hid (chunk_c hr)
 have HR := Lib.hid hr
 clear hr
 have hw : IntKind.i64.wrap (fr + n) = fr + n := IntWalk.i64_in _ (by omega)
 go_enter Tryz.func262, Tryz.ntmps262
 by_cases c1 : id = id2
 · subst c1
   cases r
   · have hc := chunk_not.1 HR.out
     go_wp2_with (go_at_call 232; (with_reducible refine (CC.out _).mono ?_); rintro e w1 ⟨rfl, rfl⟩)
     all_goals
      go_ret
      refine ⟨ret_bool ?_, by go_grown⟩
      rw [Bool.eq_iff_iff, one_iff]
      simp at *
      omega
   · have hc := chunk_iff.1 HR.out
     go_wp2_with (go_at_call 232; (with_reducible refine (CC.out _).mono ?_); rintro e w1 ⟨rfl, rfl⟩)
     all_goals
      go_ret
      refine ⟨ret_bool ?_, by go_grown⟩
      rw [Bool.eq_iff_iff, one_iff]
      simp at *
      omega
 · go_wp2
   all_goals
    go_ret
    refine ⟨ret_bool ?_, by go_grown⟩
    rw [Bool.eq_iff_iff, one_iff]
    simp at *
    omega
end Go.Proofs.YtemgejblnionlaaGreatDoor.Ext
namespace Go.Proofs.YtemgejblnionlaaGreatDoor.Ext
open Go.RowKit Ex
set_option maxHeartbeats 400000
set_option maxRecDepth 100000
theorem isRight_c {p : Pc} {r : Bool} (hp : Pc.ok p) (h : rightB p = r) (W : World) : Calls Tryz.prog 261 #[.agg #[.int .i64 p.id, .int .i64 p.fr, .int .i64 p.n]] W fun e w' => e = .returned (.bool r) ∧ Below W.heap.size W w' := by
 subst h
 exact isRight_any p hp W
theorem canBeOne_c {p q : Pc} {r : Bool} (h : oneB p q = r) (hp : rightB p = true) (W : World) : Calls Tryz.prog 262 #[.agg #[.int .i64 p.id, .int .i64 p.fr, .int .i64 p.n], .agg #[.int .i64 q.id, .int .i64 q.fr, .int .i64 q.n]] W fun e w' => e = .returned (.bool r) ∧ Below W.heap.size W w' := by
 subst h
 have := right_iff.1 hp
 exact canBeOne_any p q (by omega) (by omega) W
theorem box_tri (w : World) (p : Pc) : Tri (w.alloc (.cells #[.int .i64 p.id, .int .i64 p.fr, .int .i64 p.n] 126)) w.heap.size 0 p := by
 have h := fun j => cell_of_row (w.alloc (.cells #[.int .i64 p.id, .int .i64 p.fr, .int .i64 p.n] 126)) w.heap.size j _ _ (0, 0) (heap_alloc_new w _)
 exact ⟨h 0, h 1, h 2⟩
theorem box_tri_drew (w : World) (p : Pc) : Tri (w.alloc (.cells #[.int .i64 p.id, .int .i64 p.fr, .int .i64 p.n] 126)).drew w.heap.size 0 p := box_tri w p
theorem box_below3 (w : World) (p : Pc) : Below w.heap.size w (w.alloc (.cells #[.int .i64 p.id, .int .i64 p.fr, .int .i64 p.n] 126)).drew :=
 ((Below.refl _ w).alloc (Nat.le_refl _) _).trans ((below_drewN _ 1).mono (by simp))
theorem box_dn (w : World) (p : Pc) {w1 : World} (hb : Below (w.alloc (.cells #[.int .i64 p.id, .int .i64 p.fr, .int .i64 p.n] 126)).drew.heap.size (w.alloc (.cells #[.int .i64 p.id, .int .i64 p.fr, .int .i64 p.n] 126)).drew w1) : Below w.heap.size w w1 :=
 (box_below3 w p).trans (hb.mono (by have := (box_below3 w p).size; exact this))
set_option maxHeartbeats 4000000 in
theorem exValid_yes (A : Option Addr) (n c : Nat) (l : List Pc) (hn : l.length = n) (hl : n ≤ 4294967296) (hok : ∀ p ∈ l, Pc.ok p) (hvv : validL l = true) (w : World) (hA : Pcs w A l) :
 Calls Tryz.prog 231 #[.slice A n c] w fun e w' => e = .returned (.bool (validL l)) ∧ Below w.heap.size w w' := by
 have HVV := Lib.hid hvv
 clear hvv
 have HN := Lib.hid hn
 have SA := Lib.hid hA
 have HOK := Lib.hid hok
 clear hn hA hok
 go_enter Tryz.func231, Tryz.ntmps231
 go_wp2
 go_loopw [3, 8] (fun s i wr => ∃ k : Nat, k ≤ n ∧ i = .int .i64 k ∧ s = .int .i64 (sizeL (l.take k)) ∧ validL (l.take k) = true ∧ Below w.heap.size w wr) (fun _ i _ => n - (intOf i).toNat)
 case atStart => exact ⟨0, Nat.zero_le _, rfl, rfl, rfl, Below.refl _ _⟩
 case round =>
  obtain ⟨k, hk, rfl, rfl, hv, hbw⟩ := hrel
  have hbs := hbw.size
  by_cases hlt : k < n
  · have hkl : k < l.length := by rw [HN.out]; exact hlt
    have hg : l[k]? = some l[k] := List.getElem?_eq_getElem hkl
    obtain ⟨p, hp⟩ : ∃ p, l[k] = p := ⟨_, rfl⟩
    rw [hp] at hg
    have hst := valid_take hg
    have hmono := valid_mono (l := l) (k + 1)
    have hsz := (valid_iff.1 hv).2
    have hsz0 := sizeL_pos (l := l.take k) (fun q hq => by have := (right_iff.1 ((valid_iff.1 hv).1.right q hq)).1; omega)
    have hsn := sizeL_take hg
    have hpk := HOK.out p (List.mem_of_getElem? hg)
    obtain ⟨g, o, hA', hgw, q0, q1, q2⟩ := (SA.out.below hbw).at_ hg
    obtain ⟨s, hs1⟩ : ∃ s, sizeL (l.take k) = s := ⟨_, rfl⟩
    rw [hs1] at hst hsz hsz0 hsn
    rw [hs1]
    have HST := Lib.hid hst
    have HMO := Lib.hid hmono
    have HSN := Lib.hid hsn
    have HV := Lib.hid hv
    have kn : (k : Int) < (n : Int) := Int.ofNat_lt.2 hlt
    have k0 : (0 : Int) ≤ (k : Int) := Int.natCast_nonneg k
    have HBW := Lib.hid hbw
    subst hA'
    have F0 := Lib.hid (box_tri_drew wr p)
    clear hst hmono hsn hv hs1 hp
    cases hR : rightB p
    · have HF := Lib.hid (show validL l = false from bool_ne fun h => by
       have := (HST.out.1 (HMO.out h)).2.1
       rw [hR] at this
       cases this)
      exact absurd (HVV.out.symm.trans HF.out) (by decide)
    · have hpr := right_iff.1 hR
      have RC := Lib.hid (isRight_c hpk hR)
      have HR := Lib.hid hR
      have hp1 : 1 ≤ p.n := hpr.1
      have hp2 : p.n ≤ 1048576 := hpr.2.1
      clear hpr hpk
      by_cases hk0 : k = 0
      · have HNO : Hid (∀ q, 0 < k → l[k - 1]? = some q → oneB q p = false) := Lib.hid (fun q h0 _ => absurd h0 (by omega))
        have k00 : decide ((0 : Int) < (k : Int)) = false := decide_eq_false (by omega)
        have k01 : decide (0 < k) = false := decide_eq_false (by omega)
        clear hg hR hk0
        go_wp2
        refine wp_region_held_drew (S := (fun W' => W'.cell? ⟨wr.heap.size, 0, none⟩ = some (.int .i64 p.id) ∧ W'.cell? ⟨wr.heap.size, 1, none⟩ = some (.int .i64 p.fr) ∧ W'.cell? ⟨wr.heap.size, 2, none⟩ = some (.int .i64 p.n))) (by kernel_rfl) (by exact F0.out) (fun hHeld => ?_)
        refine takeH 0 ?_ rfl (Or.inl ⟨by rfl, ?_⟩) ?_
        rotate_left
        · ((intro w' hSw); (try dsimp only at hSw); go_simp; all_goals (with_reducible rfl))
        simp only [Act.put, puts]
        refine wpAnyH_ready (rs := [1]) (by kernel_rfl) (by simp) ?_
        refine AllReadyH.cons rfl (fun K hK => ?_) AllReadyH.nil
        go_simp
        go_wp2_with (go_at_call 261; (with_reducible refine (RC.out _).mono ?_); rintro e w1 ⟨rfl, hb1⟩; have F1 := Lib.hid (Tri.below F0.out hb1); have HB1 := Lib.hid hb1; clear hb1)
        refine hK.out _ _ ?_ (fun hHeld => ?_)
        · exact F1.out
        clear hK K
        refine takeH 2 ?_ rfl (Or.inl ⟨by rfl, ?_⟩) ?_
        rotate_left
        · ((intro w' hSw); (try dsimp only at hSw); go_simp; all_goals (with_reducible rfl))
        simp only [Act.put, puts]
        refine takeH 3 ?_ rfl (Or.inl ⟨by rfl, ?_⟩) ?_
        rotate_left
        · ((intro w' hSw); (try dsimp only at hSw); go_simp; all_goals (with_reducible rfl))
        simp only [Act.put, puts]
        refine takeH 4 ?_ rfl (Or.inl ⟨by rfl, ?_⟩) ?_
        rotate_left
        · ((intro w' hSw); (try dsimp only at hSw); go_simp; all_goals (with_reducible rfl))
        simp only [Act.put, puts]
        refine takeH 5 ?_ rfl (Or.inl ⟨by rfl, ?_⟩) ?_
        rotate_left
        · ((intro w' hSw); (try dsimp only at hSw); go_simp; all_goals (with_reducible rfl))
        simp only [Act.put, puts]
        refine takeH 6 ?_ rfl (Or.inl ⟨by rfl, ?_⟩) ?_
        rotate_left
        · ((intro w' hSw); (try dsimp only at hSw); go_simp; all_goals (with_reducible rfl))
        simp only [Act.put, puts]
        refine takeH 7 ?_ rfl (Or.inr ⟨by rfl, by rfl⟩) ?_
        simp only [Act.put, puts]
        refine takeH 8 ?_ rfl (Or.inr ⟨by rfl, by rfl⟩) ?_
        simp only [Act.put, puts]
        refine takeH 9 ?_ rfl (Or.inr ⟨by rfl, by rfl⟩) ?_
        simp only [Act.put, puts]
        refine takeH 10 ?_ rfl (Or.inr ⟨by rfl, by rfl⟩) ?_
        simp only [Act.put, puts]
        refine takeH 11 ?_ rfl (Or.inr ⟨by rfl, by rfl⟩) ?_
        simp only [Act.put, puts]
        refine takeH 12 ?_ rfl (Or.inr ⟨by rfl, by rfl⟩) ?_
        simp only [Act.put, puts]
        refine takeH 13 ?_ rfl (Or.inr ⟨by rfl, by rfl⟩) ?_
        simp only [Act.put, puts]
        refine takeH 14 ?_ rfl (Or.inl ⟨by rfl, ?_⟩) ?_
        rotate_left
        · ((intro w' hSw); (try dsimp only at hSw); go_simp; all_goals (with_reducible rfl))
        simp only [Act.put, puts]
        refine takeH 15 ?_ rfl (Or.inl ⟨by rfl, ?_⟩) ?_
        rotate_left
        · ((intro w' hSw); (try dsimp only at hSw); go_simp; all_goals (with_reducible rfl))
        simp only [Act.put, puts]
        refine wpAnyH_done (by kernel_rfl) ?_ _
        have HD := Lib.hid (box_dn wr p HB1.out)
        obtain ⟨_, _, q3⟩ := F1.out
        clear q0 q1 q2
        by_cases hbig : 1048576 < s + p.n
        · have HF := Lib.hid (show validL l = false from bool_ne fun h => by
           have := (HST.out.1 (HMO.out h)).2.2.2
           omega)
          exact absurd (HVV.out.symm.trans HF.out) (by decide)
        · have hbig' : s + p.n ≤ 1048576 := by omega
          have HV2 := Lib.hid (HST.out.2 ⟨HV.out, HR.out, HNO.out, hbig'⟩)
          go_wp2
          go_roundw
          case rel => exact ⟨k + 1, by omega, by go_num, by rw [HSN.out], HV2.out, HBW.out.trans (HD.out.mono HBW.out.size)⟩
          case measure => simp [intOf]; omega
      · obtain ⟨m, hm⟩ : ∃ m, m + 1 = k := ⟨k - 1, by omega⟩
        obtain ⟨q, hq⟩ : ∃ q, l[m]? = some q := ⟨_, List.getElem?_eq_getElem (by omega)⟩
        obtain ⟨g', o', hA', _, e0, e1, e2⟩ := (SA.out.below HBW.out).at_ hq
        injection hA' with hA'
        injection hA' with x1 x2 _
        subst x1; subst x2
        have hqr := (valid_iff.1 HV.out).1.right q (by
         have : (l.take k)[m]? = some q := by rw [List.getElem?_take, if_pos (by omega)]; exact hq
         exact List.mem_of_getElem? this)
        have k00 : decide ((0 : Int) < (k : Int)) = true := decide_eq_true (by omega)
        have k01 : decide (0 < k) = true := decide_eq_true (by omega)
        have hkm : (k : Int) - 1 = (m : Int) := by omega
        have hmw : IntKind.i64.wrap (m : Int) = (m : Int) := IntWalk.i64_in _ (by omega)
        have m0 : (0 : Int) ≤ (m : Int) := Int.natCast_nonneg m
        have mn : (m : Int) < (n : Int) := by omega
        have D0 := Lib.hid (show Duo (wr.alloc (.cells #[.int .i64 p.id, .int .i64 p.fr, .int .i64 p.n] 126)).drew wr.heap.size 0 g (o + m * 3) p q from
         ⟨F0.out.1, F0.out.2.1, F0.out.2.2, ((box_below3 wr p).cell (block_lt_of_cell e0)).trans e0, ((box_below3 wr p).cell (block_lt_of_cell e1)).trans e1, ((box_below3 wr p).cell (block_lt_of_cell e2)).trans e2⟩)
        clear F0
        have F0 := D0
        clear D0
        cases hO : oneB q p
        · have HNO : Hid (∀ q, 0 < k → l[k - 1]? = some q → oneB q p = false) := Lib.hid (fun q' _ hq' => by
           rw [← hm, Nat.add_sub_cancel, hq] at hq'
           rw [← Option.some.inj hq']; exact hO)
          have OC := Lib.hid (canBeOne_c hO hqr)
          clear hg hR hk0 e0 e1 e2 hO hqr hq hm
          go_wp2
          refine wp_region_held_drew (S := (fun W' => W'.cell? ⟨wr.heap.size, 0, none⟩ = some (.int .i64 p.id) ∧ W'.cell? ⟨wr.heap.size, 1, none⟩ = some (.int .i64 p.fr) ∧ W'.cell? ⟨wr.heap.size, 2, none⟩ = some (.int .i64 p.n) ∧ W'.cell? ⟨g, o + m * 3, none⟩ = some (.int .i64 q.id) ∧ W'.cell? ⟨g, o + m * 3 + 1, none⟩ = some (.int .i64 q.fr) ∧ W'.cell? ⟨g, o + m * 3 + 2, none⟩ = some (.int .i64 q.n))) (by kernel_rfl) (by exact F0.out) (fun hHeld => ?_)
          refine takeH 0 ?_ rfl (Or.inl ⟨by rfl, ?_⟩) ?_
          rotate_left
          · ((intro w' hSw); (try dsimp only at hSw); go_simp; all_goals (with_reducible rfl))
          simp only [Act.put, puts]
          refine wpAnyH_ready (rs := [1]) (by kernel_rfl) (by simp) ?_
          refine AllReadyH.cons rfl (fun K hK => ?_) AllReadyH.nil
          go_simp
          go_wp2_with (go_at_call 261; (with_reducible refine (RC.out _).mono ?_); rintro e w1 ⟨rfl, hb1⟩; have F1 := Lib.hid (duo_keep F0.out hb1); have HB1 := Lib.hid hb1; clear hb1)
          refine hK.out _ _ ?_ (fun hHeld => ?_)
          · exact F1.out
          clear hK K
          refine takeH 2 ?_ rfl (Or.inl ⟨by rfl, ?_⟩) ?_
          rotate_left
          · ((intro w' hSw); (try dsimp only at hSw); go_simp; all_goals (with_reducible rfl))
          simp only [Act.put, puts]
          refine takeH 3 ?_ rfl (Or.inl ⟨by rfl, ?_⟩) ?_
          rotate_left
          · ((intro w' hSw); (try dsimp only at hSw); go_simp; all_goals (with_reducible rfl))
          simp only [Act.put, puts]
          refine takeH 4 ?_ rfl (Or.inl ⟨by rfl, ?_⟩) ?_
          rotate_left
          · ((intro w' hSw); (try dsimp only at hSw); go_simp; all_goals (with_reducible rfl))
          simp only [Act.put, puts]
          refine takeH 5 ?_ rfl (Or.inl ⟨by rfl, ?_⟩) ?_
          rotate_left
          · ((intro w' hSw); (try dsimp only at hSw); go_simp; all_goals (with_reducible rfl))
          simp only [Act.put, puts]
          refine takeH 6 ?_ rfl (Or.inl ⟨by rfl, ?_⟩) ?_
          rotate_left
          · ((intro w' hSw); (try dsimp only at hSw); go_simp; all_goals (with_reducible rfl))
          simp only [Act.put, puts]
          refine takeH 7 ?_ rfl (Or.inl ⟨by rfl, ?_⟩) ?_
          rotate_left
          · ((intro w' hSw); (try dsimp only at hSw); go_simp; all_goals (with_reducible rfl))
          simp only [Act.put, puts]
          refine takeH 8 ?_ rfl (Or.inl ⟨by rfl, ?_⟩) ?_
          rotate_left
          · ((intro w' hSw); (try dsimp only at hSw); go_simp; all_goals (with_reducible rfl))
          simp only [Act.put, puts]
          refine takeH 9 ?_ rfl (Or.inl ⟨by rfl, ?_⟩) ?_
          rotate_left
          · ((intro w' hSw); (try dsimp only at hSw); go_simp; all_goals (with_reducible rfl))
          simp only [Act.put, puts]
          refine takeH 10 ?_ rfl (Or.inl ⟨by rfl, ?_⟩) ?_
          rotate_left
          · ((intro w' hSw); (try dsimp only at hSw); go_simp; all_goals (with_reducible rfl))
          simp only [Act.put, puts]
          refine takeH 11 ?_ rfl (Or.inl ⟨by rfl, ?_⟩) ?_
          rotate_left
          · ((intro w' hSw); (try dsimp only at hSw); go_simp; all_goals (with_reducible rfl))
          simp only [Act.put, puts]
          refine takeH 12 ?_ rfl (Or.inl ⟨by rfl, ?_⟩) ?_
          rotate_left
          · ((intro w' hSw); (try dsimp only at hSw); go_simp; all_goals (with_reducible rfl))
          simp only [Act.put, puts]
          refine wpAnyH_ready (rs := [13]) (by kernel_rfl) (by simp) ?_
          refine AllReadyH.cons rfl (fun K hK => ?_) AllReadyH.nil
          go_simp
          go_wp2_with (go_at_call 262; (with_reducible refine (OC.out _).mono ?_); rintro e w2 ⟨rfl, hb2⟩; have F2 := Lib.hid (duo_keep F1.out hb2); have HB2 := Lib.hid (HB1.out.trans (hb2.mono HB1.out.size)); clear hb2)
          refine hK.out _ _ ?_ (fun hHeld => ?_)
          · exact F2.out
          clear hK K
          refine takeH 14 ?_ rfl (Or.inl ⟨by rfl, ?_⟩) ?_
          rotate_left
          · ((intro w' hSw); (try dsimp only at hSw); go_simp; all_goals (with_reducible rfl))
          simp only [Act.put, puts]
          refine takeH 15 ?_ rfl (Or.inl ⟨by rfl, ?_⟩) ?_
          rotate_left
          · ((intro w' hSw); (try dsimp only at hSw); go_simp; all_goals (with_reducible rfl))
          simp only [Act.put, puts]
          refine wpAnyH_done (by kernel_rfl) ?_ _
          have HD := Lib.hid (box_dn wr p HB2.out)
          have q3 := F2.out.2.2.1
          clear q0 q1 q2 hkm
          by_cases hbig : 1048576 < s + p.n
          · have HF := Lib.hid (show validL l = false from bool_ne fun h => by
             have := (HST.out.1 (HMO.out h)).2.2.2
             omega)
            exact absurd (HVV.out.symm.trans HF.out) (by decide)
          · have hbig' : s + p.n ≤ 1048576 := by omega
            have HV2 := Lib.hid (HST.out.2 ⟨HV.out, HR.out, HNO.out, hbig'⟩)
            go_wp2
            go_roundw
            case rel => exact ⟨k + 1, by omega, by go_num, by rw [HSN.out], HV2.out, HBW.out.trans (HD.out.mono HBW.out.size)⟩
            case measure => simp [intOf]; omega
        · have HF := Lib.hid (show validL l = false from bool_ne fun h => by
           have := (HST.out.1 (HMO.out h)).2.2.1 q (by omega) (by rw [← hm, Nat.add_sub_cancel]; exact hq)
           rw [hO] at this
           cases this)
          exact absurd (HVV.out.symm.trans HF.out) (by decide)
  · obtain rfl : k = n := by omega
    have HK := Lib.hid (show l.take k = l from List.take_of_length_le (by rw [HN.out]; exact Nat.le_refl _))
    have HV := Lib.hid hv
    clear hv
    go_wp2
    go_ret
    exact ⟨ret_bool (by rw [← HK.out]; exact HV.out.symm), hbw⟩
end Go.Proofs.YtemgejblnionlaaGreatDoor.Ext
namespace Go.Proofs.YtemgejblnionlaaGreatDoor.Ext
open Go.RowKit Ex
set_option maxHeartbeats 400000
set_option maxRecDepth 100000
def Big (q : Pc) : Prop := (1 ≤ q.id → q.id < 4096) ∧ 0 ≤ q.fr ∧ q.fr ≤ 1048576 ∧ 1 ≤ q.n ∧ q.n ≤ 4503599627370496
theorem canBeOne_b {p q : Pc} {r : Bool} (h : oneB p q = r) (hp : Big p) (W : World) : Calls Tryz.prog 262 #[.agg #[.int .i64 p.id, .int .i64 p.fr, .int .i64 p.n], .agg #[.int .i64 q.id, .int .i64 q.fr, .int .i64 q.n]] W fun e w' => e = .returned (.bool r) ∧ Below W.heap.size W w' := by
 subst h
 obtain ⟨h1, h2, h3, h4, h5⟩ := hp
 exact canBeOne_any p q h1 (by omega) W
theorem ko_below {w w' : World} (h : Below w.heap.size w w') : KeepsOthers w w' := ⟨h.size, fun k _ hk _ => (h.block k (Array.getElem?_eq_some_iff.1 hk).1).trans hk⟩
theorem own_cellsB {w : World} {base : Nat} {e : TypeId} {s : Nat} {v : Value} {n : Nat} {xs : List Value} (h : w.ownsRow base e s v n xs) : ∀ (j : Nat) (o : Obj), v.ownBlock = some j → w.heap[j]? = some o → o.isCells = true := by
 intro j _ ej hj
 rcases h.2 with ⟨rfl, _⟩ | ⟨g, cap, cur, rfl, _, hgb, _⟩
 · simp [Value.ownBlock] at ej
 · obtain rfl : g = j := by simpa [Value.ownBlock] using ej
   rw [hgb] at hj; cases hj; rfl
theorem grown_trans {a b c : World} {r : Option Nat} (h : a.grownBy b r) (k : b.grownBy c r) : a.grownBy c r :=
 ⟨k.os.trans h.os, k.tape.trans h.tape, k.output.trans h.output, Nat.le_trans h.size k.size, fun i hi hr => (k.block i (Nat.lt_of_lt_of_le hi h.size) hr).trans (h.block i hi hr)⟩
theorem grown_below {a b : World} (h : Below a.heap.size a b) (r : Option Nat) : a.grownBy b r := ⟨h.os, h.tape, h.output, h.size, fun i hi _ => h.block i hi⟩
theorem grown_set (w : World) (g j : Nat) (v : Value) : w.grownBy (w.setCell ⟨g, j, none⟩ v) (some g) :=
 ⟨rfl, rfl, rfl, by simp [World.setCell], fun k _ hk => Below.heap_setCell _ _ _ k (fun e => hk (by rw [e]))⟩
set_option maxHeartbeats 8000000 in
theorem join_any (base : Nat) (A : Option Addr) (m c : Nat) (O : List Pc) (p : Pc) (hpr : rightB p = true) (hO : ∀ q ∈ O, Big q) (hm : m ≤ 1099511627776) (w : World) (hbs : base ≤ w.heap.size)
 (hown : w.ownsRow base 126 3 (.slice A m c) m (ints (flat3 O))) :
 Calls Tryz.prog 264 #[.slice A m c, .agg #[.int .i64 p.id, .int .i64 p.fr, .int .i64 p.n]] w fun e w' => ∃ A' m' c', e = .returned (.slice A' m' c') ∧ w'.ownsRow base 126 3 (.slice A' m' c') m' (ints (flat3 (addP O p))) ∧ Below base w w' ∧ KeepsOthers w w' ∧ w.grownBy w' (Value.slice A m c).ownBlock := by
 obtain ⟨i0, hi, hz0, hz1, hz2⟩ := info_parts info_piece
 have HML := Lib.hid (own_plen hown)
 have HO := Lib.hid hown
 have hpb := right_iff.1 hpr
 have hp1 : 1 ≤ p.n := hpb.1
 have hp2 : p.n ≤ 1048576 := hpb.2.1
 have hp0 : ¬ p.n ≤ 0 := by omega
 have HBW := Lib.hid (box_below3 w p)
 clear hpb hown
 go_enter Tryz.func264, Tryz.ntmps264
 by_cases hm0 : m = 0
 · subst hm0
   have hO0 : O = [] := List.eq_nil_of_length_eq_zero HML.out
   have HA := Lib.hid (show addP O p = O ++ [p] from by rw [hO0]; unfold addP; rw [if_neg hp0]; rfl)
   have T0 := Lib.hid (fun k => show Tri ((w.alloc (.cells #[.int .i64 p.id, .int .i64 p.fr, .int .i64 p.n] 126)).drewN k) w.heap.size 0 p from box_tri w p)
   have B0 := Lib.hid (fun k => show Below w.heap.size w ((w.alloc (.cells #[.int .i64 p.id, .int .i64 p.fr, .int .i64 p.n] 126)).drewN k) from ((Below.refl _ w).alloc (Nat.le_refl _) _).trans ((below_drewN _ k).mono (by simp)))
   clear hO0
   go_wp2
   go_quiet (fail)
   have t0 := T0.out nq
   have HB1 := Lib.hid (B0.out nq)
   obtain ⟨wq, hwq⟩ : ∃ W, (w.alloc (.cells #[.int .i64 p.id, .int .i64 p.fr, .int .i64 p.n] 126)).drewN nq = W := ⟨_, rfl⟩
   rw [hwq] at t0 HB1 ⊢
   obtain ⟨s0, s1, s2⟩ := t0
   have HO1 := Lib.hid (own_keep HO.out HB1.out)
   have hbs1 := HB1.out.size
   clear hwq
   go_wp2_with (at_builtin; refine wpList_append_own _ rfl _ _ 63 rfl base 126 i0 _ 3 24 Tryz.underlying63 hi hz0 hz1 hz2 rfl (by decide) _ _ _ rfl (HO1.out.alloc _) ⟨wq.heap.size, 0, none⟩ 1 1 (ints (flat3 [p])) rfl rfl (cells_new _ _ _) (ints_cells _) (by unfold maxLen; omega) (by omega) (by simp; omega) ?_; intro v' w7 hown7 hgrow7 _; obtain ⟨g7, c7, rfl⟩ := ownsRow_succ hown7)
   have hb7 : Below base w w7 := ((HB1.out.mono hbs).alloc (Nat.le_trans hbs hbs1) _).grown hgrow7 (by simp; omega) (fun t ht => (HO.out.lt t ht).1)
   have hg7 : w.grownBy w7 (Value.slice A 0 c).ownBlock := grown_trans (grown_trans (grown_below HB1.out _) (World.grownBy_alloc _ _ _)) hgrow7
   have hk7 : KeepsOthers w w7 := ((ko_below HB1.out).trans (KeepsOthers.alloc _ _)).trans (KeepsOthers.of_grownBy hgrow7 (own_cellsB (HO1.out.alloc _)))
   go_ret
   exact ⟨_, _, _, rfl, by rw [HA.out, flat3_append, ints_append]; exact hown7, hb7, hk7, hg7⟩
 · obtain ⟨j, hj⟩ : ∃ j, j + 1 = m := ⟨m - 1, by omega⟩
   obtain ⟨gO, cO, hAO, hgO, hgO2⟩ := HO.out.form (by omega)
   injection hAO with hAO _ hcO
   subst hAO; subst hcO
   obtain ⟨q, hq⟩ : ∃ q, O[j]? = some q := ⟨_, List.getElem?_eq_getElem (by rw [HML.out]; omega)⟩
   have hlast : O.getLast? = some q := by rw [List.getLast?_eq_getElem?, HML.out, ← hj, Nat.add_sub_cancel]; exact hq
   obtain ⟨⟨e0, e1, e2⟩, e3⟩ := own_tri HO.out hq
   have hqr := hO q (List.mem_of_getElem? hq)
   have hq1 : 1 ≤ q.n := hqr.2.2.2.1
   have hq2 : q.n ≤ 4503599627370496 := hqr.2.2.2.2
   have hjm : (m : Int) - 1 = (j : Int) := by omega
   have hjw : IntKind.i64.wrap (j : Int) = (j : Int) := IntWalk.i64_in _ (by omega)
   have j0 : (0 : Int) ≤ (j : Int) := Int.natCast_nonneg j
   have jm : (j : Int) < (m : Int) := by omega
   have F0 : Hid (Duo (w.alloc (.cells #[.int .i64 p.id, .int .i64 p.fr, .int .i64 p.n] 126)).drew gO (j * 3) w.heap.size 0 q p) := Lib.hid
    ⟨(HBW.out.cell (block_lt_of_cell e0)).trans e0, (HBW.out.cell (block_lt_of_cell e1)).trans e1, (HBW.out.cell (block_lt_of_cell e2)).trans e2, box_tri w p⟩
   have HSP := Lib.hid (last_split hlast)
   have j00 : decide ((0 : Int) ≤ (j : Int)) = true := decide_eq_true j0
   clear e0 e1 hq
   cases hone : oneB q p
   · have OC := Lib.hid (canBeOne_b hone hqr)
     have HA := Lib.hid (show addP O p = O ++ [p] from by unfold addP; rw [if_neg hp0, hlast]; simp only []; rw [hone, if_neg (by decide)])
     clear hone hqr hlast e2 e3 hj hm0 hO
     go_wp2
     refine wp_region_held_drew (S := (fun W' => W'.cell? ⟨gO, j * 3, none⟩ = some (.int .i64 q.id) ∧ W'.cell? ⟨gO, j * 3 + 1, none⟩ = some (.int .i64 q.fr) ∧ W'.cell? ⟨gO, j * 3 + 2, none⟩ = some (.int .i64 q.n) ∧ W'.cell? ⟨w.heap.size, 0, none⟩ = some (.int .i64 p.id) ∧ W'.cell? ⟨w.heap.size, 1, none⟩ = some (.int .i64 p.fr) ∧ W'.cell? ⟨w.heap.size, 2, none⟩ = some (.int .i64 p.n))) (by kernel_rfl) (by exact F0.out) (fun hHeld => ?_)
     refine takeH 0 ?_ rfl (Or.inl ⟨by rfl, ?_⟩) ?_
     rotate_left
     · ((intro w' hSw); (try dsimp only at hSw); go_simp; all_goals (with_reducible rfl))
     simp only [Act.put, puts]
     refine takeH 1 ?_ rfl (Or.inl ⟨by rfl, ?_⟩) ?_
     rotate_left
     · ((intro w' hSw); (try dsimp only at hSw); go_simp; all_goals (with_reducible rfl))
     simp only [Act.put, puts]
     refine takeH 2 ?_ rfl (Or.inl ⟨by rfl, ?_⟩) ?_
     rotate_left
     · ((intro w' hSw); (try dsimp only at hSw); go_simp; all_goals (with_reducible rfl))
     simp only [Act.put, puts]
     refine takeH 3 ?_ rfl (Or.inl ⟨by rfl, ?_⟩) ?_
     rotate_left
     · ((intro w' hSw); (try dsimp only at hSw); go_simp; all_goals (with_reducible rfl))
     simp only [Act.put, puts]
     refine takeH 4 ?_ rfl (Or.inl ⟨by rfl, ?_⟩) ?_
     rotate_left
     · ((intro w' hSw); (try dsimp only at hSw); go_simp; all_goals (with_reducible rfl))
     simp only [Act.put, puts]
     refine takeH 5 ?_ rfl (Or.inl ⟨by rfl, ?_⟩) ?_
     rotate_left
     · ((intro w' hSw); (try dsimp only at hSw); go_simp; all_goals (with_reducible rfl))
     simp only [Act.put, puts]
     refine takeH 6 ?_ rfl (Or.inl ⟨by rfl, ?_⟩) ?_
     rotate_left
     · ((intro w' hSw); (try dsimp only at hSw); go_simp; all_goals (with_reducible rfl))
     simp only [Act.put, puts]
     refine takeH 7 ?_ rfl (Or.inl ⟨by rfl, ?_⟩) ?_
     rotate_left
     · ((intro w' hSw); (try dsimp only at hSw); go_simp; all_goals (with_reducible rfl))
     simp only [Act.put, puts]
     refine wpAnyH_ready (rs := [8]) (by kernel_rfl) (by simp) ?_
     refine AllReadyH.cons rfl (fun K hK => ?_) AllReadyH.nil
     go_simp
     go_wp2_with (go_at_call 262; (with_reducible refine (OC.out _).mono ?_); rintro e w1 ⟨rfl, hb1⟩; have F1 := Lib.hid (duo_keep F0.out hb1); have HB1 := Lib.hid (box_dn w p hb1); clear hb1)
     refine hK.out _ _ ?_ (fun hHeld => ?_)
     · exact F1.out
     clear hK K
     refine takeH 9 ?_ rfl (Or.inl ⟨by rfl, ?_⟩) ?_
     rotate_left
     · ((intro w' hSw); (try dsimp only at hSw); go_simp; all_goals (with_reducible rfl))
     simp only [Act.put, puts]
     refine wpAnyH_done (by kernel_rfl) ?_ _
     obtain ⟨_, _, _, s0, s1, s2⟩ := F1.out
     have HO1 := Lib.hid (own_keep HO.out HB1.out)
     have hbs1 := HB1.out.size
     go_wp2_with (at_builtin; refine wpList_append_own _ rfl _ _ 63 rfl base 126 i0 _ 3 24 Tryz.underlying63 hi hz0 hz1 hz2 rfl (by decide) _ _ _ rfl (HO1.out.alloc _) ⟨w1.heap.size, 0, none⟩ 1 1 (ints (flat3 [p])) rfl rfl (cells_new _ _ _) (ints_cells _) (by unfold maxLen; omega) (by omega) (by simp; omega) ?_; intro v' w7 hown7 hgrow7 _; obtain ⟨g7, c7, rfl⟩ := ownsRow_succ hown7)
     have hb7 : Below base w w7 := ((HB1.out.mono hbs).alloc (Nat.le_trans hbs hbs1) _).grown hgrow7 (by simp; omega) (fun t ht => (HO.out.lt t ht).1)
     have hg7 : w.grownBy w7 (Value.slice (some ⟨gO, 0, none⟩) m c).ownBlock := grown_trans (grown_trans (grown_below HB1.out _) (World.grownBy_alloc _ _ _)) hgrow7
     have hk7 : KeepsOthers w w7 := ((ko_below HB1.out).trans (KeepsOthers.alloc _ _)).trans (KeepsOthers.of_grownBy hgrow7 (own_cellsB (HO1.out.alloc _)))
     go_ret
     exact ⟨_, _, _, rfl, by rw [HA.out, flat3_append, ints_append]; exact hown7, hb7, hk7, hg7⟩
   · have OC := Lib.hid (canBeOne_b hone hqr)
     have HA := Lib.hid (show addP O p = O.dropLast ++ [{ q with n := q.n + p.n }] from by unfold addP; rw [if_neg hp0, hlast]; simp only []; rw [hone, if_pos rfl])
     have hlen : O.dropLast.length = j := by rw [List.length_dropLast, HML.out]; omega
     have HFL := Lib.hid (show flat3 (O.dropLast ++ [{ q with n := q.n + p.n }]) = (flat3 O).set (j * 3 + 2) (q.n + p.n) from by rw [flat3_set, hlen, ← HSP.out])
     clear hone hqr hlast e2 hj hm0 hlen hO
     go_wp2
     refine wp_region_held_drew (S := (fun W' => W'.cell? ⟨gO, j * 3, none⟩ = some (.int .i64 q.id) ∧ W'.cell? ⟨gO, j * 3 + 1, none⟩ = some (.int .i64 q.fr) ∧ W'.cell? ⟨gO, j * 3 + 2, none⟩ = some (.int .i64 q.n) ∧ W'.cell? ⟨w.heap.size, 0, none⟩ = some (.int .i64 p.id) ∧ W'.cell? ⟨w.heap.size, 1, none⟩ = some (.int .i64 p.fr) ∧ W'.cell? ⟨w.heap.size, 2, none⟩ = some (.int .i64 p.n))) (by kernel_rfl) (by exact F0.out) (fun hHeld => ?_)
     refine takeH 0 ?_ rfl (Or.inl ⟨by rfl, ?_⟩) ?_
     rotate_left
     · ((intro w' hSw); (try dsimp only at hSw); go_simp; all_goals (with_reducible rfl))
     simp only [Act.put, puts]
     refine takeH 1 ?_ rfl (Or.inl ⟨by rfl, ?_⟩) ?_
     rotate_left
     · ((intro w' hSw); (try dsimp only at hSw); go_simp; all_goals (with_reducible rfl))
     simp only [Act.put, puts]
     refine takeH 2 ?_ rfl (Or.inl ⟨by rfl, ?_⟩) ?_
     rotate_left
     · ((intro w' hSw); (try dsimp only at hSw); go_simp; all_goals (with_reducible rfl))
     simp only [Act.put, puts]
     refine takeH 3 ?_ rfl (Or.inl ⟨by rfl, ?_⟩) ?_
     rotate_left
     · ((intro w' hSw); (try dsimp only at hSw); go_simp; all_goals (with_reducible rfl))
     simp only [Act.put, puts]
     refine takeH 4 ?_ rfl (Or.inl ⟨by rfl, ?_⟩) ?_
     rotate_left
     · ((intro w' hSw); (try dsimp only at hSw); go_simp; all_goals (with_reducible rfl))
     simp only [Act.put, puts]
     refine takeH 5 ?_ rfl (Or.inl ⟨by rfl, ?_⟩) ?_
     rotate_left
     · ((intro w' hSw); (try dsimp only at hSw); go_simp; all_goals (with_reducible rfl))
     simp only [Act.put, puts]
     refine takeH 6 ?_ rfl (Or.inl ⟨by rfl, ?_⟩) ?_
     rotate_left
     · ((intro w' hSw); (try dsimp only at hSw); go_simp; all_goals (with_reducible rfl))
     simp only [Act.put, puts]
     refine takeH 7 ?_ rfl (Or.inl ⟨by rfl, ?_⟩) ?_
     rotate_left
     · ((intro w' hSw); (try dsimp only at hSw); go_simp; all_goals (with_reducible rfl))
     simp only [Act.put, puts]
     refine wpAnyH_ready (rs := [8]) (by kernel_rfl) (by simp) ?_
     refine AllReadyH.cons rfl (fun K hK => ?_) AllReadyH.nil
     go_simp
     go_wp2_with (go_at_call 262; (with_reducible refine (OC.out _).mono ?_); rintro e w1 ⟨rfl, hb1⟩; have F1 := Lib.hid (duo_keep F0.out hb1); have HB1 := Lib.hid (box_dn w p hb1); clear hb1)
     refine hK.out _ _ ?_ (fun hHeld => ?_)
     · exact F1.out
     clear hK K
     refine takeH 9 ?_ rfl (Or.inl ⟨by rfl, ?_⟩) ?_
     rotate_left
     · ((intro w' hSw); (try dsimp only at hSw); go_simp; all_goals (with_reducible rfl))
     simp only [Act.put, puts]
     refine wpAnyH_done (by kernel_rfl) ?_ _
     obtain ⟨s3, s4, s5, s0, s1, s2⟩ := F1.out
     have HO1 := Lib.hid (own_keep HO.out HB1.out)
     have hbs1 := HB1.out.size
     have f5 := (HB1.out.frozen (p := ⟨gO, j * 3 + 2, none⟩) hgO2).trans e3
     have s5' : w1.drew.cell? ⟨gO, j * 3 + 2, none⟩ = some (.int .i64 q.n) := s5
     have f5' : w1.drew.frozen? ⟨gO, j * 3 + 2, none⟩ = false := f5
     have s2' : w1.drew.cell? ⟨w.heap.size, 2, none⟩ = some (.int .i64 p.n) := s2
     have hsum : IntKind.i64.wrap (q.n + p.n) = q.n + p.n := IntWalk.i64_in _ (by omega)
     go_wp2_with fail
     go_still_tail 10, (by kernel_rfl)
     change wpList _ _ _ _ _ w1.drew
     clear s3 s4 s5 s0 s1 s2 f5
     go_wp2
     go_ret
     refine ⟨_, _, _, rfl, ?_, ?_, ?_, ?_⟩
     · rw [HA.out, HFL.out, ints_set]
       exact own_store (own_drew HO1.out) _ _
     · exact ((HB1.out.mono hbs).trans ((below_drewN w1 1).mono (Nat.le_trans hbs hbs1))).setCell (p := ⟨gO, j * 3 + 2, none⟩) hgO _
     · exact ((ko_below HB1.out).trans (KeepsOthers.drew w1)).trans (KeepsOthers.setCell _ _ _)
     · exact grown_trans (grown_trans (grown_below HB1.out _) (grown_below (below_drewN w1 1) _)) (grown_set _ _ _ _)
end Go.Proofs.YtemgejblnionlaaGreatDoor.Ext
namespace Go.Proofs.YtemgejblnionlaaGreatDoor.Ext
open Go.RowKit Go.Shelf Ex
attribute [local go_sem] Oper.semAt_some
set_option maxHeartbeats 400000
set_option maxRecDepth 100000
abbrev Rp := { p : Pc // rightB p = true }
def vals (l : List Rp) : List Pc := l.map (·.1)
theorem vals_snoc (l : List Rp) (x : Rp) : vals (l ++ [x]) = vals l ++ [x.1] := by simp [vals]
theorem vals_len (l : List Rp) : (vals l).length = l.length := by simp [vals]
theorem vals_inj {l m : List Rp} (h : vals l = vals m) : l = m := by
 refine List.map_inj_right (fun x y e => Subtype.ext e) |>.1 h
theorem vals_of : ∀ (l : List Pc), (∀ p ∈ l, rightB p = true) → ∃ ys : List Rp, vals ys = l
 | [], _ => ⟨[], rfl⟩
 | p :: l, h => by
   obtain ⟨ys, hy⟩ := vals_of l (fun q hq => h q (by simp [hq]))
   exact ⟨⟨p, h p (by simp)⟩ :: ys, by show p :: vals ys = p :: l; rw [hy]⟩
abbrev encs (x : Rp) : Array Value := #[.agg #[.int .i64 x.1.id, .int .i64 x.1.fr, .int .i64 x.1.n]]
def Gives (w : World) (v : Value) (ps : List Pc) : Prop :=
 ∃ (g : Nat) (lb : Array Value) (ys : List Rp), v = .func (.func g) #[] lb ∧ (∀ args W, (callFunc g args).run Tryz.prog W = .ok (.enter g args) W) ∧ vals ys = ps ∧
   ∀ (W : World) (n : Nat), 1 ≤ n → Below w.heap.size w W → SeqStopsK Fence.wide n Tryz.prog g lb encs (Below w.heap.size) (fun zs => zs = ys) (fun _ => True) ys.length W
theorem Gives.below {w w' : World} {v : Value} {ps : List Pc} (h : Gives w v ps) (hb : Below w.heap.size w w') : Gives w' v ps := by
 obtain ⟨g, lb, ys, h1, h2, h3, h4⟩ := h
 refine ⟨g, lb, ys, h1, h2, h3, fun W n hn hW => ?_⟩
 have S := h4 W n hn (hb.trans (hW.mono hb.size))
 intro l J Jx W' hW' hJ hJx hY h0
 refine S l J Jx W' hW' hJ hJx (fun pre x W1 hj hl => (hY pre x W1 hj hl).mono ?_) h0
 rintro e W2 (⟨h5, h6, h7⟩ | h5)
 · exact .inl ⟨h5, h6, h7.mono hb.size⟩
 · exact .inr h5
theorem values1_in (n : Nat) (hn : 1 ≤ n) (l Bs : Nat) (w0 : World) (A : Option Addr) (k0 c : Nat) (b : List Pc) (ys : List Rp) (hys : vals ys = b) (hlen : b.length = k0) (hk0 : k0 ≤ 9223372036854775807)
 (hc : w0.cell? ⟨Bs, 0, none⟩ = some (.slice A k0 c)) (hA : Pcs w0 A b) (J Jx : List Rp → World → Prop)
 (hY : ∀ (pre : List Rp) (x : Rp) W, J pre W → pre.length < ys.length → YieldAt Fence.wide (n - 1) Tryz.prog l (encs x) W fun e W' =>
  (e = .returned (.bool true) ∧ J (pre ++ [x]) W' ∧ Below w0.heap.size W W') ∨ (e = .returned (.bool false) ∧ Jx (pre ++ [x]) W'))
 (W : World) (hJ : AbidesFrom W.heap.size J) (hW : Below w0.heap.size w0 W) (h0 : J [] W) :
 CallsIn Fence.wide n Tryz.prog 137 #[.func (.yield l) #[] #[], .pointer (some ⟨Bs, 0, none⟩)] W fun e W' => (∃ v, e = .returned v) ∧
  ((∃ zs, zs = ys ∧ J zs W') ∨ (∃ pre, True ∧ Jx pre W')) := by
 have HJd := Lib.hid (fun s (X : World) (o : Obj) (h : W.heap.size ≤ X.heap.size ∧ J s X) => show W.heap.size ≤ (X.alloc o).heap.size ∧ J s (X.alloc o) from
  ⟨by simp; omega, hJ s X _ none h.2 (World.grownBy_alloc X o none) (fun r e => by cases e)⟩)
 have HY := Lib.hid hY
 have SA := Lib.hid hA
 have HB := Lib.hid (block_lt_of_cell hc)
 have HYS := Lib.hid hys
 have hcW := (hW.cell (block_lt_of_cell hc)).trans hc
 clear hJ hY hA
 have h53 : Fence.wide.fn 137 := trivial
 refine callsIn_of_wp Tryz.func137 rfl h53 ?_ rfl
 simp only [Tryz.ntmps137, List.size_toArray, List.length_cons, List.length_nil, Nat.reduceAdd, Nat.reduceSub, Array.replicate_succ, Array.replicate_zero, List.push_toArray, List.append_toArray, List.nil_append, List.cons_append]
 gi_wp2
 gi_loopw [7] (fun i wr => ∃ (k : Nat) (pre : List Rp), k ≤ k0 ∧ i = .int .i64 k ∧ vals pre = b.take k ∧ (W.heap.size ≤ wr.heap.size ∧ J pre wr) ∧ Below w0.heap.size w0 wr)
  (fun i _ => k0 - (intOf i).toNat)
 case atStart => exact ⟨0, [], Nat.zero_le _, rfl, rfl, ⟨Nat.le_refl _, h0⟩, hW⟩
 case round =>
  obtain ⟨k, pre, hk, rfl, hpre, hJs, hbw⟩ := hrel
  by_cases hlt : k < k0
  · have hkl : k < b.length := by rw [hlen]; exact hlt
    have hg : b[k]? = some b[k] := List.getElem?_eq_getElem hkl
    have hky : k < ys.length := by rw [← vals_len, HYS.out]; exact hkl
    obtain ⟨x, hx⟩ : ∃ x, ys[k] = x := ⟨_, rfl⟩
    have hxk : b[k] = x.1 := by
     have : (vals ys)[k]'(by rw [vals_len]; exact hky) = ys[k].1 := by simp [vals]
     rw [← hx, ← this]
     congr 1
     exact HYS.out.symm
    rw [hxk] at hg
    obtain ⟨g, o, hA', hgw, q0, q1, q2⟩ := (SA.out.below hbw).at_ hg
    subst hA'
    have hsucc : vals (pre ++ [x]) = b.take (k + 1) := by rw [vals_snoc, hpre, List.take_succ_eq_append_getElem hkl, hxk]
    have hpl : pre.length < ys.length := by
     have := congrArg List.length hpre
     rw [vals_len, List.length_take] at this
     omega
    have HS := Lib.hid hsucc
    obtain ⟨fn, tmps, assign, body, hy, hR⟩ := HY.out pre x (wr.alloc (.cells #[.int .i64 x.1.id, .int .i64 x.1.fr, .int .i64 x.1.n] 126)) (HJd.out _ _ _ hJs).2 hpl
    have kn : (k : Int) < (k0 : Int) := Int.ofNat_lt.2 hlt
    have k00 : (0 : Int) ≤ (k : Int) := Int.natCast_nonneg k
    have hbA : Below w0.heap.size w0 (wr.alloc (.cells #[.int .i64 x.1.id, .int .i64 x.1.fr, .int .i64 x.1.n] 126)) := hbw.alloc hbw.size _
    have hsz : W.heap.size ≤ (wr.alloc (.cells #[.int .i64 x.1.id, .int .i64 x.1.fr, .int .i64 x.1.n] 126)).heap.size := (HJd.out _ _ _ hJs).1
    have HBA := Lib.hid hbA
    have HSZ := Lib.hid hsz
    clear hsucc hx hxk hg hpre hbA hsz
    gi_wp2
    refine hR.mono ?_
    rintro e W3 (⟨rfl, hJ3, hk3⟩ | ⟨rfl, hJx3⟩)
    · have hs3 := hk3.size
      have HS3 := Lib.hid (Nat.le_trans HSZ.out hs3)
      gi_wp2
      go_roundw
      case rel => exact ⟨k + 1, pre ++ [x], by omega, by go_num, HS.out, ⟨HS3.out, hJ3⟩, HBA.out.trans hk3⟩
      case measure => simp [intOf]; omega
    · gi_wp2
      refine bodyPost_ret (results_none rfl _ _ _) rfl ?_
      exact ⟨⟨_, rfl⟩, .inr ⟨pre ++ [x], trivial, hJx3⟩⟩
  · obtain rfl : k = k0 := by omega
    have HP := Lib.hid (show pre = ys from vals_inj (by rw [hpre, HYS.out, List.take_of_length_le (by omega)]))
    gi_wp2
    go_end0
    exact ⟨⟨_, rfl⟩, .inl ⟨pre, HP.out, hJs.2⟩⟩
theorem values_gives (w : World) (Bs : Nat) (A : Option Addr) (k0 c : Nat) (b : List Pc) (hr : ∀ p ∈ b, rightB p = true) (hlen : b.length = k0) (hk0 : k0 ≤ 9223372036854775807) (hc : w.cell? ⟨Bs, 0, none⟩ = some (.slice A k0 c)) (hA : Pcs w A b) :
 Gives w (.func (.func 137) #[] #[.pointer (some ⟨Bs, 0, none⟩)]) b := by
 obtain ⟨ys, hys⟩ := vals_of b hr
 refine ⟨_, _, ys, rfl, enters_of Tryz.func137 (by kernel_rfl) rfl, hys, fun W n hn hW l J Jx W' hW' hJ _ hY h0 => ?_⟩
 exact values1_in n hn l Bs w A k0 c b ys hys hlen hk0 hc hA J Jx hY W' hJ (hW.trans (hW'.mono hW.size)) h0
theorem one1_in (n : Nat) (hn : 1 ≤ n) (l Bp : Nat) (w0 : World) (x : Rp) (hc : Tri w0 Bp 0 x.1) (J Jx : List Rp → World → Prop)
 (hY : ∀ (pre : List Rp) (x : Rp) W, J pre W → pre.length < 1 → YieldAt Fence.wide (n - 1) Tryz.prog l (encs x) W fun e W' =>
  (e = .returned (.bool true) ∧ J (pre ++ [x]) W' ∧ Below w0.heap.size W W') ∨ (e = .returned (.bool false) ∧ Jx (pre ++ [x]) W'))
 (W : World) (hW : Below w0.heap.size w0 W) (h0 : J [] W) :
 CallsIn Fence.wide n Tryz.prog 267 #[.func (.yield l) #[] #[], .pointer (some ⟨Bp, 0, none⟩)] W fun e W' => (∃ v, e = .returned v) ∧
  ((∃ zs, zs = [x] ∧ J zs W') ∨ (∃ pre, True ∧ Jx pre W')) := by
 obtain ⟨q0, q1, q2⟩ := hc.below hW
 obtain ⟨fn, tmps, assign, body, hy, hR⟩ := hY [] x W h0 (by simp)
 have h53 : Fence.wide.fn 267 := trivial
 refine callsIn_of_wp Tryz.func267 rfl h53 ?_ rfl
 simp only [Tryz.ntmps267, List.size_toArray, List.length_cons, List.length_nil, Nat.reduceAdd, Nat.reduceSub, Array.replicate_succ, Array.replicate_zero, List.push_toArray, List.append_toArray, List.nil_append, List.cons_append]
 clear hY h0 hc
 replace q0 : W.cell? ⟨Bp, 0, none⟩ = some (.int .i64 x.1.id) := q0
 replace q1 : W.cell? ⟨Bp, 1, none⟩ = some (.int .i64 x.1.fr) := q1
 replace q2 : W.cell? ⟨Bp, 2, none⟩ = some (.int .i64 x.1.n) := q2
 gi_wp2
 refine hR.mono ?_
 rintro e W3 (⟨rfl, hJ3, hk3⟩ | ⟨rfl, hJx3⟩)
 · gi_wp2
   go_end0
   exact ⟨⟨_, rfl⟩, .inl ⟨_, rfl, hJ3⟩⟩
 · gi_wp2
   go_end0
   exact ⟨⟨_, rfl⟩, .inr ⟨_, trivial, hJx3⟩⟩
theorem one_gives (w : World) (Bp : Nat) (p : Pc) (hr : rightB p = true) (hc : Tri w Bp 0 p) :
 Gives w (.func (.func 267) #[] #[.pointer (some ⟨Bp, 0, none⟩)]) [p] := by
 refine ⟨_, _, [⟨p, hr⟩], rfl, enters_of Tryz.func267 (by kernel_rfl) rfl, rfl, fun W n hn hW l J Jx W' hW' _ _ hY h0 => ?_⟩
 exact one1_in n hn l Bp w ⟨p, hr⟩ hc J Jx hY W' (hW.trans (hW'.mono hW.size)) h0
theorem hole1_in (n : Nat) (l : Nat) (J Jx : List Rp → World → Prop) (W : World) (h0 : J [] W) :
 CallsIn Fence.wide n Tryz.prog 266 #[.func (.yield l) #[] #[]] W fun e W' => (∃ v, e = .returned v) ∧
  ((∃ zs, zs = [] ∧ J zs W') ∨ (∃ pre, True ∧ Jx pre W')) := by
 have h53 : Fence.wide.fn 266 := trivial
 refine callsIn_of_wp Tryz.func266 rfl h53 ?_ rfl
 simp only [Tryz.ntmps266, List.size_toArray, List.length_cons, List.length_nil, Nat.reduceAdd, Nat.reduceSub, Array.replicate_succ, Array.replicate_zero, List.push_toArray, List.append_toArray, List.nil_append, List.cons_append]
 gi_wp2
 go_end0
 exact ⟨⟨_, rfl⟩, .inl ⟨_, rfl, h0⟩⟩
theorem hole_gives (w : World) : Gives w (.func (.func 266) #[] #[]) [] := by
 refine ⟨_, _, [], rfl, enters_of Tryz.func266 (by kernel_rfl) rfl, rfl, fun W n _ _ l J Jx W' _ _ _ _ h0 => ?_⟩
 exact hole1_in n l J Jx W' h0
end Go.Proofs.YtemgejblnionlaaGreatDoor.Ext
namespace Go.Proofs.YtemgejblnionlaaGreatDoor.Ext
open Go.RowKit Go.Shelf Ex
attribute [local go_sem] Oper.semAt_some
set_option maxHeartbeats 400000
set_option maxRecDepth 100000
def clip (lo hi s : Int) (p : Pc) : List Pc :=
 if min (hi - s) p.n ≤ max (lo - s) 0 then [] else [{ id := p.id, fr := if chunkB p.id then p.fr + max (lo - s) 0 else p.fr, n := min (hi - s) p.n - max (lo - s) 0 }]
def withinL (lo hi : Int) : Int → List Pc → List Pc
 | _, [] => []
 | s, p :: l => clip lo hi s p ++ withinL lo hi (s + p.n) l
theorem within_snoc (lo hi : Int) (p : Pc) : ∀ (l : List Pc) (s : Int), withinL lo hi s (l ++ [p]) = withinL lo hi s l ++ clip lo hi (s + sizeL l) p
 | [], s => by simp [withinL, sizeL]
 | q :: l, s => by
   show clip lo hi s q ++ withinL lo hi (s + q.n) (l ++ [p]) = (clip lo hi s q ++ withinL lo hi (s + q.n) l) ++ _
   rw [within_snoc lo hi p l, List.append_assoc]
   simp only [sizeL]
   rw [show s + q.n + sizeL l = s + (q.n + sizeL l) by omega]
theorem clip_right {lo hi s : Int} {p : Pc} (hr : rightB p = true) : ∀ q ∈ clip lo hi s p, rightB q = true := by
 intro q hq
 unfold clip at hq
 split at hq
 · cases hq
 · rename_i hlt
   rw [List.mem_singleton] at hq
   subst hq
   have h := right_iff.1 hr
   rw [right_iff]
   cases hc : chunkB p.id
   · have := chunk_not.1 hc
     simp only [Bool.false_eq_true, if_false]
     omega
   · have := chunk_iff.1 hc
     simp only [if_true]
     omega
theorem within_right {lo hi : Int} : ∀ {l : List Pc} {s : Int}, (∀ p ∈ l, rightB p = true) → ∀ q ∈ withinL lo hi s l, rightB q = true
 | [], _, _, q, hq => by cases hq
 | p :: l, s, h, q, hq => by
   rcases List.mem_append.1 hq with hq | hq
   · exact clip_right (h p (by simp)) q hq
   · exact within_right (fun r hr => h r (by simp [hr])) q hq
theorem within_len (lo hi : Int) : ∀ (l m : List Pc) (s : Int), (withinL lo hi s l).length ≤ (withinL lo hi s (l ++ m)).length
 | [], _, _ => by simp [withinL]
 | p :: l, m, s => by
   show (clip lo hi s p ++ withinL lo hi (s + p.n) l).length ≤ (clip lo hi s p ++ withinL lo hi (s + p.n) (l ++ m)).length
   rw [List.length_append, List.length_append]
   have := within_len lo hi l m (s + p.n)
   omega
set_option maxHeartbeats 4000000 in
theorem within1_in (n : Nat) (hn : 1 ≤ n) (l Bb Bl Bh : Nat) (w0 : World) (A : Option Addr) (k0 c : Nat) (b : List Pc) (lo hi : Int) (hlo : 0 ≤ lo) (hlo' : lo ≤ 9223372036854775807) (hhi : 0 ≤ hi) (hhi' : hi ≤ 9223372036854775807)
 (hrb : ∀ p ∈ b, rightB p = true) (hsb : sizeL b ≤ 1048576)
 (ys : List Rp) (hys : vals ys = withinL lo hi 0 b) (hlen : b.length = k0) (hk0 : k0 ≤ 9223372036854775807)
 (hc : w0.cell? ⟨Bb, 0, none⟩ = some (.slice A k0 c)) (hcl : w0.cell? ⟨Bl, 0, none⟩ = some (.int .i64 lo)) (hch : w0.cell? ⟨Bh, 0, none⟩ = some (.int .i64 hi)) (hA : Pcs w0 A b) (J Jx : List Rp → World → Prop)
 (hY : ∀ (pre : List Rp) (x : Rp) W, J pre W → pre.length < ys.length → YieldAt Fence.wide (n - 1) Tryz.prog l (encs x) W fun e W' =>
  (e = .returned (.bool true) ∧ J (pre ++ [x]) W' ∧ Below w0.heap.size W W') ∨ (e = .returned (.bool false) ∧ Jx (pre ++ [x]) W'))
 (W : World) (hJ : AbidesFrom W.heap.size J) (hW : Below w0.heap.size w0 W) (h0 : J [] W) :
 CallsIn Fence.wide n Tryz.prog 265 #[.func (.yield l) #[] #[], .pointer (some ⟨Bb, 0, none⟩), .pointer (some ⟨Bl, 0, none⟩), .pointer (some ⟨Bh, 0, none⟩)] W fun e W' => (∃ v, e = .returned v) ∧
  ((∃ zs, zs = ys ∧ J zs W') ∨ (∃ pre, True ∧ Jx pre W')) := by
 have HJg := Lib.hid (fun s (X Y : World) (h : W.heap.size ≤ X.heap.size ∧ J s X) (hg : Below X.heap.size X Y) => show W.heap.size ≤ Y.heap.size ∧ J s Y from
  ⟨Nat.le_trans h.1 hg.size, hJ s X Y none h.2 ⟨hg.os, hg.tape, hg.output, hg.size, fun k hk _ => hg.block k hk⟩ (fun r e => by cases e)⟩)
 have HY := Lib.hid hY
 have SA := Lib.hid hA
 have HYS := Lib.hid hys
 have HRB := Lib.hid hrb
 have HSB := Lib.hid (fun k => sizeL_le (l := b) (fun p hp => by have := (right_iff.1 (hrb p hp)).1; omega) k)
 have hcW := (hW.cell (block_lt_of_cell hc)).trans hc
 have HCL := Lib.hid (fun X (h : Below w0.heap.size w0 X) => (h.cell (block_lt_of_cell hcl)).trans hcl)
 have HCH := Lib.hid (fun X (h : Below w0.heap.size w0 X) => (h.cell (block_lt_of_cell hch)).trans hch)
 clear hJ hY hA hrb hc hcl hch
 have h53 : Fence.wide.fn 265 := trivial
 refine callsIn_of_wp Tryz.func265 rfl h53 ?_ rfl
 simp only [Tryz.ntmps265, List.size_toArray, List.length_cons, List.length_nil, Nat.reduceAdd, Nat.reduceSub, Array.replicate_succ, Array.replicate_zero, List.push_toArray, List.append_toArray, List.nil_append, List.cons_append]
 gi_wp2
 gi_loopw [5, 12] (fun a i wr => ∃ (k : Nat) (pre : List Rp), k ≤ k0 ∧ i = .int .i64 k ∧ a = .int .i64 (sizeL (b.take k)) ∧ vals pre = withinL lo hi 0 (b.take k) ∧ (W.heap.size ≤ wr.heap.size ∧ J pre wr) ∧ Below w0.heap.size w0 wr)
  (fun _ i _ => k0 - (intOf i).toNat)
 case atStart => exact ⟨0, [], Nat.zero_le _, rfl, rfl, rfl, ⟨Nat.le_refl _, h0⟩, hW⟩
 case round =>
  obtain ⟨k, pre, hk, rfl, rfl, hpre, hJs, hbw⟩ := hrel
  by_cases hlt : k < k0
  · have hkl : k < b.length := by rw [hlen]; exact hlt
    have hg : b[k]? = some b[k] := List.getElem?_eq_getElem hkl
    obtain ⟨p, hp⟩ : ∃ p, b[k] = p := ⟨_, rfl⟩
    rw [hp] at hg
    have hpr := HRB.out p (List.mem_of_getElem? hg)
    have hpb := right_iff.1 hpr
    obtain ⟨g, o, hA', hgw, q0, q1, q2⟩ := (SA.out.below hbw).at_ hg
    subst hA'
    have hsn := sizeL_take hg
    have h1 := HSB.out k
    have h2 := HSB.out (k + 1)
    have hts : withinL lo hi 0 (b.take (k + 1)) = withinL lo hi 0 (b.take k) ++ clip lo hi (sizeL (b.take k)) p := by
     rw [List.take_succ_eq_append_getElem hkl, within_snoc, hp, Int.zero_add]
    have hle : (withinL lo hi 0 (b.take (k + 1))).length ≤ ys.length := by
     rw [← vals_len ys, HYS.out]
     have := within_len lo hi (b.take (k + 1)) (b.drop (k + 1)) 0
     rwa [List.take_append_drop] at this
    have hcr := clip_right (lo := lo) (hi := hi) (s := sizeL (b.take k)) hpr
    obtain ⟨s, hs⟩ : ∃ s, sizeL (b.take k) = s := ⟨_, rfl⟩
    rw [hs] at hsn h1 hts hcr
    rw [hsn] at h2
    rw [hs]
    have HSN := Lib.hid hsn
    obtain ⟨f, hf⟩ : ∃ f, max (lo - s) 0 = f := ⟨_, rfl⟩
    obtain ⟨t, ht⟩ : ∃ t, min (hi - s) p.n = t := ⟨_, rfl⟩
    have w1 : IntKind.i64.wrap (lo - s) = lo - s := IntWalk.i64_in _ (by omega)
    have w2 : IntKind.i64.wrap (hi - s) = hi - s := IntWalk.i64_in _ (by omega)
    have kn : (k : Int) < (k0 : Int) := Int.ofNat_lt.2 hlt
    have k00 : (0 : Int) ≤ (k : Int) := Int.natCast_nonneg k
    have HQ := Lib.hid (show ∀ X, Below w0.heap.size w0 X → X.cell? ⟨Bl, 0, none⟩ = some (.int .i64 lo) ∧ X.cell? ⟨Bh, 0, none⟩ = some (.int .i64 hi) from fun X h => ⟨HCL.out X h, HCH.out X h⟩)
    obtain ⟨WB, hWB⟩ : ∃ WB, wr.alloc (.cells #[.int .i64 p.id, .int .i64 p.fr, .int .i64 p.n] 126) = WB := ⟨_, rfl⟩
    have hbB : Below wr.heap.size wr WB := by rw [← hWB]; exact (Below.refl _ wr).alloc (Nat.le_refl _) _
    have hbBx : Below w0.heap.size w0 WB := hbw.trans (hbB.mono hbw.size)
    obtain ⟨cl, ch⟩ := HQ.out WB hbBx
    have T0 := box_tri wr p
    rw [hWB] at T0
    obtain ⟨b0, b1, b2⟩ := T0
    replace b0 : WB.cell? ⟨wr.heap.size, 0, none⟩ = some (.int .i64 p.id) := b0
    replace b1 : WB.cell? ⟨wr.heap.size, 1, none⟩ = some (.int .i64 p.fr) := b1
    replace b2 : WB.cell? ⟨wr.heap.size, 2, none⟩ = some (.int .i64 p.n) := b2
    have hz : ∀ j, WB.frozen? ⟨wr.heap.size, j, none⟩ = false := fun j => by rw [← hWB]; exact frozen_of_row _ _ j _ _ (heap_alloc_new wr _)
    have z1 := hz 1
    have z2 := hz 2
    have HJB := Lib.hid (fun X (h : Below wr.heap.size wr X) => HJg.out pre wr X hJs h)
    have HBW := Lib.hid hbw
    have HBB := Lib.hid hbB
    have HTS := Lib.hid hts
    have HCR := Lib.hid hcr
    have HPRE := Lib.hid hpre
    have HLE := Lib.hid hle
    have hP : pre.length + (clip lo hi s p).length ≤ ys.length := by
     have := hle
     rw [hts, List.length_append, ← hpre, vals_len] at this
     exact this
    have HP := Lib.hid hP
    have hsp : IntKind.i64.wrap (s + p.n) = s + p.n := IntWalk.i64_in _ (by omega)
    clear hp hg hs hsn hlt hkl hz hbB hts hcr hpre hle hP hJs hbw HQ HCL HCH hlen hys
    gi_wp2
    gi_quiet_th (fail)
    obtain ⟨WQ, hWQ⟩ : ∃ X, WB.drewN nq = X := ⟨_, rfl⟩
    have hbQ : Below wr.heap.size wr WQ := by rw [← hWQ]; exact HBB.out.trans ((below_drewN WB nq).mono HBB.out.size)
    have c0 : WQ.cell? ⟨wr.heap.size, 0, none⟩ = some (.int .i64 p.id) := by rw [← hWQ]; exact b0
    have c1 : WQ.cell? ⟨wr.heap.size, 1, none⟩ = some (.int .i64 p.fr) := by rw [← hWQ]; exact b1
    have c2 : WQ.cell? ⟨wr.heap.size, 2, none⟩ = some (.int .i64 p.n) := by rw [← hWQ]; exact b2
    have y1 : WQ.frozen? ⟨wr.heap.size, 1, none⟩ = false := by rw [← hWQ]; exact z1
    have y2 : WQ.frozen? ⟨wr.heap.size, 2, none⟩ = false := by rw [← hWQ]; exact z2
    rw [hWQ]
    have HBQ := Lib.hid hbQ
    clear hWQ hWB b0 b1 b2 z1 z2 cl ch w1 w2 hbBx HBB hbQ
    have hpn : p.n ≤ 1048576 := hpb.2.1
    have hpf : 0 ≤ p.fr ∧ p.fr ≤ 1048576 := by omega
    have hf0 : 0 ≤ f := by omega
    have htn : t ≤ p.n := by omega
    by_cases htf : t ≤ f
    · have HS := Lib.hid (show vals pre = withinL lo hi 0 (b.take (k + 1)) from by rw [HPRE.out, HTS.out]; unfold clip; rw [hf, ht, if_pos htf, List.append_nil])
      have HJ2 := Lib.hid (HJB.out _ HBQ.out)
      clear hf ht hpb
      gi_wp2
      go_roundw
      case rel => exact ⟨k + 1, pre, by omega, by go_num, by rw [HSN.out], HS.out, HJ2.out, HBW.out.trans (HBQ.out.mono HBW.out.size)⟩
      case measure => simp [intOf]; omega
    · have w3 : IntKind.i64.wrap (t - f) = t - f := IntWalk.i64_in _ (by omega)
      have w4 : IntKind.i64.wrap (p.fr + f) = p.fr + f := IntWalk.i64_in _ (by omega)
      cases hch0 : chunkB p.id
      · have CC := Lib.hid (chunk_c hch0)
        have hclip : clip lo hi s p = [⟨p.id, p.fr, t - f⟩] := by
         unfold clip
         rw [hf, ht, if_neg htf, hch0]
         simp
        have hxr : rightB ⟨p.id, p.fr, t - f⟩ = true := HCR.out _ (by rw [hclip]; simp)
        have HB2 := Lib.hid (show Below wr.heap.size wr (WQ.setCell ⟨wr.heap.size, 2, none⟩ (.int .i64 (t - f))) from HBQ.out.trans ((Below.refl wr.heap.size WQ).setCell (p := ⟨wr.heap.size, 2, none⟩) (Nat.le_refl _) _))
        have hpl : pre.length < ys.length := by
         have := HP.out
         rw [hclip] at this
         exact this
        obtain ⟨fn, tmps, assign, body, hy, hR⟩ := HY.out pre ⟨⟨p.id, p.fr, t - f⟩, hxr⟩ (WQ.setCell ⟨wr.heap.size, 2, none⟩ (.int .i64 (t - f))) (HJB.out _ HB2.out).2 hpl
        have HS := Lib.hid (show vals (pre ++ [⟨⟨p.id, p.fr, t - f⟩, hxr⟩]) = withinL lo hi 0 (b.take (k + 1)) from by rw [vals_snoc, HPRE.out, HTS.out, hclip])
        have HS2 := Lib.hid (HJB.out _ HB2.out).1
        clear hch0 hclip
        gi_wp2_with ((refine ⟨trivial, ?_⟩); gi_at_call 232; refine (callsIn_wide.2 (CC.out _)).mono ?_; rintro e w' ⟨rfl, rfl⟩)
        refine hR.mono ?_
        rintro e W3 (⟨rfl, hJ3, hk3⟩ | ⟨rfl, hJx3⟩)
        · have HS3 := Lib.hid (Nat.le_trans HS2.out hk3.size)
          have HB3 := Lib.hid ((HBW.out.trans (HB2.out.mono HBW.out.size)).trans hk3)
          gi_wp2
          go_roundw
          case rel => exact ⟨k + 1, pre ++ [⟨⟨p.id, p.fr, t - f⟩, hxr⟩], by omega, by go_num, by rw [HSN.out], HS.out, ⟨HS3.out, hJ3⟩, HB3.out⟩
          case measure => simp [intOf]; omega
        · gi_wp2
          refine bodyPost_ret (results_none rfl _ _ _) rfl ?_
          exact ⟨⟨_, rfl⟩, .inr ⟨_, trivial, hJx3⟩⟩
      · have CC := Lib.hid (chunk_c hch0)
        have hclip : clip lo hi s p = [⟨p.id, p.fr + f, t - f⟩] := by
         unfold clip
         rw [hf, ht, if_neg htf, hch0]
         simp
        have hxr : rightB ⟨p.id, p.fr + f, t - f⟩ = true := HCR.out _ (by rw [hclip]; simp)
        have HB2 := Lib.hid (show Below wr.heap.size wr ((WQ.setCell ⟨wr.heap.size, 2, none⟩ (.int .i64 (t - f))).setCell ⟨wr.heap.size, 1, none⟩ (.int .i64 (p.fr + f))) from HBQ.out.trans (((Below.refl wr.heap.size WQ).setCell (p := ⟨wr.heap.size, 2, none⟩) (Nat.le_refl _) _).setCell (p := ⟨wr.heap.size, 1, none⟩) (Nat.le_refl _) _))
        have hpl : pre.length < ys.length := by
         have := HP.out
         rw [hclip] at this
         exact this
        obtain ⟨fn, tmps, assign, body, hy, hR⟩ := HY.out pre ⟨⟨p.id, p.fr + f, t - f⟩, hxr⟩ ((WQ.setCell ⟨wr.heap.size, 2, none⟩ (.int .i64 (t - f))).setCell ⟨wr.heap.size, 1, none⟩ (.int .i64 (p.fr + f))) (HJB.out _ HB2.out).2 hpl
        have HS := Lib.hid (show vals (pre ++ [⟨⟨p.id, p.fr + f, t - f⟩, hxr⟩]) = withinL lo hi 0 (b.take (k + 1)) from by rw [vals_snoc, HPRE.out, HTS.out, hclip])
        have HS2 := Lib.hid (HJB.out _ HB2.out).1
        clear hch0 hclip
        gi_wp2_with ((refine ⟨trivial, ?_⟩); gi_at_call 232; refine (callsIn_wide.2 (CC.out _)).mono ?_; rintro e w' ⟨rfl, rfl⟩)
        refine hR.mono ?_
        rintro e W3 (⟨rfl, hJ3, hk3⟩ | ⟨rfl, hJx3⟩)
        · have HS3 := Lib.hid (Nat.le_trans HS2.out hk3.size)
          have HB3 := Lib.hid ((HBW.out.trans (HB2.out.mono HBW.out.size)).trans hk3)
          gi_wp2
          go_roundw
          case rel => exact ⟨k + 1, pre ++ [⟨⟨p.id, p.fr + f, t - f⟩, hxr⟩], by omega, by go_num, by rw [HSN.out], HS.out, ⟨HS3.out, hJ3⟩, HB3.out⟩
          case measure => simp [intOf]; omega
        · gi_wp2
          refine bodyPost_ret (results_none rfl _ _ _) rfl ?_
          exact ⟨⟨_, rfl⟩, .inr ⟨_, trivial, hJx3⟩⟩
  · obtain rfl : k = k0 := by omega
    have HP := Lib.hid (show pre = ys from vals_inj (by rw [hpre, HYS.out, List.take_of_length_le (by omega)]))
    gi_wp2
    go_end0
    exact ⟨⟨_, rfl⟩, .inl ⟨pre, HP.out, hJs.2⟩⟩
theorem within_gives (w : World) (Bb Bl Bh : Nat) (A : Option Addr) (k0 c : Nat) (b : List Pc) (lo hi : Int) (hlo : 0 ≤ lo) (hlo' : lo ≤ 9223372036854775807) (hhi : 0 ≤ hi) (hhi' : hi ≤ 9223372036854775807)
 (hr : ∀ p ∈ b, rightB p = true) (hs : sizeL b ≤ 1048576) (hlen : b.length = k0) (hk0 : k0 ≤ 9223372036854775807)
 (hc : w.cell? ⟨Bb, 0, none⟩ = some (.slice A k0 c)) (hcl : w.cell? ⟨Bl, 0, none⟩ = some (.int .i64 lo)) (hch : w.cell? ⟨Bh, 0, none⟩ = some (.int .i64 hi)) (hA : Pcs w A b) :
 Gives w (.func (.func 265) #[] #[.pointer (some ⟨Bb, 0, none⟩), .pointer (some ⟨Bl, 0, none⟩), .pointer (some ⟨Bh, 0, none⟩)]) (withinL lo hi 0 b) := by
 obtain ⟨ys, hys⟩ := vals_of (withinL lo hi 0 b) (within_right hr)
 refine ⟨_, _, ys, rfl, enters_of Tryz.func265 (by kernel_rfl) rfl, hys, fun W n hn hW l J Jx W' hW' hJ _ hY h0 => ?_⟩
 exact within1_in n hn l Bb Bl Bh w A k0 c b lo hi hlo hlo' hhi hhi' hr hs ys hys hlen hk0 hc hcl hch hA J Jx hY W' hJ (hW.trans (hW'.mono hW.size)) h0
end Go.Proofs.YtemgejblnionlaaGreatDoor.Ext
