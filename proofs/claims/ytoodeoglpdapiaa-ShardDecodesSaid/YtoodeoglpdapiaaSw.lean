/-
  Walk of the law file's fixed examples.
-/
import Derived.Test.YtoodeoglpdapiaaSv
namespace Go.Proofs.Ytoodeoglpdapiaa
open Go.RowKit Gf
set_option maxHeartbeats 400000

def wantL : List (List UInt8) := [[1, 2], [3, 0], [5, 6]]
/-- Two bytes in a block. -/
theorem two_byts {W : World} {g : Nat} {a b : UInt8} {n : Nat} (hn : n = 2) (h0 : W.cell? ⟨g, 0, none⟩ = some (.int .u8 a.toNat)) (h1 : W.cell? ⟨g, 1, none⟩ = some (.int .u8 b.toNat)) (l : List UInt8) (hl : l = [a, b]) : l.length = n ∧ BytsO (fun _ => True) W (some ⟨g, 0, none⟩) l := by
  subst hl; subst hn
  refine ⟨rfl, fun _ => ⟨g, 0, rfl, trivial, block_lt_of_cell h0, fun j x hx => ?_⟩⟩
  match j with
  | 0 => simp at hx; subst hx; simpa using h0
  | 1 => simp at hx; subst hx; simpa using h1
  | j + 2 => simp at hx
theorem want_rows {W : World} {g g0 g1 g2 : Nat} (c0 : W.cell? ⟨g, 0, none⟩ = some (.slice (some ⟨g0, 0, none⟩) 2 2)) (c1 : W.cell? ⟨g, 1, none⟩ = some (.slice (some ⟨g1, 0, none⟩) 2 2)) (c2 : W.cell? ⟨g, 2, none⟩ = some (.slice (some ⟨g2, 0, none⟩) 2 2))
    (a0 : W.cell? ⟨g0, 0, none⟩ = some (.int .u8 1)) (a1 : W.cell? ⟨g0, 1, none⟩ = some (.int .u8 2)) (b0 : W.cell? ⟨g1, 0, none⟩ = some (.int .u8 3)) (b1 : W.cell? ⟨g1, 1, none⟩ = some (.int .u8 0)) (d0 : W.cell? ⟨g2, 0, none⟩ = some (.int .u8 5)) (d1 : W.cell? ⟨g2, 1, none⟩ = some (.int .u8 6)) :
    Sll (fun _ => True) (fun _ => True) W (some ⟨g, 0, none⟩) 3 3 wantL :=
  ⟨rfl, Nat.le_refl _, by decide, (by intro h; cases h), fun _ => ⟨g, 0, rfl, trivial, block_lt_of_cell c0, fun j r hr => by
    match j with
    | 0 => obtain rfl : [1, 2] = r := by simpa [wantL] using hr
           exact ⟨_, 2, by simpa using c0, by decide, by decide, (by intro h; cases h), (two_byts (a := 1) (b := 2) rfl a0 a1 _ rfl).2⟩
    | 1 => obtain rfl : [3, 0] = r := by simpa [wantL] using hr
           exact ⟨_, 2, by simpa using c1, by decide, by decide, (by intro h; cases h), (two_byts (a := 3) (b := 0) rfl b0 b1 _ rfl).2⟩
    | 2 => obtain rfl : [5, 6] = r := by simpa [wantL] using hr
           exact ⟨_, 2, by simpa using c2, by decide, by decide, (by intro h; cases h), (two_byts (a := 5) (b := 6) rfl d0 d1 _ rfl).2⟩
    | j + 3 => simp [wantL] at hr⟩⟩
theorem three_byts {W : World} {g : Nat} (h0 : W.cell? ⟨g, 0, none⟩ = some (.int .u8 1)) (h1 : W.cell? ⟨g, 1, none⟩ = some (.int .u8 2)) (h2 : W.cell? ⟨g, 2, none⟩ = some (.int .u8 3)) : Slb (fun _ => True) W (some ⟨g, 0, none⟩) 3 3 [1, 2, 3] :=
  ⟨rfl, Nat.le_refl _, by decide, (by intro h; cases h), fun _ => ⟨g, 0, rfl, trivial, block_lt_of_cell h0, fun j x hx => by
    match j with
    | 0 => simp at hx; subst hx; simpa using h0
    | 1 => simp at hx; subst hx; simpa using h1
    | 2 => simp at hx; subst hx; simpa using h2
    | j + 3 => simp at hx⟩⟩
theorem one_row {W : World} {g g0 : Nat} (c0 : W.cell? ⟨g, 0, none⟩ = some (.slice (some ⟨g0, 0, none⟩) 2 2)) (c1 : W.cell? ⟨g, 1, none⟩ = some (.slice none 0 0)) (a0 : W.cell? ⟨g0, 0, none⟩ = some (.int .u8 1)) (a1 : W.cell? ⟨g0, 1, none⟩ = some (.int .u8 2)) :
    Sll (fun _ => True) (fun _ => True) W (some ⟨g, 0, none⟩) 2 2 [[1, 2], []] :=
  ⟨rfl, Nat.le_refl _, by decide, (by intro h; cases h), fun _ => ⟨g, 0, rfl, trivial, block_lt_of_cell c0, fun j r hr => by
    match j with
    | 0 => obtain rfl : [1, 2] = r := by simpa using hr
           exact ⟨_, 2, by simpa using c0, by decide, by decide, (by intro h; cases h), (two_byts (a := 1) (b := 2) rfl a0 a1 _ rfl).2⟩
    | 1 => obtain rfl : [] = r := by simpa using hr
           exact ⟨_, 0, by simpa using c1, by decide, by decide, (fun _ => rfl), BytsO.nil⟩
    | j + 2 => simp at hr⟩⟩
theorem gone_rows {W : World} {g g1 g2 : Nat} (c0 : W.cell? ⟨g, 0, none⟩ = some (.slice none 0 0)) (c1 : W.cell? ⟨g, 1, none⟩ = some (.slice (some ⟨g1, 0, none⟩) 2 2)) (c2 : W.cell? ⟨g, 2, none⟩ = some (.slice (some ⟨g2, 0, none⟩) 2 2))
    (b0 : W.cell? ⟨g1, 0, none⟩ = some (.int .u8 3)) (b1 : W.cell? ⟨g1, 1, none⟩ = some (.int .u8 0)) (d0 : W.cell? ⟨g2, 0, none⟩ = some (.int .u8 5)) (d1 : W.cell? ⟨g2, 1, none⟩ = some (.int .u8 6)) :
    Sll (fun _ => True) (fun _ => True) W (some ⟨g, 0, none⟩) 3 3 [[], [3, 0], [5, 6]] :=
  ⟨rfl, Nat.le_refl _, by decide, (by intro h; cases h), fun _ => ⟨g, 0, rfl, trivial, block_lt_of_cell c0, fun j r hr => by
    match j with
    | 0 => obtain rfl : [] = r := by simpa using hr
           exact ⟨_, 0, by simpa using c0, by decide, by decide, (fun _ => rfl), BytsO.nil⟩
    | 1 => obtain rfl : [3, 0] = r := by simpa using hr
           exact ⟨_, 2, by simpa using c1, by decide, by decide, (by intro h; cases h), (two_byts (a := 3) (b := 0) rfl b0 b1 _ rfl).2⟩
    | 2 => obtain rfl : [5, 6] = r := by simpa using hr
           exact ⟨_, 2, by simpa using c2, by decide, by decide, (by intro h; cases h), (two_byts (a := 5) (b := 6) rfl d0 d1 _ rfl).2⟩
    | j + 3 => simp at hr⟩⟩
theorem Sll.front {okO okR : Nat → Prop} {W : World} {A : Option Addr} {n c : Nat} {ls : List (List UInt8)} (h : Sll okO okR W A n c ls) (m : Nat) (hm : m ≤ n) : Sll okO okR W A m c (ls.take m) :=
  ⟨by rw [List.length_take, h.len]; omega, Nat.le_trans hm h.cap, h.max, h.nil, fun hn => by
    obtain ⟨g, o, hA, hk, hg, hc⟩ := h.lists (fun e => hn (by rw [e]; simp))
    refine ⟨g, o, hA, hk, hg, fun j r hr => hc j r ?_⟩
    rw [List.getElem?_take] at hr
    split at hr
    · exact hr
    · cases hr⟩
theorem ex_enc : encL [1, 2, 3] 2 3 = wantL := by decide +kernel
theorem ex_dec : decL [[], [3, 0], [5, 6]] 2 3 = [1, 2, 3] := by decide +kernel
theorem ex_pts : (ptsL [[], [3, 0], [5, 6]] 2 (longN 3 2) (-1)).length = 2 := by decide +kernel
theorem ex_few : (ptsL [[1, 2], []] 2 (longN 3 2) (-1)).length < 2 := by decide +kernel
theorem ex_reb : rebL wantL 2 0 = [1, 2] := by decide +kernel
theorem ex_rep : (rebP wantL 2 0).length = 2 := by decide +kernel
theorem ex_chk : chkL wantL 2 = true := by decide +kernel
theorem short_want : Short wantL := by
  intro r hr
  simp [wantL] at hr
  rcases hr with rfl | rfl | rfl <;> decide
end Go.Proofs.Ytoodeoglpdapiaa
