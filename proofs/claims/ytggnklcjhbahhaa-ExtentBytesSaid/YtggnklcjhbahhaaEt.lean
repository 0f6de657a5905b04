/-
  What the law ExtentBytes asks of the program; walk of the law file's read.
-/
import Derived.Test.YtggnklcjhbahhaaEs
namespace Go.Proofs.Ytggnklcjhbahhaa
open Go.RowKit Ex
set_option maxHeartbeats 400000
set_option maxRecDepth 100000

/-- The byte that stands for this one, if there is one. -/
def byteOf (l : List Blb) (x : Int × Int) : Option UInt8 := if x.1 ≤ 0 then some 0 else (findL l x.1).bind fun d => d[x.2.toNat]?
/-- What is to be answered: ErrErased, ErrNone or OK; and the bytes. -/
def bytesErr (bs : List (Int × Int)) (l : List Blb) : Int := if bs.any (fun x => x.1 == -1) then 60 else if bs.any (fun x => (byteOf l x).isNone) then 90 else 0
def bytesOut (bs : List (Int × Int)) (l : List Blb) : List UInt8 := bs.filterMap (byteOf l)
structure Bl (w : World) (A : Option Addr) (n c : Nat) (l : List Blb) : Prop where
  len : l.length = n
  cap : n ≤ c
  max : c ≤ 9223372036854775807
  nil : A = none → c = 0
  cells : Blbs w A l
theorem Bl.below {w w' : World} {A : Option Addr} {n c : Nat} {l : List Blb} (h : Bl w A n c l) (hb : Below w.heap.size w w') : Bl w' A n c l := ⟨h.len, h.cap, h.max, h.nil, h.cells.below hb⟩
/-- A chunk of at most 1000 bytes, whose number may be one. -/
abbrev Fits (x : Blb) : Prop := x.2.length ≤ 1000 ∧ 0 ≤ x.1 ∧ x.1 < 4096
/-- Bytes does as it should (chunks of at most 1000 bytes, at most 100 of them). -/
structure PrgB (Env : World → Prop) : Prop where
  bytesYes : ∀ (A A2 : Option Addr) (n c n2 c2 : Nat) (b : List Pc) (l : List Blb) (W : World), Env W → Sp 0 W A n c b → validL b = true → Bl W A2 n2 c2 l → n2 ≤ 100 → (∀ x ∈ l, Fits x) → bytesErr (eachL b) l = 0 →
    Calls Try.prog 45 #[.slice A n c, .slice A2 n2 c2] W fun e w' => ∃ B c', e = .returned (.tuple #[.slice B (bytesOut (eachL b) l).length c', .int .i64 0]) ∧ Byt w' B (bytesOut (eachL b) l) ∧ (∀ g o, B = some ⟨g, o, none⟩ → W.heap.size ≤ g) ∧ Below W.heap.size W w'
  bytesNo : ∀ (A A2 : Option Addr) (n c n2 c2 : Nat) (b : List Pc) (l : List Blb) (W : World), Env W → Sp 0 W A n c b → validL b = true → Bl W A2 n2 c2 l → n2 ≤ 100 → (∀ x ∈ l, Fits x) → bytesErr (eachL b) l ≠ 0 →
    Calls Try.prog 45 #[.slice A n c, .slice A2 n2 c2] W fun e w' => ∃ B c', e = .returned (.tuple #[.slice B 0 c', .int .i64 (bytesErr (eachL b) l)]) ∧ Below W.heap.size W w'
theorem wrap_read (A : Option Addr) (nb cb : Nat) (A2 : Option Addr) (n2 c2 : Nat) (w : World) (R : Value → Int → World → Prop)
    (hC : Calls Try.prog 45 #[.slice A nb cb, .slice A2 n2 c2] (w.alloc (.cells #[.slice none 0 0, .int .i64 0] 57)) fun e w' => ∃ A' m c' er, e = .returned (.tuple #[.slice A' m c', .int .i64 er]) ∧ R (.slice A' m c') er w' ∧ Below (w.heap.size + 1) (w.alloc (.cells #[.slice none 0 0, .int .i64 0] 57)) w') :
    Calls Try.prog 28 #[.slice A nb cb, .slice A2 n2 c2] w fun e w' => ∃ v er W, e = .returned (.agg #[v, .int .i64 er]) ∧ R v er W ∧ w' = (W.setCell ⟨w.heap.size, 0, none⟩ v).setCell ⟨w.heap.size, 1, none⟩ (.int .i64 er) ∧ RBox w 57 W := by
  have HB := Lib.hid (rbox_start w 57)
  have HC := Lib.hid hC
  clear hC
  go_enter Try.func28, Try.ntmps28
  go_wp2_with (go_at_call 45; refine HC.out.mono ?_; rintro e w1 ⟨A', m, c', er, rfl, hR, hb1⟩; have hB1 := HB.out.step (hb1.mono (by rw [box_size]; exact Nat.le_refl _)); obtain ⟨⟨z0, e0⟩, ⟨z1, e1⟩, f0, f1⟩ := hB1.cells; have hls := hB1.2.size; have HB1 := Lib.hid hB1; have HR := Lib.hid hR)
  have hd := set_results HB1.out (.slice A' m c') er
  refine bodyPost_ret (v := .agg #[.slice A' m c', .int .i64 er]) ?_ rfl ⟨_, _, w1, rfl, HR.out, rfl, HB1.out⟩
  simp [results, Try.results28, go_sem, hd.1, hd.2]
theorem Byt.boxset {w W : World} {B : Option Addr} {l : List UInt8} (h : Byt W B l) (hB : ∀ g o, B = some ⟨g, o, none⟩ → g ≠ w.heap.size) (v : Value) (er : Int) : Byt ((W.setCell ⟨w.heap.size, 0, none⟩ v).setCell ⟨w.heap.size, 1, none⟩ (.int .i64 er)) B l := fun hn => by
  obtain ⟨g, o, h1, h2, h3⟩ := h hn
  have hg := hB g o h1
  refine ⟨g, o, h1, by simpa [World.setCell] using h2, fun j x hx => ?_⟩
  rw [World.cell?_setCell_other _ _ _ _ (fun e => hg (by injection e with e1 _ _; exact e1.symm)), World.cell?_setCell_other _ _ _ _ (fun e => hg (by injection e with e1 _ _; exact e1.symm))]
  exact h3 j x hx
theorem box_below (w : World) (t : TypeId) : Below w.heap.size w (w.alloc (.cells #[.slice none 0 0, .int .i64 0] t)) := (Below.refl _ w).alloc (Nat.le_refl _) _
section
variable {Env : World → Prop} (P : Prg Env) (PB : PrgB Env) {A A2 : Option Addr} {n c n2 c2 : Nat} {b : List Pc} {l : List Blb} {w : World} (hE : Env w) (hA : Sp 0 w A n c b) (hv : validL b = true) (hL : Bl w A2 n2 c2 l) (hn : n2 ≤ 100) (hl : ∀ x ∈ l, Fits x)
include P PB hE hA hv hL hn hl
theorem read_yes (h : bytesErr (eachL b) l = 0) :
    Calls Try.prog 28 #[.slice A n c, .slice A2 n2 c2] w fun e w' => ∃ B c', e = .returned (.agg #[.slice B (bytesOut (eachL b) l).length c', .int .i64 0]) ∧ Byt w' B (bytesOut (eachL b) l) ∧ Below w.heap.size w w' := by
  refine (wrap_read _ _ _ _ _ _ w (fun v er W => ∃ B c', v = .slice B (bytesOut (eachL b) l).length c' ∧ er = 0 ∧ Byt W B (bytesOut (eachL b) l) ∧ ∀ g o, B = some ⟨g, o, none⟩ → w.heap.size + 1 ≤ g) ?_).mono ?_
  · refine (PB.bytesYes A A2 n c n2 c2 b l _ (env_box P hE _) (hA.boxed _) hv (hL.below (box_below w _)) hn hl h).mono ?_
    rintro e w' ⟨B, c', rfl, hB, hg, hb⟩
    rw [box_size] at hg
    exact ⟨B, _, c', 0, rfl, ⟨B, c', rfl, rfl, hB, hg⟩, hb.mono (by rw [box_size]; exact Nat.le_refl _)⟩
  · rintro e w' ⟨v, er, W, rfl, ⟨B, c', rfl, rfl, hB, hg⟩, rfl, hX⟩
    exact ⟨B, c', rfl, hB.boxset (fun g o e => by have := hg g o e; omega) _ _, rbox_end hX _ _⟩
theorem read_no (h : bytesErr (eachL b) l ≠ 0) :
    Calls Try.prog 28 #[.slice A n c, .slice A2 n2 c2] w fun e w' => ∃ B c', e = .returned (.agg #[.slice B 0 c', .int .i64 (bytesErr (eachL b) l)]) ∧ Below w.heap.size w w' := by
  refine (wrap_read _ _ _ _ _ _ w (fun v er W => ∃ B c', v = .slice B 0 c' ∧ er = bytesErr (eachL b) l) ?_).mono ?_
  · refine (PB.bytesNo A A2 n c n2 c2 b l _ (env_box P hE _) (hA.boxed _) hv (hL.below (box_below w _)) hn hl h).mono ?_
    rintro e w' ⟨B, c', rfl, hb⟩
    exact ⟨B, _, c', _, rfl, ⟨B, c', rfl, rfl⟩, hb.mono (by rw [box_size]; exact Nat.le_refl _)⟩
  · rintro e w' ⟨v, er, W, rfl, ⟨B, c', rfl, rfl⟩, rfl, hX⟩
    exact ⟨B, c', rfl, rbox_end hX _ _⟩
end
end Go.Proofs.Ytggnklcjhbahhaa
