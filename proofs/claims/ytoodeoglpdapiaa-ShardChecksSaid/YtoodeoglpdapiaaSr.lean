/-
  What the law file's encode, decode and rebuild return, if the program's functions do as they should.
-/
import Derived.Test.YtoodeoglpdapiaaSq
namespace Go.Proofs.Ytoodeoglpdapiaa
open Go.RowKit Gf
set_option maxHeartbeats 400000

theorem rbox_end {w W : World} {t : TypeId} (hB : RBox w t W) (v : Value) (er : Int) : Below w.heap.size w ((W.setCell ⟨w.heap.size, 0, none⟩ v).setCell ⟨w.heap.size, 1, none⟩ (.int .i64 er)) := (hB.2.setCell (Nat.le_refl _) _).setCell (Nat.le_refl _) _
theorem box_below (w : World) (t : TypeId) : Below w.heap.size w (w.alloc (.cells #[.slice none 0 0, .int .i64 0] t)) := (Below.refl _ w).alloc (Nat.le_refl _) _
theorem box_size (w : World) (t : TypeId) : (w.alloc (.cells #[.slice none 0 0, .int .i64 0] t)).heap.size = w.heap.size + 1 := by simp
/-- In a block as ok says that was there in this world, or in one behind the next. -/
def Ok2 (ok : Nat → Prop) (w : World) (b : Nat) : Prop := ok b ∧ b < w.heap.size
theorem ok2_not (ok : Nat → Prop) (w : World) (t : TypeId) : ¬ Or' (Ok2 ok w) (w.alloc (.cells #[.slice none 0 0, .int .i64 0] t)) w.heap.size := by
  unfold Or' Ok2; rw [box_size]; omega
theorem ok2_or {ok : Nat → Prop} {w : World} {t : TypeId} {b : Nat} (h : Or' (Ok2 ok w) (w.alloc (.cells #[.slice none 0 0, .int .i64 0] t)) b) : Or' ok w b := by
  unfold Or' Ok2 at h; rw [box_size] at h
  rcases h with h | h
  · exact .inl h.1
  · exact .inr (by omega)
theorem Slb.box {ok : Nat → Prop} {w : World} {A : Option Addr} {n c : Nat} {l : List UInt8} (h : Slb ok w A n c l) (t : TypeId) : Slb (Ok2 ok w) (w.alloc (.cells #[.slice none 0 0, .int .i64 0] t)) A n c l :=
  (h.mono (fun _ hb hk => ⟨hk, hb⟩)).below (box_below w t)
theorem Sll.box {okO okR : Nat → Prop} {w : World} {A : Option Addr} {n c : Nat} {ls : List (List UInt8)} (h : Sll okO okR w A n c ls) (t : TypeId) : Sll (Ok2 okO w) (Ok2 okR w) (w.alloc (.cells #[.slice none 0 0, .int .i64 0] t)) A n c ls :=
  (h.mono (fun _ hb hk => ⟨hk, hb⟩) (fun _ hb hk => ⟨hk, hb⟩)).below (box_below w t)
theorem Slb.unbox {ok : Nat → Prop} {w W : World} {A : Option Addr} {n c : Nat} {l : List UInt8} {t : TypeId} (h : Slb (Or' (Ok2 ok w) (w.alloc (.cells #[.slice none 0 0, .int .i64 0] t))) W A n c l) (v : Value) (er : Int) : Slb (Or' ok w) ((W.setCell ⟨w.heap.size, 0, none⟩ v).setCell ⟨w.heap.size, 1, none⟩ (.int .i64 er)) A n c l :=
  ((h.set (p := ⟨w.heap.size, 0, none⟩) (ok2_not ok w t) _).set (p := ⟨w.heap.size, 1, none⟩) (ok2_not ok w t) _).mono (fun _ _ hk => ok2_or hk)
theorem Sll.unbox {okO okR : Nat → Prop} {w W : World} {A : Option Addr} {n c : Nat} {ls : List (List UInt8)} {t : TypeId} (h : Sll (Or' (Ok2 okO w) (w.alloc (.cells #[.slice none 0 0, .int .i64 0] t))) (Or' (Ok2 okR w) (w.alloc (.cells #[.slice none 0 0, .int .i64 0] t))) W A n c ls) (v : Value) (er : Int) : Sll (Or' okO w) (Or' okR w) ((W.setCell ⟨w.heap.size, 0, none⟩ v).setCell ⟨w.heap.size, 1, none⟩ (.int .i64 er)) A n c ls :=
  ((h.set (p := ⟨w.heap.size, 0, none⟩) (ok2_not okO w t) (ok2_not okR w t) _).set (p := ⟨w.heap.size, 1, none⟩) (ok2_not okO w t) (ok2_not okR w t) _).mono (fun _ _ hk => ok2_or hk) (fun _ _ hk => ok2_or hk)

section
variable {Env : World → Prop} (P : Prg Env)
include P

theorem enc_no (ok : Nat → Prop) (A : Option Addr) (nb cb : Nat) (b : List UInt8) (k n : Int) (w : World) (hE : Env w) (hA : Slb ok w A nb cb b) (hl : nb ≤ 100) (h : ¬ (1 ≤ k ∧ k ≤ n ∧ n ≤ 12)) (hk : (Lit.int .i64 k).wf = true) (hn : (Lit.int .i64 n).wf = true) :
    Calls Try.prog 11 #[.slice A nb cb, .int .i64 k, .int .i64 n] w fun e w' => ∃ A' c', e = .returned (.agg #[.slice A' 0 c', .int .i64 1]) ∧ Below w.heap.size w w' := by
  refine (wrap_enc _ _ _ _ _ w (fun v er _ => ∃ A' c', v = .slice A' 0 c' ∧ er = 1) ?_).mono ?_
  · refine (P.encNo (Ok2 ok w) A nb cb b k n _ (P.env hE (box_below w _)) (hA.box _) hl h hk hn).mono ?_
    rintro e w' ⟨A', c', rfl, hb⟩
    exact ⟨A', 0, c', 1, rfl, ⟨A', c', rfl, rfl⟩, hb.mono (by rw [box_size]; exact Nat.le_refl _)⟩
  · rintro e w' ⟨v, er, W, rfl, ⟨A', c', rfl, rfl⟩, rfl, hB⟩
    exact ⟨A', c', rfl, rbox_end hB _ _⟩

theorem dec_arg (okO okR : Nat → Prop) (A : Option Addr) (n c : Nat) (ls : List (List UInt8)) (k size : Int) (w : World) (hE : Env w) (hA : Sll okO okR w A n c ls) (h : properB n k = false ∨ size < 0) (hk : (Lit.int .i64 k).wf = true) (hs : (Lit.int .i64 size).wf = true) :
    Calls Try.prog 15 #[.slice A n c, .int .i64 k, .int .i64 size] w fun e w' => ∃ A' c', e = .returned (.agg #[.slice A' 0 c', .int .i64 1]) ∧ Below w.heap.size w w' := by
  refine (wrap_dec _ _ _ _ _ w (fun v er _ => ∃ A' c', v = .slice A' 0 c' ∧ er = 1) ?_).mono ?_
  · refine (P.decArg (Ok2 okO w) (Ok2 okR w) A n c ls k size _ (P.env hE (box_below w _)) (hA.box _) h hk hs).mono ?_
    rintro e w' ⟨A', c', rfl, hb⟩
    exact ⟨A', 0, c', 1, rfl, ⟨A', c', rfl, rfl⟩, hb.mono (by rw [box_size]; exact Nat.le_refl _)⟩
  · rintro e w' ⟨v, er, W, rfl, ⟨A', c', rfl, rfl⟩, rfl, hB⟩
    exact ⟨A', c', rfl, rbox_end hB _ _⟩

theorem dec_few (okO okR : Nat → Prop) (A : Option Addr) (n c : Nat) (ls : List (List UInt8)) (k size : Nat) (w : World) (hE : Env w) (hA : Sll okO okR w A n c ls) (hp : properB n k = true) (hs : size ≤ 200) (hf : (ptsL ls k (longN size k) (-1)).length < k) :
    Calls Try.prog 15 #[.slice A n c, .int .i64 k, .int .i64 size] w fun e w' => ∃ A' c', e = .returned (.agg #[.slice A' 0 c', .int .i64 70]) ∧ Below w.heap.size w w' := by
  refine (wrap_dec _ _ _ _ _ w (fun v er _ => ∃ A' c', v = .slice A' 0 c' ∧ er = 70) ?_).mono ?_
  · refine (P.decFew (Ok2 okO w) (Ok2 okR w) A n c ls k size _ (P.env hE (box_below w _)) (hA.box _) hp hs hf).mono ?_
    rintro e w' ⟨A', c', rfl, hb⟩
    exact ⟨A', 0, c', 70, rfl, ⟨A', c', rfl, rfl⟩, hb.mono (by rw [box_size]; exact Nat.le_refl _)⟩
  · rintro e w' ⟨v, er, W, rfl, ⟨A', c', rfl, rfl⟩, rfl, hB⟩
    exact ⟨A', c', rfl, rbox_end hB _ _⟩

theorem reb_arg (okO okR : Nat → Prop) (A : Option Addr) (n c : Nat) (ls : List (List UInt8)) (k i : Int) (w : World) (hE : Env w) (hA : Sll okO okR w A n c ls) (h : properB n k = false ∨ i < 0 ∨ n ≤ i) (hk : (Lit.int .i64 k).wf = true) (hs : (Lit.int .i64 i).wf = true) :
    Calls Try.prog 17 #[.slice A n c, .int .i64 k, .int .i64 i] w fun e w' => ∃ A' c', e = .returned (.agg #[.slice A' 0 c', .int .i64 1]) ∧ Below w.heap.size w w' := by
  refine (wrap_reb _ _ _ _ _ w (fun v er _ => ∃ A' c', v = .slice A' 0 c' ∧ er = 1) ?_).mono ?_
  · refine (P.rebArg (Ok2 okO w) (Ok2 okR w) A n c ls k i _ (P.env hE (box_below w _)) (hA.box _) h hk hs).mono ?_
    rintro e w' ⟨A', c', rfl, hb⟩
    exact ⟨A', 0, c', 1, rfl, ⟨A', c', rfl, rfl⟩, hb.mono (by rw [box_size]; exact Nat.le_refl _)⟩
  · rintro e w' ⟨v, er, W, rfl, ⟨A', c', rfl, rfl⟩, rfl, hB⟩
    exact ⟨A', c', rfl, rbox_end hB _ _⟩

theorem reb_few (okO okR : Nat → Prop) (A : Option Addr) (n c : Nat) (ls : List (List UInt8)) (k i : Nat) (w : World) (hE : Env w) (hA : Sll okO okR w A n c ls) (hr : Short ls) (hp : properB n k = true) (hi : i < n) (hf : (rebP ls k i).length < k) :
    Calls Try.prog 17 #[.slice A n c, .int .i64 k, .int .i64 i] w fun e w' => ∃ A' c', e = .returned (.agg #[.slice A' 0 c', .int .i64 70]) ∧ Below w.heap.size w w' := by
  refine (wrap_reb _ _ _ _ _ w (fun v er _ => ∃ A' c', v = .slice A' 0 c' ∧ er = 70) ?_).mono ?_
  · refine (P.rebFew (Ok2 okO w) (Ok2 okR w) A n c ls k i _ (P.env hE (box_below w _)) (hA.box _) hr hp hi hf).mono ?_
    rintro e w' ⟨A', c', rfl, hb⟩
    exact ⟨A', 0, c', 70, rfl, ⟨A', c', rfl, rfl⟩, hb.mono (by rw [box_size]; exact Nat.le_refl _)⟩
  · rintro e w' ⟨v, er, W, rfl, ⟨A', c', rfl, rfl⟩, rfl, hB⟩
    exact ⟨A', c', rfl, rbox_end hB _ _⟩

theorem enc_yes (ok : Nat → Prop) (A : Option Addr) (nb cb : Nat) (b : List UInt8) (k n : Nat) (w : World) (hE : Env w) (hA : Slb ok w A nb cb b) (hl : nb ≤ 100) (h1 : 1 ≤ k) (h2 : k ≤ n) (h3 : n ≤ 12) :
    Calls Try.prog 11 #[.slice A nb cb, .int .i64 k, .int .i64 n] w fun e w' => ∃ A' c', e = .returned (.agg #[.slice A' n c', .int .i64 0]) ∧ Sll (Or' ok w) (Or' ok w) w' A' n c' (encL b k n) ∧ Below w.heap.size w w' := by
  refine (wrap_enc _ _ _ _ _ w (fun v er W => ∃ A' c', v = .slice A' n c' ∧ er = 0 ∧ Sll (Or' (Ok2 ok w) (w.alloc (.cells #[.slice none 0 0, .int .i64 0] 29))) (Or' (Ok2 ok w) (w.alloc (.cells #[.slice none 0 0, .int .i64 0] 29))) W A' n c' (encL b k n)) ?_).mono ?_
  · refine (P.encYes (Ok2 ok w) A nb cb b k n _ (P.env hE (box_below w _)) (hA.box _) hl h1 h2 h3).mono ?_
    rintro e w' ⟨A', c', rfl, hS, hb⟩
    exact ⟨A', n, c', 0, rfl, ⟨A', c', rfl, rfl, hS⟩, hb.mono (by rw [box_size]; exact Nat.le_refl _)⟩
  · rintro e w' ⟨v, er, W, rfl, ⟨A', c', rfl, rfl, hS⟩, rfl, hB⟩
    exact ⟨A', c', rfl, hS.unbox _ _, rbox_end hB _ _⟩

theorem dec_yes (okO okR : Nat → Prop) (A : Option Addr) (n c : Nat) (ls : List (List UInt8)) (k size : Nat) (w : World) (hE : Env w) (hA : Sll okO okR w A n c ls) (hp : properB n k = true) (hs : size ≤ 200) (hf : (ptsL ls k (longN size k) (-1)).length = k) :
    Calls Try.prog 15 #[.slice A n c, .int .i64 k, .int .i64 size] w fun e w' => ∃ A' c', e = .returned (.agg #[.slice A' size c', .int .i64 0]) ∧ Slb (Or' okR w) w' A' size c' (decL ls k size) ∧ Below w.heap.size w w' := by
  refine (wrap_dec _ _ _ _ _ w (fun v er W => ∃ A' c', v = .slice A' size c' ∧ er = 0 ∧ Slb (Or' (Ok2 okR w) (w.alloc (.cells #[.slice none 0 0, .int .i64 0] 34))) W A' size c' (decL ls k size)) ?_).mono ?_
  · refine (P.decYes (Ok2 okO w) (Ok2 okR w) A n c ls k size _ (P.env hE (box_below w _)) (hA.box _) hp hs hf).mono ?_
    rintro e w' ⟨A', c', rfl, hS, hb⟩
    exact ⟨A', size, c', 0, rfl, ⟨A', c', rfl, rfl, hS⟩, hb.mono (by rw [box_size]; exact Nat.le_refl _)⟩
  · rintro e w' ⟨v, er, W, rfl, ⟨A', c', rfl, rfl, hS⟩, rfl, hB⟩
    exact ⟨A', c', rfl, hS.unbox _ _, rbox_end hB _ _⟩

theorem reb_yes (okO okR : Nat → Prop) (A : Option Addr) (n c : Nat) (ls : List (List UInt8)) (k i : Nat) (w : World) (hE : Env w) (hA : Sll okO okR w A n c ls) (hr : Short ls) (hp : properB n k = true) (hi : i < n) (hf : (rebP ls k i).length = k) :
    Calls Try.prog 17 #[.slice A n c, .int .i64 k, .int .i64 i] w fun e w' => ∃ A' m c', e = .returned (.agg #[.slice A' m c', .int .i64 0]) ∧ Slb (Or' okR w) w' A' m c' (rebL ls k i) ∧ Below w.heap.size w w' := by
  refine (wrap_reb _ _ _ _ _ w (fun v er W => ∃ A' m c', v = .slice A' m c' ∧ er = 0 ∧ Slb (Or' (Ok2 okR w) (w.alloc (.cells #[.slice none 0 0, .int .i64 0] 34))) W A' m c' (rebL ls k i)) ?_).mono ?_
  · refine (P.rebYes (Ok2 okO w) (Ok2 okR w) A n c ls k i _ (P.env hE (box_below w _)) (hA.box _) hr hp hi hf).mono ?_
    rintro e w' ⟨A', m, c', rfl, hS, hb⟩
    exact ⟨A', m, c', 0, rfl, ⟨A', m, c', rfl, rfl, hS⟩, hb.mono (by rw [box_size]; exact Nat.le_refl _)⟩
  · rintro e w' ⟨v, er, W, rfl, ⟨A', m, c', rfl, rfl, hS⟩, rfl, hB⟩
    exact ⟨A', m, c', rfl, hS.unbox _ _, rbox_end hB _ _⟩
end
end Go.Proofs.Ytoodeoglpdapiaa
