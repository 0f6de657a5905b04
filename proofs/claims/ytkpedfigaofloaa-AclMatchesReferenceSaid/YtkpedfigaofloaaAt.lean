/-
  Walks of the reference's Ace (an entry that three numbers describe) and At (the rights of a mark).
-/
import Derived.Test.YtkpedfigaofloaaAo
namespace Go.Proofs.Ytkpedfigaofloaa
open Go.RowKit Ap
set_option maxHeartbeats 400000

def whoOf (k : Nat) : Int := match k with | 0 => -2 | 1 => -1 | 2 => 1 | 3 => 2 | 4 => 3 | _ => 999
def aceOf (x y z : UInt8) : Ac := ⟨whoOf (x.toNat % 6), ((x.toNat : Int) / 6 % 2 == 0), 1 + (y.toNat : Int) % 15, 1 + (z.toNat : Int) % 3, ((z.toNat : Int) / 3 % 4 == 3)⟩
theorem u8_cast (c : UInt8) : (0 : Int) ≤ c.toNat ∧ (c.toNat : Int) ≤ 255 := by have := c.toNat_lt; omega

set_option maxHeartbeats 2000000 in
theorem ace_any (x y z : UInt8) (w : World) :
    Calls Try.prog 29 #[.agg #[.int .u8 x.toNat, .int .u8 y.toNat, .int .u8 z.toNat]] w fun e w' => e = .returned (av (aceOf x y z)) ∧ Below w.heap.size w w' := by
  obtain ⟨x0, x1⟩ := u8_cast x
  obtain ⟨y0, y1⟩ := u8_cast y
  obtain ⟨z0, z1⟩ := u8_cast z
  have hx : ((x.toNat : Int) % 6 = 0 ∧ x.toNat % 6 = 0) ∨ ((x.toNat : Int) % 6 = 1 ∧ x.toNat % 6 = 1) ∨ ((x.toNat : Int) % 6 = 2 ∧ x.toNat % 6 = 2) ∨ ((x.toNat : Int) % 6 = 3 ∧ x.toNat % 6 = 3) ∨ ((x.toNat : Int) % 6 = 4 ∧ x.toNat % 6 = 4) ∨ ((x.toNat : Int) % 6 = 5 ∧ x.toNat % 6 = 5) := by omega
  rcases hx with ⟨hx, hk⟩ | ⟨hx, hk⟩ | ⟨hx, hk⟩ | ⟨hx, hk⟩ | ⟨hx, hk⟩ | ⟨hx, hk⟩
  all_goals
    have HK := Lib.hid hk
    clear hk
    go_enter Try.func29, Try.ntmps29
    go_wp2
    refine bodyPost_ret (v := av (aceOf x y z)) ?_ rfl ⟨rfl, by go_grown⟩
    simp [results, Try.results29, go_sem]
    unfold av aceOf
    rw [HK.out]
    rfl
theorem whoOf_le (k : Nat) : -2 ≤ whoOf k ∧ whoOf k ≤ 999 := by
  unfold whoOf
  split <;> omega
theorem aceOf_right (x y z : UInt8) : right (aceOf x y z) = true := by
  have h := whoOf_le (x.toNat % 6)
  have := u8_cast y
  have := u8_cast z
  unfold right aceOf
  simp only [Bool.and_eq_true, decide_eq_true_eq]
  refine ⟨⟨⟨⟨⟨h.1, h.2⟩, ?_⟩, ?_⟩, ?_⟩, ?_⟩ <;> omega
theorem right_ok {a : Ac} (h : right a = true) : a.ok := by
  simp [right] at h
  exact ⟨by omega, by omega, by omega⟩

def atL (l : List Ac) (e : Ac) : Int := ((l.find? fun a => marked a e).map Ac.rights).getD 0
theorem marked_iff (a e : Ac) : marked a e = decide (a.mk0 = e.mk0) := by
  obtain ⟨aw, al, ri, re, ag⟩ := a
  obtain ⟨bw, bl, bi, be, bg⟩ := e
  rw [Bool.eq_iff_iff]
  simp [marked, Ac.mk0, and_assoc]
theorem find_take {l : List Ac} {k : Nat} {p : Ac → Bool} (hk : k < l.length) (h : (l.take k).find? p = none) : (p l[k] = true → l.find? p = some l[k]) ∧ (p l[k] = false → (l.take (k + 1)).find? p = none) := by
  refine ⟨fun hp => ?_, fun hp => ?_⟩
  · have e : l.find? p = (l.take k ++ l.drop k).find? p := by rw [List.take_append_drop]
    rw [e, List.find?_append, h, List.drop_eq_getElem_cons hk, Option.none_or, List.find?_cons_of_pos hp]
  · rw [List.take_succ_eq_append_getElem hk, List.find?_append, h]
    simp [hp]

/-- An entry of the list, and the box of the other one. -/
def TwoAt (g o b : Nat) (x e : Ac) (W : World) : Prop := At W g o x ∧ Mk b e W
theorem TwoAt.step {g o b : Nat} {x e : Ac} {W W' : World} (h : TwoAt g o b x e W) (hb : Below W.heap.size W W') : TwoAt g o b x e W' := ⟨h.1.below hb, h.2.step hb⟩
theorem TwoAt.flat {g o b : Nat} {x e : Ac} {W : World} (h : TwoAt g o b x e W) : W.cell? ⟨g, o, none⟩ = some (.int .i64 x.who) ∧ W.cell? ⟨g, o + 1, none⟩ = some (.bool x.allow) ∧ W.cell? ⟨g, o + 2, none⟩ = some (.int .i64 x.rights) ∧ W.cell? ⟨g, o + 3, none⟩ = some (.int .i64 x.reach) ∧ W.cell? ⟨g, o + 4, none⟩ = some (.bool x.given) ∧
    W.cell? ⟨b, 0, none⟩ = some (.int .i64 e.who) ∧ W.cell? ⟨b, 1, none⟩ = some (.bool e.allow) ∧ W.cell? ⟨b, 2, none⟩ = some (.int .i64 e.rights) ∧ W.cell? ⟨b, 3, none⟩ = some (.int .i64 e.reach) ∧ W.cell? ⟨b, 4, none⟩ = some (.bool e.given) := by
  obtain ⟨⟨c0, c1, c2, c3, c4⟩, m0, m1, m2, m3, m4⟩ := h
  exact ⟨c0, c1, c2, c3, c4, m0, m1, m2, m3, m4⟩

set_option maxHeartbeats 2000000 in
theorem at_any (A : Option Addr) (n c : Nat) (l : List Ac) (e : Ac) (hn : l.length = n) (hl : n ≤ 1000) (w : World) (hA : Aces w A l) :
    Calls Try.prog 31 #[.slice A n c, av e] w fun x w' => x = .returned (.int .i64 (atL l e)) ∧ Below w.heap.size w w' := by
  have HN := Lib.hid hn
  have SA := Lib.hid hA
  obtain ⟨ew, el, er, ee, eg⟩ := e
  have HE := Lib.hid (show Mk w.heap.size ⟨ew, el, er, ee, eg⟩ (w.alloc (.cells #[.int .i64 ew, .bool el, .int .i64 er, .int .i64 ee, .bool eg] 31)) from alloc_box)
  clear hn hA
  unfold av
  dsimp only
  go_enter Try.func31, Try.ntmps31
  go_wp2
  go_loopw [5] (fun i wr => ∃ k : Nat, k ≤ n ∧ i = .int .i64 k ∧ (l.take k).find? (fun a => marked a ⟨ew, el, er, ee, eg⟩) = none ∧ Mk w.heap.size ⟨ew, el, er, ee, eg⟩ wr ∧ Below w.heap.size w wr) (fun i _ => n - (intOf i).toNat)
  case atStart => exact ⟨0, Nat.zero_le _, rfl, rfl, HE.out, (Below.refl _ w).alloc (Nat.le_refl _) _⟩
  case round =>
    obtain ⟨k, hk, rfl, hfd, hmk, hbw⟩ := hrel
    have hbs := hbw.size
    have HFD := Lib.hid hfd
    clear hfd
    by_cases hlt : k < n
    · have hkl : k < l.length := by rw [HN.out]; exact hlt
      obtain ⟨g, o, rfl, hg, hc⟩ := (SA.out.below hbw) (List.ne_nil_of_length_pos (by omega))
      have hxc := hc k l[k] (List.getElem?_eq_getElem hkl)
      have hst := find_take hkl HFD.out
      obtain ⟨x, hx⟩ : ∃ a, l[k] = a := ⟨_, rfl⟩
      rw [hx] at hxc hst
      have cM := fun W => marked_any x ⟨ew, el, er, ee, eg⟩ W
      obtain ⟨xw, xl, xr, xe, xg⟩ := x
      obtain ⟨mv, hmv⟩ : ∃ v, marked ⟨xw, xl, xr, xe, xg⟩ ⟨ew, el, er, ee, eg⟩ = v := ⟨_, rfl⟩
      rw [hmv] at cM hst
      unfold av at cM
      dsimp only at cM
      have F0 := Lib.hid (show TwoAt g (o + k * 5) w.heap.size ⟨xw, xl, xr, xe, xg⟩ ⟨ew, el, er, ee, eg⟩ wr.drew from ⟨hxc, hmk⟩)
      have CM := Lib.hid cM
      have HST := Lib.hid hst
      have k0 : (0 : Int) ≤ (k : Int) := by omega
      have kn : (k : Int) < (n : Int) := by omega
      clear hc hx SA cM hst hmv
      obtain ⟨c0, c1, c2, c3, c4⟩ := hxc
      obtain ⟨m0, m1, m2, m3, m4⟩ := hmk
      dsimp only at c0 c1 c2 c3 c4 m0 m1 m2 m3 m4
      go_wp2
      first | (go_region_held (fun W' => W'.cell? ⟨g, o + k * 5, none⟩ = some (.int .i64 xw) ∧ W'.cell? ⟨g, o + k * 5 + 1, none⟩ = some (.bool xl) ∧ W'.cell? ⟨g, o + k * 5 + 2, none⟩ = some (.int .i64 xr) ∧ W'.cell? ⟨g, o + k * 5 + 3, none⟩ = some (.int .i64 xe) ∧ W'.cell? ⟨g, o + k * 5 + 4, none⟩ = some (.bool xg) ∧ W'.cell? ⟨w.heap.size, 0, none⟩ = some (.int .i64 ew) ∧ W'.cell? ⟨w.heap.size, 1, none⟩ = some (.bool el) ∧ W'.cell? ⟨w.heap.size, 2, none⟩ = some (.int .i64 er) ∧ W'.cell? ⟨w.heap.size, 3, none⟩ = some (.int .i64 ee) ∧ W'.cell? ⟨w.heap.size, 4, none⟩ = some (.bool eg)) (first | exact F0.out.flat | exact F1.out.flat | fail) (first | (go_at_call 32; refine (CM.out _).mono ?_; rintro x w1 ⟨rfl, hb1⟩; have F1 := Lib.hid (F0.out.step hb1); have HB1 := Lib.hid hb1; clear hb1))) | fail
      have HB := Lib.hid (hbw.trans (((Below.refl wr.heap.size wr).drew.trans (HB1.out.mono (Nat.le_refl _))).mono hbs))
      obtain ⟨⟨d0, d1, d2, d3, d4⟩, hmk1⟩ := F1.out
      have HM1 := Lib.hid hmk1
      clear hmk1
      dsimp only at d0 d1 d2 d3 d4
      cases mv
      · go_wp2
        go_roundw
        case rel => exact ⟨k + 1, by omega, by go_num, HST.out.2 (by simp), HM1.out, HB.out⟩
        case measure => simp [intOf]; omega
      · go_wp2
        go_ret
        refine ⟨ret_int ?_, HB.out⟩
        unfold atL; rw [HST.out.1 (by simp)]; rfl
    · obtain rfl : k = n := by omega
      have hfull : l.take k = l := List.take_of_length_le (by rw [HN.out]; exact Nat.le_refl _)
      have HR := Lib.hid (show atL l ⟨ew, el, er, ee, eg⟩ = 0 by unfold atL; rw [← hfull, HFD.out]; rfl)
      clear hfull
      go_wp2
      go_ret
      exact ⟨ret_int HR.out.symm, hbw⟩
end Go.Proofs.Ytkpedfigaofloaa
