/-
  Walk of the law AclAgain: it returns true for every two lists of triples of numbers and every bool.
-/
import Derived.Test.YtkpedfigaofloaaAs
import Derived.Test.YtkpedfigaofloaaPe
namespace Go.Proofs.Ytkpedfigaofloaa
open Go.RowKit Ap
set_option maxHeartbeats 400000

/-- The call returns a slice of so many entries, which holds this list. -/
abbrev Gives (f : FuncId) (args : Array Value) (W : World) (X : List Ac) (n : Nat) : Prop :=
  Calls Try.prog f args W fun e w' => ∃ A c, e = .returned (.slice A n c) ∧ Aces w' A X ∧ (A = none → n = 0 ∧ c = 0) ∧ Below W.heap.size W w'
theorem gives_of {f : FuncId} {args : Array Value} {W : World} {b : Nat} {X : List Ac} {n : Nat} (hn : X.length = n) (h : Calls Try.prog f args W fun e w' => ∃ A' m c', e = .returned (.slice A' m c') ∧ w'.ownsRow b 31 5 (.slice A' m c') m (encs X) ∧ Below W.heap.size W w') : Gives f args W X n :=
  h.mono fun _ _ ⟨A', m, c', he, hr, hb⟩ => by
    have := own_len hr
    obtain rfl : m = n := by omega
    exact ⟨A', c', he, Aces.of_own hr, own_none hr, hb⟩
theorem rs_true (A A' : Option Addr) (c c' n : Nat) (X : List Ac) (hn : X.length = n) (hl : n ≤ 1000) (W : World) (h : Aces W A X) (h' : Aces W A' X) :
    Calls Try.prog 20 #[.slice A n c, .slice A' n c'] W fun e w' => e = .returned (.bool true) ∧ Below W.heap.size W w' :=
  (rsame_any A A' n n c c' X X hn hn hl hl W h h').mono fun _ _ ⟨he, hb⟩ => ⟨by rw [he, decide_eq_true rfl], hb⟩

/-- Three lists in memory, and the old world below. -/
abbrev Three (A1 A2 A3 : Option Addr) (l1 l2 l3 : List Ac) (w W : World) : Prop := Aces W A1 l1 ∧ Aces W A2 l2 ∧ Aces W A3 l3 ∧ Below w.heap.size w W
theorem Three.step {A1 A2 A3 : Option Addr} {l1 l2 l3 : List Ac} {w W W' : World} (h : Three A1 A2 A3 l1 l2 l3 w W) (hb : Below W.heap.size W W') : Three A1 A2 A3 l1 l2 l3 w W' :=
  ⟨h.1.below hb, h.2.1.below hb, h.2.2.1.below hb, h.2.2.2.trans (hb.mono h.2.2.2.size)⟩

set_option maxHeartbeats 4000000 in
theorem lawAgain_any (A0 : Option Addr) (n0 c0 : Nat) (l0 : List Tri) (e0 : l0.length = n0) (b0 : n0 ≤ 9223372036854775807) (A1 : Option Addr) (n1 c1 : Nat) (l1 : List Tri) (e1 : l1.length = n1) (b1 : n1 ≤ 9223372036854775807) (isDir : Bool) (w : World) (y0 : Tris w A0 l0) (y1 : Tris w A1 l1) :
    Calls Try.prog 6 #[.slice A0 n0 c0, .slice A1 n1 c1, .bool isDir] w fun e w' => e = .returned (.bool true) ∧ Below w.heap.size w w' := by
  obtain ⟨a, ha⟩ : ∃ a, listL l0 = a := ⟨_, rfl⟩
  obtain ⟨d, hd⟩ : ∃ d, listL l1 = d := ⟨_, rfl⟩
  obtain ⟨b, hb⟩ : ∃ b, againL a d isDir = b := ⟨_, rfl⟩
  have la : a.length ≤ 12 := by rw [← ha]; exact listL_len _
  have ld : d.length ≤ 12 := by rw [← hd]; exact listL_len _
  have okd : ∀ x ∈ d, x.ok := by rw [← hd]; exact listL_ok _
  obtain ⟨X, hX⟩ : ∃ X, ownL a false = X := ⟨_, rfl⟩
  obtain ⟨Y, hY⟩ : ∃ Y, childL d (rcOf isDir) = Y := ⟨_, rfl⟩
  have hbx : b = X ++ Y := by rw [← hb, ← hX, ← hY]; rfl
  have lx : X.length ≤ 12 := by rw [← hX]; exact Nat.le_trans (ownL_len _ _) la
  have ly : Y.length ≤ 12 := by rw [← hY]; exact Nat.le_trans (childL_len _ _) ld
  have lb : b.length = X.length + Y.length := by rw [hbx, List.length_append]
  obtain ⟨na, hna⟩ : ∃ n, a.length = n := ⟨_, rfl⟩
  obtain ⟨nd, hnd⟩ : ∃ n, d.length = n := ⟨_, rfl⟩
  obtain ⟨nb, hnb⟩ : ∃ n, b.length = n := ⟨_, rfl⟩
  obtain ⟨nx, hnx⟩ : ∃ n, X.length = n := ⟨_, rfl⟩
  obtain ⟨ny, hny⟩ : ∃ n, Y.length = n := ⟨_, rfl⟩
  rw [hna] at la
  rw [hnd] at ld
  rw [hnb, hnx, hny] at lb
  rw [hnx] at lx
  rw [hny] at ly
  have C1 := Lib.hid (fun W (h : Below w.heap.size w W) => gives_of hna (by have := list_any A0 n0 c0 l0 e0 b0 W (y0.below h); rw [ha] at this; exact this))
  have C2 := Lib.hid (fun W (h : Below w.heap.size w W) => gives_of hnd (by have := list_any A1 n1 c1 l1 e1 b1 W (y1.below h); rw [hd] at this; exact this))
  have C3 := Lib.hid (fun (Aa Ad : Option Addr) (ca cd : Nat) W (h1 : Aces W Aa a) (h2 : Aces W Ad d) => gives_of hnb (by have := again_any Aa Ad na ca nd cd a d hna (by omega) hnd (by omega) okd isDir W h1 h2; rw [hb] at this; exact this))
  have K1 := Lib.hid (fun (A : Option Addr) (c : Nat) W (h : Aces W A b) => gives_of hnx (by have := rown_any A nb c b hnb (by omega) false W h; rw [← hb, again_own, hX] at this; exact this))
  have K2 := Lib.hid (fun (A : Option Addr) (c : Nat) W (h : Aces W A a) => gives_of hnx (by have := rown_any A na c a hna (by omega) false W h; rw [hX] at this; exact this))
  have K3 := Lib.hid (fun (A : Option Addr) (c : Nat) W (h : Aces W A b) => gives_of hny (by have := rown_any A nb c b hnb (by omega) true W h; rw [← hb, again_given, hY] at this; exact this))
  have K4 := Lib.hid (fun (A : Option Addr) (c : Nat) W (h : Aces W A d) => gives_of hny (by have := child_any A nd c d hnd (by omega) okd isDir W h; rw [hY] at this; exact this))
  have K5 := Lib.hid (fun (Ab Ad : Option Addr) (cb cd : Nat) W (h1 : Aces W Ab b) (h2 : Aces W Ad d) => gives_of hnb (by have := again_any Ab Ad nb cb nd cd b d hnb (by omega) hnd (by omega) okd isDir W h1 h2; rw [← hb, again_twice, hb] at this; exact this))
  have K6 := Lib.hid (fun (A : Option Addr) (c : Nat) W (h : Aces W A a) => gives_of hnx (by have := again_any A none na c 0 0 a [] hna (by omega) rfl (by omega) (by simp) isDir W h (Aces.nil _ _); rw [again_nil, hX] at this; exact this))
  have RX := Lib.hid (fun (A A' : Option Addr) (c c' : Nat) W (h : Aces W A X) (h' : Aces W A' X) => rs_true A A' c c' nx X hnx (by omega) W h h')
  have RY := Lib.hid (fun (A A' : Option Addr) (c c' : Nat) W (h : Aces W A Y) (h' : Aces W A' Y) => rs_true A A' c c' ny Y hny (by omega) W h h')
  have RB := Lib.hid (fun (A A' : Option Addr) (c c' : Nat) W (h : Aces W A b) (h' : Aces W A' b) => rs_true A A' c c' nb b hnb (by omega) W h h')
  replace lb : nb ≤ 24 := by omega
  have n24 : decide (24 < (nb : Int)) = false := by simp; omega
  clear ha hd hb okd hX hY hbx hna hnd hnb hnx hny e0 e1 y0 y1
  go_enter Try.func6, Try.ntmps6
  go_wp2_with (first | (go_at_call 10; refine (sanity_any _).mono ?_; rintro e w1 ⟨rfl, hb1⟩) | (go_at_call 12; first | ((with_reducible refine (C1.out _ hb1).mono ?_); rintro e w2 ⟨Aa, ca, rfl, ua, _, hb2⟩; have ua := Lib.hid ua; have hb2' := hb1.trans (hb2.mono hb1.size)) | ((with_reducible refine (C2.out _ hb2').mono ?_); rintro e w3 ⟨Ad, cd, rfl, ud, _, hb3⟩; have ud := Lib.hid ud; have ua := Lib.hid (ua.out.below hb3); have hb3' := hb2'.trans (hb3.mono hb2'.size))) | (go_at_call 23; first | ((with_reducible refine (C3.out _ _ _ _ _ ua.out ud.out).mono ?_); rintro e w4 ⟨Ab, cb, rfl, ub, _, hb4⟩; have T := Lib.hid (show Three Aa Ad Ab a d b w w4 from ⟨ua.out.below hb4, ud.out.below hb4, ub, hb3'.trans (hb4.mono hb3'.size)⟩); clear ub) | ((with_reducible refine (K5.out _ _ _ _ _ T.out.2.2.1 T.out.2.1).mono ?_); rintro e w11 ⟨A11, c11, rfl, u1, _, hb11⟩; have u1 := Lib.hid u1; have T := Lib.hid (T.out.step hb11)) | ((with_reducible refine (K6.out _ _ _ T.out.1).mono ?_); rintro e w12 ⟨A12, c12, rfl, u1, _, hb12⟩; have u1 := Lib.hid u1; have T := Lib.hid (T.out.step hb12))) | (go_at_call 30; first | ((with_reducible refine (K1.out _ _ _ T.out.2.2.1).mono ?_); rintro e w5 ⟨A5, c5, rfl, u1, _, hb5⟩; have u1 := Lib.hid u1; have T := Lib.hid (T.out.step hb5)) | ((with_reducible refine (K2.out _ _ _ T.out.1).mono ?_); rintro e w6 ⟨A6, c6, rfl, u2, _, hb6⟩; have u2 := Lib.hid u2; have u1 := Lib.hid (u1.out.below hb6); have T := Lib.hid (T.out.step hb6)) | ((with_reducible refine (K3.out _ _ _ T.out.2.2.1).mono ?_); rintro e w8 ⟨A8, c8, rfl, u1, _, hb8⟩; have u1 := Lib.hid u1; have T := Lib.hid (T.out.step hb8))) | (go_at_call 21; refine (K4.out _ _ _ T.out.2.1).mono ?_; rintro e w9 ⟨A9, c9, rfl, u2, _, hb9⟩; have u2 := Lib.hid u2; have u1 := Lib.hid (u1.out.below hb9); have T := Lib.hid (T.out.step hb9)) | (go_at_call 20; first | ((with_reducible refine (RX.out _ _ _ _ _ u1.out u2.out).mono ?_); rintro e w7 ⟨rfl, hb7⟩; have T := Lib.hid (T.out.step hb7)) | ((with_reducible refine (RY.out _ _ _ _ _ u1.out u2.out).mono ?_); rintro e w10 ⟨rfl, hb10⟩; have T := Lib.hid (T.out.step hb10)) | ((with_reducible refine (RB.out _ _ _ _ _ u1.out T.out.2.2.1).mono ?_); rintro e w13 ⟨rfl, hb13⟩; have T := Lib.hid (T.out.step hb13))))
  go_ret
  exact ⟨rfl, T.out.2.2.2⟩
end Go.Proofs.Ytkpedfigaofloaa
