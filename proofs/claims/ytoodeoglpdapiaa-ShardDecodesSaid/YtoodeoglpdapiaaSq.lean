/-
  What the laws ask of the program's functions; walks of the law file's encode, decode and rebuild.
-/
import Derived.Test.YtoodeoglpdapiaaSp
namespace Go.Proofs.Ytoodeoglpdapiaa
open Go.RowKit Gf
set_option maxHeartbeats 400000

/-- The slice that starts at A holds these bytes, in a block of which ok says that it may. -/
def BytsO (ok : Nat → Prop) (w : World) (A : Option Addr) (l : List UInt8) : Prop :=
  l ≠ [] → ∃ b o, A = some ⟨b, o, none⟩ ∧ ok b ∧ b < w.heap.size ∧ ∀ (j : Nat) (x : UInt8), l[j]? = some x → w.cell? ⟨b, o + j, none⟩ = some (.int .u8 x.toNat)
section
variable {ok ok' okO okO' okR okR' : Nat → Prop} {w w' W W' : World} {A : Option Addr} {l : List UInt8} {ls : List (List UInt8)} {n c : Nat}
theorem BytsO.byts (h : BytsO ok w A l) : Byts w A l := fun hn => by
  obtain ⟨b, o, h1, _, h2, h3⟩ := h hn
  exact ⟨b, o, h1, h2, h3⟩
theorem BytsO.nil : BytsO ok w A [] := fun h => absurd rfl h
theorem BytsO.below (h : BytsO ok w A l) (hb : Below w.heap.size w w') : BytsO ok w' A l := fun hn => by
  obtain ⟨b, o, hA, hk, hg, hc⟩ := h hn
  exact ⟨b, o, hA, hk, Nat.lt_of_lt_of_le hg hb.size, fun j x hx => (hb.cell (p := ⟨b, o + j, none⟩) hg).trans (hc j x hx)⟩
theorem BytsO.mono (h : BytsO ok w A l) (hk : ∀ b, b < w.heap.size → ok b → ok' b) : BytsO ok' w A l := fun hn => by
  obtain ⟨b, o, hA, h1, h2, h3⟩ := h hn
  exact ⟨b, o, hA, hk b h2 h1, h2, h3⟩
theorem BytsO.set (h : BytsO ok w A l) {p : Addr} (hp : ¬ ok p.block) (u : Value) : BytsO ok (w.setCell p u) A l := fun hn => by
  obtain ⟨b, o, hA, hk, hg, hc⟩ := h hn
  exact ⟨b, o, hA, hk, by simpa [World.setCell] using hg, fun j x hx => (World.cell?_setCell_other w p ⟨b, o + j, none⟩ u (fun e => by rw [e] at hp; exact hp hk)).trans (hc j x hx)⟩
theorem Byts.toO (h : Byts w A l) : BytsO (· < w.heap.size) w A l := fun hn => by
  obtain ⟨b, o, h1, h2, h3⟩ := h hn
  exact ⟨b, o, h1, h2, h2, h3⟩
theorem BytsO.own {base : Nat} {e : TypeId} (h : w.ownsRow base e 1 (.slice A n c) n (bys l)) : BytsO (base ≤ ·) w A l := fun hn => by
  obtain ⟨b, o, hA, h2, h3⟩ := Byts.of_own h hn
  subst hA
  exact ⟨b, o, rfl, (own_base h b rfl).1, h2, h3⟩
/-- The slice that starts at A, in a block as okO says, holds slices that hold these lists, in blocks as okR says. -/
def ListsO (okO okR : Nat → Prop) (w : World) (A : Option Addr) (ls : List (List UInt8)) : Prop :=
  ls ≠ [] → ∃ g o, A = some ⟨g, o, none⟩ ∧ okO g ∧ g < w.heap.size ∧ ∀ (j : Nat) (r : List UInt8), ls[j]? = some r → ∃ A' c', w.cell? ⟨g, o + j, none⟩ = some (.slice A' r.length c') ∧ r.length ≤ c' ∧ c' ≤ 9223372036854775807 ∧ (A' = none → c' = 0) ∧ BytsO okR w A' r
theorem ListsO.lists (h : ListsO okO okR w A ls) : Lists w A ls := fun hn => by
  obtain ⟨g, o, h1, _, h2, h3⟩ := h hn
  exact ⟨g, o, h1, h2, fun j r hr => by obtain ⟨A', c', g1, g2, g3, g4, g5⟩ := h3 j r hr; exact ⟨A', c', g1, g2, g3, g4, g5.byts⟩⟩
theorem ListsO.below (h : ListsO okO okR w A ls) (hb : Below w.heap.size w w') : ListsO okO okR w' A ls := fun hn => by
  obtain ⟨g, o, hA, hk, hg, hc⟩ := h hn
  refine ⟨g, o, hA, hk, Nat.lt_of_lt_of_le hg hb.size, fun j r hr => ?_⟩
  obtain ⟨A', c', h1, h2, h3, h5, h4⟩ := hc j r hr
  exact ⟨A', c', (hb.cell (p := ⟨g, o + j, none⟩) hg).trans h1, h2, h3, h5, h4.below hb⟩
theorem ListsO.mono (h : ListsO okO okR w A ls) (hO : ∀ b, b < w.heap.size → okO b → okO' b) (hR : ∀ b, b < w.heap.size → okR b → okR' b) : ListsO okO' okR' w A ls := fun hn => by
  obtain ⟨g, o, hA, hk, hg, hc⟩ := h hn
  refine ⟨g, o, hA, hO g hg hk, hg, fun j r hr => ?_⟩
  obtain ⟨A', c', h1, h2, h3, h5, h4⟩ := hc j r hr
  exact ⟨A', c', h1, h2, h3, h5, h4.mono hR⟩
theorem ListsO.set (h : ListsO okO okR w A ls) {p : Addr} (hp : ¬ okO p.block) (hp2 : ¬ okR p.block) (u : Value) : ListsO okO okR (w.setCell p u) A ls := fun hn => by
  obtain ⟨g, o, hA, hk, hg, hc⟩ := h hn
  refine ⟨g, o, hA, hk, by simpa [World.setCell] using hg, fun j r hr => ?_⟩
  obtain ⟨A', c', h1, h2, h3, h5, h4⟩ := hc j r hr
  exact ⟨A', c', (World.cell?_setCell_other w p ⟨g, o + j, none⟩ u (fun e => by rw [e] at hp; exact hp hk)).trans h1, h2, h3, h5, h4.set hp2 u⟩
theorem Lists.toO (h : Lists w A ls) : ListsO (· < w.heap.size) (· < w.heap.size) w A ls := fun hn => by
  obtain ⟨g, o, h1, h2, h3⟩ := h hn
  exact ⟨g, o, h1, h2, h2, fun j r hr => by obtain ⟨A', c', g1, g2, g3, g4, g5⟩ := h3 j r hr; exact ⟨A', c', g1, g2, g3, g4, g5.toO⟩⟩
theorem OwnRows.listsO {base lo m : Nat} (h : OwnRows base lo w A m c ls) : ListsO (base ≤ ·) (fun b => lo ≤ b ∧ some b ≠ Value.ownBlock (.slice A m c)) w A ls := fun hn => by
  obtain ⟨cs, h1, h2⟩ := h
  have hl := own_len h1
  have hlen := h2.len
  obtain ⟨g, cap, hv, hbg, hlt⟩ := h1.form (by rw [← hl, hlen]; exact List.length_pos_iff.2 hn)
  have hA : A = some ⟨g, 0, none⟩ := by injection hv
  refine ⟨g, 0, hA, hbg, hlt, fun j r hr => ?_⟩
  obtain ⟨A', c', g1, g2, g3, g5, g4⟩ := h2.row j r hr
  have := h1.cells (g := g) (by rw [hA]; rfl) j _ g1
  have hadd : (⟨g, 0, none⟩ : Addr).add j = ⟨g, 0 + j, none⟩ := by unfold Addr.add; split <;> simp_all
  rw [hadd] at this
  exact ⟨A', c', this, g2, g3, g5, fun hn => by obtain ⟨b, o, q1, q2, q3, q4⟩ := g4 hn; exact ⟨b, o, q1, ⟨q2, q3⟩, q4⟩⟩

/-- A slice of bytes, and of such slices. -/
structure Slb (ok : Nat → Prop) (W : World) (A : Option Addr) (n c : Nat) (b : List UInt8) : Prop where
  len : b.length = n
  cap : n ≤ c
  max : c ≤ 9223372036854775807
  nil : A = none → c = 0
  byts : BytsO ok W A b
structure Sll (okO okR : Nat → Prop) (W : World) (A : Option Addr) (n c : Nat) (ls : List (List UInt8)) : Prop where
  len : ls.length = n
  cap : n ≤ c
  max : c ≤ 9223372036854775807
  nil : A = none → c = 0
  lists : ListsO okO okR W A ls
theorem Slb.below (h : Slb ok W A n c l) (hb : Below W.heap.size W W') : Slb ok W' A n c l := ⟨h.len, h.cap, h.max, h.nil, h.byts.below hb⟩
theorem Sll.below (h : Sll okO okR W A n c ls) (hb : Below W.heap.size W W') : Sll okO okR W' A n c ls := ⟨h.len, h.cap, h.max, h.nil, h.lists.below hb⟩
theorem Slb.mono (h : Slb ok W A n c l) (hk : ∀ b, b < W.heap.size → ok b → ok' b) : Slb ok' W A n c l := ⟨h.len, h.cap, h.max, h.nil, h.byts.mono hk⟩
theorem Sll.mono (h : Sll okO okR W A n c ls) (hO : ∀ b, b < W.heap.size → okO b → okO' b) (hR : ∀ b, b < W.heap.size → okR b → okR' b) : Sll okO' okR' W A n c ls := ⟨h.len, h.cap, h.max, h.nil, h.lists.mono hO hR⟩
theorem Slb.set (h : Slb ok W A n c l) {p : Addr} (hp : ¬ ok p.block) (u : Value) : Slb ok (W.setCell p u) A n c l := ⟨h.len, h.cap, h.max, h.nil, h.byts.set hp u⟩
theorem Sll.set (h : Sll okO okR W A n c ls) {p : Addr} (hp : ¬ okO p.block) (hp2 : ¬ okR p.block) (u : Value) : Sll okO okR (W.setCell p u) A n c ls := ⟨h.len, h.cap, h.max, h.nil, h.lists.set hp hp2 u⟩
theorem Slb.own {base : Nat} {e : TypeId} (h : w.ownsRow base e 1 (.slice A n c) n (bys l)) : Slb (base ≤ ·) w A n c l :=
  ⟨by have := own_len h; rwa [bys_length] at this, (own_cap h).1, (own_cap h).2, own_none h, BytsO.own h⟩
theorem Sll.own {base lo : Nat} (h : OwnRows base lo w A n c ls) : Sll (base ≤ ·) (fun b => lo ≤ b ∧ some b ≠ Value.ownBlock (.slice A n c)) w A n c ls := by
  have hl := h.len
  have hls := h.listsO
  obtain ⟨cs, h1, _⟩ := h
  exact ⟨hl, (own_cap h1).1, (own_cap h1).2, own_none h1, hls⟩
end
def Short (ls : List (List UInt8)) : Prop := ∀ r ∈ ls, r.length ≤ 100
/-- In a block as ok says, or in one that is new in this world. -/
def Or' (ok : Nat → Prop) (W : World) (b : Nat) : Prop := ok b ∨ W.heap.size ≤ b

/-- The functions of the package do as they should, in each world in which the program's own tables lie. -/
structure Prg (Env : World → Prop) : Prop where
  env : ∀ {W W' : World}, Env W → Below W.heap.size W W' → Env W'
  mul : ∀ (a b : UInt8) (W : World), Env W → Calls Try.prog 21 #[.int .u8 a.toNat, .int .u8 b.toNat] W fun e w' => e = .returned (.int .u8 (gm a b).toNat) ∧ Below W.heap.size W w'
  inv : ∀ (a : UInt8) (W : World), Env W → Calls Try.prog 23 #[.int .u8 a.toNat] W fun e w' => e = .returned (.int .u8 (gi a).toNat) ∧ Below W.heap.size W w'
  encNo : ∀ (ok : Nat → Prop) (A : Option Addr) (nb cb : Nat) (b : List UInt8) (k n : Int) (W : World), Env W → Slb ok W A nb cb b → nb ≤ 100 → ¬ (1 ≤ k ∧ k ≤ n ∧ n ≤ 12) → (Lit.int .i64 k).wf = true → (Lit.int .i64 n).wf = true →
    Calls Try.prog 27 #[.slice A nb cb, .int .i64 k, .int .i64 n] W fun e w' => ∃ A' c', e = .returned (.tuple #[.slice A' 0 c', .int .i64 1]) ∧ Below W.heap.size W w'
  encYes : ∀ (ok : Nat → Prop) (A : Option Addr) (nb cb : Nat) (b : List UInt8) (k n : Nat) (W : World), Env W → Slb ok W A nb cb b → nb ≤ 100 → 1 ≤ k → k ≤ n → n ≤ 12 →
    Calls Try.prog 27 #[.slice A nb cb, .int .i64 k, .int .i64 n] W fun e w' => ∃ A' c', e = .returned (.tuple #[.slice A' n c', .int .i64 0]) ∧ Sll (Or' ok W) (Or' ok W) w' A' n c' (encL b k n) ∧ Below W.heap.size W w'
  decArg : ∀ (okO okR : Nat → Prop) (A : Option Addr) (n c : Nat) (ls : List (List UInt8)) (k size : Int) (W : World), Env W → Sll okO okR W A n c ls → (properB n k = false ∨ size < 0) → (Lit.int .i64 k).wf = true → (Lit.int .i64 size).wf = true →
    Calls Try.prog 30 #[.slice A n c, .int .i64 k, .int .i64 size] W fun e w' => ∃ A' c', e = .returned (.tuple #[.slice A' 0 c', .int .i64 1]) ∧ Below W.heap.size W w'
  decFew : ∀ (okO okR : Nat → Prop) (A : Option Addr) (n c : Nat) (ls : List (List UInt8)) (k size : Nat) (W : World), Env W → Sll okO okR W A n c ls → properB n k = true → size ≤ 200 → (ptsL ls k (longN size k) (-1)).length < k →
    Calls Try.prog 30 #[.slice A n c, .int .i64 k, .int .i64 size] W fun e w' => ∃ A' c', e = .returned (.tuple #[.slice A' 0 c', .int .i64 70]) ∧ Below W.heap.size W w'
  decYes : ∀ (okO okR : Nat → Prop) (A : Option Addr) (n c : Nat) (ls : List (List UInt8)) (k size : Nat) (W : World), Env W → Sll okO okR W A n c ls → properB n k = true → size ≤ 200 → (ptsL ls k (longN size k) (-1)).length = k →
    Calls Try.prog 30 #[.slice A n c, .int .i64 k, .int .i64 size] W fun e w' => ∃ A' c', e = .returned (.tuple #[.slice A' size c', .int .i64 0]) ∧ Slb (Or' okR W) w' A' size c' (decL ls k size) ∧ Below W.heap.size W w'
  rebArg : ∀ (okO okR : Nat → Prop) (A : Option Addr) (n c : Nat) (ls : List (List UInt8)) (k i : Int) (W : World), Env W → Sll okO okR W A n c ls → (properB n k = false ∨ i < 0 ∨ n ≤ i) → (Lit.int .i64 k).wf = true → (Lit.int .i64 i).wf = true →
    Calls Try.prog 33 #[.slice A n c, .int .i64 k, .int .i64 i] W fun e w' => ∃ A' c', e = .returned (.tuple #[.slice A' 0 c', .int .i64 1]) ∧ Below W.heap.size W w'
  rebFew : ∀ (okO okR : Nat → Prop) (A : Option Addr) (n c : Nat) (ls : List (List UInt8)) (k i : Nat) (W : World), Env W → Sll okO okR W A n c ls → Short ls → properB n k = true → i < n → (rebP ls k i).length < k →
    Calls Try.prog 33 #[.slice A n c, .int .i64 k, .int .i64 i] W fun e w' => ∃ A' c', e = .returned (.tuple #[.slice A' 0 c', .int .i64 70]) ∧ Below W.heap.size W w'
  rebYes : ∀ (okO okR : Nat → Prop) (A : Option Addr) (n c : Nat) (ls : List (List UInt8)) (k i : Nat) (W : World), Env W → Sll okO okR W A n c ls → Short ls → properB n k = true → i < n → (rebP ls k i).length = k →
    Calls Try.prog 33 #[.slice A n c, .int .i64 k, .int .i64 i] W fun e w' => ∃ A' m c', e = .returned (.tuple #[.slice A' m c', .int .i64 0]) ∧ Slb (Or' okR W) w' A' m c' (rebL ls k i) ∧ Below W.heap.size W w'
  chkArg : ∀ (okO okR : Nat → Prop) (A : Option Addr) (n c : Nat) (ls : List (List UInt8)) (k : Int) (W : World), Env W → Sll okO okR W A n c ls → properB n k = false → (Lit.int .i64 k).wf = true →
    Calls Try.prog 19 #[.slice A n c, .int .i64 k] W fun e w' => e = .returned (.bool false) ∧ Below W.heap.size W w'
  chk : ∀ (okO okR : Nat → Prop) (A : Option Addr) (n c : Nat) (ls : List (List UInt8)) (k : Nat) (W : World), Env W → Sll okO okR W A n c ls → Short ls → properB n k = true →
    Calls Try.prog 19 #[.slice A n c, .int .i64 k] W fun e w' => e = .returned (.bool (chkL ls k)) ∧ Below W.heap.size W w'

/-- The law file's encode, decode and rebuild put a pair of results into a struct: their walk, for whatever the callee's results are known to be. -/
theorem wrap_enc (A : Option Addr) (nb cb : Nat) (k n : Int) (w : World) (R : Value → Int → World → Prop)
    (hC : Calls Try.prog 27 #[.slice A nb cb, .int .i64 k, .int .i64 n] (w.alloc (.cells #[.slice none 0 0, .int .i64 0] 29)) fun e w' => ∃ A' m c' er, e = .returned (.tuple #[.slice A' m c', .int .i64 er]) ∧ R (.slice A' m c') er w' ∧ Below (w.heap.size + 1) (w.alloc (.cells #[.slice none 0 0, .int .i64 0] 29)) w') :
    Calls Try.prog 11 #[.slice A nb cb, .int .i64 k, .int .i64 n] w fun e w' => ∃ v er W, e = .returned (.agg #[v, .int .i64 er]) ∧ R v er W ∧ w' = (W.setCell ⟨w.heap.size, 0, none⟩ v).setCell ⟨w.heap.size, 1, none⟩ (.int .i64 er) ∧ RBox w 29 W := by
  have HB := Lib.hid (rbox_start w 29)
  have HC := Lib.hid hC
  clear hC
  go_enter Try.func11, Try.ntmps11
  go_wp2_with (go_at_call 27; refine HC.out.mono ?_; rintro e w1 ⟨A', m, c', er, rfl, hR, hb1⟩; have hB1 := HB.out.step hb1; obtain ⟨z0, z1, f0, f1⟩ := hB1.cells; have hls := hB1.size; have HB1 := Lib.hid hB1; have HR := Lib.hid hR)
  have hd := set_results HB1.out (.slice A' m c') er
  refine bodyPost_ret (v := .agg #[.slice A' m c', .int .i64 er]) ?_ rfl ⟨_, _, w1, rfl, HR.out, rfl, HB1.out⟩
  simp [results, Try.results11, go_sem, hd.1, hd.2]
theorem wrap_dec (A : Option Addr) (nb cb : Nat) (k n : Int) (w : World) (R : Value → Int → World → Prop)
    (hC : Calls Try.prog 30 #[.slice A nb cb, .int .i64 k, .int .i64 n] (w.alloc (.cells #[.slice none 0 0, .int .i64 0] 34)) fun e w' => ∃ A' m c' er, e = .returned (.tuple #[.slice A' m c', .int .i64 er]) ∧ R (.slice A' m c') er w' ∧ Below (w.heap.size + 1) (w.alloc (.cells #[.slice none 0 0, .int .i64 0] 34)) w') :
    Calls Try.prog 15 #[.slice A nb cb, .int .i64 k, .int .i64 n] w fun e w' => ∃ v er W, e = .returned (.agg #[v, .int .i64 er]) ∧ R v er W ∧ w' = (W.setCell ⟨w.heap.size, 0, none⟩ v).setCell ⟨w.heap.size, 1, none⟩ (.int .i64 er) ∧ RBox w 34 W := by
  have HB := Lib.hid (rbox_start w 34)
  have HC := Lib.hid hC
  clear hC
  go_enter Try.func15, Try.ntmps15
  go_wp2_with (go_at_call 30; refine HC.out.mono ?_; rintro e w1 ⟨A', m, c', er, rfl, hR, hb1⟩; have hB1 := HB.out.step hb1; obtain ⟨z0, z1, f0, f1⟩ := hB1.cells; have hls := hB1.size; have HB1 := Lib.hid hB1; have HR := Lib.hid hR)
  have hd := set_results HB1.out (.slice A' m c') er
  refine bodyPost_ret (v := .agg #[.slice A' m c', .int .i64 er]) ?_ rfl ⟨_, _, w1, rfl, HR.out, rfl, HB1.out⟩
  simp [results, Try.results15, go_sem, hd.1, hd.2]
theorem wrap_reb (A : Option Addr) (nb cb : Nat) (k n : Int) (w : World) (R : Value → Int → World → Prop)
    (hC : Calls Try.prog 33 #[.slice A nb cb, .int .i64 k, .int .i64 n] (w.alloc (.cells #[.slice none 0 0, .int .i64 0] 34)) fun e w' => ∃ A' m c' er, e = .returned (.tuple #[.slice A' m c', .int .i64 er]) ∧ R (.slice A' m c') er w' ∧ Below (w.heap.size + 1) (w.alloc (.cells #[.slice none 0 0, .int .i64 0] 34)) w') :
    Calls Try.prog 17 #[.slice A nb cb, .int .i64 k, .int .i64 n] w fun e w' => ∃ v er W, e = .returned (.agg #[v, .int .i64 er]) ∧ R v er W ∧ w' = (W.setCell ⟨w.heap.size, 0, none⟩ v).setCell ⟨w.heap.size, 1, none⟩ (.int .i64 er) ∧ RBox w 34 W := by
  have HB := Lib.hid (rbox_start w 34)
  have HC := Lib.hid hC
  clear hC
  go_enter Try.func17, Try.ntmps17
  go_wp2_with (go_at_call 33; refine HC.out.mono ?_; rintro e w1 ⟨A', m, c', er, rfl, hR, hb1⟩; have hB1 := HB.out.step hb1; obtain ⟨z0, z1, f0, f1⟩ := hB1.cells; have hls := hB1.size; have HB1 := Lib.hid hB1; have HR := Lib.hid hR)
  have hd := set_results HB1.out (.slice A' m c') er
  refine bodyPost_ret (v := .agg #[.slice A' m c', .int .i64 er]) ?_ rfl ⟨_, _, w1, rfl, HR.out, rfl, HB1.out⟩
  simp [results, Try.results17, go_sem, hd.1, hd.2]
end Go.Proofs.Ytoodeoglpdapiaa
