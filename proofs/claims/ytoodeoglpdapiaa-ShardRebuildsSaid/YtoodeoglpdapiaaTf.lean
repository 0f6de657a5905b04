/-
  The row of shards that ShardRebuilds fills.
-/
import Derived.Test.YtoodeoglpdapiaaTb
namespace Go.Proofs.Ytoodeoglpdapiaa
open Go.RowKit Gf
set_option maxHeartbeats 400000

/-- A row of the call's own of slices of bytes that lie in other blocks. -/
structure Lft (wX : World) (g n c : Nat) (ls : List (List UInt8)) (W : World) : Prop where
  own : ∃ cs, W.ownsRow wX.heap.size 22 1 (.slice (some ⟨g, 0, none⟩) n c) n cs
  sll : Sll (fun _ => True) (· ≠ g) W (some ⟨g, 0, none⟩) n c ls
  bel : Below wX.heap.size wX W
section
variable {wX W W' : World} {g n c : Nat} {ls : List (List UInt8)}
theorem Lft.step (h : Lft wX g n c ls W) (hb : Below W.heap.size W W') : Lft wX g n c ls W' := by
  obtain ⟨cs, ho⟩ := h.own
  exact ⟨⟨cs, own_keep ho hb⟩, h.sll.below hb, h.bel.trans (hb.mono h.bel.size)⟩
theorem Lft.at_ (h : Lft wX g n c ls W) {t : Nat} (ht : t < n) : ∃ A' c', W.cell? ⟨g, t, none⟩ = some (.slice A' (ls[t]?.getD []).length c') ∧ W.frozen? ⟨g, t, none⟩ = false := by
  obtain ⟨cs, ho⟩ := h.own
  have hl := own_len ho
  have hu : cs[t]? = some (cs[t]'(by rw [hl]; exact ht)) := List.getElem?_eq_getElem _
  obtain ⟨_, f1⟩ := own_at ho hu
  have hls : ls[t]? = some (ls[t]'(by rw [h.sll.len]; exact ht)) := List.getElem?_eq_getElem _
  obtain ⟨g', o', hA, A', c', q1, _⟩ := h.sll.at3 hls
  injection hA with hA
  injection hA with e1 e2 _
  subst e1; subst e2
  rw [Nat.zero_add] at q1
  rw [hls]
  exact ⟨A', c', q1, f1⟩
theorem Lft.store (h : Lft wX g n c ls W) {t : Nat} (ht : t < n) {A' : Option Addr} {m c' : Nat} {r : List UInt8} (hr : Slb (· ≠ g) W A' m c' r) : Lft wX g n c (ls.set t r) (W.setCell ⟨g, t, none⟩ (.slice A' m c')) := by
  obtain ⟨cs, ho⟩ := h.own
  have hge := (own_block_some ho).1
  have ho' := own_store ho t (.slice A' m c')
  refine ⟨⟨_, ho'⟩, ⟨by rw [List.length_set, h.sll.len], h.sll.cap, h.sll.max, h.sll.nil, fun _ => ⟨g, 0, rfl, trivial, (own_block_some ho').2, fun j x hx => ?_⟩⟩, h.bel.setCell (p := ⟨g, t, none⟩) hge _⟩
  rw [Nat.zero_add]
  by_cases hj : j = t
  · subst hj
    rw [List.getElem?_set_self (by rw [h.sll.len]; exact ht)] at hx
    obtain rfl := Option.some.inj hx
    have hl := hr.len
    subst hl
    exact ⟨A', c', (own_at ho' (by rw [List.getElem?_set_self (by rw [own_len ho]; exact ht)])).1, hr.cap, hr.max, hr.nil, hr.byts.set (p := ⟨g, j, none⟩) (fun h => h rfl) _⟩
  · rw [List.getElem?_set_ne (fun e => hj e.symm)] at hx
    obtain ⟨g', o', hA, A2, c2, q1, q2, q3, q4, q5⟩ := h.sll.at3 hx
    injection hA with hA
    injection hA with e1 e2 _
    subst e1; subst e2
    rw [Nat.zero_add] at q1
    refine ⟨A2, c2, (World.cell?_setCell_other W _ _ _ (fun e => hj ?_)).trans q1, q2, q3, q4, q5.set (p := ⟨g, t, none⟩) (fun h => h rfl) _⟩
    injection e with _ e2
    exact e2.symm
end
theorem lft_start {wX W : World} {A : Option Addr} {n c : Nat} {ls : List (List UInt8)} (h : OwnRows wX.heap.size 0 W A n c ls) (hn : 0 < n) (hb : Below wX.heap.size wX W) : ∃ g, A = some ⟨g, 0, none⟩ ∧ Lft wX g n c ls W := by
  have hs := Sll.own h
  obtain ⟨cs, h1, _⟩ := id h
  obtain ⟨g, c', hv, _, _⟩ := h1.form hn
  injection hv with hA _ _
  subst hA
  refine ⟨g, rfl, ⟨cs, h1⟩, hs.mono (fun _ _ _ => trivial) (fun b _ hb' e => hb'.2 (by rw [e]; rfl)), hb⟩

/-- What is there of the first j shards, and of the others. -/
def upS (S : Nat → Bool) (j : Nat) (t : Nat) : Bool := decide (t < j) || S t
theorem Part.up {b : List UInt8} {L k n : Nat} {S : Nat → Bool} {ls : List (List UInt8)} {j : Nat} (h : Part b L k n (upS S j) ls) : Part b L k n (upS S (j + 1)) (ls.set j (encX b L k (UInt8.ofNat j))) := by
  have h' := h.put (j := j)
  refine ⟨h'.len, fun t ht => ?_⟩
  rw [h'.row t ht]
  have e : (decide (t = j) || upS S j t) = upS S (j + 1) t := by
    unfold upS
    rw [← Bool.or_assoc]
    congr 1
    rw [Bool.eq_iff_iff]; simp; omega
  rw [e]
theorem part_zero {b : List UInt8} {L k n : Nat} {S : Nat → Bool} {ls : List (List UInt8)} (h : Part b L k n S ls) : Part b L k n (upS S 0) ls := by
  refine ⟨h.len, fun t ht => ?_⟩
  rw [h.row t ht]
  simp [upS]
theorem part_all {b : List UInt8} {L k n : Nat} {S : Nat → Bool} {ls : List (List UInt8)} (h : Part b L k n (upS S n) ls) (hL : L = longN b.length k) (h1 : 1 ≤ k) (hk : k ≤ 256) : ls = encL b k n := by
  refine List.ext_getElem? fun t => ?_
  by_cases ht : t < n
  · rw [h.row t ht, encL_get h1 hk ht, hL]
    simp [upS, ht]
  · rw [List.getElem?_eq_none (by rw [h.len]; omega), List.getElem?_eq_none (by rw [encL_len]; omega)]
section
variable {Env : World → Prop} (P : Prg Env) {wX W : World} {g n c k i : Nat} {ls : List (List UInt8)} (h : Lft wX g n c ls W) (hE : Env W) (hr : Short ls) (hp : properB n k = true) (hi : i < n)
include P h hE hr hp hi
theorem lft_few (hf : (rebP ls k i).length < k) :
    Calls Try.prog 17 #[.slice (some ⟨g, 0, none⟩) n c, .int .i64 k, .int .i64 i] W fun e w' => ∃ A' c', e = .returned (.agg #[.slice A' 0 c', .int .i64 70]) ∧ Below W.heap.size W w' :=
  reb_few P _ _ _ n c ls k i W hE h.sll hr hp hi hf
theorem lft_yes (hf : (rebP ls k i).length = k) :
    Calls Try.prog 17 #[.slice (some ⟨g, 0, none⟩) n c, .int .i64 k, .int .i64 i] W fun e w' => ∃ A' m c', e = .returned (.agg #[.slice A' m c', .int .i64 0]) ∧ Slb (· ≠ g) w' A' m c' (rebL ls k i) ∧ Below W.heap.size W w' := by
  refine (reb_yes P _ _ _ n c ls k i W hE h.sll hr hp hi hf).mono ?_
  rintro e w' ⟨A', m, c', rfl, hS, hb⟩
  refine ⟨A', m, c', rfl, hS.mono (fun b _ hb' e => ?_), hb⟩
  obtain ⟨cs, ho⟩ := h.own
  have := (own_block_some ho).2
  subst e
  rcases hb' with hb' | hb'
  · exact hb' rfl
  · omega
theorem lft_any :
    Calls Try.prog 17 #[.slice (some ⟨g, 0, none⟩) n c, .int .i64 k, .int .i64 i] W fun e w' => ∃ A' m c' er, e = .returned (.agg #[.slice A' m c', .int .i64 er]) ∧ (((rebP ls k i).length < k ∧ m = 0 ∧ er = 70) ∨ ((rebP ls k i).length = k ∧ er = 0 ∧ Slb (· ≠ g) w' A' m c' (rebL ls k i))) ∧ Below W.heap.size W w' := by
  by_cases hf : (rebP ls k i).length < k
  · refine (lft_few P h hE hr hp hi hf).mono ?_
    rintro e w' ⟨A', c', rfl, hb⟩
    exact ⟨A', 0, c', 70, rfl, .inl ⟨hf, rfl, rfl⟩, hb⟩
  · have hf' : (rebP ls k i).length = k := by
      have : (rebP ls k i).length ≤ k := ptsL_le _ _ _ _
      omega
    refine (lft_yes P h hE hr hp hi hf').mono ?_
    rintro e w' ⟨A', m, c', rfl, hS, hb⟩
    exact ⟨A', m, c', 0, rfl, .inr ⟨hf', rfl, hS⟩, hb⟩
end
theorem cnt_swap (S : Nat → Bool) (i n : Nat) : cnt (fun t => S t && t != i) n = cnt (fun t => t != i && S t) n := cnt_congr fun _ _ => Bool.and_comm _ _
theorem bit16y (g : UInt16) (k : Nat) : (bits BinOp.and IntKind.u16 ((g.toNat : Int) / 2 ^ k) 1 == 0) = !g.toNat.testBit k := by
  have hb := g.toNat_lt
  have h1 : g.toNat / 2 ^ k < 65536 := Nat.lt_of_le_of_lt (Nat.div_le_self _ _) hb
  have e : ((g.toNat : Int) / 2 ^ k) = ((g.toNat / 2 ^ k : Nat) : Int) := by simp
  rw [e, show (1 : Int) = ((1 : Nat) : Int) from rfl, u16_and_nat _ _ h1 (by decide), Nat.and_one_is_mod, Nat.testBit_eq_decide_div_mod_eq, Bool.eq_iff_iff]
  simp only [beq_iff_eq, Bool.not_eq_true', decide_eq_false_iff_not]
  omega
theorem int_eq {a b : Nat} (h : a = b) : ((a : Int) == (b : Int)) = true ∧ ((a : Int) != (b : Int)) = false := by simp [h]
theorem int_ne {a b : Nat} (h : a ≠ b) : ((a : Int) == (b : Int)) = false ∧ ((a : Int) != (b : Int)) = true := by
  have : ((a : Int) == (b : Int)) = false := by simp; omega
  exact ⟨this, by rw [bne, this]; rfl⟩
end Go.Proofs.Ytoodeoglpdapiaa
