/-
  Walk of the law ShardChecks.
-/
import Derived.Test.YtoodeoglpdapiaaSz
import Derived.StillTailTactics
import Derived.Deep.CutRange
namespace Go.Proofs.Ytoodeoglpdapiaa
open Go.RowKit Gf
set_option maxHeartbeats 400000

theorem longN_pos {s k : Nat} (_hk : 1 ≤ k) (hs : 1 ≤ s) : 1 ≤ longN s k := by
  unfold longN
  have h1 := Nat.div_add_mod s k
  obtain ⟨q, hq⟩ : ∃ q, s / k = q := ⟨_, rfl⟩
  rw [hq] at h1 ⊢
  by_cases h : q = 0
  · rw [h] at h1
    simp at h1
    split <;> omega
  · split <;> omega
theorem wrap64_small {x : Nat} (h : x < 9223372036854775808) : wrap64 (x : Int) = (x : Int) := by
  unfold wrap64
  omega
theorem Sll.at_ {okO okR : Nat → Prop} {W : World} {A : Option Addr} {n c i : Nat} {ls : List (List UInt8)} {r : List UInt8} (h : Sll okO okR W A n c ls) (he : ls[i]? = some r) :
    ∃ g o, A = some ⟨g, o, none⟩ ∧ g < W.heap.size ∧ ∃ A' c', W.cell? ⟨g, o + i, none⟩ = some (.slice A' r.length c') ∧ r.length ≤ c' ∧ (A' = none → c' = 0) ∧ BytsO okR W A' r := by
  have h0 : ls ≠ [] := fun e => by rw [e] at he; simp at he
  obtain ⟨g, o, rfl, _, hg, hc⟩ := h.lists h0
  obtain ⟨A', c', q1, q2, _, q4, q5⟩ := hc i _ he
  exact ⟨g, o, rfl, hg, A', c', q1, q2, q4, q5⟩
/-- The values in a row of slices. -/
def valsOf (W : World) (g o n : Nat) : List Value := (List.range n).map fun j => (W.cell? ⟨g, o + j, none⟩).getD (.bool false)
theorem valsOf_len (W : World) (g o n : Nat) : (valsOf W g o n).length = n := by simp [valsOf]
theorem Sll.vals {okO okR : Nat → Prop} {W : World} {g o n c : Nat} {ls : List (List UInt8)} (h : Sll okO okR W (some ⟨g, o, none⟩) n c ls) :
    ∀ (j : Nat) (u : Value), (valsOf W g o n)[j]? = some u → W.cell? ((⟨g, o, none⟩ : Addr).add j) = some u := fun j u hu => by
  have hj : j < n := by
    have := (List.getElem?_eq_some_iff.1 hu).1
    rwa [valsOf_len] at this
  have he : ls[j]? = some (ls[j]'(by rw [h.len]; exact hj)) := List.getElem?_eq_getElem _
  obtain ⟨g', o', hA, _, A', c', q1, _⟩ := h.at_ he
  injection hA with hA
  injection hA with e1 e2 _
  subst e1; subst e2
  have hadd : (⟨g, o, none⟩ : Addr).add j = ⟨g, o + j, none⟩ := by unfold Addr.add; split <;> simp_all
  rw [hadd]
  simp only [valsOf, List.getElem?_map, List.getElem?_range hj, Option.map_some, Option.some.injEq, q1, Option.getD_some] at hu
  rw [q1, hu]
theorem Sll.vals1 {okO okR : Nat → Prop} {W : World} {g o n c : Nat} {ls : List (List UInt8)} (h : Sll okO okR W (some ⟨g, o, none⟩) n c ls) : ∀ u ∈ valsOf W g o n, u.oneCell' = true := fun u hu => by
  obtain ⟨j, hj, he⟩ := List.getElem_of_mem hu
  rw [valsOf_len] at hj
  have hu' : (valsOf W g o n)[j]? = some u := by rw [List.getElem?_eq_getElem (by rw [valsOf_len]; exact hj), he]
  have hc := h.vals j u hu'
  have he : ls[j]? = some (ls[j]'(by rw [h.len]; exact hj)) := List.getElem?_eq_getElem _
  obtain ⟨g', o', hA, _, A', c', q1, _⟩ := h.at_ he
  injection hA with hA
  injection hA with e1 e2 _
  subst e1; subst e2
  have hadd : (⟨g, o, none⟩ : Addr).add j = ⟨g, o + j, none⟩ := by unfold Addr.add; split <;> simp_all
  rw [hadd, q1] at hc
  injection hc with hc
  rw [← hc]
  rfl
theorem start_below {w6 w8 : World} {e : TypeId} (hg : (w6.alloc (.cells #[] e)).grownBy w8 (Value.ownBlock (.slice (some ⟨w6.heap.size, 0, none⟩) 0 0))) : Below w6.heap.size w6 w8 :=
  ((Below.refl _ w6).alloc (Nat.le_refl _) _).grown hg (by simp) (fun k hk => by simp [Value.ownBlock] at hk; omega)
theorem cell_al {W w8 : World} {p : Addr} {u : Value} (e : TypeId) (hb : Below W.heap.size W w8) (h : W.cell? p = some u) : (w8.alloc (.cells #[] e)).cell? p = some u :=
  (((hb.alloc hb.size _)).cell (block_lt_of_cell h)).trans h
theorem some_of {A' : Option Addr} {c' L : Nat} (q4 : A' = none → c' = 0) (q2 : L ≤ c') (hL : 1 ≤ L) : ∃ ad, A' = some ad := by
  cases A' with
  | none => have := q4 rfl; omega
  | some ad => exact ⟨ad, rfl⟩
theorem byts_newsC {w : World} {ad : Addr} {l : List UInt8} (h : Byts w (some ad) l) : ∀ (j : Nat) (u : Value), (bys l)[j]? = some u → w.cell? (ad.add j) = some u := fun j u hu => by
  have hne : l ≠ [] := fun e => by rw [e] at hu; simp [bys] at hu
  obtain ⟨b, o, hA, _, hc⟩ := h hne
  injection hA with hA
  subst hA
  unfold bys at hu
  rw [List.getElem?_map] at hu
  cases hx : l[j]? with
  | none => rw [hx] at hu; cases hu
  | some x =>
    rw [hx] at hu
    injection hu with hu
    subst hu
    have hadd : (⟨b, o, none⟩ : Addr).add j = ⟨b, o + j, none⟩ := by unfold Addr.add; split <;> simp_all
    rw [hadd]
    exact hc j x hx
theorem valsOf_get {W : World} {g o n i : Nat} {u : Value} (hi : i < n) (h : W.cell? ⟨g, o + i, none⟩ = some u) : (valsOf W g o n)[i]? = some u := by
  simp only [valsOf, List.getElem?_map, List.getElem?_range hi, Option.map_some, h, Option.getD_some]
section
variable {w : World} {base : Nat} {e : TypeId} {n g c : Nat} {xs : List Value}
theorem own_at (h : w.ownsRow base e 1 (.slice (some ⟨g, 0, none⟩) n c) n xs) {j : Nat} {u : Value} (hu : xs[j]? = some u) : w.cell? ⟨g, j, none⟩ = some u ∧ w.frozen? ⟨g, j, none⟩ = false := by
  rcases h.2 with ⟨h', _⟩ | ⟨g', cap', cur, h', hbb, hgg, hnc, hcm, hcs, htake⟩
  · simp at h'
  · simp only [Value.slice.injEq, Option.some.injEq, Addr.mk.injEq, and_true, true_and] at h'
    obtain ⟨rfl, rfl⟩ := h'
    refine ⟨?_, frozen_of_row w g j cur e hgg⟩
    rw [cell_of_row w g j cur e (0, 0) hgg]
    rw [← htake, List.getElem?_take] at hu
    split at hu
    · simpa using hu
    · cases hu
theorem own_store (h : w.ownsRow base e 1 (.slice (some ⟨g, 0, none⟩) n c) n xs) (j : Nat) (v : Value) : (w.setCell ⟨g, j, none⟩ v).ownsRow base e 1 (.slice (some ⟨g, 0, none⟩) n c) n (xs.set j v) := by
  refine ⟨by rw [List.length_set]; exact h.1, ?_⟩
  rcases h.2 with ⟨h', _⟩ | ⟨g', cap', cur, h', hbb, hgg, hnc, hcm, hcs, htake⟩
  · simp at h'
  · simp only [Value.slice.injEq, Option.some.injEq, Addr.mk.injEq, and_true, true_and] at h'
    obtain ⟨rfl, rfl⟩ := h'
    refine .inr ⟨g, c, cur.setIfInBounds j v, rfl, hbb, heap_setCell_same w g j cur e v hgg, hnc, hcm, by simpa using hcs, ?_⟩
    rw [← htake, Array.toList_setIfInBounds, List.take_set]
theorem own_set_ne (h : w.ownsRow base e 1 (.slice (some ⟨g, 0, none⟩) n c) n xs) {p : Addr} (hp : p.block ≠ g) (u : Value) : (w.setCell p u).ownsRow base e 1 (.slice (some ⟨g, 0, none⟩) n c) n xs := by
  refine ⟨h.1, ?_⟩
  rcases h.2 with ⟨h', _⟩ | ⟨g', cap', cur, h', hbb, hgg, rest⟩
  · simp at h'
  · simp only [Value.slice.injEq, Option.some.injEq, Addr.mk.injEq, and_true, true_and] at h'
    obtain ⟨rfl, rfl⟩ := h'
    exact .inr ⟨g, c, cur, rfl, hbb, (heap_setCell_other w p g u (fun e => hp e.symm)).trans hgg, rest⟩
end
theorem own_weak {w : World} {base base' : Nat} {e : TypeId} {s : Nat} {v : Value} {n : Nat} {xs : List Value} (h : w.ownsRow base e s v n xs) (hb : base' ≤ base) : w.ownsRow base' e s v n xs := by
  rcases h with ⟨h1, h2 | ⟨g, cap, cur, h2, h3, h4⟩⟩
  · exact ⟨h1, .inl h2⟩
  · exact ⟨h1, .inr ⟨g, cap, cur, h2, by omega, h4⟩⟩
theorem Sll.at3 {okO okR : Nat → Prop} {W : World} {A : Option Addr} {n c i : Nat} {ls : List (List UInt8)} {r : List UInt8} (h : Sll okO okR W A n c ls) (he : ls[i]? = some r) :
    ∃ g o, A = some ⟨g, o, none⟩ ∧ ∃ A' c', W.cell? ⟨g, o + i, none⟩ = some (.slice A' r.length c') ∧ r.length ≤ c' ∧ c' ≤ 9223372036854775807 ∧ (A' = none → c' = 0) ∧ BytsO okR W A' r := by
  have h0 : ls ≠ [] := fun e => by rw [e] at he; simp at he
  obtain ⟨g, o, rfl, _, hg, hc⟩ := h.lists h0
  obtain ⟨A', c', q1, q2, q3, q4, q5⟩ := hc i _ he
  exact ⟨g, o, rfl, A', c', q1, q2, q3, q4, q5⟩
theorem valsOf_below {W W' : World} {g o n : Nat} (hg : g < W.heap.size) (hb : Below W.heap.size W W') : valsOf W' g o n = valsOf W g o n := by
  unfold valsOf
  exact List.map_congr_left fun j _ => by rw [hb.cell (p := ⟨g, o + j, none⟩) hg]
theorem short_set {E : List (List UInt8)} {I : Nat} {r : List UInt8} (h : Short E) (hr : r.length ≤ 100) : Short (E.set I r) := fun x hx => by
  rcases List.mem_or_eq_of_mem_set hx with e | e
  · exact h x e
  · rw [e]; exact hr
/-- A copy of a row of slices in which one is another one. -/
theorem odd_sll {okO okR : Nat → Prop} {w6 W : World} {base gx ox n c1 g c I m c' : Nat} {A' : Option Addr} {E : List (List UInt8)} {r : List UInt8} (hX : Sll okO okR w6 (some ⟨gx, ox, none⟩) n c1 E) (hb : Below w6.heap.size w6 W)
    (ho : W.ownsRow base 22 1 (.slice (some ⟨g, 0, none⟩) n c) n ((valsOf w6 gx ox n).set I (.slice A' m c'))) (hI : I < n) (hr : r.length = m) (hmc : m ≤ c') (hcm : c' ≤ 9223372036854775807) (hnil : A' = none → c' = 0) (hby : Byts W A' r) :
    Sll (fun _ => True) (fun _ => True) W (some ⟨g, 0, none⟩) n c (E.set I r) := by
  subst hr
  refine ⟨by rw [List.length_set, hX.len], (own_cap ho).1, (own_cap ho).2, own_none ho, fun _ => ⟨g, 0, rfl, trivial, (own_block_some ho).2, fun j r' hr' => ?_⟩⟩
  rw [Nat.zero_add]
  by_cases hj : j = I
  · subst hj
    rw [List.getElem?_set_self (by rw [hX.len]; exact hI)] at hr'
    obtain rfl := Option.some.inj hr'
    exact ⟨A', c', (own_at ho (by rw [List.getElem?_set_self (by rw [valsOf_len]; exact hI)])).1, hmc, hcm, hnil, hby.toO.mono fun _ _ _ => trivial⟩
  · rw [List.getElem?_set_ne (fun e => hj e.symm)] at hr'
    have hjn : j < n := by
      have := (List.getElem?_eq_some_iff.1 hr').1
      rwa [hX.len] at this
    obtain ⟨g', o', hA, A2, c2, q1, q2, q3, q4, q5⟩ := hX.at3 hr'
    injection hA with hA
    injection hA with e1 e2 _
    subst e1; subst e2
    exact ⟨A2, c2, (own_at ho (by rw [List.getElem?_set_ne (fun e => hj e.symm)]; exact valsOf_get hjn q1)).1, q2, q3, q4, (q5.below hb).mono fun _ _ _ => trivial⟩
theorem bys_set (l : List UInt8) (t : Nat) (x : UInt8) : bys (l.set t x) = (bys l).set t (.int .u8 x.toNat) := by simp [bys, List.map_set]
theorem own_drew {w : World} {base : Nat} {e : TypeId} {s : Nat} {v : Value} {n : Nat} {xs : List Value} (h : w.ownsRow base e s v n xs) : w.drew.ownsRow base e s v n xs := own_keep h (below_drewN w 1)
/-- The row of slices and the row of bytes that the law makes. -/
structure OddS (w6 : World) (g8 g9 n L c8 c9 : Nat) (cs bs : List Value) (W : World) : Prop where
  o8 : W.ownsRow w6.heap.size 22 1 (.slice (some ⟨g8, 0, none⟩) n c8) n cs
  o9 : W.ownsRow w6.heap.size 5 1 (.slice (some ⟨g9, 0, none⟩) L c9) L bs
  b : Below w6.heap.size w6 W
theorem OddS.below {w6 W W' : World} {g8 g9 n L c8 c9 : Nat} {cs bs : List Value} (h : OddS w6 g8 g9 n L c8 c9 cs bs W) (hb : Below W.heap.size W W') : OddS w6 g8 g9 n L c8 c9 cs bs W' :=
  ⟨own_keep h.o8 hb, own_keep h.o9 hb, h.b.trans (hb.mono h.b.size)⟩
theorem KXc (w5 : World) (A1 : Option Addr) (n c1 : Nat) : (w5.alloc (.cells #[.slice A1 n c1, .int .i64 0] 29)).cell? ⟨w5.heap.size, 0, none⟩ = some (.slice A1 n c1) := by simp [go_sem]
theorem KBt {w0 w2 w3 w4 w5 w5' w6 : World} (h2 : Below w0.heap.size w0 w2) (h3 : Below w2.heap.size w2 w3) (h4 : Below w3.heap.size w3 w4) (h5 : Below w4.heap.size w4 w5) (hx : Below w5.heap.size w5 w5') (h6 : Below w5'.heap.size w5' w6) : Below w0.heap.size w0 w6 := by
  have a3 := h2.trans (h3.mono h2.size)
  have a4 := a3.trans (h4.mono a3.size)
  have a5 := a4.trans (h5.mono a4.size)
  have a6 := a5.trans (hx.mono a5.size)
  exact a6.trans (h6.mono a6.size)

set_option maxHeartbeats 8000000 in
set_option maxRecDepth 20000 in
theorem lawChecks_any {Env : World → Prop} (P : Prg Env) (S : SanOk Env) (A : Option Addr) (nb cb : Nat) (b : List UInt8) (w0 w1 v2 v3 : UInt8) (by' : UInt8) (w : World) (hE : Env w) (hA : Slb (· < w.heap.size) w A nb cb b) :
    Calls Try.prog 7 #[.slice A nb cb, .agg #[.int .u8 w0.toNat, .int .u8 w1.toNat, .int .u8 v2.toNat, .int .u8 v3.toNat], .int .u8 by'.toNat] w fun e w' => e = .returned (.bool true) ∧ Below w.heap.size w w' := by
  have HS := Lib.hid (show ∀ W, Env W → Calls Try.prog 10 #[] W fun e w' => e = .returned (.bool true) ∧ Below W.heap.size W w' from S)
  have HP := Lib.hid P
  have HA := Lib.hid hA
  have hB0 : Below w.heap.size w (w.alloc (.cells #[.int .u8 w0.toNat, .int .u8 w1.toNat, .int .u8 v2.toNat, .int .u8 v3.toNat] 50)) := by go_grown
  have hE0 := P.env hE hB0
  have k0 : (w.alloc (.cells #[.int .u8 w0.toNat, .int .u8 w1.toNat, .int .u8 v2.toNat, .int .u8 v3.toNat] 50)).cell? ⟨w.heap.size, 0, none⟩ = some (.int .u8 w0.toNat) := by simp [go_sem]
  have k1 : (w.alloc (.cells #[.int .u8 w0.toNat, .int .u8 w1.toNat, .int .u8 v2.toNat, .int .u8 v3.toNat] 50)).cell? ⟨w.heap.size, 1, none⟩ = some (.int .u8 w1.toNat) := by simp [go_sem]
  have k2 : (w.alloc (.cells #[.int .u8 w0.toNat, .int .u8 w1.toNat, .int .u8 v2.toNat, .int .u8 v3.toNat] 50)).cell? ⟨w.heap.size, 2, none⟩ = some (.int .u8 v2.toNat) := by simp [go_sem]
  have k3 : (w.alloc (.cells #[.int .u8 w0.toNat, .int .u8 w1.toNat, .int .u8 v2.toNat, .int .u8 v3.toNat] 50)).cell? ⟨w.heap.size, 3, none⟩ = some (.int .u8 v3.toNat) := by simp [go_sem]
  have KB := Lib.hid (fun W (h : Below (w.alloc (.cells #[.int .u8 w0.toNat, .int .u8 w1.toNat, .int .u8 v2.toNat, .int .u8 v3.toNat] 50)).heap.size (w.alloc (.cells #[.int .u8 w0.toNat, .int .u8 w1.toNat, .int .u8 v2.toNat, .int .u8 v3.toNat] 50)) W) => show W.cell? ⟨w.heap.size, 0, none⟩ = some (.int .u8 w0.toNat) ∧ W.cell? ⟨w.heap.size, 1, none⟩ = some (.int .u8 w1.toNat) ∧ W.cell? ⟨w.heap.size, 2, none⟩ = some (.int .u8 v2.toNat) ∧ W.cell? ⟨w.heap.size, 3, none⟩ = some (.int .u8 v3.toNat) from ⟨(h.cell (block_lt_of_cell k0)).trans k0, (h.cell (block_lt_of_cell k1)).trans k1, (h.cell (block_lt_of_cell k2)).trans k2, (h.cell (block_lt_of_cell k3)).trans k3⟩)
  clear S P k0 k1 k2 k3 hA
  by_cases h60 : 60 < nb ∨ (¬ 60 < nb ∧ nb = 0)
  · rcases h60 with h60 | ⟨h60, h0⟩
    · have h60' : (60 : Int) < (nb : Int) := by omega
      go_enter Try.func7, Try.ntmps7
      go_wp2_with (go_at_call 10; with_reducible refine (HS.out _ hE0).mono ?_; rintro e w2 ⟨rfl, hb2⟩)
      go_ret
      exact ⟨rfl, hB0.trans (hb2.mono hB0.size)⟩
    · have h60' : ¬ (60 : Int) < (nb : Int) := by omega
      have h0' : ((nb : Int) == 0) = true := by simp [h0]
      go_enter Try.func7, Try.ntmps7
      go_wp2_with (go_at_call 10; with_reducible refine (HS.out _ hE0).mono ?_; rintro e w2 ⟨rfl, hb2⟩)
      go_ret
      exact ⟨rfl, hB0.trans (hb2.mono hB0.size)⟩
  · have h60' : ¬ (60 : Int) < (nb : Int) := by omega
    have h0' : ((nb : Int) == 0) = false := by simp; omega
    obtain ⟨n1, n12⟩ := numN_r w1
    obtain ⟨kk1, kkn⟩ := numK_r w0 w1
    have HNum := Lib.hid (fun W => Numbers_any w0 w1 W)
    obtain ⟨n, hn⟩ : ∃ n, numN w1 = n := ⟨_, rfl⟩
    obtain ⟨k, hk⟩ : ∃ k, numK w0 w1 = k := ⟨_, rfl⟩
    rw [hn, hk] at HNum
    rw [hn] at n1 n12 kkn
    rw [hk] at kk1 kkn
    obtain ⟨iu, hu, hu0, hu1, hu2⟩ := info_parts info_u8
    obtain ⟨is, hs, hs0, hs1, hs2⟩ := info_parts info_sl
    have HEN := Lib.hid (fun W hW hEW => enc_yes HP.out (· < w.heap.size) A nb cb b k n W hEW hW (by omega) kk1 kkn n12)
    clear hn hk
    go_enter Try.func7, Try.ntmps7
    go_wp2_with (first | (go_at_call 10; with_reducible refine (HS.out _ hE0).mono ?_; rintro e w2 ⟨rfl, hb2⟩; obtain ⟨y0, y1, _, _⟩ := KB.out _ hb2; have hE2 := HP.out.env hE0 hb2; have hB2 := hB0.trans (hb2.mono hB0.size)) | (go_at_call 24; with_reducible refine (HNum.out _).mono ?_; rintro e w3 ⟨rfl, hb3⟩; have hE3 := HP.out.env hE2 hb3; have hB3 := hB2.trans (hb3.mono hB2.size); obtain ⟨_, _, y2, y3⟩ := KB.out _ (hb2.trans (hb3.mono hb2.size))))
    go_quiet (fail)
    have hb4 : Below w3.heap.size w3 ((w3.alloc (.cells #[.int .i64 k, .int .i64 n] 43)).drewN nq) := ((Below.refl _ w3).alloc (Nat.le_refl _) _).trans ((below_drewN _ nq).mono (by simp))
    have hE4 := HP.out.env hE3 hb4
    have hB4 := hB3.trans (hb4.mono hB3.size)
    obtain ⟨L, hL⟩ : ∃ L, longN nb k = L := ⟨_, rfl⟩
    have HLL := Lib.hid hL
    obtain ⟨y0', y1', y2', y3'⟩ := KB.out _ (hb2.trans ((hb3.trans (hb4.mono hb3.size)).mono hb2.size))
    have H4 := Lib.hid (And.intro hB4 (And.intro y2' y3'))
    have HCK := Lib.hid (show chkL (encL b k n) k = true from chkL_enc kk1 kkn (by omega))
    have HSH := Lib.hid (show Short (encL b k n) from fun r hr => by
      rw [encL_lens kk1 (by omega) r hr, HA.out.len]
      exact Nat.le_trans (longN_le nb k kk1).2 (by omega))
    have HPR := Lib.hid (show properB n k = true by rw [properB_iff]; omega)
    have hn0 : ¬ (n : Int) = 0 := by omega
    have hn0' : ((n : Int) == 0) = false := by simp; omega
    have hL1 : 1 ≤ L := by rw [← hL]; exact longN_pos kk1 (by omega)
    have hL0 : ((L : Int) == 0) = false := by simp; omega
    have hx0 := Lib.hid (show (encL b k n) ≠ [] from List.ne_nil_of_length_pos (by rw [encL_len]; omega))
    obtain ⟨I, hIe⟩ : ∃ I, v2.toNat % n = I := ⟨_, rfl⟩
    have hIn : I < n := by rw [← hIe]; exact Nat.mod_lt _ (by omega)
    have hI : (wrap64 (v2.toNat : Int)).tmod (n : Int) = (I : Int) := by
      have hv := v2.toNat_lt
      rw [show wrap64 (v2.toNat : Int) = (v2.toNat : Int) from wrap64_small (by omega), Int.tmod_eq_emod_of_nonneg (by omega), ← hIe]
      simp
    have hL60 : L ≤ 60 := by rw [← hL]; exact Nat.le_trans (longN_le nb k kk1).2 (by omega)
    have hI0 : (0 : Int) ≤ (I : Int) := Int.natCast_nonneg I
    have hI1 : (I : Int) < (n : Int) := Int.ofNat_lt.2 hIn
    have hXI := Lib.hid (show (encL b k n)[I]? = some (encX b L k (UInt8.ofNat I)) from by
      have e := encL_get (b := b) kk1 (by omega) hIn
      rw [HA.out.len, hL] at e
      exact e)
    clear hIe hL y0 y1 y2 y3 y0' y1' y2' y3'
    go_wp2_with (first
      | (go_at_call 11; with_reducible refine (HEN.out _ (HA.out.below hB4) hE4).mono ?_; rintro e w5 ⟨A1, c1, rfl, hX, hb5⟩; have hE5 := HP.out.env hE4 hb5; have hB5 := hB4.trans (hb5.mono hB4.size); have hbX : Below w5.heap.size w5 (w5.alloc (.cells #[.slice A1 n c1, .int .i64 0] 29)) := (Below.refl _ w5).alloc (Nat.le_refl _) _)
      | (go_at_call 19; with_reducible refine (HP.out.chk _ _ A1 n c1 _ k _ (HP.out.env hE5 hbX) (hX.below hbX) HSH.out HPR.out).mono ?_; rintro e w6 ⟨rfl, hb6⟩; rw [HCK.out]; have hB6 := (hB5.trans (hbX.mono hB5.size)).trans (hb6.mono (hB5.trans (hbX.mono hB5.size)).size); have HE6 := Lib.hid (HP.out.env (HP.out.env hE5 hbX) hb6); have KX6 := ((hb6.cell (block_lt_of_cell (KXc w5 A1 n c1))).trans (KXc w5 A1 n c1)); obtain ⟨_, _, z2, z3⟩ := KB.out _ (KBt hb2 hb3 hb4 hb5 hbX hb6); have HX6 := Lib.hid ((hX.below hbX).below hb6); obtain ⟨gx, ox, rfl, hgx, A', c', q1, q2, q4, q5⟩ := HX6.out.at_ hXI.out; rw [encX_len] at q1 q2; obtain ⟨ad, rfl⟩ := some_of q4 q2 hL1; have KX7 := (((Below.refl _ w6).alloc (Nat.le_refl _) (.cells #[] 22)).cell (block_lt_of_cell KX6)).trans KX6; have HX7 := Lib.hid (HX6.out.below ((Below.refl _ w6).alloc (Nat.le_refl _) (.cells #[] 22))))
      | (at_builtin; refine wpList_append_own _ rfl _ _ 23 rfl w6.heap.size 22 is _ 1 24 Try.underlying23 hs hs0 hs1 hs2 rfl (by decide) _ _ _ rfl (own_empty w6 22) ⟨gx, ox, none⟩ n c1 (valsOf (w6.alloc (.cells #[] 22)) gx ox n) rfl (by rw [valsOf_len]; simp) HX7.out.vals HX7.out.vals1 (by unfold maxLen; omega) (by omega) (by simp) ?_; intro v' w8 hown8 hgrow8 _; rw [Nat.zero_add, List.nil_append] at hown8; obtain ⟨g8, c8, rfl, _, _⟩ := hown8.form (show 0 < n by omega); have hb8 := start_below hgrow8; have KX8 := cell_al 5 hb8 KX6; have q8 := cell_al 5 hb8 q1; have HN8 := Lib.hid (byts_newsC (q5.byts.below (hb8.alloc hb8.size (.cells #[] 5)))); have HV8 := Lib.hid (valsOf_get (W := w6.alloc (.cells #[] 22)) hIn ((((Below.refl _ w6).alloc (Nat.le_refl _) (.cells #[] 22)).cell (block_lt_of_cell q1)).trans q1)))
      | (at_builtin; refine wpList_append_own _ rfl _ _ 22 rfl w8.heap.size 5 iu _ 1 1 Try.underlying22 hu hu0 hu1 hu2 rfl (by decide) _ _ _ rfl (own_empty w8 5) ad L c' (bys (encX b L k (UInt8.ofNat I))) rfl (by rw [bys_length, encX_len]; simp) HN8.out (bys_cells _) (by unfold maxLen; omega) (by omega) (by simp) ?_; intro v' w9 hown9 hgrow9 _; rw [Nat.zero_add, List.nil_append] at hown9; obtain ⟨g9, c9, rfl, _, _⟩ := hown9.form (show 0 < L by omega); have hb9 := start_below hgrow9; have HO9 := Lib.hid (own_keep hown8 hb9); obtain ⟨t9, f9⟩ := own_at HO9.out HV8.out; have t9' := block_lt_of_cell t9))
    have hb69 : Below w6.heap.size w6 w9 := hb8.trans (hb9.mono hb8.size)
    have h8lt : g8 < w8.heap.size := (own_block_some hown8).2
    have h8ge : w6.heap.size ≤ g8 := (own_block_some hown8).1
    have h9ge : w8.heap.size ≤ g9 := (own_block_some hown9).1
    have hb13 := hb69.setCell (p := ⟨g8, I, none⟩) h8ge (.slice (some ⟨g9, 0, none⟩) L c9)
    have O8 := own_store HO9.out I (.slice (some ⟨g9, 0, none⟩) L c9)
    have O9 := own_weak (own_set_ne hown9 (p := ⟨g8, I, none⟩) (show g8 ≠ g9 by omega) (.slice (some ⟨g9, 0, none⟩) L c9)) hb8.size
    have hb69w := hb8.size
    clear hown9 hgrow9 hgrow8 HO9 t9 f9 t9' HN8 HV8 KX7 HX7 q8 KX8 hb8 hb9
    obtain ⟨W13, hW13⟩ : ∃ W, w9.setCell ⟨g8, I, none⟩ (.slice (some ⟨g9, 0, none⟩) L c9) = W := ⟨_, rfl⟩
    rw [hW13] at hb13 O8 O9
    have hW13' : w9.setCell ⟨g8, I, none⟩ (.slice (some ⟨g9, 0, none⟩) L c9) = W13 := hW13
    rw [hW13']
    clear hW13 hW13'
    have hcm : c' ≤ 9223372036854775807 := by
      obtain ⟨g', o', hA', A2, c2, p1, p2, p3, _⟩ := HX6.out.at3 hXI.out
      injection hA' with hA'
      injection hA' with e1 e2 _
      subst e1; subst e2
      rw [q1] at p1
      injection p1 with p1
      injection p1 with _ _ p1
      rw [p1]; exact p3
    have HQ5 := Lib.hid q5
    obtain ⟨T, hTe⟩ : ∃ T, v3.toNat % L = T := ⟨_, rfl⟩
    have hTL : T < L := by rw [← hTe]; exact Nat.mod_lt _ (by omega)
    have hT : (wrap64 (v3.toNat : Int)).tmod (L : Int) = (T : Int) := by
      have hv := v3.toNat_lt
      rw [show wrap64 (v3.toNat : Int) = (v3.toNat : Int) from wrap64_small (by omega), Int.tmod_eq_emod_of_nonneg (by omega), ← hTe]
      simp
    have hT' : (v3.toNat : Int).tmod (L : Int) = (T : Int) := by
      rw [Int.tmod_eq_emod_of_nonneg (Int.natCast_nonneg _), ← hTe]
      simp
    have hTw : IntKind.i64.wrap (v3.toNat : Int) = (v3.toNat : Int) := by
      have hv := v3.toNat_lt
      exact IntWalk.i64_in _ (by omega)
    have hT0 : (0 : Int) ≤ (T : Int) := Int.natCast_nonneg T
    have hT1 : (T : Int) < (L : Int) := Int.ofNat_lt.2 hTL
    have hLn0 : ¬ L = 0 := Nat.pos_iff_ne_zero.1 hL1
    obtain ⟨X, hX⟩ : ∃ X, encX b L k (UInt8.ofNat I) = X := ⟨_, rfl⟩
    have hXl : X.length = L := by rw [← hX, encX_len]
    rw [hX] at O9 hXI HQ5
    have HXE := Lib.hid hX
    obtain ⟨x, hx⟩ : ∃ x, X[T]? = some x := ⟨_, List.getElem?_eq_getElem (show T < X.length by rw [hXl]; exact hTL)⟩
    have hbx : (bys X)[T]? = some (.int .u8 x.toNat) := by unfold bys; rw [List.getElem?_map, hx]; rfl
    obtain ⟨m9, f9⟩ := own_at O9 hbx
    obtain ⟨m8, _⟩ := own_at O8 (j := I) (u := .slice (some ⟨g9, 0, none⟩) L c9) (by rw [List.getElem?_set_self (by rw [valsOf_len]; exact hIn)])
    have z13 := (hb13.cell (block_lt_of_cell z3)).trans z3
    have HO := Lib.hid (And.intro O8 O9)
    have HX0 := Lib.hid hx
    have HXl := Lib.hid hXl
    clear O8 O9 hX hTe hx hXl hbx
    obtain ⟨d, hd1, hd0⟩ : ∃ d : UInt8, (if (1 : Int) > (by'.toNat : Int) then (1 : Int) else (by'.toNat : Int)) = (d.toNat : Int) ∧ d ≠ 0 := by
      by_cases h : by' = 0
      · exact ⟨1, by subst h; rfl, by decide⟩
      · have : 0 < by'.toNat := by
          rcases Nat.eq_zero_or_pos by'.toNat with e | e
          · exact absurd (UInt8.toNat_inj.1 (by simpa using e)) h
          · exact e
        exact ⟨by', by rw [if_neg (by omega)], h⟩
    have hg89 : g9 ≠ g8 := by omega
    have hg9w : w6.heap.size ≤ g9 := Nat.le_trans hb69w h9ge
    go_cut [13] from 82 to 100 (fun s13 wx => s13 = .slice (some ⟨g8, 0, none⟩) n c8 ∧ OddS w6 g8 g9 n L c8 c9 ((valsOf (w6.alloc (.cells #[] 22)) gx ox n).set I (.slice (some ⟨g9, 0, none⟩) L c9)) (bys (X.set T (x ^^^ d))) wx)
    case first =>
      have m8' : W13.drew.cell? ⟨g8, I, none⟩ = some (.slice (some ⟨g9, 0, none⟩) L c9) := m8
      have m9' : W13.drew.cell? ⟨g9, T, none⟩ = some (.int .u8 x.toNat) := m9
      have f9' : W13.drew.frozen? ⟨g9, T, none⟩ = false := f9
      go_still_tail 19, (by kernel_rfl)
      change wpList _ _ _ _ _ W13.drew
      clear m8 m9 f9
      go_wp2
      go_meet
      case rel =>
        refine ⟨rfl, own_drew (own_set_ne HO.out.1 (p := ⟨g9, T, none⟩) hg89 _), own_drew ?_, (hb13.setCell (p := ⟨g9, T, none⟩) hg9w _).trans ((below_drewN _ 1).mono (by simpa [World.setCell] using hb13.size))⟩
        rw [bys_set, show ((x ^^^ d).toNat : Int) = bits .xor .u8 (x.toNat : Int) (d.toNat : Int) from by rw [u8_xor_nat _ _ x.toNat_lt d.toNat_lt, UInt8.toNat_xor]]
        exact own_store HO.out.2 T _
    case rest =>
      obtain ⟨rfl, hS14⟩ := hcut
      obtain ⟨W14, hW14⟩ : ∃ W, W = wc := ⟨_, rfl⟩
      subst hW14
      have hbc := hS14.b
      have hgx14 : gx < W14.heap.size := Nat.lt_of_lt_of_le hgx hbc.size
      have KX14 := (hbc.cell (block_lt_of_cell KX6)).trans KX6
      have hbA : Below W14.heap.size W14 (W14.alloc (.cells #[] 22)) := (Below.refl _ W14).alloc (Nat.le_refl _) _
      have KX15 := (hbA.cell (block_lt_of_cell KX14)).trans KX14
      have HX15 := Lib.hid ((HX6.out.below hbc).below hbA)
      have q14 := (hbc.cell (p := ⟨gx, ox + I, none⟩) hgx).trans q1
      have HV15 := Lib.hid (valsOf_below (o := ox) (n := n) hgx14 hbA)
      clear hT hT' hTw z13 m8 m9 f9 KX6 hI
      go_upto_region 16 with (at_builtin; refine wpList_append_own _ rfl _ _ 23 rfl W14.heap.size 22 is _ 1 24 Try.underlying23 hs hs0 hs1 hs2 rfl (by decide) _ _ _ rfl (own_empty W14 22) ⟨gx, ox, none⟩ n c1 (valsOf (W14.alloc (.cells #[] 22)) gx ox n) rfl (by rw [valsOf_len]; simp) HX15.out.vals HX15.out.vals1 (by unfold maxLen; omega) (by omega) (by simp) ?_; intro v' w15 hown15 hgrow15 _; rw [Nat.zero_add, List.nil_append] at hown15; obtain ⟨g15, c15, rfl, _, _⟩ := hown15.form (show 0 < n by omega))
      have hb15 := start_below hgrow15
      have hb6c := hbc
      have hb615 : Below w6.heap.size w6 w15 := hbc.trans (hb15.mono hbc.size)
      rw [HV15.out, valsOf_below hgx hbc] at hown15
      have hI15 : (valsOf w6 gx ox n)[I]? = some (.slice (some ad) L c') := valsOf_get hIn q1
      have hg15 := own_block_some hown15
      have KX16 := (hb15.cell (block_lt_of_cell KX14)).trans KX14
      have q16 := (hb15.cell (block_lt_of_cell q14)).trans q14
      obtain ⟨t15, f15⟩ := own_at hown15 hI15
      have HS15 := Lib.hid (hS14.below hb15)
      have HO15 := Lib.hid hown15
      have HB15 := Lib.hid hb15
      have hlt8 : g8 < W14.heap.size := (own_block_some hS14.o8).2
      have hlt9 : g9 < W14.heap.size := (own_block_some hS14.o9).2
      have hge15 : W14.heap.size ≤ g15 := hg15.1
      obtain ⟨M, hM⟩ : ∃ M, M + 1 = L := ⟨L - 1, Nat.sub_add_cancel hL1⟩
      have hM1 : (L : Int) - 1 = (M : Int) := by rw [← hM]; simp
      have hMw : IntKind.i64.wrap (M : Int) = (M : Int) := IntWalk.i64_in _ (by omega)
      have hMc : M ≤ c' := by omega
      have hMc' : (M : Int) ≤ (c' : Int) := Int.ofNat_le.2 hMc
      have hM0 : (0 : Int) ≤ (M : Int) := Int.natCast_nonneg M
      have HM := Lib.hid hM
      clear hM hS14 hown15 hgrow15 hb15 q14 KX14 KX15 hI15 hg15
      go_cut [14] from 105 to 120 (fun s14 wx => s14 = .slice (some ⟨g15, 0, none⟩) n c15 ∧ OddS w6 g8 g9 n L c8 c9 ((valsOf (w6.alloc (.cells #[] 22)) gx ox n).set I (.slice (some ⟨g9, 0, none⟩) L c9)) (bys (X.set T (x ^^^ d))) wx ∧ wx.ownsRow W14.heap.size 22 1 (.slice (some ⟨g15, 0, none⟩) n c15) n ((valsOf w6 gx ox n).set I (.slice (some ad) M c')))
      case first =>
        have t15' : w15.drew.cell? ⟨g15, I, none⟩ = some (.slice (some ad) L c') := t15
        have f15' : w15.drew.frozen? ⟨g15, I, none⟩ = false := f15
        go_still_tail 16, (by kernel_rfl)
        change wpList _ _ _ _ _ w15.drew
        clear t15 f15
        go_wp2
        go_meet
        case rel =>
          refine ⟨rfl, ⟨own_drew (own_set_ne HS15.out.o8 (p := ⟨g15, I, none⟩) (show g15 ≠ g8 by omega) _), own_drew (own_set_ne HS15.out.o9 (p := ⟨g15, I, none⟩) (show g15 ≠ g9 by omega) _), (HS15.out.b.setCell (p := ⟨g15, I, none⟩) (show w6.heap.size ≤ g15 from Nat.le_trans hbc.size hge15) _).trans ((below_drewN _ 1).mono (by simpa [World.setCell] using HS15.out.b.size))⟩, own_drew ?_⟩
          exact own_store HO15.out I _
      case rest =>
        obtain ⟨rfl, hS16, hO16⟩ := hcut
        have hb16 := hS16.b
        have o8 := hS16.o8
        rw [valsOf_below hgx ((Below.refl _ w6).alloc (Nat.le_refl _) _)] at o8
        have HOd := Lib.hid (odd_sll HX6.out hb16 o8 hIn (r := X.set T (x ^^^ d)) (by rw [List.length_set]; exact HXl.out) (own_cap hS16.o9).1 (own_cap hS16.o9).2 (fun h => by cases h) (Byts.of_own hS16.o9))
        have HSh := Lib.hid (odd_sll HX6.out hb16 hO16 hIn (r := X.take M) (by rw [List.length_take, HXl.out]; exact Nat.min_eq_left (by omega)) hMc hcm (fun h => by cases h) ((HQ5.out.byts.below hb16).take M))
        obtain ⟨e1, he1⟩ : ∃ e, ((n : Int) == (k : Int)) = e := ⟨_, rfl⟩
        obtain ⟨e2, he2⟩ : ∃ e, ((n : Int) == 1) = e := ⟨_, rfl⟩
        have HC1 : Hid (chkL ((encL b k n).set I (X.set T (x ^^^ d))) k = e1) := Lib.hid (by
          rw [chkL_odd (b := b) (n := n) (i := I) (t := T) (d := d) kk1 kkn (by omega) hIn (by rw [HA.out.len, HLL.out]; exact hTL) hd0 _ (by rw [HA.out.len, HLL.out, HXE.out, HX0.out]; rfl), ← he1, Bool.eq_iff_iff]
          simp
          omega)
        have HC2 : Hid (chkL ((encL b k n).set I (X.take M)) k = e2) := Lib.hid (by
          rw [chkL_short (b := b) (n := n) (i := I) kk1 kkn (by omega) hIn (X.take M) (by rw [HA.out.len, HLL.out, List.length_take, HXl.out, ← HM.out]; omega), ← he2, Bool.eq_iff_iff]
          simp
          omega)
        have HE16 := Lib.hid (HP.out.env HE6.out hb16)
        have HP1 := Lib.hid (HP.out.chk _ _ _ n c8 _ k wc HE16.out HOd.out (short_set HSH.out (by rw [List.length_set, HXl.out]; omega)) HPR.out)
        rw [HC1.out] at HP1
        have HB16 := Lib.hid (hB6.trans (hb16.mono hB6.size))
        have HP2 := Lib.hid (fun W (hW : Below wc.heap.size wc W) => HP.out.chk _ _ _ n c15 _ k W (HP.out.env HE16.out hW) (HSh.out.below hW) (short_set HSH.out (by rw [List.length_take, HXl.out]; omega)) HPR.out)
        rw [HC2.out] at HP2
        clear hS16 hO16 o8 hb16
        go_wp2_with (first
          | (go_at_call 19; with_reducible refine (HP2.out _ hb17).mono ?_; rintro e w18 ⟨rfl, hb18⟩; have hbX := hb17.trans (hb18.mono hb17.size))
          | (go_at_call 19; with_reducible refine HP1.out.mono ?_; rintro e w17 ⟨rfl, hb17⟩))
        go_ret
        exact ⟨rfl, HB16.out.trans (hbX.mono HB16.out.size)⟩
end Go.Proofs.Ytoodeoglpdapiaa
