/-
  Lists of lists of bytes in memory; walks of the reference's first, Long and proper.
-/
import Derived.Test.YtoodeoglpdapiaaSi
namespace Go.Proofs.Ytoodeoglpdapiaa
open Go.RowKit Gf
set_option maxHeartbeats 400000

/-- The slice that starts at A holds these bytes, in a block from lo on that is not the named one. -/
def BytsX (lo : Nat) (no : Option Nat) (w : World) (A : Option Addr) (l : List UInt8) : Prop :=
  l ≠ [] → ∃ b o, A = some ⟨b, o, none⟩ ∧ lo ≤ b ∧ some b ≠ no ∧ b < w.heap.size ∧ ∀ (j : Nat) (x : UInt8), l[j]? = some x → w.cell? ⟨b, o + j, none⟩ = some (.int .u8 x.toNat)
theorem BytsX.byts {lo : Nat} {no : Option Nat} {w : World} {A : Option Addr} {l : List UInt8} (h : BytsX lo no w A l) : Byts w A l := fun hn => by
  obtain ⟨b, o, h1, _, _, h2, h3⟩ := h hn
  exact ⟨b, o, h1, h2, h3⟩
theorem BytsX.below {lo : Nat} {no : Option Nat} {w w' : World} {A : Option Addr} {l : List UInt8} (h : BytsX lo no w A l) (hb : Below w.heap.size w w') : BytsX lo no w' A l := fun hn => by
  obtain ⟨b, o, hA, hlo, hno, hg, hc⟩ := h hn
  exact ⟨b, o, hA, hlo, hno, Nat.lt_of_lt_of_le hg hb.size, fun j x hx => (hb.cell (p := ⟨b, o + j, none⟩) hg).trans (hc j x hx)⟩
/-- Behind a growth of the named row, which lies there still or in a new block. -/
theorem BytsX.grown {lo : Nat} {no no' : Option Nat} {w w' : World} {A : Option Addr} {l : List UInt8} (h : BytsX lo no w A l) (hg : w.grownBy w' no) (hn : ∀ b, some b = no' → some b = no ∨ w.heap.size ≤ b) : BytsX lo no' w' A l := fun hne => by
  obtain ⟨b, o, hA, hlo, hno, hlt, hc⟩ := h hne
  refine ⟨b, o, hA, hlo, fun e => ?_, Nat.lt_of_lt_of_le hlt hg.size, fun j x hx => ?_⟩
  · rcases hn b e with e1 | e1
    · exact hno e1
    · omega
  · rw [World.cell?_of_block (w := w) (hg.block b hlt (fun e => hno e))]
    exact hc j x hx
/-- The cells of slices that hold these lists. -/
structure Rws (lo : Nat) (w : World) (no : Option Nat) (cs : List Value) (ls : List (List UInt8)) : Prop where
  len : cs.length = ls.length
  row : ∀ (i : Nat) (r : List UInt8), ls[i]? = some r → ∃ A c, cs[i]? = some (Value.slice A r.length c) ∧ r.length ≤ c ∧ c ≤ 9223372036854775807 ∧ (A = none → c = 0) ∧ BytsX lo no w A r
theorem Rws.nil (lo : Nat) (w : World) (no : Option Nat) : Rws lo w no [] [] := ⟨rfl, fun i r h => by simp at h⟩
theorem Rws.below {lo : Nat} {w w' : World} {no : Option Nat} {cs : List Value} {ls : List (List UInt8)} (h : Rws lo w no cs ls) (hb : Below w.heap.size w w') : Rws lo w' no cs ls :=
  ⟨h.len, fun i r hr => by obtain ⟨A, c, h1, h2, h3, h5, h4⟩ := h.row i r hr; exact ⟨A, c, h1, h2, h3, h5, h4.below hb⟩⟩
theorem Rws.grown {lo : Nat} {w w' : World} {no no' : Option Nat} {cs : List Value} {ls : List (List UInt8)} (h : Rws lo w no cs ls) (hg : w.grownBy w' no) (hn : ∀ b, some b = no' → some b = no ∨ w.heap.size ≤ b) : Rws lo w' no' cs ls :=
  ⟨h.len, fun i r hr => by obtain ⟨A, c, h1, h2, h3, h5, h4⟩ := h.row i r hr; exact ⟨A, c, h1, h2, h3, h5, h4.grown hg hn⟩⟩
theorem Rws.snoc {lo : Nat} {w : World} {no : Option Nat} {cs : List Value} {ls : List (List UInt8)} {A : Option Addr} {c : Nat} {r : List UInt8} (h : Rws lo w no cs ls) (h2 : r.length ≤ c) (h3 : c ≤ 9223372036854775807) (h5 : A = none → c = 0) (h4 : BytsX lo no w A r) : Rws lo w no (cs ++ [Value.slice A r.length c]) (ls ++ [r]) := by
  refine ⟨by simp [h.len], fun i x hx => ?_⟩
  by_cases hi : i < ls.length
  · rw [List.getElem?_append_left hi] at hx
    obtain ⟨A', c', g1, g2, g3, g5, g4⟩ := h.row i x hx
    exact ⟨A', c', by rw [List.getElem?_append_left (by rw [h.len]; exact hi)]; exact g1, g2, g3, g5, g4⟩
  · rw [List.getElem?_append_right (by omega)] at hx
    have e : i - ls.length = 0 := by
      have := (List.getElem?_eq_some_iff.1 hx).1
      simp at this; omega
    rw [e] at hx
    obtain rfl : r = x := by simpa using hx
    exact ⟨A, c, by rw [List.getElem?_append_right (by rw [h.len]; omega), h.len, e]; rfl, h2, h3, h5, h4⟩
/-- A row of the call's own of slices that hold these lists. -/
def OwnRows (base lo : Nat) (w : World) (A : Option Addr) (m c : Nat) (ls : List (List UInt8)) : Prop :=
  ∃ cs, w.ownsRow base 22 1 (.slice A m c) m cs ∧ Rws lo w (Value.ownBlock (.slice A m c)) cs ls
theorem own_keep {w w' : World} {base : Nat} {e : TypeId} {s : Nat} {v : Value} {n : Nat} {xs : List Value} (h : w.ownsRow base e s v n xs) (hb : Below w.heap.size w w') : w'.ownsRow base e s v n xs := by
  rcases h with ⟨h1, ⟨h2, h3⟩ | ⟨g, cap, cur, h2, h3, h4, h5⟩⟩
  · exact ⟨h1, .inl ⟨h2, h3⟩⟩
  · have hg : g < w.heap.size := (Array.getElem?_eq_some_iff.1 h4).1
    exact ⟨h1, .inr ⟨g, cap, cur, h2, h3, (hb.block g hg).trans h4, h5⟩⟩
theorem own_cap {w : World} {base : Nat} {e : TypeId} {s : Nat} {A : Option Addr} {n c : Nat} {xs : List Value} (h : w.ownsRow base e s (.slice A n c) n xs) : n ≤ c ∧ c ≤ 9223372036854775807 := by
  rcases h.2 with ⟨hv, hn⟩ | ⟨g, cap, cur, hv, _, _, h5, h6, _⟩
  · injection hv with h1 h2 h3; omega
  · injection hv with h1 h2 h3
    unfold maxLen at h6
    omega
theorem own_none {w : World} {base : Nat} {e : TypeId} {s : Nat} {A : Option Addr} {n c : Nat} {xs : List Value} (h : w.ownsRow base e s (.slice A n c) n xs) : A = none → c = 0 := by
  rintro rfl
  rcases h.2 with ⟨hv, hn⟩ | ⟨g, cap, cur, hv, _⟩
  · injection hv with h1 h2 h3
  · cases hv
theorem own_base {w : World} {base : Nat} {e : TypeId} {s : Nat} {A : Option Addr} {n c : Nat} {xs : List Value} (h : w.ownsRow base e s (.slice A n c) n xs) : ∀ b, some b = Value.ownBlock (.slice A n c) → base ≤ b ∧ b < w.heap.size := by
  intro b hb
  rcases h.2 with ⟨hv, hn⟩ | ⟨g, cap, cur, hv, h3, h4, _⟩
  · injection hv with h1 h2 h3; subst h1; cases hb
  · injection hv with h1 h2 h3'; subst h1
    injection hb with hb; subst hb
    exact ⟨h3, (Array.getElem?_eq_some_iff.1 h4).1⟩
theorem OwnRows.keep {base lo : Nat} {w w' : World} {A : Option Addr} {m c : Nat} {ls : List (List UInt8)} (h : OwnRows base lo w A m c ls) (hb : Below w.heap.size w w') : OwnRows base lo w' A m c ls := by
  obtain ⟨cs, h1, h2⟩ := h
  exact ⟨cs, own_keep h1 hb, h2.below hb⟩
theorem OwnRows.len {base lo : Nat} {w : World} {A : Option Addr} {m c : Nat} {ls : List (List UInt8)} (h : OwnRows base lo w A m c ls) : ls.length = m := by
  obtain ⟨cs, h1, h2⟩ := h
  rw [← h2.len]; exact own_len h1
theorem OwnRows.empty (lo : Nat) (w : World) : OwnRows w.heap.size lo (w.alloc (.cells #[] 22)) (some ⟨w.heap.size, 0, none⟩) 0 0 [] := ⟨[], own_empty w _, Rws.nil _ _ _⟩
/-- The slice that starts at A holds slices that hold these lists. -/
def Lists (w : World) (A : Option Addr) (ls : List (List UInt8)) : Prop :=
  ls ≠ [] → ∃ g o, A = some ⟨g, o, none⟩ ∧ g < w.heap.size ∧ ∀ (j : Nat) (r : List UInt8), ls[j]? = some r → ∃ A' c', w.cell? ⟨g, o + j, none⟩ = some (.slice A' r.length c') ∧ r.length ≤ c' ∧ c' ≤ 9223372036854775807 ∧ (A' = none → c' = 0) ∧ Byts w A' r
theorem Lists.below {w w' : World} {A : Option Addr} {ls : List (List UInt8)} (h : Lists w A ls) (hb : Below w.heap.size w w') : Lists w' A ls := fun hn => by
  obtain ⟨g, o, hA, hg, hc⟩ := h hn
  refine ⟨g, o, hA, Nat.lt_of_lt_of_le hg hb.size, fun j r hr => ?_⟩
  obtain ⟨A', c', h1, h2, h3, h5, h4⟩ := hc j r hr
  exact ⟨A', c', (hb.cell (p := ⟨g, o + j, none⟩) hg).trans h1, h2, h3, h5, h4.below hb⟩
theorem OwnRows.lists {base lo : Nat} {w : World} {A : Option Addr} {m c : Nat} {ls : List (List UInt8)} (h : OwnRows base lo w A m c ls) : Lists w A ls := fun hn => by
  obtain ⟨cs, h1, h2⟩ := h
  have hl := own_len h1
  have hlen := h2.len
  obtain ⟨g, cap, hv, _, hlt⟩ := h1.form (by rw [← hl, hlen]; exact List.length_pos_iff.2 hn)
  have hA : A = some ⟨g, 0, none⟩ := by injection hv
  refine ⟨g, 0, hA, hlt, fun j r hr => ?_⟩
  obtain ⟨A', c', g1, g2, g3, g5, g4⟩ := h2.row j r hr
  have := h1.cells (g := g) (by rw [hA]; rfl) j _ g1
  have hadd : (⟨g, 0, none⟩ : Addr).add j = ⟨g, 0 + j, none⟩ := by unfold Addr.add; split <;> simp_all
  rw [hadd] at this
  exact ⟨A', c', this, g2, g3, g5, g4.byts⟩
/-- Behind an append of one slice to such a row. -/
theorem OwnRows.push {base lo n c nx cb g cap : Nat} {W w1 : World} {A B : Option Addr} {cs : List Value} {ls : List (List UInt8)} {x : List UInt8} (h : Rws lo W (Value.ownBlock (.slice A n c)) cs ls) (hx : x.length = nx) (h2 : nx ≤ cb) (h3 : cb ≤ 9223372036854775807) (h5 : B = none → cb = 0)
    (h4 : BytsX lo (Value.ownBlock (.slice A n c)) W B x) (ho : w1.ownsRow base 22 1 (.slice (some ⟨g, 0, none⟩) (n + 1) cap) (n + 1) (cs ++ [.slice B nx cb])) (hg : W.grownBy w1 (Value.ownBlock (.slice A n c))) (hp : Value.ownBlock (.slice A n c) = some g ∨ g = W.heap.size) : OwnRows base lo w1 (some ⟨g, 0, none⟩) (n + 1) cap (ls ++ [x]) := by
  subst hx
  refine ⟨_, ho, (h.snoc h2 h3 h5 h4).grown hg (fun b hb => ?_)⟩
  injection hb with hb
  subst hb
  rcases hp with hp | hp
  · exact .inl hp.symm
  · exact .inr (by omega)
/-- What lay there before the call lies in none of the call's own blocks. -/
theorem Byts.apart {base : Nat} {w : World} {A B : Option Addr} {n c : Nat} {e : TypeId} {s : Nat} {xs : List Value} {l : List UInt8} (h : Byts w B l) (hb : w.heap.size ≤ base) {W : World} (ho : W.ownsRow base e s (.slice A n c) n xs) (hw : Below w.heap.size w W) : BytsX 0 (Value.ownBlock (.slice A n c)) W B l := fun hn => by
  obtain ⟨b, o, hA, hlt, hc⟩ := h hn
  refine ⟨b, o, hA, Nat.zero_le _, fun e => ?_, Nat.lt_of_lt_of_le hlt hw.size, fun j x hx => (hw.cell (p := ⟨b, o + j, none⟩) hlt).trans (hc j x hx)⟩
  have := (own_base ho b e).1
  omega
theorem BytsX.nil (lo : Nat) (no : Option Nat) (w : World) (A : Option Addr) : BytsX lo no w A [] := fun h => absurd rfl h
/-- A row of a call's own from a later block on. -/
theorem BytsX.of_own {base base2 n c n2 c2 : Nat} {w : World} {A B : Option Addr} {e e2 : TypeId} {s : Nat} {xs : List Value} {l : List UInt8} (h : w.ownsRow base2 e2 1 (.slice B n2 c2) n2 (bys l)) {W : World} (ho : W.ownsRow base e s (.slice A n c) n xs) (hb : W.heap.size ≤ base2) : BytsX base2 (Value.ownBlock (.slice A n c)) w B l := fun hn => by
  have hl := own_len h
  rw [bys_length] at hl
  obtain ⟨b, o, hA, hlt, hc⟩ := Byts.of_own h hn
  subst hA
  have h1 := own_base h b rfl
  refine ⟨b, o, rfl, h1.1, fun e => ?_, hlt, hc⟩
  have := (own_base ho b e).2
  omega
theorem BytsX.mono {lo lo' : Nat} {no : Option Nat} {w : World} {A : Option Addr} {l : List UInt8} (h : BytsX lo no w A l) (hl : lo' ≤ lo) : BytsX lo' no w A l := fun hn => by
  obtain ⟨b, o, hA, hlo, h1⟩ := h hn
  exact ⟨b, o, hA, by omega, h1⟩
theorem own_set {w : World} {base : Nat} {e : TypeId} {s : Nat} {v : Value} {n : Nat} {xs : List Value} (h : w.ownsRow base e s v n xs) {p : Addr} (hp : p.block < base) (u : Value) : (w.setCell p u).ownsRow base e s v n xs := by
  rcases h with ⟨h1, ⟨h2, h3⟩ | ⟨g, cap, cur, h2, h3, h4, h5⟩⟩
  · exact ⟨h1, .inl ⟨h2, h3⟩⟩
  · exact ⟨h1, .inr ⟨g, cap, cur, h2, h3, (heap_setCell_other w p g u (by omega)).trans h4, h5⟩⟩
theorem BytsX.set {lo : Nat} {no : Option Nat} {w : World} {A : Option Addr} {l : List UInt8} (h : BytsX lo no w A l) {p : Addr} (hp : p.block < lo) (u : Value) : BytsX lo no (w.setCell p u) A l := fun hn => by
  obtain ⟨b, o, hA, hlo, hno, hg, hc⟩ := h hn
  exact ⟨b, o, hA, hlo, hno, by simpa [World.setCell] using hg, fun j x hx => (World.cell?_setCell_other w p ⟨b, o + j, none⟩ u (fun e => by rw [e] at hp; simp at hp; omega)).trans (hc j x hx)⟩
theorem OwnRows.set {base lo : Nat} {w : World} {A : Option Addr} {m c : Nat} {ls : List (List UInt8)} (h : OwnRows base lo w A m c ls) {p : Addr} (hp : p.block < base) (hp2 : p.block < lo) (u : Value) : OwnRows base lo (w.setCell p u) A m c ls := by
  obtain ⟨cs, h1, h2⟩ := h
  exact ⟨cs, own_set h1 hp u, h2.len, fun i r hr => by obtain ⟨A, c, g1, g2, g3, g5, g4⟩ := h2.row i r hr; exact ⟨A, c, g1, g2, g3, g5, g4.set hp2 u⟩⟩
theorem below_drewN (w : World) (m : Nat) : Below w.heap.size w (w.drewN m) := ⟨rfl, rfl, rfl, Nat.le_refl _, fun _ _ => rfl⟩
theorem ret_slice {A : Option Addr} {n m c : Nat} (h : n = m) : Ending.returned (.slice A n c) = .returned (.slice A m c) := by rw [h]

/-- The numbers below k, as points. -/
def firstL (k : Nat) : List UInt8 := (List.range k).map UInt8.ofNat
theorem firstL_succ (k : Nat) : firstL (k + 1) = firstL k ++ [UInt8.ofNat k] := by simp [firstL, List.range_succ]

set_option maxHeartbeats 1000000 in
theorem first_any (k : Nat) (hk : k ≤ 255) (w : World) :
    Calls Try.prog 29 #[.int .i64 k] w fun e w' => ∃ A c, e = .returned (.slice A k c) ∧ w'.ownsRow w.heap.size 5 1 (.slice A k c) k (bys (firstL k)) ∧ Below w.heap.size w w' := by
  obtain ⟨i0, hi, hz0, hz1, hz2⟩ := info_parts info_u8
  go_enter Try.func29, Try.ntmps29
  go_wp2
  go_loopw [3, 4] (fun o i wr => ∃ (j : Nat) (A' : Option Addr) (c' : Nat), j ≤ k ∧ i = .int .i64 j ∧ o = .slice A' j c' ∧ wr.ownsRow w.heap.size 5 1 (.slice A' j c') j (bys (firstL j)) ∧ Below w.heap.size w wr) (fun _ i _ => k - (intOf i).toNat)
  case atStart => exact ⟨0, some ⟨w.heap.size, 0, none⟩, 0, Nat.zero_le _, rfl, rfl, own_empty _ _, by go_grown⟩
  case round =>
    obtain ⟨j, A', c', hj, rfl, rfl, hown, hbw⟩ := hrel
    have hbs := hbw.size
    by_cases hlt : j < k
    · have hjk : (j : Int) < (k : Int) := by omega
      go_wp2_with (at_builtin; refine wpList_append_own _ rfl _ _ 22 rfl w.heap.size 5 i0 _ 1 1 Try.underlying22 hi hz0 hz1 hz2 rfl (by decide) _ _ _ rfl (hown.alloc _) ⟨wr.heap.size, 0, none⟩ 1 1 [.int .u8 j] rfl rfl (cell_one_new _ _ _) (by simp [Value.oneCell']) (by unfold maxLen; omega) (by omega) (by simp; omega) ?_; intro v' w1 hown' hgrow _; obtain ⟨g', cap', rfl⟩ := ownsRow_succ hown')
      have hb2 : Below w.heap.size w w1 := (hbw.alloc hbs _).grown hgrow (by simp; omega) (fun j hj => (hown.lt j hj).1)
      go_roundw
      case rel =>
        refine ⟨j + 1, some ⟨g', 0, none⟩, cap', by omega, by go_num, rfl, ?_, hb2⟩
        rw [firstL_succ, bys_append, bys_one, ofNat_toNat (by omega)]
        exact hown'
      case measure => simp [intOf]; omega
    · obtain rfl : j = k := by omega
      go_wp2
      go_ret
      exact ⟨A', c', rfl, hown, hbw⟩

def longN (size k : Nat) : Nat := if size % k = 0 then size / k else size / k + 1
theorem Long_any (size k : Nat) (hs : size ≤ 4294967296) (hk1 : 1 ≤ k) (hk : k ≤ 4294967296) (w : World) :
    Calls Try.prog 25 #[.int .i64 size, .int .i64 k] w fun e w' => e = .returned (.int .i64 (longN size k : Nat)) ∧ w' = w := by
  have h1 : size / k ≤ size := Nat.div_le_self _ _
  have e1 : (size : Int).tdiv (k : Int) = ((size / k : Nat) : Int) := by simp [Int.tdiv_eq_ediv_of_nonneg]
  have e2 : (size : Int).tmod (k : Int) = ((size % k : Nat) : Int) := by simp [Int.tmod_eq_emod_of_nonneg]
  have e1' : (size : Int) / (k : Int) = ((size / k : Nat) : Int) := by simp
  have e2' : (size : Int) % (k : Int) = ((size % k : Nat) : Int) := by simp
  have hk0 : ¬ ((k : Int) == 0) = true := by simp; omega
  unfold longN
  obtain ⟨q, hq⟩ : ∃ q, size / k = q := ⟨_, rfl⟩
  obtain ⟨r, hr⟩ : ∃ r, size % k = r := ⟨_, rfl⟩
  rw [hq] at h1 e1 e1' ⊢
  rw [hr] at e2 e2' ⊢
  clear hq hr
  by_cases h0 : r = 0
  · subst h0
    rw [if_pos rfl]
    go_enter Try.func25, Try.ntmps25
    go_wp2
    go_ret
    exact ⟨rfl, rfl⟩
  · rw [if_neg h0]
    go_enter Try.func25, Try.ntmps25
    go_wp2
    go_ret
    exact ⟨rfl, rfl⟩
end Go.Proofs.Ytoodeoglpdapiaa
