/-
  Lists of entries in memory; walks of the two functions that take out the own entries, or the given ones.
-/
import Derived.Test.YtkpedfigaofloaaAa
import Derived.Laws.AppendOwn
import Derived.Laws.OwnMore
import Derived.OwnWalk
import Derived.Deep.AppendLies
import Derived.Maps.AppendAt
namespace Go.Proofs.Ytkpedfigaofloaa
open Go.RowKit Ap
set_option maxHeartbeats 400000

/-- The five cells at an address hold this entry. -/
def At (w : World) (g o : Nat) (a : Ac) : Prop :=
  w.cell? ⟨g, o, none⟩ = some (.int .i64 a.who) ∧ w.cell? ⟨g, o + 1, none⟩ = some (.bool a.allow) ∧ w.cell? ⟨g, o + 2, none⟩ = some (.int .i64 a.rights) ∧ w.cell? ⟨g, o + 3, none⟩ = some (.int .i64 a.reach) ∧ w.cell? ⟨g, o + 4, none⟩ = some (.bool a.given)
theorem At.lt {w : World} {g o : Nat} {a : Ac} (h : At w g o a) : g < w.heap.size := block_lt_of_cell h.1
theorem At.below {w w' : World} {g o : Nat} {a : Ac} (h : At w g o a) (hb : Below w.heap.size w w') : At w' g o a :=
  ⟨(hb.cell (p := ⟨g, o, none⟩) h.lt).trans h.1, (hb.cell (p := ⟨g, o + 1, none⟩) h.lt).trans h.2.1, (hb.cell (p := ⟨g, o + 2, none⟩) h.lt).trans h.2.2.1, (hb.cell (p := ⟨g, o + 3, none⟩) h.lt).trans h.2.2.2.1, (hb.cell (p := ⟨g, o + 4, none⟩) h.lt).trans h.2.2.2.2⟩
/-- A slice that starts at A holds these entries. -/
def Aces (w : World) (A : Option Addr) (l : List Ac) : Prop :=
  l ≠ [] → ∃ g o, A = some ⟨g, o, none⟩ ∧ g < w.heap.size ∧ ∀ (j : Nat) (a : Ac), l[j]? = some a → At w g (o + j * 5) a
theorem Aces.below {w w' : World} {A : Option Addr} {l : List Ac} (h : Aces w A l) (hb : Below w.heap.size w w') : Aces w' A l := fun hn => by
  obtain ⟨g, o, hA, hg, hc⟩ := h hn
  exact ⟨g, o, hA, Nat.lt_of_lt_of_le hg hb.size, fun j a ha => (hc j a ha).below hb⟩
theorem Aces.nil (w : World) (A : Option Addr) : Aces w A [] := fun h => absurd rfl h
theorem Aces.take {w : World} {A : Option Addr} {l : List Ac} (h : Aces w A l) (k : Nat) : Aces w A (l.take k) := fun hn => by
  obtain ⟨g, o, hA, hg, hc⟩ := h (fun e => hn (by rw [e]; simp))
  refine ⟨g, o, hA, hg, fun j a ha => hc j a ?_⟩
  rw [List.getElem?_take] at ha
  split at ha
  · exact ha
  · cases ha

theorem encs_length (l : List Ac) : (encs l).length = l.length * 5 := by
  induction l with
  | nil => rfl
  | cons a l ih => simp [encs, enc] at ih ⊢; omega
theorem encs_append (l m : List Ac) : encs (l ++ m) = encs l ++ encs m := by simp [encs]
theorem encs_one (a : Ac) : encs [a] = enc a := by simp [encs]
theorem encs_get (l : List Ac) (j i : Nat) (a : Ac) (hi : i < 5) (h : l[j]? = some a) : (encs l)[j * 5 + i]? = (enc a)[i]? := by
  induction l generalizing j with
  | nil => cases h
  | cons b l ih =>
    cases j with
    | zero =>
      simp at h; subst h
      show (enc b ++ encs l)[0 * 5 + i]? = _
      rw [Nat.zero_mul, Nat.zero_add, List.getElem?_append_left (by simp [enc]; omega)]
    | succ j =>
      show (enc b ++ encs l)[(j + 1) * 5 + i]? = _
      rw [List.getElem?_append_right (by simp [enc]; omega)]
      have : (j + 1) * 5 + i - (enc b).length = j * 5 + i := by simp [enc]; omega
      rw [this]
      exact ih j (by simpa using h)

/-- A row of the call's own is such a list. -/
theorem Aces.of_own {w : World} {base n c : Nat} {e : TypeId} {A : Option Addr} {l : List Ac} (h : w.ownsRow base e 5 (.slice A n c) n (encs l)) : Aces w A l := fun hn => by
  have hl : (encs l).length = n * 5 := h.1
  rw [encs_length] at hl
  have hpos : 0 < n := by have := List.length_pos_iff.2 hn; omega
  obtain ⟨g, cap, hv, _, hlt⟩ := h.form hpos
  have hA : A = some ⟨g, 0, none⟩ := by injection hv
  refine ⟨g, 0, hA, hlt, fun j a ha => ?_⟩
  have key : ∀ i v, i < 5 → (enc a)[i]? = some v → w.cell? ⟨g, 0 + j * 5 + i, none⟩ = some v := fun i v hi hv => by
    have := h.cells (g := g) (by rw [hA]; rfl) (j * 5 + i) v (by rw [encs_get l j i a hi ha]; exact hv)
    have hadd : (⟨g, 0, none⟩ : Addr).add (j * 5 + i) = ⟨g, 0 + j * 5 + i, none⟩ := by unfold Addr.add; split <;> simp_all
    rw [hadd] at this
    exact this
  exact ⟨key 0 _ (by omega) rfl, key 1 _ (by omega) rfl, key 2 _ (by omega) rfl, key 3 _ (by omega) rfl, key 4 _ (by omega) rfl⟩

theorem info_ace : (Try.prog.info? 31).map (fun i => (i.zero, i.size, i.bytes)) = some (some (.agg #[.int .i64 0, .bool false, .int .i64 0, .int .i64 0, .bool false]), 5, 40) := by kernel_rfl
theorem own_empty (w : World) (e : TypeId) (s : Nat) : (w.alloc (.cells #[] e)).ownsRow w.heap.size e s (.slice (some ⟨w.heap.size, 0, none⟩) 0 0) 0 [] :=
  ⟨by simp, .inr ⟨w.heap.size, 0, #[], rfl, Nat.le_refl _, heap_alloc_new w _, Nat.le_refl _, Nat.zero_le _, by simp, by simp⟩⟩

theorem cells_new (w : World) (cs : Array Value) (t : TypeId) : ∀ j u, cs.toList[j]? = some u → (w.alloc (.cells cs t)).cell? ((⟨w.heap.size, 0, none⟩ : Addr).add j) = some u := fun j u hu => by
  have h0 := cell_of_row (w.alloc (.cells cs t)) w.heap.size j cs t (0, 0) (heap_alloc_new w _)
  have hadd : (⟨w.heap.size, 0, none⟩ : Addr).add j = ⟨w.heap.size, j, none⟩ := by unfold Addr.add; split <;> simp_all
  rw [hadd, h0]
  rw [Array.getElem?_toList] at hu
  exact hu
theorem alloc_keep {W : World} {o : Obj} {p : Addr} {v : Value} (h : W.cell? p = some v) : (W.alloc o).cell? p = some v :=
  (((Below.refl _ W).alloc (Nat.le_refl _) o).cell (block_lt_of_cell h)).trans h
theorem enc_one (a : Ac) : ∀ u ∈ enc a, u.oneCell' = true := by
  intro u hu
  simp [enc] at hu
  rcases hu with rfl | rfl | rfl | rfl | rfl <;> rfl
theorem ownsRow_succ {w : World} {base : Nat} {e : TypeId} {s : Nat} {v : Value} {n : Nat} {xs : List Value} (h : w.ownsRow base e s v (n + 1) xs) : ∃ g cap, v = .slice (some ⟨g, 0, none⟩) (n + 1) cap := by
  obtain ⟨g, cap, hv, _, _⟩ := h.form (Nat.succ_pos n)
  exact ⟨g, cap, hv⟩
theorem own_form {w : World} {base : Nat} {e : TypeId} {s : Nat} {v : Value} {n : Nat} {xs : List Value} (h : w.ownsRow base e s v n xs) : ∃ A c, v = .slice A n c := by
  rcases h.2 with ⟨rfl, rfl⟩ | ⟨g, cap, cur, rfl, _⟩
  · exact ⟨none, 0, rfl⟩
  · exact ⟨_, cap, rfl⟩
theorem own_none {w : World} {base : Nat} {e : TypeId} {s : Nat} {A : Option Addr} {n c : Nat} {xs : List Value} (h : w.ownsRow base e s (.slice A n c) n xs) : A = none → n = 0 ∧ c = 0 := by
  rintro rfl
  rcases h.2 with ⟨hv, hn⟩ | ⟨g, cap, cur, hv, _⟩
  · injection hv with h1 h2 h3; exact ⟨hn, h3⟩
  · cases hv
theorem own_len {w : World} {base : Nat} {e : TypeId} {A : Option Addr} {m c : Nat} {l : List Ac} (h : w.ownsRow base e 5 (.slice A m c) m (encs l)) : l.length = m := by
  have := h.1
  rw [encs_length] at this
  omega
/-- A new block of five cells, behind a call. -/
theorem after5 {w w1 : World} {v0 v1 v2 v3 v4 : Value} {t : TypeId} (hb : Below (w.alloc (.cells #[v0, v1, v2, v3, v4] t)).heap.size (w.alloc (.cells #[v0, v1, v2, v3, v4] t)) w1) :
    w1.cell? ⟨w.heap.size, 0, none⟩ = some v0 ∧ w1.cell? ⟨w.heap.size, 1, none⟩ = some v1 ∧ w1.cell? ⟨w.heap.size, 2, none⟩ = some v2 ∧ w1.cell? ⟨w.heap.size, 3, none⟩ = some v3 ∧ w1.cell? ⟨w.heap.size, 4, none⟩ = some v4 ∧
    w1.frozen? ⟨w.heap.size, 0, none⟩ = false ∧ w1.frozen? ⟨w.heap.size, 1, none⟩ = false ∧ w1.frozen? ⟨w.heap.size, 2, none⟩ = false ∧ w1.frozen? ⟨w.heap.size, 3, none⟩ = false ∧ w1.frozen? ⟨w.heap.size, 4, none⟩ = false ∧ w.heap.size < w1.heap.size := by
  have hn := heap_alloc_new w (.cells #[v0, v1, v2, v3, v4] t)
  have hl : w.heap.size < (w.alloc (.cells #[v0, v1, v2, v3, v4] t)).heap.size := by simp
  have hc : ∀ (i : Nat) (v : Value), #[v0, v1, v2, v3, v4][i]? = some v → w1.cell? ⟨w.heap.size, i, none⟩ = some v := fun i v hv => by
    have h0 := cell_of_row (w.alloc (.cells #[v0, v1, v2, v3, v4] t)) w.heap.size i #[v0, v1, v2, v3, v4] t (0, 0) hn
    rw [hv] at h0
    exact (hb.cell (p := ⟨w.heap.size, i, none⟩) hl).trans h0
  have hf : ∀ (i : Nat), w1.frozen? ⟨w.heap.size, i, none⟩ = false := fun i => (hb.frozen (p := ⟨w.heap.size, i, none⟩) hl).trans (frozen_of_row _ w.heap.size i #[v0, v1, v2, v3, v4] t hn)
  exact ⟨hc 0 _ rfl, hc 1 _ rfl, hc 2 _ rfl, hc 3 _ rfl, hc 4 _ rfl, hf 0, hf 1, hf 2, hf 3, hf 4, Nat.lt_of_lt_of_le hl hb.size⟩
theorem below_new {w w1 : World} {o : Obj} (hb : Below (w.alloc o).heap.size (w.alloc o) w1) : Below w.heap.size w w1 := ((Below.refl _ w).alloc (Nat.le_refl _) _).trans (hb.mono (by simp))
def ownL (l : List Ac) (g : Bool) : List Ac := l.filter fun a => a.given == g
theorem ownL_snoc (l : List Ac) (a : Ac) (g : Bool) : ownL (l ++ [a]) g = if a.given = g then ownL l g ++ [a] else ownL l g := by
  simp only [ownL, List.filter_append, List.filter_cons, List.filter_nil]
  split <;> simp_all

set_option maxHeartbeats 1000000 in
theorem rown_any (A : Option Addr) (n c : Nat) (l : List Ac) (hn : l.length = n) (hl : n ≤ 1000) (gi : Bool) (w : World) (hA : Aces w A l) :
    Calls Try.prog 30 #[.slice A n c, .bool gi] w fun e w' => ∃ A' m c', e = .returned (.slice A' m c') ∧ w'.ownsRow w.heap.size 31 5 (.slice A' m c') m (encs (ownL l gi)) ∧ Below w.heap.size w w' := by
  obtain ⟨i0, hi, hz0, hz1, hz2⟩ := info_parts info_ace
  have HN := Lib.hid hn
  have SA := Lib.hid hA
  clear hn hA
  go_enter Try.func30, Try.ntmps30
  go_wp2
  go_loopw [5, 6] (fun o i wr => ∃ (k m : Nat) (A' : Option Addr) (c' : Nat), k ≤ n ∧ i = .int .i64 k ∧ o = .slice A' m c' ∧ m ≤ k ∧ wr.ownsRow w.heap.size 31 5 (.slice A' m c') m (encs (ownL (l.take k) gi)) ∧ Below w.heap.size w wr) (fun _ i _ => n - (intOf i).toNat)
  case atStart => exact ⟨0, 0, some ⟨w.heap.size, 0, none⟩, 0, Nat.zero_le _, rfl, rfl, Nat.le_refl _, own_empty _ _ _, by go_grown⟩
  case round =>
    obtain ⟨k, m, A', c', hk, rfl, rfl, hm, hown, hbw⟩ := hrel
    have hbs := hbw.size
    by_cases hlt : k < n
    · have hkl : k < l.length := by rw [HN.out]; exact hlt
      obtain ⟨g, o, rfl, hg, hc⟩ := (SA.out.below hbw) (List.ne_nil_of_length_pos (by omega))
      obtain ⟨c0, c1, c2, c3, c4⟩ := hc k l[k] (List.getElem?_eq_getElem hkl)
      have hts : ownL (l.take (k + 1)) gi = if l[k].given = gi then ownL (l.take k) gi ++ [l[k]] else ownL (l.take k) gi := by
        rw [List.take_succ_eq_append_getElem hkl, ownL_snoc]
      obtain ⟨⟨aw, al, ri, re, ag⟩, ha⟩ : ∃ a, l[k] = a := ⟨_, rfl⟩
      rw [ha] at c0 c1 c2 c3 c4 hts
      dsimp only at c0 c1 c2 c3 c4 hts
      clear hc ha SA
      by_cases hgg : ag = gi
      · subst hgg
        rw [if_pos rfl] at hts
        have HT := Lib.hid hts
        have hag : (ag == ag) = true := by simp
        clear hts
        go_wp2_with (at_builtin; refine wpList_append_own _ rfl _ _ 22 rfl w.heap.size 31 i0 _ 5 40 Try.underlying22 hi hz0 hz1 hz2 rfl (by decide) _ _ _ rfl (hown.alloc _) ⟨wr.heap.size, 0, none⟩ 1 1 (enc ⟨aw, al, ri, re, ag⟩) rfl rfl (cells_new wr _ _) (enc_one _) (by unfold maxLen; omega) (by omega) (by simp; omega) ?_; intro v' w1 hown' hgrow _; obtain ⟨g', cap', rfl⟩ := ownsRow_succ hown')
        have hb2 : Below w.heap.size w w1 := (hbw.alloc hbs _).grown hgrow (by simp; omega) (fun j hj => (hown.lt j hj).1)
        go_roundw
        case rel => exact ⟨k + 1, m + 1, some ⟨g', 0, none⟩, cap', by omega, by go_num, rfl, by omega, by rw [HT.out, encs_append, encs_one]; exact hown', hb2⟩
        case measure => simp [intOf]; omega
      · rw [if_neg hgg] at hts
        have HT := Lib.hid hts
        have hag : (ag == gi) = false := beq_eq_false_iff_ne.2 hgg
        clear hts hgg
        go_wp2
        go_roundw
        case rel => exact ⟨k + 1, m, A', c', by omega, by go_num, rfl, by omega, by rw [HT.out]; exact hown, hbw⟩
        case measure => simp [intOf]; omega
    · obtain rfl : k = n := by omega
      have HK := Lib.hid (show l.take k = l from List.take_of_length_le (by rw [HN.out]; exact Nat.le_refl _))
      go_wp2
      go_ret
      exact ⟨A', m, c', rfl, by rw [← HK.out]; exact hown, hbw⟩
end Go.Proofs.Ytkpedfigaofloaa
