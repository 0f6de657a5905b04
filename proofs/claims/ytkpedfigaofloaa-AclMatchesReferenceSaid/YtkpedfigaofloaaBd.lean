/-
  Slices of entries that a call has made, beside each other: a list of them, kept while further ones are made, and while one is appended to, in whatever order the program does so.
-/
import Derived.Test.YtkpedfigaofloaaBe
import Derived.Deep.RegionHeldLaw
namespace Go.Proofs.Ytkpedfigaofloaa
open Go.RowKit Ap
set_option maxHeartbeats 400000

/-- A slice, and the entries it holds. -/
structure Rw where
  A : Option Addr
  n : Nat
  c : Nat
  l : List Ac

/-- The slices that were made since wc, each in a block of its own; H: how many blocks there are. -/
structure Rs (wc W : World) (H : Nat) (rs : List Rw) : Prop where
  below : Below wc.heap.size wc W
  size : W.heap.size = H
  row : ∀ r ∈ rs, W.ownsRow wc.heap.size 31 5 (.slice r.A r.n r.c) r.n (encs r.l)
  apart : rs.Pairwise fun a b => Apart (.slice a.A a.n a.c) (.slice b.A b.n b.c)

theorem rs_start {wc W : World} (hb : Below wc.heap.size wc W) (hs : W.heap.size = wc.heap.size) : Rs wc W wc.heap.size [] := ⟨hb, hs, by simp, List.Pairwise.nil⟩
theorem rs_add {wc W : World} {H : Nat} {rs : List Rw} (h : Rs wc W H rs) (l : List Ac) : Rs wc (W.alloc (.cells (encs l).toArray 31)) (H + 1) (⟨some ⟨H, 0, none⟩, l.length, l.length, l⟩ :: rs) ∨ ¬ l.length ≤ 4000 := by
  by_cases hl : l.length ≤ 4000
  · refine .inl ⟨h.below.alloc h.below.size _, by simp [h.size], fun r hr => ?_, ?_⟩
    · rcases List.mem_cons.1 hr with rfl | hr
      · refine own_shut (cur := (encs l).toArray) (by rw [← h.size]; exact h.below.size) (by rw [← h.size]; exact heap_alloc_new W _) (Nat.le_refl _) (by unfold maxLen; show l.length ≤ _; omega) (by simp [encs_length]) (encs_length l) (fun i _ => by simp)
      · exact (h.row r hr).alloc _
    · refine List.pairwise_cons.2 ⟨fun r hr k hk e => ?_, h.apart⟩
      have := ((h.row r hr).lt k e).2
      have hk' : H = k := by simpa [Value.ownBlock] using hk
      rw [h.size] at this
      omega
  · exact .inr hl
theorem rs_nil {wc W : World} {H : Nat} {rs : List Rw} (h : Rs wc W H rs) : Rs wc (W.alloc (.cells #[] 31)) (H + 1) (⟨some ⟨H, 0, none⟩, 0, 0, []⟩ :: rs) :=
  (rs_add h []).resolve_right (by simp)
theorem rs_one {wc W : World} {H : Nat} {rs : List Rw} {ew : Int} {el : Bool} {er ee : Int} {eg : Bool} (h : Rs wc W H rs) : Rs wc (W.alloc (.cells #[.int .i64 ew, .bool el, .int .i64 er, .int .i64 ee, .bool eg] 31)) (H + 1) (⟨some ⟨H, 0, none⟩, 1, 1, [⟨ew, el, er, ee, eg⟩]⟩ :: rs) :=
  (rs_add h [⟨ew, el, er, ee, eg⟩]).resolve_right (by simp)

theorem pairwise_set {α : Type} {R : α → α → Prop} (hs : ∀ a b, R a b → R b a) : ∀ (l : List α) (i : Nat) (x y : α), l[i]? = some x → l.Pairwise R → (∀ z ∈ l, R z x → R z y) → (l.set i y).Pairwise R
  | [], _, _, _, h, _, _ => by cases h
  | a :: l, 0, x, y, h, hp, hz => by
    obtain rfl : a = x := by simpa using h
    rw [List.pairwise_cons] at hp
    rw [List.set_cons_zero, List.pairwise_cons]
    exact ⟨fun b hb => hs _ _ (hz b (List.mem_cons_of_mem _ hb) (hs _ _ (hp.1 b hb))), hp.2⟩
  | a :: l, i + 1, x, y, h, hp, hz => by
    rw [List.pairwise_cons] at hp
    have hx : x ∈ l := List.mem_of_getElem? (by simpa using h)
    rw [List.set_cons_succ, List.pairwise_cons]
    refine ⟨fun b hb => ?_, pairwise_set hs l i x y (by simpa using h) hp.2 (fun z hm => hz z (List.mem_cons_of_mem _ hm))⟩
    rcases List.mem_or_eq_of_mem_set hb with h1 | rfl
    · exact hp.1 b h1
    · exact hz a (List.mem_cons_self ..) (hp.1 x hx)

/-- What an append to one of them leaves. -/
theorem rs_append {wc W w' : World} {H : Nat} {rs : List Rw} (h : Rs wc W H rs) (i : Nat) {r : Rw} (hi : rs[i]? = some r) {A' : Option Addr} {k c' : Nat} {l' : List Ac} (hown : w'.ownsRow wc.heap.size 31 5 (.slice A' k c') k (encs l'))
    (hg : W.grownBy w' (Value.slice r.A r.n r.c).ownBlock) (hat : (Value.slice A' k c').ownBlock = (Value.slice r.A r.n r.c).ownBlock ∨ (Value.slice A' k c').ownBlock = some W.heap.size) : Rs wc w' w'.heap.size (rs.set i ⟨A', k, c', l'⟩) := by
  have hm := List.mem_of_getElem? hi
  have hil := (List.getElem?_eq_some_iff.1 hi).1
  have hap := h.apart
  refine ⟨h.below.grown hg h.below.size (fun k hk => ((h.row r hm).lt k hk).1), rfl, fun q hq => ?_, ?_⟩
  · obtain ⟨j, hj, rfl⟩ := List.getElem_of_mem hq
    rw [List.getElem_set]
    split
    · exact hown
    · rename_i hne
      have hjl : j < rs.length := by simpa using hj
      refine (h.row rs[j] (List.getElem_mem hjl)).kept hg ?_
      rw [List.pairwise_iff_getElem] at hap
      have hri : rs[i] = r := by rw [List.getElem?_eq_getElem hil] at hi; exact Option.some.inj hi
      rw [← hri]
      rcases Nat.lt_or_ge i j with hlt | hge
      · exact (hap i j hil hjl hlt).symm.kept
      · exact (hap j i hjl hil (by omega)).kept
  · refine pairwise_set (fun a b hab => hab.symm) rs i r _ hi hap fun z hz hzr => ?_
    exact hzr.moved (h.row z hz) (Nat.le_refl _) hat

/-- AN APPEND AT A STEP OF A REGION THAT DRAWS ITS ORDER. -/
theorem step_append_rs {wc W : World} {H : Nat} {rs : List Rw} (h : Rs wc W H rs) (i : Nat) {ops : Array Oper} {o : Oper} {a : Act} {K : Act → World → Prop} {Q : Exit → Act → World → Prop} {E : Prop} (hgd : o.guard = none) (s x : Operand)
    (ho : o.op = .call { callee := .builtin .append, args := #[s, x], argTypes := #[22, 22] }) {A A2 : Option Addr} {n c m c2 k : Nat} {l1 l2 : List Ac} (hs : a.eval s = .slice A n c) (hi : rs[i]? = some ⟨A, n, c, l1⟩)
    (hx : a.eval x = .slice A2 m c2) (hA2 : Aces W A2 l2) (hl2 : l2.length = m) (hn2 : A2 = none → m = 0 ∧ c2 = 0) (hk : n + m = k) (hsz : k ≤ 4000) (d : Nat) (hdst : o.dst = some d)
    (hK : ∀ A' c' w', Rs wc w' w'.heap.size (rs.set i ⟨A', k, c', l1 ++ l2⟩) → K (a.put (some d) (.slice A' k c')) w') :
    if Region.wanted o (yielded ops a.tmps) = true then Oper.wp Try.prog o a W K Q else E := by
  have hw : Region.wanted o (yielded ops a.tmps) = true := by simp [Region.wanted, hgd]
  rw [if_pos hw]
  rw [← hdst] at hK
  subst hk
  obtain ⟨i0, hi0, hz0, hz1, hz2⟩ := info_parts info_ace
  have hown := h.row _ (List.mem_of_getElem? hi)
  dsimp only at hown
  have hrun : ∃ A' c' w', (Builtin.append_ #[22, 22] o.type #[.slice A n c, .slice A2 m c2]).run Try.prog W = .ok (.slice A' (n + m) c') w' ∧ w'.ownsRow wc.heap.size 31 5 (.slice A' (n + m) c') (n + m) (encs (l1 ++ l2)) ∧ W.grownBy w' (Value.slice A n c).ownBlock ∧ ((Value.slice A' (n + m) c').ownBlock = (Value.slice A n c).ownBlock ∨ (Value.slice A' (n + m) c').ownBlock = some W.heap.size) := by
    cases A2 with
    | none =>
      obtain ⟨rfl, rfl⟩ := hn2 rfl
      obtain rfl := List.length_eq_zero_iff.1 hl2
      have hr := run_append_owned_none (P := Try.prog) (w := W) wc.heap.size 22 o.type 31 i0 5 Try.underlying22 hi0 (.slice A n c) n (encs l1) hown
      exact ⟨A, c, W, hr, by simpa using hown, World.grownBy.refl _ _, .inl rfl⟩
    | some ad =>
      have hnews : ∀ j u, (encs l2)[j]? = some u → W.cell? (ad.add j) = some u := by
        by_cases hn0 : l2 = []
        · subst hn0; intro j u hu; cases hu
        · obtain ⟨g, o, hAe, _, hc⟩ := hA2 hn0
          obtain rfl : ad = ⟨g, o, none⟩ := by injection hAe
          exact Aces.cells hc
      obtain ⟨v', w', hr, hown', hg, _, hat⟩ := run_append_own_at (P := Try.prog) W wc.heap.size 22 o.type 31 i0 _ 5 40 Try.underlying22 hi0 hz0 hz1 hz2 rfl (by decide) (.slice A n c) n (encs l1) hown ad m c2 (encs l2) (by rw [encs_length, hl2]) hnews (encs_one' l2) (by unfold maxLen; omega) (by omega) h.below.size
      obtain ⟨A', c', rfl⟩ := own_form hown'
      exact ⟨A', c', w', hr, by rw [encs_append]; exact hown', hg, hat⟩
  obtain ⟨A', c', w', hr, hown', hg, hat⟩ := hrun
  unfold Oper.wp execOp
  simp only [ho, resolve, invoke, builtin, Sem.run_bind, Sem.run_pure, Result.andThen_ok, List.map_toArray, List.map_cons, List.map_nil, hs, hx, hr]
  exact hK A' c' w' (rs_append h i hi hown' hg hat)
/-- The same, where what is appended is another of them. -/
theorem step_append_rr {wc W : World} {H : Nat} {rs : List Rw} (h : Rs wc W H rs) (i j : Nat) {ops : Array Oper} {o : Oper} {a : Act} {K : Act → World → Prop} {Q : Exit → Act → World → Prop} {E : Prop} (hgd : o.guard = none) (s x : Operand)
    (ho : o.op = .call { callee := .builtin .append, args := #[s, x], argTypes := #[22, 22] }) {A A2 : Option Addr} {n c m c2 k : Nat} {l1 l2 : List Ac} (hs : a.eval s = .slice A n c) (hi : rs[i]? = some ⟨A, n, c, l1⟩)
    (hx : a.eval x = .slice A2 m c2) (hj : rs[j]? = some ⟨A2, m, c2, l2⟩) (hk : n + m = k) (hsz : k ≤ 4000) (d : Nat) (hdst : o.dst = some d)
    (hK : ∀ A' c' w', Rs wc w' w'.heap.size (rs.set i ⟨A', k, c', l1 ++ l2⟩) → K (a.put (some d) (.slice A' k c')) w') :
    if Region.wanted o (yielded ops a.tmps) = true then Oper.wp Try.prog o a W K Q else E := by
  have hown := h.row _ (List.mem_of_getElem? hj)
  dsimp only at hown
  exact step_append_rs h i hgd s x ho hs hi hx (Aces.of_own hown) (own_len hown) (own_none hown) hk hsz d hdst hK
/-- What one of them holds. -/
theorem rs_aces {wc W : World} {H : Nat} {rs : List Rw} (h : Rs wc W H rs) (i : Nat) {A : Option Addr} {n c : Nat} {l : List Ac} (hi : rs[i]? = some ⟨A, n, c, l⟩) : Aces W A l := Aces.of_own (h.row _ (List.mem_of_getElem? hi))
theorem mk_keep {g : Nat} {ew : Int} {el : Bool} {er ee : Int} {eg : Bool} {w W : World} (h : Mk g ⟨ew, el, er, ee, eg⟩ w) (hb : Below w.heap.size w W) : W.cell? ⟨g, 0, none⟩ = some (.int .i64 ew) ∧ W.cell? ⟨g, 1, none⟩ = some (.bool el) ∧ W.cell? ⟨g, 2, none⟩ = some (.int .i64 er) ∧ W.cell? ⟨g, 3, none⟩ = some (.int .i64 ee) ∧ W.cell? ⟨g, 4, none⟩ = some (.bool eg) := h.step hb
end Go.Proofs.Ytkpedfigaofloaa
