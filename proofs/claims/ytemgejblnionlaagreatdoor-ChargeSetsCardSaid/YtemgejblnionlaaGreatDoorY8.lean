/-
  Texts Th Me Tk Tl Tm Tn To, put together by program.
-/
import Derived.Test.YtemgejblnionlaaGreatDoorY0
import Derived.Test.YtemgejblnionlaaGreatDoorY1
import Derived.Test.YtemgejblnionlaaGreatDoorY6
import Derived.Test.YtemgejblnionlaaGreatDoorY7
namespace Go.Proofs.YtemgejblnionlaaGreatDoor
open Go.RowKit
set_option maxHeartbeats 8000000
set_option maxRecDepth 100000
abbrev Copied (t : TypeId) (s n : Nat) (ys : List Value) (w : World) (e : Ending) (w' : World) : Prop :=
 ∃ A' c', e = .returned (.slice A' n c') ∧ w'.ownsRow w.heap.size t s (.slice A' n c') n ys ∧ Below w.heap.size w w'
theorem clone_ac (A : Option Addr) (n c : Nat) (ys : List Value) (w : World) (hS : Sv w A n c 5 ys) (hn : n ≤ 1000000) :
 Calls Tryz.prog 141 #[.slice A n c] w fun e w' => Copied 137 5 n ys w e w' := by
 obtain ⟨i2, hj, hj0, hj1, hj2⟩ := info_parts info_ac
 have e1 := fun W : World => Lib.run_eql_slice_nil (P := Tryz.prog) W 23 137 A n c 0 0 Tryz.underlying23
 have HS := Lib.hid hS
 have HN := Lib.hid hn
 clear hn hS
 cases A with
 | none =>
   have hc : c = 0 := HS.out.nil rfl
   have hm : n = 0 := by have := HS.out.cap; omega
   subst hc hm
   have HY := Lib.hid (List.eq_nil_of_length_eq_zero (by have := HS.out.len; omega) : ys = [])
   go_enter Tryz.func141, Tryz.ntmps141
   go_wp2
   go_ret
   exact ⟨none, 0, rfl, by rw [HY.out]; exact World.ownsRow_nil _ _ _ _, Below.refl _ _⟩
 | some ad =>
   go_enter Tryz.func141, Tryz.ntmps141
   go_wp2_with (at_builtin; refine wpList_append_sv rfl _ _ 23 rfl w.heap.size 137 i2 _ 5 40 Tryz.underlying23 hj hj0 hj1 hj2 rfl (by decide) _ _ _ rfl (own_empty w _ 5) (some ad) n c ys rfl (HS.out.below ((Below.refl _ w).alloc (Nat.le_refl _) _)) (by unfold maxLen; have := HN.out; omega) (by have := HN.out; omega) (by simp) ?_; intro v' w1 hown' hb; rw [Nat.zero_add, List.nil_append] at hown'; obtain ⟨A', c', rfl⟩ := own_form hown'; have HB := Lib.hid (hb w (Nat.le_refl _) ((Below.refl _ w).alloc (Nat.le_refl _) _)); clear hb)
   go_ret
   exact ⟨A', c', rfl, hown', HB.out⟩
theorem clone_en (A : Option Addr) (n c : Nat) (ys : List Value) (w : World) (hS : Sv w A n c 2 ys) (hn : n ≤ 1000000) :
 Calls Tryz.prog 142 #[.slice A n c] w fun e w' => Copied 174 2 n ys w e w' := by
 obtain ⟨i2, hj, hj0, hj1, hj2⟩ := info_parts info_en
 have e1 := fun W : World => Lib.run_eql_slice_nil (P := Tryz.prog) W 62 174 A n c 0 0 Tryz.underlying62
 have HS := Lib.hid hS
 have HN := Lib.hid hn
 clear hn hS
 cases A with
 | none =>
   have hc : c = 0 := HS.out.nil rfl
   have hm : n = 0 := by have := HS.out.cap; omega
   subst hc hm
   have HY := Lib.hid (List.eq_nil_of_length_eq_zero (by have := HS.out.len; omega) : ys = [])
   go_enter Tryz.func142, Tryz.ntmps142
   go_wp2
   go_ret
   exact ⟨none, 0, rfl, by rw [HY.out]; exact World.ownsRow_nil _ _ _ _, Below.refl _ _⟩
 | some ad =>
   go_enter Tryz.func142, Tryz.ntmps142
   go_wp2_with (at_builtin; refine wpList_append_sv rfl _ _ 62 rfl w.heap.size 174 i2 _ 2 24 Tryz.underlying62 hj hj0 hj1 hj2 rfl (by decide) _ _ _ rfl (own_empty w _ 2) (some ad) n c ys rfl (HS.out.below ((Below.refl _ w).alloc (Nat.le_refl _) _)) (by unfold maxLen; have := HN.out; omega) (by have := HN.out; omega) (by simp) ?_; intro v' w1 hown' hb; rw [Nat.zero_add, List.nil_append] at hown'; obtain ⟨A', c', rfl⟩ := own_form hown'; have HB := Lib.hid (hb w (Nat.le_refl _) ((Below.refl _ w).alloc (Nat.le_refl _) _)); clear hb)
   go_ret
   exact ⟨A', c', rfl, hown', HB.out⟩
theorem clone_pc (A : Option Addr) (n c : Nat) (ys : List Value) (w : World) (hS : Sv w A n c 3 ys) (hn : n ≤ 1000000) :
 Calls Tryz.prog 143 #[.slice A n c] w fun e w' => Copied 126 3 n ys w e w' := by
 obtain ⟨i2, hj, hj0, hj1, hj2⟩ := info_parts Ext.info_piece
 have e1 := fun W : World => Lib.run_eql_slice_nil (P := Tryz.prog) W 63 126 A n c 0 0 Tryz.underlying63
 have HS := Lib.hid hS
 have HN := Lib.hid hn
 clear hn hS
 cases A with
 | none =>
   have hc : c = 0 := HS.out.nil rfl
   have hm : n = 0 := by have := HS.out.cap; omega
   subst hc hm
   have HY := Lib.hid (List.eq_nil_of_length_eq_zero (by have := HS.out.len; omega) : ys = [])
   go_enter Tryz.func143, Tryz.ntmps143
   go_wp2
   go_ret
   exact ⟨none, 0, rfl, by rw [HY.out]; exact World.ownsRow_nil _ _ _ _, Below.refl _ _⟩
 | some ad =>
   go_enter Tryz.func143, Tryz.ntmps143
   go_wp2_with (at_builtin; refine wpList_append_sv rfl _ _ 63 rfl w.heap.size 126 i2 _ 3 24 Tryz.underlying63 hj hj0 hj1 hj2 rfl (by decide) _ _ _ rfl (own_empty w _ 3) (some ad) n c ys rfl (HS.out.below ((Below.refl _ w).alloc (Nat.le_refl _) _)) (by unfold maxLen; have := HN.out; omega) (by have := HN.out; omega) (by simp) ?_; intro v' w1 hown' hb; rw [Nat.zero_add, List.nil_append] at hown'; obtain ⟨A', c', rfl⟩ := own_form hown'; have HB := Lib.hid (hb w (Nat.le_refl _) ((Below.refl _ w).alloc (Nat.le_refl _) _)); clear hb)
   go_ret
   exact ⟨A', c', rfl, hown', HB.out⟩
theorem clone_nd (A : Option Addr) (n c : Nat) (ys : List Value) (w : World) (hS : Sv w A n c 8 ys) (hn : n ≤ 1000000) :
 Calls Tryz.prog 106 #[.slice A n c] w fun e w' => Copied 65 8 n ys w e w' := by
 obtain ⟨i2, hj, hj0, hj1, hj2⟩ := info_parts info_nd
 have e1 := fun W : World => Lib.run_eql_slice_nil (P := Tryz.prog) W 28 65 A n c 0 0 Tryz.underlying28
 have HS := Lib.hid hS
 have HN := Lib.hid hn
 clear hn hS
 cases A with
 | none =>
   have hc : c = 0 := HS.out.nil rfl
   have hm : n = 0 := by have := HS.out.cap; omega
   subst hc hm
   have HY := Lib.hid (List.eq_nil_of_length_eq_zero (by have := HS.out.len; omega) : ys = [])
   go_enter Tryz.func106, Tryz.ntmps106
   go_wp2
   go_ret
   exact ⟨none, 0, rfl, by rw [HY.out]; exact World.ownsRow_nil _ _ _ _, Below.refl _ _⟩
 | some ad =>
   go_enter Tryz.func106, Tryz.ntmps106
   go_wp2_with (at_builtin; refine wpList_append_sv rfl _ _ 28 rfl w.heap.size 65 i2 _ 8 112 Tryz.underlying28 hj hj0 hj1 hj2 rfl (by decide) _ _ _ rfl (own_empty w _ 8) (some ad) n c ys rfl (HS.out.below ((Below.refl _ w).alloc (Nat.le_refl _) _)) (by unfold maxLen; have := HN.out; omega) (by have := HN.out; omega) (by simp) ?_; intro v' w1 hown' hb; rw [Nat.zero_add, List.nil_append] at hown'; obtain ⟨A', c', rfl⟩ := own_form hown'; have HB := Lib.hid (hb w (Nat.le_refl _) ((Below.refl _ w).alloc (Nat.le_refl _) _)); clear hb)
   go_ret
   exact ⟨A', c', rfl, hown', HB.out⟩
theorem clone_op (A : Option Addr) (n c : Nat) (ys : List Value) (w : World) (hS : Sv w A n c 2 ys) (hn : n ≤ 1000000) :
 Calls Tryz.prog 107 #[.slice A n c] w fun e w' => Copied 166 2 n ys w e w' := by
 obtain ⟨i2, hj, hj0, hj1, hj2⟩ := info_parts info_op
 have e1 := fun W : World => Lib.run_eql_slice_nil (P := Tryz.prog) W 29 166 A n c 0 0 Tryz.underlying29
 have HS := Lib.hid hS
 have HN := Lib.hid hn
 clear hn hS
 cases A with
 | none =>
   have hc : c = 0 := HS.out.nil rfl
   have hm : n = 0 := by have := HS.out.cap; omega
   subst hc hm
   have HY := Lib.hid (List.eq_nil_of_length_eq_zero (by have := HS.out.len; omega) : ys = [])
   go_enter Tryz.func107, Tryz.ntmps107
   go_wp2
   go_ret
   exact ⟨none, 0, rfl, by rw [HY.out]; exact World.ownsRow_nil _ _ _ _, Below.refl _ _⟩
 | some ad =>
   go_enter Tryz.func107, Tryz.ntmps107
   go_wp2_with (at_builtin; refine wpList_append_sv rfl _ _ 29 rfl w.heap.size 166 i2 _ 2 16 Tryz.underlying29 hj hj0 hj1 hj2 rfl (by decide) _ _ _ rfl (own_empty w _ 2) (some ad) n c ys rfl (HS.out.below ((Below.refl _ w).alloc (Nat.le_refl _) _)) (by unfold maxLen; have := HN.out; omega) (by have := HN.out; omega) (by simp) ?_; intro v' w1 hown' hb; rw [Nat.zero_add, List.nil_append] at hown'; obtain ⟨A', c', rfl⟩ := own_form hown'; have HB := Lib.hid (hb w (Nat.le_refl _) ((Below.refl _ w).alloc (Nat.le_refl _) _)); clear hb)
   go_ret
   exact ⟨A', c', rfl, hown', HB.out⟩
end Go.Proofs.YtemgejblnionlaaGreatDoor
namespace Go.Proofs.YtemgejblnionlaaGreatDoor
open Go.RowKit
set_option maxHeartbeats 16000000
set_option maxRecDepth 100000
theorem wp_region_fork {P : Program} {ops : Array Oper} {Q : Exit → Act → World → Prop} {id : Nat} {a : Act} {w : World} (S : World → Prop) (ord : List (Nat × Bool)) (fuel : Nat) (listed : Array Bool) (hm : P.follows .mixedOrders = true)
 (hk : okOrd .any ops ord (Array.replicate ops.size false) = some listed) (hf : fuel + ord.length = ops.size) (hs : Region.noSelect ops = true) (hS : S w.drew)
 (hQ : ∀ d v c a w, Q (.panic c) (Act.put a d v) w → Q (.panic c) a w) (h : wpOrd P ops Q S (fun a w => S w → wpAnyH P .any ops Q S fuel listed a w) ord a w.drew) : (Code.region id ops true).wp P Q a w :=
 wp_region_held hm (by have := ord_sound hs hQ fuel ord _ a w.drew hk hS h; rwa [hf] at this)
theorem own_rowT {w : World} {base g : Nat} {e t : TypeId} {s : Nat} {v : Value} {n : Nat} {xs : List Value} {cs : Array Value} {fz : Nat × Nat} (h : w.ownsRow base e s v n xs) (hg : w.heap[g]? = some (.cells cs t fz)) (ht : t ≠ e) (new : Array Value) : (w.setRow g new).ownsRow base e s v n xs := by
 rcases h with ⟨h1, ⟨h2, h3⟩ | ⟨k, cap, cur, h2, h3, h4, h5⟩⟩
 · exact ⟨h1, .inl ⟨h2, h3⟩⟩
 · refine ⟨h1, .inr ⟨k, cap, cur, h2, h3, (setRow_other _ _ _ _ fun e1 => ?_).trans h4, h5⟩⟩
   subst e1
   rw [hg] at h4
   injection h4 with h4
   injection h4 with _ h6
   exact ht h6
section
variable {w B W W' : World} {l : List (Nat × Array Value × TypeId)} {d : Nd} {base : Nat} {v : Value} {m : Nat} {xs : List Value} {i j k : Nat} {f : Nat → Value} {q : Nat → Bool}
end
end Go.Proofs.YtemgejblnionlaaGreatDoor
namespace Go.Proofs.YtemgejblnionlaaGreatDoor
open Go.RowKit
set_option maxHeartbeats 16000000
set_option maxRecDepth 100000
structure NOwn (base : Nat) (h : Nh) (W : World) : Prop where
 acl : W.ownsRow base 137 5 (.slice h.aA h.an h.ac) h.an (encs encA h.d.acl)
 list : ∃ u, base ≤ u ∧ W.ownsRow u 174 2 (.slice h.lA h.ln h.lc) h.ln (encs encE h.d.list) ∧ ∀ k, (Value.slice h.aA h.an h.ac).ownBlock = some k → k < u
 body : ∃ u, base ≤ u ∧ W.ownsRow u 126 3 (.slice h.bA h.bn h.bc) h.bn (encs encP h.d.body) ∧ (∀ k, (Value.slice h.aA h.an h.ac).ownBlock = some k → k < u) ∧ ∀ k, (Value.slice h.lA h.ln h.lc).ownBlock = some k → k < u
abbrev CBx (w : World) (r b : Nat) (h : Nh) (f : Nat → Value) (q : Nat → Bool) (W : World) : Prop :=
 ∃ a l d, Bxs w [(r, zN, 65), (b, #[.int .i64 h.d.id, .int .i64 h.d.kind, .int .i64 h.d.owner, a, l, d, .int .i64 h.d.links, .int .i64 h.d.ver], 65)] W ∧
   (q 10 = false → a = .slice h.aA h.an h.ac) ∧ (q 12 = false → l = .slice h.lA h.ln h.lc) ∧ (q 14 = false → d = .slice h.bA h.bn h.bc) ∧ (q 10 = true → a = f 2) ∧ (q 12 = true → l = f 5) ∧ (q 14 = true → d = f 8)
structure CIn (w : World) (r b : Nat) (h : Nh) (f : Nat → Value) (q : Nat → Bool) (W : World) : Prop where
 bx : CBx w r b h f q W
 l1 : q 1 = true → f 1 = .slice h.aA h.an h.ac
 l4 : q 4 = true → f 4 = .slice h.lA h.ln h.lc
 l7 : q 7 = true → f 7 = .slice h.bA h.bn h.bc
 c2 : q 2 = true → ∃ A c, f 2 = .slice A h.an c ∧ W.ownsRow w.heap.size 137 5 (.slice A h.an c) h.an (encs encA h.d.acl)
 c5 : q 5 = true → ∃ u A c, f 5 = .slice A h.ln c ∧ w.heap.size ≤ u ∧ W.ownsRow u 174 2 (.slice A h.ln c) h.ln (encs encE h.d.list) ∧ ∀ k, (f 2).ownBlock = some k → k < u
 c8 : q 8 = true → ∃ u A c, f 8 = .slice A h.bn c ∧ w.heap.size ≤ u ∧ W.ownsRow u 126 3 (.slice A h.bn c) h.bn (encs encP h.d.body) ∧ (∀ k, (f 2).ownBlock = some k → k < u) ∧ ∀ k, (f 5).ownBlock = some k → k < u
 p9 : q 9 = true → f 9 = .pointer (some ⟨b, 3, none⟩)
 p11 : q 11 = true → f 11 = .pointer (some ⟨b, 4, none⟩)
 p13 : q 13 = true → f 13 = .pointer (some ⟨b, 5, none⟩)
 o5 : q 5 = true → q 2 = true
 o8 : q 8 = true → q 5 = true
 o10 : q 10 = true → q 1 = true ∧ q 4 = true ∧ q 7 = true ∧ q 8 = true
 o12 : q 12 = true → q 10 = true
 o14 : q 14 = true → q 12 = true
section
variable {w W W' : World} {r b : Nat} {h : Nh} {f : Nat → Value} {q : Nat → Bool}
theorem no_bool {p : Bool} {α : Prop} (h0 : p = false) (h1 : p = true) : α := by rw [h0] at h1; cases h1
theorem CIn.none_ (K : Bxs w [(r, zN, 65), (b, h.enc.toArray, 65)] W) (f : Nat → Value) : CIn w r b h f (fun _ => false) W where
 bx := ⟨_, _, _, K, fun _ => rfl, fun _ => rfl, fun _ => rfl, (fun h => by cases h), (fun h => by cases h), (fun h => by cases h)⟩
 l1 := fun h => by cases h
 l4 := fun h => by cases h
 l7 := fun h => by cases h
 c2 := fun h => by cases h
 c5 := fun h => by cases h
 c8 := fun h => by cases h
 p9 := fun h => by cases h
 p11 := fun h => by cases h
 p13 := fun h => by cases h
 o5 := fun h => by cases h
 o8 := fun h => by cases h
 o10 := fun h => by cases h
 o12 := fun h => by cases h
 o14 := fun h => by cases h
theorem CIn.s1 (I : CIn w r b h f q W) : CIn w r b h (upd f 1 (.slice h.aA h.an h.ac)) (updB q 1) W where
 bx := I.bx
 l1 := fun _ => rfl
 l4 := fun k => I.l4 k
 l7 := fun k => I.l7 k
 c2 := fun k => I.c2 k
 c5 := fun k => I.c5 k
 c8 := fun k => I.c8 k
 p9 := fun k => I.p9 k
 p11 := fun k => I.p11 k
 p13 := fun k => I.p13 k
 o5 := fun k => I.o5 k
 o8 := fun k => I.o8 k
 o10 := fun k => ⟨rfl, (I.o10 k).2.1, (I.o10 k).2.2.1, (I.o10 k).2.2.2⟩
 o12 := fun k => I.o12 k
 o14 := fun k => I.o14 k
theorem CIn.s4 (I : CIn w r b h f q W) : CIn w r b h (upd f 4 (.slice h.lA h.ln h.lc)) (updB q 4) W where
 bx := I.bx
 l1 := fun k => I.l1 k
 l4 := fun _ => rfl
 l7 := fun k => I.l7 k
 c2 := fun k => I.c2 k
 c5 := fun k => I.c5 k
 c8 := fun k => I.c8 k
 p9 := fun k => I.p9 k
 p11 := fun k => I.p11 k
 p13 := fun k => I.p13 k
 o5 := fun k => I.o5 k
 o8 := fun k => I.o8 k
 o10 := fun k => ⟨(I.o10 k).1, rfl, (I.o10 k).2.2.1, (I.o10 k).2.2.2⟩
 o12 := fun k => I.o12 k
 o14 := fun k => I.o14 k
theorem CIn.s7 (I : CIn w r b h f q W) : CIn w r b h (upd f 7 (.slice h.bA h.bn h.bc)) (updB q 7) W where
 bx := I.bx
 l1 := fun k => I.l1 k
 l4 := fun k => I.l4 k
 l7 := fun _ => rfl
 c2 := fun k => I.c2 k
 c5 := fun k => I.c5 k
 c8 := fun k => I.c8 k
 p9 := fun k => I.p9 k
 p11 := fun k => I.p11 k
 p13 := fun k => I.p13 k
 o5 := fun k => I.o5 k
 o8 := fun k => I.o8 k
 o10 := fun k => ⟨(I.o10 k).1, (I.o10 k).2.1, rfl, (I.o10 k).2.2.2⟩
 o12 := fun k => I.o12 k
 o14 := fun k => I.o14 k
theorem CIn.s9 (I : CIn w r b h f q W) : CIn w r b h (upd f 9 (.pointer (some ⟨b, 3, none⟩))) (updB q 9) W where
 bx := I.bx
 l1 := fun k => I.l1 k
 l4 := fun k => I.l4 k
 l7 := fun k => I.l7 k
 c2 := fun k => I.c2 k
 c5 := fun k => I.c5 k
 c8 := fun k => I.c8 k
 p9 := fun _ => rfl
 p11 := fun k => I.p11 k
 p13 := fun k => I.p13 k
 o5 := fun k => I.o5 k
 o8 := fun k => I.o8 k
 o10 := fun k => I.o10 k
 o12 := fun k => I.o12 k
 o14 := fun k => I.o14 k
theorem CIn.s11 (I : CIn w r b h f q W) : CIn w r b h (upd f 11 (.pointer (some ⟨b, 4, none⟩))) (updB q 11) W where
 bx := I.bx
 l1 := fun k => I.l1 k
 l4 := fun k => I.l4 k
 l7 := fun k => I.l7 k
 c2 := fun k => I.c2 k
 c5 := fun k => I.c5 k
 c8 := fun k => I.c8 k
 p9 := fun k => I.p9 k
 p11 := fun _ => rfl
 p13 := fun k => I.p13 k
 o5 := fun k => I.o5 k
 o8 := fun k => I.o8 k
 o10 := fun k => I.o10 k
 o12 := fun k => I.o12 k
 o14 := fun k => I.o14 k
theorem CIn.s13 (I : CIn w r b h f q W) : CIn w r b h (upd f 13 (.pointer (some ⟨b, 5, none⟩))) (updB q 13) W where
 bx := I.bx
 l1 := fun k => I.l1 k
 l4 := fun k => I.l4 k
 l7 := fun k => I.l7 k
 c2 := fun k => I.c2 k
 c5 := fun k => I.c5 k
 c8 := fun k => I.c8 k
 p9 := fun k => I.p9 k
 p11 := fun k => I.p11 k
 p13 := fun _ => rfl
 o5 := fun k => I.o5 k
 o8 := fun k => I.o8 k
 o10 := fun k => I.o10 k
 o12 := fun k => I.o12 k
 o14 := fun k => I.o14 k
theorem CIn.s2 (I : CIn w r b h f q W) (hj : q 2 = false) (hb : Below W.heap.size W W') {A : Option Addr} {c : Nat} (ho : W'.ownsRow w.heap.size 137 5 (.slice A h.an c) h.an (encs encA h.d.acl)) : CIn w r b h (upd f 2 (.slice A h.an c)) (updB q 2) W' where
 bx := by obtain ⟨a, l, d, K, k1, k2, k3, k4, k5, k6⟩ := I.bx; exact ⟨a, l, d, K.step hb, k1, k2, k3, (fun k => no_bool hj (I.o5 (I.o8 (I.o10 k).2.2.2))), k5, k6⟩
 l1 := fun k => I.l1 k
 l4 := fun k => I.l4 k
 l7 := fun k => I.l7 k
 c2 := fun _ => ⟨A, c, rfl, ho⟩
 c5 := fun k => no_bool hj (I.o5 k)
 c8 := fun k => no_bool hj (I.o5 (I.o8 k))
 p9 := fun k => I.p9 k
 p11 := fun k => I.p11 k
 p13 := fun k => I.p13 k
 o5 := fun _ => rfl
 o8 := fun k => I.o8 k
 o10 := fun k => I.o10 k
 o12 := fun k => I.o12 k
 o14 := fun k => I.o14 k
theorem CIn.s5 (I : CIn w r b h f q W) (hj : q 5 = false) (h2 : q 2 = true) (hb : Below W.heap.size W W') {A : Option Addr} {c : Nat} (ho : W'.ownsRow W.heap.size 174 2 (.slice A h.ln c) h.ln (encs encE h.d.list)) : CIn w r b h (upd f 5 (.slice A h.ln c)) (updB q 5) W' where
 bx := by obtain ⟨a, l, d, K, k1, k2, k3, k4, k5, k6⟩ := I.bx; exact ⟨a, l, d, K.step hb, k1, k2, k3, k4, (fun k => no_bool hj (I.o8 (I.o10 (I.o12 k)).2.2.2)), k6⟩
 l1 := fun k => I.l1 k
 l4 := fun k => I.l4 k
 l7 := fun k => I.l7 k
 c2 := fun k => by obtain ⟨A, c, e, o⟩ := I.c2 k; exact ⟨A, c, e, own_keep o hb⟩
 c5 := fun _ => ⟨W.heap.size, A, c, rfl, by obtain ⟨_, _, _, K, _⟩ := I.bx; exact K.low_.size, ho, fun k hk => by obtain ⟨A2, c2, e2, o2⟩ := I.c2 h2; exact (o2.lt k (by rw [← e2]; exact hk)).2⟩
 c8 := fun k => no_bool hj (I.o8 k)
 p9 := fun k => I.p9 k
 p11 := fun k => I.p11 k
 p13 := fun k => I.p13 k
 o5 := fun _ => h2
 o8 := fun _ => rfl
 o10 := fun k => I.o10 k
 o12 := fun k => I.o12 k
 o14 := fun k => I.o14 k
theorem CIn.s8 (I : CIn w r b h f q W) (hj : q 8 = false) (h5 : q 5 = true) (hb : Below W.heap.size W W') {A : Option Addr} {c : Nat} (ho : W'.ownsRow W.heap.size 126 3 (.slice A h.bn c) h.bn (encs encP h.d.body)) : CIn w r b h (upd f 8 (.slice A h.bn c)) (updB q 8) W' where
 bx := by obtain ⟨a, l, d, K, k1, k2, k3, k4, k5, k6⟩ := I.bx; exact ⟨a, l, d, K.step hb, k1, k2, k3, k4, k5, (fun k => no_bool hj (I.o10 (I.o12 (I.o14 k))).2.2.2)⟩
 l1 := fun k => I.l1 k
 l4 := fun k => I.l4 k
 l7 := fun k => I.l7 k
 c2 := fun k => by obtain ⟨A, c, e, o⟩ := I.c2 k; exact ⟨A, c, e, own_keep o hb⟩
 c5 := fun k => by obtain ⟨u, A, c, e, hu, o, hd⟩ := I.c5 k; exact ⟨u, A, c, e, hu, own_keep o hb, hd⟩
 c8 := fun _ => ⟨W.heap.size, A, c, rfl, by obtain ⟨_, _, _, K, _⟩ := I.bx; exact K.low_.size, ho, (fun k hk => by obtain ⟨A2, c2, e2, o2⟩ := I.c2 (I.o5 h5); exact (o2.lt k (by rw [← e2]; exact hk)).2), fun k hk => by obtain ⟨_, A2, c2, e2, _, o2, _⟩ := I.c5 h5; exact (o2.lt k (by rw [← e2]; exact hk)).2⟩
 p9 := fun k => I.p9 k
 p11 := fun k => I.p11 k
 p13 := fun k => I.p13 k
 o5 := fun k => I.o5 k
 o8 := fun _ => h5
 o10 := fun k => ⟨(I.o10 k).1, (I.o10 k).2.1, (I.o10 k).2.2.1, rfl⟩
 o12 := fun k => I.o12 k
 o14 := fun k => I.o14 k
theorem CIn.row (I : CIn w r b h f q W) : ∃ cs, W.heap[b]? = some (.cells cs 65 (0, 0)) := by
 obtain ⟨a, l, d, K, -⟩ := I.bx
 exact ⟨_, (K.at 1 rfl).out⟩
theorem own_cellT {base g k : Nat} {e t : TypeId} {s : Nat} {v : Value} {n : Nat} {xs : List Value} {cs : Array Value} (h : W.ownsRow base e s v n xs) (hg : W.heap[g]? = some (.cells cs t (0, 0))) (ht : t ≠ e) (u : Value) : (W.setCell ⟨g, k, none⟩ u).ownsRow base e s v n xs := by
 rw [setCell_eq_setRow W g k cs t (0, 0) u hg]
 exact own_rowT h hg ht _
theorem CIn.s10 (I : CIn w r b h f q W) (h1 : q 1 = true) (h4 : q 4 = true) (h7 : q 7 = true) (h8 : q 8 = true) (v : Value) : CIn w r b h (upd f 10 v) (updB q 10) (W.setCell ⟨b, 3, none⟩ (f 2)) where
 bx := by obtain ⟨a, l, d, K, k1, k2, k3, k4, k5, k6⟩ := I.bx; exact ⟨f 2, l, d, K.cel 1 rfl 3 (f 2) _ rfl, (fun k => by cases k), k2, k3, (fun _ => rfl), k5, k6⟩
 l1 := fun k => I.l1 k
 l4 := fun k => I.l4 k
 l7 := fun k => I.l7 k
 c2 := fun k => by obtain ⟨A, c, e, o⟩ := I.c2 k; obtain ⟨cs, hr⟩ := I.row; exact ⟨A, c, e, own_cellT o hr (by decide) _⟩
 c5 := fun k => by obtain ⟨u, A, c, e, hu, o, hd⟩ := I.c5 k; obtain ⟨cs, hr⟩ := I.row; exact ⟨u, A, c, e, hu, own_cellT o hr (by decide) _, hd⟩
 c8 := fun k => by obtain ⟨u, A, c, e, hu, o, hd⟩ := I.c8 k; obtain ⟨cs, hr⟩ := I.row; exact ⟨u, A, c, e, hu, own_cellT o hr (by decide) _, hd⟩
 p9 := fun k => I.p9 k
 p11 := fun k => I.p11 k
 p13 := fun k => I.p13 k
 o5 := fun k => I.o5 k
 o8 := fun k => I.o8 k
 o10 := fun _ => ⟨h1, h4, h7, h8⟩
 o12 := fun _ => rfl
 o14 := fun k => I.o14 k
theorem CIn.s12 (I : CIn w r b h f q W) (h10 : q 10 = true) (v : Value) : CIn w r b h (upd f 12 v) (updB q 12) (W.setCell ⟨b, 4, none⟩ (f 5)) where
 bx := by obtain ⟨a, l, d, K, k1, k2, k3, k4, k5, k6⟩ := I.bx; exact ⟨a, f 5, d, K.cel 1 rfl 4 (f 5) _ rfl, k1, (fun k => by cases k), k3, k4, (fun _ => rfl), k6⟩
 l1 := fun k => I.l1 k
 l4 := fun k => I.l4 k
 l7 := fun k => I.l7 k
 c2 := fun k => by obtain ⟨A, c, e, o⟩ := I.c2 k; obtain ⟨cs, hr⟩ := I.row; exact ⟨A, c, e, own_cellT o hr (by decide) _⟩
 c5 := fun k => by obtain ⟨u, A, c, e, hu, o, hd⟩ := I.c5 k; obtain ⟨cs, hr⟩ := I.row; exact ⟨u, A, c, e, hu, own_cellT o hr (by decide) _, hd⟩
 c8 := fun k => by obtain ⟨u, A, c, e, hu, o, hd⟩ := I.c8 k; obtain ⟨cs, hr⟩ := I.row; exact ⟨u, A, c, e, hu, own_cellT o hr (by decide) _, hd⟩
 p9 := fun k => I.p9 k
 p11 := fun k => I.p11 k
 p13 := fun k => I.p13 k
 o5 := fun k => I.o5 k
 o8 := fun k => I.o8 k
 o10 := fun k => I.o10 k
 o12 := fun _ => h10
 o14 := fun _ => rfl
theorem CIn.s14 (I : CIn w r b h f q W) (h12 : q 12 = true) (v : Value) : CIn w r b h (upd f 14 v) (updB q 14) (W.setCell ⟨b, 5, none⟩ (f 8)) where
 bx := by obtain ⟨a, l, d, K, k1, k2, k3, k4, k5, k6⟩ := I.bx; exact ⟨a, l, f 8, K.cel 1 rfl 5 (f 8) _ rfl, k1, k2, (fun k => by cases k), k4, k5, (fun _ => rfl)⟩
 l1 := fun k => I.l1 k
 l4 := fun k => I.l4 k
 l7 := fun k => I.l7 k
 c2 := fun k => by obtain ⟨A, c, e, o⟩ := I.c2 k; obtain ⟨cs, hr⟩ := I.row; exact ⟨A, c, e, own_cellT o hr (by decide) _⟩
 c5 := fun k => by obtain ⟨u, A, c, e, hu, o, hd⟩ := I.c5 k; obtain ⟨cs, hr⟩ := I.row; exact ⟨u, A, c, e, hu, own_cellT o hr (by decide) _, hd⟩
 c8 := fun k => by obtain ⟨u, A, c, e, hu, o, hd⟩ := I.c8 k; obtain ⟨cs, hr⟩ := I.row; exact ⟨u, A, c, e, hu, own_cellT o hr (by decide) _, hd⟩
 p9 := fun k => I.p9 k
 p11 := fun k => I.p11 k
 p13 := fun k => I.p13 k
 o5 := fun k => I.o5 k
 o8 := fun k => I.o8 k
 o10 := fun k => I.o10 k
 o12 := fun k => I.o12 k
 o14 := fun _ => h12
end
end Go.Proofs.YtemgejblnionlaaGreatDoor
namespace Go.Proofs.YtemgejblnionlaaGreatDoor
open Go.RowKit
set_option maxHeartbeats 16000000
set_option maxRecDepth 100000
theorem own_base {w : World} {base b : Nat} {e : TypeId} {s : Nat} {v : Value} {n : Nat} {xs : List Value} (h : w.ownsRow base e s v n xs) (hb : b ≤ base) : w.ownsRow b e s v n xs := by
 rcases h with ⟨h1, ⟨h2, h3⟩ | ⟨g, cap, cur, h2, h3, h4, h5⟩⟩
 · exact ⟨h1, .inl ⟨h2, h3⟩⟩
 · exact ⟨h1, .inr ⟨g, cap, cur, h2, Nat.le_trans hb h3, h4, h5⟩⟩
theorem NOwn.rowT {w : World} {base g : Nat} {h : Nh} {cs : Array Value} {fz : Nat × Nat} (k : NOwn base h w) (hg : w.heap[g]? = some (.cells cs 65 fz)) (new : Array Value) : NOwn base h (w.setRow g new) := by
 obtain ⟨a, ⟨u, hu, l, l2⟩, v, hv, d, d2, d3⟩ := k
 exact ⟨own_rowT a hg (by decide) _, ⟨u, hu, own_rowT l hg (by decide) _, l2⟩, v, hv, own_rowT d hg (by decide) _, d2, d3⟩
theorem CIn.low {w W : World} {r b : Nat} {h : Nh} {f : Nat → Value} {q : Nat → Bool} (I : CIn w r b h f q W) : Below w.heap.size w W := by
 obtain ⟨_, _, _, K, _⟩ := I.bx
 exact K.low_
theorem cloneNode_lands (h : Nh) (w : World) (ho : h.ok w) (h1 : h.an ≤ 1000000) (h2 : h.ln ≤ 1000000) (h3 : h.bn ≤ 1000000) :
 Calls Tryz.prog 108 #[h.val] w fun e w' => Below w.heap.size w w' ∧ ∃ h' : Nh, e = .returned h'.val ∧ h'.d = h.d ∧ h'.an = h.an ∧ h'.ln = h.ln ∧ h'.bn = h.bn ∧ NOwn w.heap.size h' w' := by
 have C1 := Lib.hid (fun W (hb : Below w.heap.size w W) => clone_ac h.aA h.an h.ac (encs encA h.d.acl) W (ho.acl.below hb) h1)
 have C2 := Lib.hid (fun W (hb : Below w.heap.size w W) => clone_en h.lA h.ln h.lc (encs encE h.d.list) W (ho.list.below hb) h2)
 have C3 := Lib.hid (fun W (hb : Below w.heap.size w W) => clone_pc h.bA h.bn h.bc (encs encP h.d.body) W (ho.body.below hb) h3)
 clear ho h1 h2 h3
 have kk0 := Bxs.nil w
 obtain ⟨x1, hwx1, hzx1, kx1⟩ := kk0.new rfl #[.int .i64 h.d.id, .int .i64 h.d.kind, .int .i64 h.d.owner, .slice h.aA h.an h.ac, .slice h.lA h.ln h.lc, .slice h.bA h.bn h.bc, .int .i64 h.d.links, .int .i64 h.d.ver] (Nh.enc h).toArray 65
 obtain ⟨x2, hwx2, hzx2, kx2⟩ := kx1.new hzx1 zN zN 65
 have HW1 := Lib.hid hwx1
 have HW2 := Lib.hid hwx2
 have kd := Lib.hid (kx2.step (W' := x2.drew) (below_drewN x2 1))
 clear kk0 hwx1 hzx1 kx1 hwx2 hzx2 kx2
 go_enter Tryz.func108, Tryz.ntmps108
 go_upto_region 1 with fail
 rw [HW1.out, HW2.out]
 refine wp_region_fork (fun _ => True) [(0, true), (3, true), (6, true)] 12 #[true, false, false, true, false, false, true, false, false, false, false, false, false, false, false] (by kernel_rfl) (by kernel_rfl) (by rfl) (by kernel_rfl) trivial (fun d _ _ _ _ h => by cases d <;> exact h) ?_
 iterate 3 refine ord_pure ?_
 refine ord_nil (fun _ => ?_)
 refine wp_locM (X := [1, 2, 4, 5, 7, 8, 9, 10, 11, 12, 13, 14]) (fun f => by simp only [putAll, dstOf, List.getElem?_toArray, List.getElem?_cons_succ, List.getElem?_cons_zero, Option.bind_some, Act.put, List.setIfInBounds_toArray, List.set_cons_zero, List.set_cons_succ]; rfl) (CIn w (w.heap.size + 1) w.heap.size h) (by kernel_rfl) (fun _ _ _ _ => trivial) (fun f => CIn.none_ kd.out f) ?_ ?_
 · refine ⟨?_, ?_, ?_, ?_, ?_, ?_, ?_, ?_, ?_, ?_, ?_, ?_, trivial⟩
   · intro f q wj I hd hp
     refine ⟨_, rfl, fun K hK => ?_⟩
     have hn : q 10 = false := by
      cases e : q 10 with
      | false => rfl
      | true => exact no_bool hd (I.o10 e).1
     obtain ⟨a, l, d, KB, k1, k2, k3, -⟩ := I.bx
     have ca : wj.cell? ⟨w.heap.size, 3, none⟩ = some (.slice h.aA h.an h.ac) := by rw [← k1 hn]; exact KB.cell 1 3 a rfl
     clear KB k1 k2 k3
     go_simp
     exact hK.out _ (.slice h.aA h.an h.ac) _ (by first | rfl | (simp only [Act.put, puts])) I.s1
   · intro f q wj I hd hp
     refine ⟨_, rfl, fun K hK => ?_⟩
     have d1 := hp 1 (by decide +kernel) (by decide)
     have CC := Lib.hid (C1.out wj I.low)
     simp only [I.l1 d1]
     go_simp
     go_wp2_with (go_at_call 141; (with_reducible refine CC.out.mono ?_); rintro e w5 ⟨A, c, rfl, ho, hb⟩)
     exact hK.out _ (.slice A _ c) _ (by first | rfl | (simp only [Act.put, puts, I.l1 d1])) (I.s2 hd hb (own_base ho I.low.size))
   · intro f q wj I hd hp
     refine ⟨_, rfl, fun K hK => ?_⟩
     have hn : q 12 = false := by
      cases e : q 12 with
      | false => rfl
      | true => exact no_bool hd (I.o10 (I.o12 e)).2.1
     obtain ⟨a, l, d, KB, k1, k2, k3, -⟩ := I.bx
     have ca : wj.cell? ⟨w.heap.size, 4, none⟩ = some (.slice h.lA h.ln h.lc) := by rw [← k2 hn]; exact KB.cell 1 4 l rfl
     clear KB k1 k2 k3
     go_simp
     exact hK.out _ (.slice h.lA h.ln h.lc) _ (by first | rfl | (simp only [Act.put, puts])) I.s4
   · intro f q wj I hd hp
     refine ⟨_, rfl, fun K hK => ?_⟩
     have d2 := hp 2 (by decide +kernel) (by decide)
     have d4 := hp 4 (by decide +kernel) (by decide)
     have CC := Lib.hid (C2.out wj I.low)
     simp only [I.l4 d4]
     go_simp
     go_wp2_with (go_at_call 142; (with_reducible refine CC.out.mono ?_); rintro e w5 ⟨A, c, rfl, ho, hb⟩)
     exact hK.out _ (.slice A _ c) _ (by first | rfl | (simp only [Act.put, puts, I.l4 d4])) (I.s5 hd d2 hb ho)
   · intro f q wj I hd hp
     refine ⟨_, rfl, fun K hK => ?_⟩
     have hn : q 14 = false := by
      cases e : q 14 with
      | false => rfl
      | true => exact no_bool hd (I.o10 (I.o12 (I.o14 e))).2.2.1
     obtain ⟨a, l, d, KB, k1, k2, k3, -⟩ := I.bx
     have ca : wj.cell? ⟨w.heap.size, 5, none⟩ = some (.slice h.bA h.bn h.bc) := by rw [← k3 hn]; exact KB.cell 1 5 d rfl
     clear KB k1 k2 k3
     go_simp
     exact hK.out _ (.slice h.bA h.bn h.bc) _ (by first | rfl | (simp only [Act.put, puts])) I.s7
   · intro f q wj I hd hp
     refine ⟨_, rfl, fun K hK => ?_⟩
     have d5 := hp 5 (by decide +kernel) (by decide)
     have d7 := hp 7 (by decide +kernel) (by decide)
     have CC := Lib.hid (C3.out wj I.low)
     simp only [I.l7 d7]
     go_simp
     go_wp2_with (go_at_call 143; (with_reducible refine CC.out.mono ?_); rintro e w5 ⟨A, c, rfl, ho, hb⟩)
     exact hK.out _ (.slice A _ c) _ (by first | rfl | (simp only [Act.put, puts, I.l7 d7])) (I.s8 hd d5 hb ho)
   · intro f q wj I hd hp
     refine ⟨_, rfl, fun K hK => ?_⟩
     go_simp
     exact hK.out _ (.pointer (some ⟨w.heap.size, 3, none⟩)) _ (by first | rfl | (simp only [Act.put, puts])) I.s9
   · intro f q wj I hd hp
     refine ⟨_, rfl, fun K hK => ?_⟩
     have d1 := hp 1 (by decide +kernel) (by decide)
     have d4 := hp 4 (by decide +kernel) (by decide)
     have d7 := hp 7 (by decide +kernel) (by decide)
     have d2 := hp 2 (by decide +kernel) (by decide)
     have d8 := hp 8 (by decide +kernel) (by decide)
     have d9 := hp 9 (by decide +kernel) (by decide)
     obtain ⟨A, c, e2, -⟩ := I.c2 d2
     obtain ⟨a, l, d, KB, -⟩ := I.bx
     have ca : wj.cell? ⟨w.heap.size, 3, none⟩ = some a := KB.cell 1 3 _ rfl
     have cb : wj.frozen? ⟨w.heap.size, 3, none⟩ = false := KB.thaw 1 3 rfl
     have I2 := I.s10 d1 d4 d7 d8 undef
     rw [e2] at I2
     have HI := Lib.hid I2
     have E2 := Lib.hid e2
     have EP := Lib.hid (I.p9 d9)
     simp only [EP.out, E2.out]
     clear KB I2 e2
     go_simp
     exact hK.out _ undef _ (by first | rfl | (simp only [Act.put, List.getElem_toArray, List.getElem_cons_succ, List.getElem_cons_zero, EP.out, E2.out])) HI.out
   · intro f q wj I hd hp
     refine ⟨_, rfl, fun K hK => ?_⟩
     go_simp
     exact hK.out _ (.pointer (some ⟨w.heap.size, 4, none⟩)) _ (by first | rfl | (simp only [Act.put, puts])) I.s11
   · intro f q wj I hd hp
     refine ⟨_, rfl, fun K hK => ?_⟩
     have d5 := hp 5 (by decide +kernel) (by decide)
     have d10 := hp 10 (by decide +kernel) (by decide)
     have d11 := hp 11 (by decide +kernel) (by decide)
     obtain ⟨_, A, c, e2, -⟩ := I.c5 d5
     obtain ⟨a, l, d, KB, -⟩ := I.bx
     have ca : wj.cell? ⟨w.heap.size, 4, none⟩ = some l := KB.cell 1 4 _ rfl
     have cb : wj.frozen? ⟨w.heap.size, 4, none⟩ = false := KB.thaw 1 4 rfl
     have I2 := I.s12 d10 undef
     rw [e2] at I2
     have HI := Lib.hid I2
     have E2 := Lib.hid e2
     have EP := Lib.hid (I.p11 d11)
     simp only [EP.out, E2.out]
     clear KB I2 e2
     go_simp
     exact hK.out _ undef _ (by first | rfl | (simp only [Act.put, List.getElem_toArray, List.getElem_cons_succ, List.getElem_cons_zero, EP.out, E2.out])) HI.out
   · intro f q wj I hd hp
     refine ⟨_, rfl, fun K hK => ?_⟩
     go_simp
     exact hK.out _ (.pointer (some ⟨w.heap.size, 5, none⟩)) _ (by first | rfl | (simp only [Act.put, puts])) I.s13
   · intro f q wj I hd hp
     refine ⟨_, rfl, fun K hK => ?_⟩
     have d8 := hp 8 (by decide +kernel) (by decide)
     have d12 := hp 12 (by decide +kernel) (by decide)
     have d13 := hp 13 (by decide +kernel) (by decide)
     obtain ⟨_, A, c, e2, -⟩ := I.c8 d8
     obtain ⟨a, l, d, KB, -⟩ := I.bx
     have ca : wj.cell? ⟨w.heap.size, 5, none⟩ = some d := KB.cell 1 5 _ rfl
     have cb : wj.frozen? ⟨w.heap.size, 5, none⟩ = false := KB.thaw 1 5 rfl
     have I2 := I.s14 d12 undef
     rw [e2] at I2
     have HI := Lib.hid I2
     have E2 := Lib.hid e2
     have EP := Lib.hid (I.p13 d13)
     simp only [EP.out, E2.out]
     clear KB I2 e2
     go_simp
     exact hK.out _ undef _ (by first | rfl | (simp only [Act.put, List.getElem_toArray, List.getElem_cons_succ, List.getElem_cons_zero, EP.out, E2.out])) HI.out
 · intro f q wj I hall
   have e2 := I.c2 (hall 2 (by decide))
   have e5 := I.c5 (hall 5 (by decide))
   have e8 := I.c8 (hall 8 (by decide))
   obtain ⟨a, l, d, KB, -, -, -, k1, k2, k3⟩ := I.bx
   rw [k1 (hall 10 (by decide)), k2 (hall 12 (by decide)), k3 (hall 14 (by decide))] at KB
   obtain ⟨A2, c2, f2, o2⟩ := e2
   obtain ⟨u5, A5, c5, f5, g5, o5, b5⟩ := e5
   obtain ⟨u8, A8, c8, f8, g8, o8, b8, b9⟩ := e8
   rw [f2] at b5 b8
   rw [f5] at b9
   rw [f2, f5, f8] at KB
   clear I hall k1 k2 k3
   have HN := Lib.hid (show NOwn w.heap.size ⟨h.d, A2, h.an, c2, A5, h.ln, c5, A8, h.bn, c8⟩ wj from ⟨o2, ⟨u5, g5, o5, b5⟩, u8, g8, o8, b8, b9⟩)
   have kk := Lib.hid KB
   clear KB o2 o5 o8 b5 b8 b9 g5 g8
   go_wp2_with (first | (with_reducible refine load_nd rfl _ rfl w.heap.size 0 rfl ⟨h.d, A2, h.an, c2, A5, h.ln, c5, A8, h.bn, c8⟩ (box_range (kk.out.at 1 rfl).out) ?_) | (with_reducible refine store_nd rfl _ _ rfl (w.heap.size + 1) rfl ⟨h.d, A2, h.an, c2, A5, h.ln, c5, A8, h.bn, c8⟩ rfl zN (kk.out.at 0 rfl).out rfl ?_))
   refine bodyPost_ret (v := Nh.val ⟨h.d, A2, h.an, c2, A5, h.ln, c5, A8, h.bn, c8⟩) (ret_nd rfl _ _ (w.heap.size + 1) ⟨h.d, A2, h.an, c2, A5, h.ln, c5, A8, h.bn, c8⟩ zN rfl (kk.out.at 0 rfl).out) rfl ?_
   exact ⟨(kk.out.row 0 rfl _).low.out, _, rfl, rfl, rfl, rfl, rfl, HN.out.rowT (kk.out.at 0 rfl).out _⟩
end Go.Proofs.YtemgejblnionlaaGreatDoor
namespace Go.Proofs.YtemgejblnionlaaGreatDoor
open Go.RowKit
set_option maxHeartbeats 16000000
set_option maxRecDepth 100000
abbrev DBx (w : World) (r b : Nat) (T : Th) (f : Nat → Value) (q : Nat → Bool) (W : World) : Prop :=
 ∃ a d, Bxs w [(r, zT, 31), (b, #[a, .int .i64 T.next, d], 31)] W ∧
   (q 7 = false → a = .slice T.A T.n T.c) ∧ (q 9 = false → d = .slice T.oA T.on T.oc) ∧ (q 7 = true → a = f 2) ∧ (q 9 = true → d = f 5)
structure DIn (w : World) (r b : Nat) (T : Th) (f : Nat → Value) (q : Nat → Bool) (W : World) : Prop where
 bx : DBx w r b T f q W
 l1 : q 1 = true → f 1 = .slice T.A T.n T.c
 l4 : q 4 = true → f 4 = .slice T.oA T.on T.oc
 c2 : q 2 = true → ∃ A c, f 2 = .slice A T.n c ∧ W.ownsRow w.heap.size 65 8 (.slice A T.n c) T.n (encs Nh.enc T.hs)
 c5 : q 5 = true → ∃ u A c, f 5 = .slice A T.on c ∧ w.heap.size ≤ u ∧ W.ownsRow u 166 2 (.slice A T.on c) T.on (encs encO T.opens) ∧ ∀ k, (f 2).ownBlock = some k → k < u
 p6 : q 6 = true → f 6 = .pointer (some ⟨b, 0, none⟩)
 p8 : q 8 = true → f 8 = .pointer (some ⟨b, 2, none⟩)
 o5 : q 5 = true → q 2 = true
 o7 : q 7 = true → q 1 = true ∧ q 4 = true ∧ q 5 = true
 o9 : q 9 = true → q 7 = true
section
variable {w W W' : World} {r b : Nat} {T : Th} {f : Nat → Value} {q : Nat → Bool}
theorem DIn.none_ (K : Bxs w [(r, zT, 31), (b, (Th.enc T).toArray, 31)] W) (f : Nat → Value) : DIn w r b T f (fun _ => false) W where
 bx := ⟨_, _, K, fun _ => rfl, fun _ => rfl, (fun h => by cases h), (fun h => by cases h)⟩
 l1 := fun h => by cases h
 l4 := fun h => by cases h
 c2 := fun h => by cases h
 c5 := fun h => by cases h
 p6 := fun h => by cases h
 p8 := fun h => by cases h
 o5 := fun h => by cases h
 o7 := fun h => by cases h
 o9 := fun h => by cases h
theorem DIn.s1 (I : DIn w r b T f q W) : DIn w r b T (upd f 1 (.slice T.A T.n T.c)) (updB q 1) W where
 bx := I.bx
 l1 := fun _ => rfl
 l4 := fun k => I.l4 k
 c2 := fun k => I.c2 k
 c5 := fun k => I.c5 k
 p6 := fun k => I.p6 k
 p8 := fun k => I.p8 k
 o5 := fun k => I.o5 k
 o7 := fun k => ⟨rfl, (I.o7 k).2.1, (I.o7 k).2.2⟩
 o9 := fun k => I.o9 k
theorem DIn.s4 (I : DIn w r b T f q W) : DIn w r b T (upd f 4 (.slice T.oA T.on T.oc)) (updB q 4) W where
 bx := I.bx
 l1 := fun k => I.l1 k
 l4 := fun _ => rfl
 c2 := fun k => I.c2 k
 c5 := fun k => I.c5 k
 p6 := fun k => I.p6 k
 p8 := fun k => I.p8 k
 o5 := fun k => I.o5 k
 o7 := fun k => ⟨(I.o7 k).1, rfl, (I.o7 k).2.2⟩
 o9 := fun k => I.o9 k
theorem DIn.s6 (I : DIn w r b T f q W) : DIn w r b T (upd f 6 (.pointer (some ⟨b, 0, none⟩))) (updB q 6) W where
 bx := I.bx
 l1 := fun k => I.l1 k
 l4 := fun k => I.l4 k
 c2 := fun k => I.c2 k
 c5 := fun k => I.c5 k
 p6 := fun _ => rfl
 p8 := fun k => I.p8 k
 o5 := fun k => I.o5 k
 o7 := fun k => I.o7 k
 o9 := fun k => I.o9 k
theorem DIn.s8 (I : DIn w r b T f q W) : DIn w r b T (upd f 8 (.pointer (some ⟨b, 2, none⟩))) (updB q 8) W where
 bx := I.bx
 l1 := fun k => I.l1 k
 l4 := fun k => I.l4 k
 c2 := fun k => I.c2 k
 c5 := fun k => I.c5 k
 p6 := fun k => I.p6 k
 p8 := fun _ => rfl
 o5 := fun k => I.o5 k
 o7 := fun k => I.o7 k
 o9 := fun k => I.o9 k
theorem DIn.s2 (I : DIn w r b T f q W) (hj : q 2 = false) (hb : Below W.heap.size W W') {A : Option Addr} {c : Nat} (ho : W'.ownsRow w.heap.size 65 8 (.slice A T.n c) T.n (encs Nh.enc T.hs)) : DIn w r b T (upd f 2 (.slice A T.n c)) (updB q 2) W' where
 bx := by obtain ⟨a, d, K, k1, k2, k3, k4⟩ := I.bx; exact ⟨a, d, K.step hb, k1, k2, (fun k => no_bool hj (I.o5 (I.o7 k).2.2)), k4⟩
 l1 := fun k => I.l1 k
 l4 := fun k => I.l4 k
 c2 := fun _ => ⟨A, c, rfl, ho⟩
 c5 := fun k => no_bool hj (I.o5 k)
 p6 := fun k => I.p6 k
 p8 := fun k => I.p8 k
 o5 := fun _ => rfl
 o7 := fun k => I.o7 k
 o9 := fun k => I.o9 k
theorem DIn.s5 (I : DIn w r b T f q W) (hj : q 5 = false) (h2 : q 2 = true) (hb : Below W.heap.size W W') {A : Option Addr} {c : Nat} (ho : W'.ownsRow W.heap.size 166 2 (.slice A T.on c) T.on (encs encO T.opens)) : DIn w r b T (upd f 5 (.slice A T.on c)) (updB q 5) W' where
 bx := by obtain ⟨a, d, K, k1, k2, k3, k4⟩ := I.bx; exact ⟨a, d, K.step hb, k1, k2, k3, (fun k => no_bool hj (I.o7 (I.o9 k)).2.2)⟩
 l1 := fun k => I.l1 k
 l4 := fun k => I.l4 k
 c2 := fun k => by obtain ⟨A, c, e, o⟩ := I.c2 k; exact ⟨A, c, e, own_keep o hb⟩
 c5 := fun _ => ⟨W.heap.size, A, c, rfl, by obtain ⟨_, _, K, _⟩ := I.bx; exact K.low_.size, ho, fun k hk => by obtain ⟨A2, c2, e2, o2⟩ := I.c2 h2; exact (o2.lt k (by rw [← e2]; exact hk)).2⟩
 p6 := fun k => I.p6 k
 p8 := fun k => I.p8 k
 o5 := fun _ => h2
 o7 := fun k => ⟨(I.o7 k).1, (I.o7 k).2.1, rfl⟩
 o9 := fun k => I.o9 k
theorem DIn.row (I : DIn w r b T f q W) : ∃ cs, W.heap[b]? = some (.cells cs 31 (0, 0)) := by
 obtain ⟨a, d, K, -⟩ := I.bx
 exact ⟨_, (K.at 1 rfl).out⟩
theorem DIn.low (I : DIn w r b T f q W) : Below w.heap.size w W := by
 obtain ⟨_, _, K, _⟩ := I.bx
 exact K.low_
theorem DIn.s7 (I : DIn w r b T f q W) (h1 : q 1 = true) (h4 : q 4 = true) (h5 : q 5 = true) (v : Value) : DIn w r b T (upd f 7 v) (updB q 7) (W.setCell ⟨b, 0, none⟩ (f 2)) where
 bx := by obtain ⟨a, d, K, k1, k2, k3, k4⟩ := I.bx; exact ⟨f 2, d, K.cel 1 rfl 0 (f 2) _ rfl, (fun k => by cases k), k2, (fun _ => rfl), k4⟩
 l1 := fun k => I.l1 k
 l4 := fun k => I.l4 k
 c2 := fun k => by obtain ⟨A, c, e, o⟩ := I.c2 k; obtain ⟨cs, hr⟩ := I.row; exact ⟨A, c, e, own_cellT o hr (by decide) _⟩
 c5 := fun k => by obtain ⟨u, A, c, e, hu, o, hd⟩ := I.c5 k; obtain ⟨cs, hr⟩ := I.row; exact ⟨u, A, c, e, hu, own_cellT o hr (by decide) _, hd⟩
 p6 := fun k => I.p6 k
 p8 := fun k => I.p8 k
 o5 := fun k => I.o5 k
 o7 := fun _ => ⟨h1, h4, h5⟩
 o9 := fun _ => rfl
theorem DIn.s9 (I : DIn w r b T f q W) (h7 : q 7 = true) (v : Value) : DIn w r b T (upd f 9 v) (updB q 9) (W.setCell ⟨b, 2, none⟩ (f 5)) where
 bx := by obtain ⟨a, d, K, k1, k2, k3, k4⟩ := I.bx; exact ⟨a, f 5, K.cel 1 rfl 2 (f 5) _ rfl, k1, (fun k => by cases k), k3, (fun _ => rfl)⟩
 l1 := fun k => I.l1 k
 l4 := fun k => I.l4 k
 c2 := fun k => by obtain ⟨A, c, e, o⟩ := I.c2 k; obtain ⟨cs, hr⟩ := I.row; exact ⟨A, c, e, own_cellT o hr (by decide) _⟩
 c5 := fun k => by obtain ⟨u, A, c, e, hu, o, hd⟩ := I.c5 k; obtain ⟨cs, hr⟩ := I.row; exact ⟨u, A, c, e, hu, own_cellT o hr (by decide) _, hd⟩
 p6 := fun k => I.p6 k
 p8 := fun k => I.p8 k
 o5 := fun k => I.o5 k
 o7 := fun k => I.o7 k
 o9 := fun _ => h7
end
end Go.Proofs.YtemgejblnionlaaGreatDoor
namespace Go.Proofs.YtemgejblnionlaaGreatDoor
open Go.RowKit
set_option maxHeartbeats 16000000
set_option maxRecDepth 100000
structure NLt (v : Nat) (h : Nh) : Prop where
 acl : ∀ k, (Value.slice h.aA h.an h.ac).ownBlock = some k → k < v
 list : ∀ k, (Value.slice h.lA h.ln h.lc).ownBlock = some k → k < v
 body : ∀ k, (Value.slice h.bA h.bn h.bc).ownBlock = some k → k < v
structure Cops (u0 : Nat) (hs hs' : List Nh) (k : Nat) (W : World) : Prop where
 len : hs'.length = hs.length
 rest : ∀ j, k ≤ j → hs'[j]? = hs[j]?
 d : hs'.map (·.d) = hs.map (·.d)
 own : ∃ us : Nat → Nat, us 0 = u0 ∧ us k ≤ W.heap.size ∧ (∀ i j, i ≤ j → us i ≤ us j) ∧ ∀ j h, j < k → hs'[j]? = some h → NOwn (us j) h W ∧ NLt (us (j + 1)) h
theorem NOwn.lt {base : Nat} {h : Nh} {W : World} (k : NOwn base h W) : NLt W.heap.size h := by
 obtain ⟨a, ⟨u, hu, l, l2⟩, v, hv, d, d2, d3⟩ := k
 exact ⟨fun k hk => (a.lt k hk).2, fun k hk => (l.lt k hk).2, fun k hk => (d.lt k hk).2⟩
theorem NOwn.keep {base : Nat} {h : Nh} {W W' : World} (k : NOwn base h W) (hb : Below W.heap.size W W') : NOwn base h W' := by
 obtain ⟨a, ⟨u, hu, l, l2⟩, v, hv, d, d2, d3⟩ := k
 exact ⟨own_keep a hb, ⟨u, hu, own_keep l hb, l2⟩, v, hv, own_keep d hb, d2, d3⟩
theorem NOwn.base {base b : Nat} {h : Nh} {W : World} (k : NOwn base h W) (hb : b ≤ base) : NOwn b h W := by
 obtain ⟨a, ⟨u, hu, l, l2⟩, v, hv, d, d2, d3⟩ := k
 exact ⟨own_base a hb, ⟨u, Nat.le_trans hb hu, l, l2⟩, v, Nat.le_trans hb hv, d, d2, d3⟩
theorem Cops.start (u0 : Nat) (hs : List Nh) (W : World) (h : u0 ≤ W.heap.size) : Cops u0 hs hs 0 W :=
 ⟨rfl, fun _ _ => rfl, rfl, fun _ => u0, rfl, h, fun _ _ _ => Nat.le_refl _, fun _ _ hj => absurd hj (Nat.not_lt_zero _)⟩
theorem Cops.keep {u0 : Nat} {hs hs' : List Nh} {k : Nat} {W W' : World} (C : Cops u0 hs hs' k W) (hb : Below W.heap.size W W') : Cops u0 hs hs' k W' := by
 obtain ⟨l, r, d, us, h0, hk, hm, ho⟩ := C
 exact ⟨l, r, d, us, h0, Nat.le_trans hk hb.size, hm, fun j h hj hh => ⟨(ho j h hj hh).1.keep hb, (ho j h hj hh).2⟩⟩
theorem Cops.next {u0 : Nat} {hs hs' : List Nh} {k : Nat} {W W2 : World} {N h : Nh} (C : Cops u0 hs hs' k W) (hb : Below W.heap.size W W2) (hN : NOwn W.heap.size N W2) (hk : hs[k]? = some h) (hd : N.d = h.d) : Cops u0 hs (hs'.set k N) (k + 1) W2 := by
 obtain ⟨l, r, d, us, h0, hk2, hm, ho⟩ := C
 have hkl : k < hs.length := (List.getElem?_eq_some_iff.1 hk).1
 have hk3 : hs'[k]? = some h := (r k (Nat.le_refl _)).trans hk
 refine ⟨by simp [l], fun j hj => ?_, ?_, fun i => if i ≤ k then us i else W2.heap.size, ?_, ?_, ?_, ?_⟩
 · rw [List.getElem?_set_ne (by omega)]
   exact r j (by omega)
 · rw [List.map_set, ← d, hd]
   refine List.ext_getElem? fun i => ?_
   by_cases e : k = i
   · subst e
     rw [List.getElem?_set_self (by simpa [l] using hkl), List.getElem?_map, hk3]
     rfl
   · rw [List.getElem?_set_ne e]
 · simp [h0]
 · dsimp only; rw [if_neg (by omega)]; exact Nat.le_refl _
 · intro i j hij
   dsimp only
   by_cases h1 : j ≤ k
   · rw [if_pos h1, if_pos (by omega)]; exact hm i j hij
   · rw [if_neg h1]
     by_cases h2 : i ≤ k
     · rw [if_pos h2]; exact Nat.le_trans (hm i k h2) (Nat.le_trans hk2 hb.size)
     · rw [if_neg h2]; exact Nat.le_refl _
 · intro j x hj hx
   dsimp only
   by_cases e : j = k
   · subst e
     rw [List.getElem?_set_self (by rw [l]; exact hkl)] at hx
     injection hx with hx
     subst hx
     rw [if_pos (Nat.le_refl _), if_neg (by omega)]
     exact ⟨hN.base hk2, hN.lt⟩
   · rw [List.getElem?_set_ne (by omega)] at hx
     rw [if_pos (by omega), if_pos (by omega)]
     obtain ⟨o1, o2⟩ := ho j x (by omega) hx
     exact ⟨o1.keep hb, o2⟩
theorem setCells_ne {g i : Nat} (hne : i ≠ g) (vs : List Value) : ∀ (w : World) (o : Nat), (w.setCells g o vs).heap[i]? = w.heap[i]? := by
 induction vs with
 | nil => exact fun _ _ => rfl
 | cons v vs ih => exact fun w o => (ih _ _).trans (heap_setCell_other w ⟨g, o, none⟩ i v hne)
theorem NOwn.low {base : Nat} {h : Nh} {W W' : World} (k : NOwn base h W) (ha : ∀ i, base ≤ i → W'.heap[i]? = W.heap[i]?) : NOwn base h W' := by
 obtain ⟨a, ⟨u, hu, l, l2⟩, v, hv, d, d2, d3⟩ := k
 exact ⟨own_low a ha, ⟨u, hu, own_low l fun i hi => ha i (Nat.le_trans hu hi), l2⟩, v, hv, own_low d fun i hi => ha i (Nat.le_trans hv hi), d2, d3⟩
theorem Cops.low {u0 : Nat} {hs hs' : List Nh} {k : Nat} {W W' : World} (C : Cops u0 hs hs' k W) (ha : ∀ i, u0 ≤ i → W'.heap[i]? = W.heap[i]?) (hz : W.heap.size ≤ W'.heap.size) : Cops u0 hs hs' k W' := by
 obtain ⟨l, r, d, us, h0, hk, hm, ho⟩ := C
 exact ⟨l, r, d, us, h0, Nat.le_trans hk hz, hm, fun j h hj hh => ⟨(ho j h hj hh).1.low fun i hi => ha i (Nat.le_trans (by rw [← h0]; exact hm 0 j (Nat.zero_le _)) hi), (ho j h hj hh).2⟩⟩
theorem wp_store_own {o : Oper} {a : Act} {w : World} {K : Act → World → Prop} {Q : Exit → Act → World → Prop} (x y : Operand) (ho : o.op = .store 65 x y)
 (g i : Nat) (hx : a.eval x = .pointer (some ⟨g, i * 8, none⟩)) (h : Nh) (hy : a.eval y = h.val) {base n c : Nat} {hs : List Nh} (hO : w.ownsRow base 65 8 (.slice (some ⟨g, 0, none⟩) n c) n (encs Nh.enc hs)) (hi : i < hs.length)
 (hr : K (a.put o.dst undef) (w.setCells g (i * 8) h.enc)) : o.wp Tryz.prog a w K Q :=
 wp_store_mid 65 x y ho g (i * 8) h.enc.toArray hx hy (fun j hj => by
  have hj8 : j < 8 := hj
  have e : (encs Nh.enc hs)[i * 8 + j]? = hs[i].enc[j]? := encs_get Nh.enc_len hj8 (List.getElem?_eq_getElem hi)
  have e2 : hs[i].enc[j]? = some hs[i].enc[j] := List.getElem?_eq_getElem (by rw [Nh.enc_len]; exact hj8)
  obtain ⟨h1, h2⟩ := own_at hO (e.trans e2)
  rw [h1, h2]
  exact ⟨rfl, rfl⟩) (by kernel_rfl) (by simp [Nh.enc, Value.oneCell']) hr
structure TOwn (base : Nat) (T T' : Th) (W : World) : Prop where
 nodes : W.ownsRow base 65 8 (.slice T'.A T'.n T'.c) T'.n (encs Nh.enc T'.hs)
 opens : ∃ u, base ≤ u ∧ W.ownsRow u 166 2 (.slice T'.oA T'.on T'.oc) T'.on (encs encO T'.opens) ∧ ∀ k, (Value.slice T'.A T'.n T'.c).ownBlock = some k → k < u
 cops : ∃ u0, base ≤ u0 ∧ (∀ k, (Value.slice T'.A T'.n T'.c).ownBlock = some k → k < u0) ∧ (∀ k, (Value.slice T'.oA T'.on T'.oc).ownBlock = some k → k < u0) ∧ Cops u0 T.hs T'.hs T'.n W
end Go.Proofs.YtemgejblnionlaaGreatDoor
namespace Go.Proofs.YtemgejblnionlaaGreatDoor
open Go.RowKit
set_option maxHeartbeats 16000000
set_option maxRecDepth 100000
def CloneRes (w : World) (T : Th) (e : Ending) (w' : World) : Prop :=
 Below w.heap.size w w' ∧ ∃ A2 c2 A5 c5 hs2, e = .returned (.agg #[.slice A2 T.n c2, .int .i64 T.next, .slice A5 T.on c5]) ∧ TOwn w.heap.size T ⟨A2, T.n, c2, hs2, T.next, A5, T.on, c5, T.opens⟩ w'
theorem clone_lands (T : Th) (w : World) (hT : T.ok w) (hs' : T.t.small) :
 Calls Tryz.prog 68 #[T.val] w fun e w' => CloneRes w T e w' := by
 have C1 := Lib.hid (fun W (hb : Below w.heap.size w W) => clone_nd T.A T.n T.c (encs Nh.enc T.hs) W (hT.nodes.below hb) (by have := hs'.1; rw [Th.t_len hT] at this; omega))
 have C2 := Lib.hid (fun W (hb : Below w.heap.size w W) => clone_op T.oA T.on T.oc (encs encO T.opens) W (hT.opens.below hb) (by have := hs'.2.1; rw [← hT.olen]; show T.opens.length ≤ 1000000; have h2 : T.t.opens.length = T.opens.length := rfl; omega))
 have HTT := Lib.hid hT
 have HSM := Lib.hid hs'
 have CK := Lib.hid (fun h W (hm : h ∈ T.hs) (hb : Below w.heap.size w W) => cloneNode_lands h W ((hT.each h hm).below hb) (by rw [← (hT.each h hm).alen]; have := (hs'.2.2 h.d (List.mem_map.2 ⟨h, hm, rfl⟩)).1; omega) (by rw [← (hT.each h hm).llen]; have := (hs'.2.2 h.d (List.mem_map.2 ⟨h, hm, rfl⟩)).2.1; omega) (by rw [← (hT.each h hm).blen]; have := (hs'.2.2 h.d (List.mem_map.2 ⟨h, hm, rfl⟩)).2.2; omega))
 have HLN := Lib.hid hT.len
 have HN := Lib.hid (show T.n ≤ 1000 by have := hs'.1; rw [Th.t_len hT] at this; exact this)
 clear hT hs'
 have kk0 := Bxs.nil w
 obtain ⟨x1, hwx1, hzx1, kx1⟩ := kk0.new rfl T.cs (Th.enc T).toArray 31
 obtain ⟨x2, hwx2, hzx2, kx2⟩ := kx1.new hzx1 zT zT 31
 have HW1 := Lib.hid hwx1
 have HW2 := Lib.hid hwx2
 have kd := Lib.hid (kx2.step (W' := x2.drew) (below_drewN x2 1))
 clear kk0 hwx1 hzx1 kx1 hwx2 hzx2 kx2
 go_enter Tryz.func68, Tryz.ntmps68
 go_upto_region 1 with fail
 rw [HW1.out, HW2.out]
 refine wp_region_fork (fun _ => True) [(0, true), (3, true)] 8 #[true, false, false, true, false, false, false, false, false, false] (by kernel_rfl) (by kernel_rfl) (by rfl) (by kernel_rfl) trivial (fun d _ _ _ _ h => by cases d <;> exact h) ?_
 iterate 2 refine ord_pure ?_
 refine ord_nil (fun _ => ?_)
 refine wp_locM (X := [1, 2, 4, 5, 6, 7, 8, 9]) (fun f => by simp only [putAll, dstOf, List.getElem?_toArray, List.getElem?_cons_succ, List.getElem?_cons_zero, Option.bind_some, Act.put, List.setIfInBounds_toArray, List.set_cons_zero, List.set_cons_succ]; rfl) (DIn w (w.heap.size + 1) w.heap.size T) (by kernel_rfl) (fun _ _ _ _ => trivial) (fun f => DIn.none_ kd.out f) ?_ ?_
 · refine ⟨?_, ?_, ?_, ?_, ?_, ?_, ?_, ?_, trivial⟩
   · intro f q wj I hd hp
     refine ⟨_, rfl, fun K hK => ?_⟩
     have hn : q 7 = false := by
      cases e : q 7 with
      | false => rfl
      | true => exact no_bool hd (I.o7 e).1
     obtain ⟨a, d, KB, k1, k2, -⟩ := I.bx
     have ca : wj.cell? ⟨w.heap.size, 0, none⟩ = some (.slice T.A T.n T.c) := by rw [← k1 hn]; exact KB.cell 1 0 a rfl
     clear KB k1 k2
     go_simp
     exact hK.out _ (.slice T.A T.n T.c) _ (by first | rfl | (simp only [Act.put, puts])) I.s1
   · intro f q wj I hd hp
     refine ⟨_, rfl, fun K hK => ?_⟩
     have d1 := hp 1 (by decide +kernel) (by decide)
     have CC := Lib.hid (C1.out wj I.low)
     simp only [I.l1 d1]
     go_simp
     go_wp2_with (go_at_call 106; (with_reducible refine CC.out.mono ?_); rintro e w5 ⟨A, c, rfl, ho, hb⟩)
     exact hK.out _ (.slice A _ c) _ (by first | rfl | (simp only [Act.put, puts, I.l1 d1])) (I.s2 hd hb (own_base ho I.low.size))
   · intro f q wj I hd hp
     refine ⟨_, rfl, fun K hK => ?_⟩
     have hn : q 9 = false := by
      cases e : q 9 with
      | false => rfl
      | true => exact no_bool hd (I.o7 (I.o9 e)).2.1
     obtain ⟨a, d, KB, k1, k2, -⟩ := I.bx
     have ca : wj.cell? ⟨w.heap.size, 2, none⟩ = some (.slice T.oA T.on T.oc) := by rw [← k2 hn]; exact KB.cell 1 2 d rfl
     clear KB k1 k2
     go_simp
     exact hK.out _ (.slice T.oA T.on T.oc) _ (by first | rfl | (simp only [Act.put, puts])) I.s4
   · intro f q wj I hd hp
     refine ⟨_, rfl, fun K hK => ?_⟩
     have d2 := hp 2 (by decide +kernel) (by decide)
     have d4 := hp 4 (by decide +kernel) (by decide)
     have CC := Lib.hid (C2.out wj I.low)
     simp only [I.l4 d4]
     go_simp
     go_wp2_with (go_at_call 107; (with_reducible refine CC.out.mono ?_); rintro e w5 ⟨A, c, rfl, ho, hb⟩)
     exact hK.out _ (.slice A _ c) _ (by first | rfl | (simp only [Act.put, puts, I.l4 d4])) (I.s5 hd d2 hb ho)
   · intro f q wj I hd hp
     refine ⟨_, rfl, fun K hK => ?_⟩
     go_simp
     exact hK.out _ (.pointer (some ⟨w.heap.size, 0, none⟩)) _ (by first | rfl | (simp only [Act.put, puts])) I.s6
   · intro f q wj I hd hp
     refine ⟨_, rfl, fun K hK => ?_⟩
     have d1 := hp 1 (by decide +kernel) (by decide)
     have d4 := hp 4 (by decide +kernel) (by decide)
     have d2 := hp 2 (by decide +kernel) (by decide)
     have d5 := hp 5 (by decide +kernel) (by decide)
     have d6 := hp 6 (by decide +kernel) (by decide)
     obtain ⟨A, c, e2, -⟩ := I.c2 d2
     obtain ⟨a, d, KB, -⟩ := I.bx
     have ca : wj.cell? ⟨w.heap.size, 0, none⟩ = some a := KB.cell 1 0 _ rfl
     have cb : wj.frozen? ⟨w.heap.size, 0, none⟩ = false := KB.thaw 1 0 rfl
     have I2 := I.s7 d1 d4 d5 undef
     rw [e2] at I2
     have HI := Lib.hid I2
     have E2 := Lib.hid e2
     have EP := Lib.hid (I.p6 d6)
     simp only [EP.out, E2.out]
     clear KB I2 e2
     go_simp
     exact hK.out _ undef _ (by first | rfl | (simp only [Act.put, List.getElem_toArray, List.getElem_cons_succ, List.getElem_cons_zero, EP.out, E2.out])) HI.out
   · intro f q wj I hd hp
     refine ⟨_, rfl, fun K hK => ?_⟩
     go_simp
     exact hK.out _ (.pointer (some ⟨w.heap.size, 2, none⟩)) _ (by first | rfl | (simp only [Act.put, puts])) I.s8
   · intro f q wj I hd hp
     refine ⟨_, rfl, fun K hK => ?_⟩
     have d5 := hp 5 (by decide +kernel) (by decide)
     have d7 := hp 7 (by decide +kernel) (by decide)
     have d8 := hp 8 (by decide +kernel) (by decide)
     obtain ⟨_, A, c, e2, -⟩ := I.c5 d5
     obtain ⟨a, d, KB, -⟩ := I.bx
     have ca : wj.cell? ⟨w.heap.size, 2, none⟩ = some d := KB.cell 1 2 _ rfl
     have cb : wj.frozen? ⟨w.heap.size, 2, none⟩ = false := KB.thaw 1 2 rfl
     have I2 := I.s9 d7 undef
     rw [e2] at I2
     have HI := Lib.hid I2
     have E2 := Lib.hid e2
     have EP := Lib.hid (I.p8 d8)
     simp only [EP.out, E2.out]
     clear KB I2 e2
     go_simp
     exact hK.out _ undef _ (by first | rfl | (simp only [Act.put, List.getElem_toArray, List.getElem_cons_succ, List.getElem_cons_zero, EP.out, E2.out])) HI.out
 · intro f q wj I hall
   have e2 := I.c2 (hall 2 (by decide))
   have e5 := I.c5 (hall 5 (by decide))
   obtain ⟨a, d, KB, -, -, k1, k2⟩ := I.bx
   rw [k1 (hall 7 (by decide)), k2 (hall 9 (by decide))] at KB
   obtain ⟨A2, c2, f2, o2⟩ := e2
   obtain ⟨u5, A5, c5, f5, g5, o5, b5⟩ := e5
   rw [f2] at b5
   rw [f2, f5] at KB
   clear I hall k1 k2
   have kk := Lib.hid KB
   have HO2 := Lib.hid o2
   have HO5 := Lib.hid o5
   have HG5 := Lib.hid g5
   have HB5 := Lib.hid b5
   have HU2 := Lib.hid (fun k hk => (o2.lt k hk).2)
   have HU5 := Lib.hid (fun k hk => (o5.lt k hk).2)
   have c0 : wj.cell? ⟨w.heap.size, 0, none⟩ = some (.slice A2 T.n c2) := KB.cell 1 0 _ rfl
   clear KB o2 o5 g5 b5 f2 f5
   go_wp2
   go_loopw [16] (fun i wr => ∃ (k : Nat) (hs2 : List Nh), k ≤ T.n ∧ i = .int .i64 k ∧ Cops wj.heap.size T.hs hs2 k wr ∧ wr.ownsRow w.heap.size 65 8 (.slice A2 T.n c2) T.n (encs Nh.enc hs2) ∧ wr.ownsRow u5 166 2 (.slice A5 T.on c5) T.on (encs encO T.opens) ∧ Bxs w [(w.heap.size + 1, zT, 31), (w.heap.size, #[.slice A2 T.n c2, .int .i64 T.next, .slice A5 T.on c5], 31)] wr ∧ wj.heap.size ≤ wr.heap.size) (fun i _ => T.n - (intOf i).toNat)
   case atStart => exact ⟨0, T.hs, Nat.zero_le _, rfl, Cops.start _ _ _ (Nat.le_refl _), HO2.out, HO5.out, kk.out, Nat.le_refl _⟩
   case round =>
    obtain ⟨k, hs2, hk, rfl, hC, hO, hP, hB, hsz⟩ := hrel
    by_cases hlt : k < T.n
    · obtain ⟨h, hh⟩ : ∃ h, T.hs[k]? = some h := ⟨_, List.getElem?_eq_getElem (by rw [HLN.out]; exact hlt)⟩
      have hh2 : hs2[k]? = some h := (hC.rest k (Nat.le_refl _)).trans hh
      have kn : (k : Int) < (T.n : Int) := Int.ofNat_lt.2 hlt
      have k0 : (0 : Int) ≤ (k : Int) := Int.natCast_nonneg k
      have hwj : IntKind.i64.wrap ((k : Int) + 1) = (k : Int) + 1 := IntWalk.i64_in _ (by have := HN.out; omega)
      obtain ⟨g, cc, hvA, hgA, hgA2⟩ := hO.form (show 0 < T.n by omega)
      injection hvA with hvA _ hcA
      subst hvA
      subst hcA
      have HRG := Lib.hid (show wr.rangeAt g (k * 8) h.enc from fun j u hu => (own_at hO ((encs_get Nh.enc_len (show j < 8 from (List.getElem?_eq_some_iff.1 hu).1) hh2).trans hu)).1)
      obtain ⟨y1, hwy1, hzy1, ky1⟩ := hB.new rfl zN zN 65
      have HY1 := Lib.hid hwy1
      have ky2 := ky1.row 0 rfl h.enc.toArray
      have KY1 := Lib.hid ky1
      have hb2 : Below wr.heap.size wr (y1.setRow wr.heap.size h.enc.toArray) := by rw [← hwy1]; exact below_setRow ((Below.refl _ wr).alloc (Nat.le_refl _) _) (Nat.le_refl _) _
      have HCC := Lib.hid hC
      have HOO := Lib.hid hO
      have HPP := Lib.hid hP
      have HBB := Lib.hid hB
      have HH := Lib.hid hh
      have HLT := Lib.hid hlt
      have HHM := Lib.hid (List.mem_of_getElem? hh)
      have HSZ := Lib.hid hsz
      have HGA := Lib.hid hgA
      have HLTG := Lib.hid (hO.lt g rfl).2
      have HCUR := Lib.hid (show ∃ cur, wr.heap[g]? = some (.cells cur 65 (0, 0)) by
       rcases hO.2 with ⟨h1, _⟩ | ⟨g', cap, cur, h1, _, h2, _⟩
       · cases h1
       · injection h1 with h1
         injection h1 with h1
         injection h1 with h1
         subst h1
         exact ⟨cur, h2⟩)
      clear hwy1 hzy1 ky1 hC hO hP hB hh hh2 hlt hsz hgA hgA2 hk c0
      go_upto_region 5 with (first | rw [HY1.out] | (with_reducible refine load_nd rfl _ rfl g (k * 8) rfl h HRG.out ?_) | (with_reducible refine store_nd rfl _ _ rfl wr.heap.size rfl h rfl _ (KY1.out.at 0 rfl).out rfl ?_))
      obtain ⟨y2, hy2⟩ : ∃ W, y1.setRow wr.heap.size h.enc.toArray = W := ⟨_, rfl⟩
      rw [hy2] at ky2 hb2 ⊢
      have KD := Lib.hid (ky2.step (W' := y2.drew) (below_drewN y2 1))
      have HBD := Lib.hid (hb2.trans ((below_drewN y2 1).mono hb2.size))
      clear ky2 hb2 hy2
      have CKh := Lib.hid (CK.out h y2.drew HHM.out KD.out.low.out)
      refine wp_region_ord (fun w' => w'.cell? ⟨w.heap.size, 0, none⟩ = some (.slice (some ⟨g, 0, none⟩) T.n c2) ∧ w'.heap[wr.heap.size]? = some (.cells (Nh.enc h).toArray 65 (0, 0))) [(0, true), (1, true), (2, true), (3, true), (4, false), (5, true), (6, false)] (by kernel_rfl) (by kernel_rfl) (by kernel_rfl) ⟨KD.out.cell 2 0 _ rfl, (KD.out.at 0 rfl).out⟩ (fun d _ _ _ _ h => by cases d <;> exact h) ?_
      iterate 3 refine ord_pure ?_
      refine ord_pure (v := h.val) (hy := yieldsIf_load_mid (by rfl) 65 _ rfl (wr.heap.size) 0 rfl (Nh.enc h) _ (fun w h => box_range h.2) Tryz.underlying65 rfl (by kernel_rfl)) ?_
      refine ord_eff (by rfl) (fun K hK => ?_)
      go_simp
      go_wp2_with (go_at_call 108; (with_reducible refine CKh.out.mono ?_); rintro e w6 ⟨hb6, N, rfl, hd, -, -, -, hN⟩; have HB6 := Lib.hid hb6; have HD := Lib.hid hd; have HNN := Lib.hid hN; clear hb6 hd hN)
      have K6 := Lib.hid (KD.out.step (W' := w6) HB6.out)
      have HB06 := Lib.hid (HBD.out.trans (HB6.out.mono HBD.out.size))
      refine hK.out _ _ ⟨K6.out.cell 2 0 _ rfl, (K6.out.at 0 rfl).out⟩ ?_
      clear hK K
      try simp only [Act.put, puts]
      refine ord_pure ?_
      refine ord_eff (by rfl) (fun K hK => ?_)
      have HKL := Lib.hid (show k < hs2.length by rw [HCC.out.len, HLN.out]; exact HLT.out)
      have HO6 := Lib.hid (own_keep HOO.out HB06.out)
      have ne1 : wr.heap.size ≠ g := fun e => Nat.lt_irrefl _ (e ▸ HLTG.out)
      have ne2 : w.heap.size ≠ g := fun e => by
       obtain ⟨cur, hc⟩ := HCUR.out
       rw [← e, (HBB.out.at 1 rfl).out] at hc
       cases hc
      have ne3 : w.heap.size + 1 ≠ g := fun e => by
       obtain ⟨cur, hc⟩ := HCUR.out
       rw [← e, (HBB.out.at 0 rfl).out] at hc
       cases hc
      have HB7 := Lib.hid (below_setCells (g := g) HGA.out N.enc (k * 8) K6.out.low.out)
      have K7 := Lib.hid (K6.out.keep HB7.out (fun x hx => by
       simp only [List.set_cons_zero, List.mem_cons, List.not_mem_nil, or_false] at hx
       rcases hx with rfl | rfl | rfl
       · exact setCells_ne ne1 _ _ _
       · exact setCells_ne ne3 _ _ _
       · exact setCells_ne ne2 _ _ _))
      have HC7 := Lib.hid (((HCC.out.keep HBD.out).next HB6.out HNN.out HH.out HD.out).low (fun i hi => setCells_ne (g := g) (i := i) (fun e => by have := HU2.out g rfl; omega) N.enc w6 (k * 8)) (by have := below_setCells (B := 0) (a := w6) (g := g) (Nat.zero_le _) N.enc (k * 8) (Below.refl _ _); exact this.size))
      have HO7 := Lib.hid (own_setCells N.enc (k * 8) HO6.out)
      rw [encs_set Nh.enc_len hs2 k N HKL.out] at HO7
      have HP7 := Lib.hid (own_low (own_keep HPP.out HB06.out) (fun i hi => setCells_ne (g := g) (i := i) (fun e => by have := HB5.out g rfl; omega) N.enc w6 (k * 8)))
      have HS7 := Lib.hid (show wj.heap.size ≤ (w6.setCells g (k * 8) N.enc).heap.size from Nat.le_trans HSZ.out (Nat.le_trans HB06.out.size (below_setCells (B := 0) (a := w6) (g := g) (Nat.zero_le _) N.enc (k * 8) (Below.refl _ _)).size))
      refine wp_store_own _ _ rfl g k rfl N rfl HO6.out HKL.out ?_
      refine hK.out _ _ ⟨K7.out.cell 2 0 _ rfl, (K7.out.at 0 rfl).out⟩ ?_
      clear hK K
      refine ord_nil ?_
      have HBF := Lib.hid (K7.out.drop 1)
      generalize w6.setCells g (k * 8) N.enc = w7 at *
      go_wp2
      go_roundw
      case rel => exact ⟨k + 1, hs2.set k N, HLT.out, by go_num, HC7.out, HO7.out, HP7.out, HBF.out, HS7.out⟩
      case measure => have := HLT.out; simp [intOf]; omega
    · have kn : ¬ (k : Int) < (T.n : Int) := fun e => hlt (Int.ofNat_lt.1 e)
      have hkn : k = T.n := by omega
      subst hkn
      have HCC := Lib.hid hC
      have HOO := Lib.hid hO
      have HPP := Lib.hid hP
      have HBB := Lib.hid hB
      have HSZ := Lib.hid hsz
      have HR1 := Lib.hid (show w.heap.size + 1 < wj.heap.size from kk.out.lt 0 rfl)
      clear hC hO hP hB hsz hlt hk c0
      go_wp2_with (first | (with_reducible refine load_tr rfl _ rfl w.heap.size rfl ⟨A2, T.n, c2, hs2, T.next, A5, T.on, c5, T.opens⟩ (box_range (HBB.out.at 1 rfl).out) ?_) | (with_reducible refine store_tr rfl _ _ rfl (w.heap.size + 1) rfl ⟨A2, T.n, c2, hs2, T.next, A5, T.on, c5, T.opens⟩ rfl zT (HBB.out.at 0 rfl).out rfl ?_))
      refine bodyPost_ret (v := Th.val ⟨A2, T.n, c2, hs2, T.next, A5, T.on, c5, T.opens⟩) (ret_tr rfl _ _ (w.heap.size + 1) ⟨A2, T.n, c2, hs2, T.next, A5, T.on, c5, T.opens⟩ zT rfl (HBB.out.at 0 rfl).out) rfl ?_
      refine ⟨(HBB.out.row 0 rfl _).low.out, A2, c2, A5, c5, hs2, rfl, own_rowT HOO.out (HBB.out.at 0 rfl).out (by decide) _, ⟨u5, HG5.out, own_rowT HPP.out (HBB.out.at 0 rfl).out (by decide) _, HB5.out⟩, wj.heap.size, kk.out.low.out.size, HU2.out, HU5.out, HCC.out.low (fun i hi => setRow_other _ (w.heap.size + 1) i _ (by have := HR1.out; omega)) (by simp)⟩
end Go.Proofs.YtemgejblnionlaaGreatDoor
