/-
  Texts Ca Cb Cc Cd Ce Cf, put together by program.
-/
import Derived.Test.YtemgejblnionlaaGreatDoorY0
import Derived.Test.YtemgejblnionlaaGreatDoorY11
import Derived.Test.YtemgejblnionlaaGreatDoorShelf
import Derived.Maps.RangeWalk
import Derived.Laws.StructEq
import Derived.RegionTactic
import Derived.Deep.QuietTactic
import Derived.BigQuiet
import Derived.Shelf.SlSortCmp.NoneTotal
import Derived.Lib.AppendZeros
namespace Go.Proofs.YtemgejblnionlaaGreatDoor
open Go.RowKit Go.Maps
set_option maxHeartbeats 16000000
set_option maxRecDepth 100000
abbrev Us := Int × Int
abbrev usv (u : Us) : Value := .agg #[.int .i64 u.1, .int .i64 u.2]
def encU (a : Int × Us) : List Value := [.int .i64 a.1, .int .i64 a.2.1, .int .i64 a.2.2]
theorem encU_len (a : Int × Us) : (encU a).length = 3 := rfl
theorem encU_one (a : Int × Us) : ∀ u ∈ encU a, u.oneCell' = true := oneC rfl
def addU (u v : Us) : Us := (wrap64 (u.1 + v.1), wrap64 (u.2 + v.2))
structure AccL (l : List (Int × Us)) (tot : Int → Us) : Prop where
 srt : l.Pairwise (fun a b => a.1 < b.1)
 mem : ∀ o u, (o, u) ∈ l ↔ tot o = u ∧ u ≠ (0, 0)
theorem AccL.one {l m : List (Int × Us)} {tot : Int → Us} (h : AccL l tot) (k : AccL m tot) : l = m := by
 have hp : l.Perm m := by
  refine (List.perm_ext_iff_of_nodup ?_ ?_).2 fun ⟨o, u⟩ => by rw [h.mem, k.mem]
  · exact h.srt.imp fun {a b} hab e => by subst e; omega
  · exact k.srt.imp fun {a b} hab e => by subst e; omega
 exact hp.eq_of_pairwise (fun a b _ _ h1 h2 => by omega) h.srt k.srt
def heldU : Value → Option (DataW Value × List MemPlace)
 | .agg cs => match cs.toList with
   | [.int .i64 a, .int .i64 b] => some (.held (usv (a, b)), [])
   | _ => none
 | _ => none
theorem heldU_shape {v : Value} {y : DataW Value × List MemPlace} (h : heldU v = some y) : ∃ c : Us, v = usv c ∧ y = (.held (usv c), []) := by
 unfold heldU at h
 split at h
 · rename_i cs
   split at h
   · rename_i a b e
     injection h with h
     have e2 : cs = #[.int .i64 a, .int .i64 b] := by rw [← Array.toArray_toList (xs := cs), e]
     exact ⟨(a, b), by rw [e2], h.symm⟩
   · cases h
 · cases h
theorem zeroU (w : World) : (zeroValue 42).run Tryz.prog w = .ok (usv (0, 0)) w := by kernel_rfl
def UseM (w : World) (g n : Nat) (F : Int → Option Us) : Prop :=
 ∃ D : DataW Value, w.ownsMap Tryz.prog 3 heldU g n D ∧ IsMap D ∧ (∀ x : Int, (Lit.int .i64 x).wf = true → (∀ zd, D.atKey (.int .i64 x) zd = (match F x with | some u => .held (usv u) | none => zd)) ∧ Maps.has D (.int .i64 x) = (F x).isSome) ∧ ∀ x u, F x = some u → (Lit.int .i64 x).wf = true
section
variable {w w' : World} {g n : Nat} {F : Int → Option Us}
theorem UseM.lt (h : UseM w g n F) : g < w.heap.size := by obtain ⟨D, h, _⟩ := h; exact h.lt
theorem UseM.keep (h : UseM w g n F) {B : Nat} (hb : Below B w w') (hg : g < B) : UseM w' g n F := by
 obtain ⟨D, h1, h2, h3⟩ := h
 obtain ⟨es, clock, h4, h5⟩ := h1
 exact ⟨D, ⟨es, clock, (hb.block _ hg).trans h4, h5⟩, h2, h3⟩
theorem UseM.made (w : World) : UseM (w.alloc (.map #[] 0)) w.heap.size 0 (fun _ => none) := ⟨.map [], World.ownsMap_made _ _ _ _, isMap_empty, fun _ _ => ⟨fun _ => rfl, rfl⟩, fun _ _ h => by cases h⟩
theorem UseM.look (h : UseM w g n F) {x : Int} (h0 : (Lit.int .i64 x).wf = true) : (Instr.lookup 107 (.map (some g)) (.int .i64 x) false).run Tryz.prog w = .ok (usv ((F x).getD (0, 0))) w := by
 obtain ⟨D, hm, h2, h3, -⟩ := h
 obtain ⟨v, ps, hrun, hv⟩ := hm.lookup keyedW Tryz.underlying107 (zeroU w) (zd := .held (usv (0, 0))) (zp := []) rfl (key_w h0)
 rw [(h3 x h0).1] at hv
 obtain ⟨c, rfl, e⟩ := heldU_shape hv
 rw [hrun]
 cases hF : F x with
 | none => rw [hF] at e; injection e with e _; injection e with e; exact congrArg (fun v => Result.ok v w) e.symm
 | some u => rw [hF] at e; injection e with e _; injection e with e; exact congrArg (fun v => Result.ok v w) e.symm
theorem UseM.update (h : UseM w g n F) (hn : n < maxLen) {x : Int} (h0 : (Lit.int .i64 x).wf = true) (u : Us) :
 ∃ w', (Instr.mapUpdate 107 (.map (some g)) (.int .i64 x) (usv u)).run Tryz.prog w = .ok () w' ∧ UseM w' g (n + 1) (fun y => if y = x then some u else F y) ∧ w.grownBy w' (some g) := by
 obtain ⟨D, hm, h2, h3, h4⟩ := h
 obtain ⟨w', hrun, hown, hg⟩ := hm.update keyedW Tryz.underlying107 hn (key_w h0) (val := usv u) (d := .held (usv u)) (ps := []) rfl
 refine ⟨w', hrun, ⟨_, hown, h2.put _ _, fun y y0 => ?_, fun y v hy => ?_⟩, hg⟩
 · by_cases e : y = x
   · subst e
     refine ⟨fun zd => ?_, ?_⟩
     · rw [atKey_put_same h2 (show WideAt.IsKeyLit (.int .i64 y) from trivial)]; dsimp only; rw [if_pos rfl]
     · rw [has_put_same h2 (show WideAt.IsKeyLit (.int .i64 y) from trivial)]; dsimp only; rw [if_pos rfl]; rfl
   · have hne : (Lit.int .i64 y) ≠ .int .i64 x := fun e' => e (by injection e')
     refine ⟨fun zd => ?_, ?_⟩
     · rw [atKey_put_other hne, (h3 y y0).1]; dsimp only; rw [if_neg e]
     · rw [has_put_other hne, (h3 y y0).2]; dsimp only; rw [if_neg e]
 · by_cases e : y = x
   · rw [e]; exact h0
   · dsimp only at hy; rw [if_neg e] at hy; exact h4 y v hy
end
theorem sum_lands (u v : Us) (w : World) : Calls Tryz.prog 51 #[usv u, usv v] w fun e w' => e = .returned (usv (addU u v)) ∧ Below w.heap.size w w' := by
 have kk0 := Bxs.nil w
 obtain ⟨x1, hwx1, hzx1, kx1⟩ := kk0.new rfl #[.int .i64 u.1, .int .i64 u.2] #[.int .i64 u.1, .int .i64 u.2] 42
 obtain ⟨x2, hwx2, hzx2, kx2⟩ := kx1.new hzx1 #[.int .i64 v.1, .int .i64 v.2] #[.int .i64 v.1, .int .i64 v.2] 42
 obtain ⟨x3, hwx3, hzx3, kx3⟩ := kx2.new hzx2 zG zG 42
 have HW1 := Lib.hid hwx1
 have HW2 := Lib.hid hwx2
 have HW3 := Lib.hid hwx3
 have K3 := Lib.hid kx3
 clear kk0 hwx1 hwx2 hwx3 hzx1 hzx2 hzx3 kx1 kx2 kx3
 go_enter Tryz.func51, Tryz.ntmps51
 go_upto_region 1 with fail
 rw [HW1.out, HW2.out, HW3.out]
 have c1 := K3.out.cell 2 0 (.int .i64 u.1) rfl
 have c2 := K3.out.cell 2 1 (.int .i64 u.2) rfl
 have c3 := K3.out.cell 1 0 (.int .i64 v.1) rfl
 have c4 := K3.out.cell 1 1 (.int .i64 v.2) rfl
 go_wp2_with (with_reducible refine wpList_store_row rfl 42 _ _ rfl (w.heap.size + 1 + 1) #[.int .i64 (wrap64 (u.1 + v.1)), .int .i64 (wrap64 (u.2 + v.2))] rfl rfl 42 zG (K3.out.at 0 rfl).out (by kernel_rfl) rfl (by simp [Value.oneCell']) ?_)
 have K4 := K3.out.row 0 rfl #[.int .i64 (wrap64 (u.1 + v.1)), .int .i64 (wrap64 (u.2 + v.2))]
 refine bodyPost_ret (results_cell_row rfl _ _ (w.heap.size + 1 + 1) 42 _ (0, 0) _ rfl (K4.at 0 rfl).out Tryz.underlying42 rfl (by kernel_rfl)) rfl ?_
 exact ⟨rfl, K4.low.out⟩
end Go.Proofs.YtemgejblnionlaaGreatDoor
namespace Go.Proofs.YtemgejblnionlaaGreatDoor
open Go.RowKit Go.Maps
set_option maxHeartbeats 16000000
set_option maxRecDepth 100000
theorem guardUse : Tryz.prog.eqGuardType Tryz.prog.depth 42 = false := by kernel_rfl
theorem equalUse (x y : Us) (w : World) : (Op.equalIn 10000 42 (usv x) (usv y)).run Tryz.prog w = .ok (decide (x = y)) w := by
 obtain ⟨xn, xb⟩ := x
 obtain ⟨yn, yb⟩ := y
 have u3 := Tryz.underlying3
 have a3 := Tryz.isAgg3
 have z3 := Tryz.sizeOf3
 have hS : Tryz.prog.underlying 42 = some (.struct (Tryz.prog.fieldsOf 42)) := by kernel_rfl
 have hp : Tryz.prog.stoodInHeld 42 = false := by kernel_rfl
 rw [show (10000 : Nat) = 9999 + 1 from rfl, run_equalIn_agg w 9999 42 _ _ hS hp]
 simp only [Program.fieldsOf, Tryz.underlying42]
 go_simp
 by_cases h1 : xn = yn <;> by_cases h2 : xb = yb <;> simp [h1, h2]
theorem neqUse (x y : Us) (w : World) : (binOp .neq 42 (usv x) (usv y)).run Tryz.prog w = .ok (.bool (!decide (x = y))) w := by
 rw [run_neq_struct, equalUse]; rfl
theorem eqlUse (x y : Us) (w : World) : (binOp .eql 42 (usv x) (usv y)).run Tryz.prog w = .ok (.bool (decide (x = y))) w := by
 rw [run_eql_struct, equalUse]; rfl
def totF (F : Int → Option Us) : Int → Us := fun o => (F o).getD (0, 0)
structure Coll (F : Int → Option Us) (left : Lit → Bool) (l : List (Int × Us)) : Prop where
 nd : (l.map (·.1)).Nodup
 mem : ∀ o u, (o, u) ∈ l ↔ left (.int .i64 o) = false ∧ F o = some u ∧ u ≠ (0, 0)
theorem Coll.start {F : Int → Option Us} {left : Lit → Bool} (h : ∀ o u, F o = some u → left (.int .i64 o) = true) : Coll F left [] :=
 ⟨List.nodup_nil, fun o u => ⟨fun h => by simp at h, fun ⟨h1, h2, _⟩ => by rw [h o u h2] at h1; cases h1⟩⟩
theorem strike_int {left : Lit → Bool} {x o : Int} : (left (.int .i64 o) && !(Lit.int .i64 o).sameKey (.int .i64 x)) = false ↔ left (.int .i64 o) = false ∨ o = x := by
 simp only [Lit.sameKey, true_and]
 cases left (.int .i64 o) <;> by_cases e : o = x <;> simp [e]
theorem Coll.next {F : Int → Option Us} {left : Lit → Bool} {l : List (Int × Us)} (h : Coll F left l) {x : Int} {c : Us} (hx : F x = some c) (hl : left (.int .i64 x) = true) (hc : c ≠ (0, 0)) : Coll F (fun z => left z && !z.sameKey (.int .i64 x)) (l ++ [(x, c)]) := by
 refine ⟨?_, fun o u => ?_⟩
 · rw [List.map_append, List.nodup_append]
   refine ⟨h.nd, by simp, fun a ha b hb e => ?_⟩
   simp at hb
   subst hb
   obtain ⟨⟨o, u⟩, hm, e2⟩ := List.mem_map.1 ha
   have := ((h.mem o u).1 hm).1
   dsimp only at e2
   rw [e2, e, hl] at this
   cases this
 · rw [List.mem_append, h.mem, strike_int]
   simp only [List.mem_singleton, Prod.mk.injEq]
   constructor
   · rintro (⟨h1, h2⟩ | ⟨rfl, rfl⟩)
     · exact ⟨.inl h1, h2⟩
     · exact ⟨.inr rfl, hx, hc⟩
   · rintro ⟨h1 | rfl, h2, h3⟩
     · exact .inl ⟨h1, h2, h3⟩
     · rw [hx] at h2; injection h2 with h2; exact .inr ⟨rfl, h2.symm⟩
theorem Coll.skip {F : Int → Option Us} {left : Lit → Bool} {l : List (Int × Us)} (h : Coll F left l) {x : Int} (hx : F x = some (0, 0)) : Coll F (fun z => left z && !z.sameKey (.int .i64 x)) l := by
 refine ⟨h.nd, fun o u => ?_⟩
 rw [h.mem, strike_int]
 constructor
 · rintro ⟨h1, h2⟩; exact ⟨.inl h1, h2⟩
 · rintro ⟨h1 | rfl, h2, h3⟩
   · exact ⟨h1, h2, h3⟩
   · rw [hx] at h2; injection h2 with h2; exact absurd h2.symm h3
theorem Coll.sorted {F : Int → Option Us} {left : Lit → Bool} {l m : List (Int × Us)} (h : Coll F left l) (hl : ∀ kl, left kl = false) (hp : m.Perm l) (hs : m.Pairwise (fun a b => a.1 ≤ b.1)) : AccL m (totF F) := by
 have hn : (m.map (·.1)).Nodup := (hp.map _).nodup_iff.2 h.nd
 refine ⟨?_, fun o u => ?_⟩
 · have h2 : m.Pairwise (fun a b => a.1 ≠ b.1) := List.pairwise_map.1 hn
   exact hs.imp₂ (fun {a b} h3 h4 => by omega) h2
 · rw [hp.mem_iff, h.mem]
   unfold totF
   constructor
   · rintro ⟨-, h2, h3⟩; rw [h2]; exact ⟨rfl, h3⟩
   · rintro ⟨h2, h3⟩
     refine ⟨hl _, ?_, h3⟩
     cases e : F o with
     | none => rw [e] at h2; exact absurd h2.symm h3
     | some v => rw [e] at h2; exact congrArg some h2
def SortU : Prop := ∀ (base : Nat) (A : Option Addr) (m c : Nat) (l : List (Int × Us)) (w : World), m ≤ 4294967296 → w.ownsRow base 67 3 (.slice A m c) m (encs encU l) →
    Calls Tryz.prog 98 #[.slice A m c, .func (.func 99) #[] #[]] w fun e w' => e = .returned (.tuple #[]) ∧ ∃ l', l'.Perm l ∧ l'.Pairwise (fun a b => a.1 ≤ b.1) ∧ w'.ownsRow base 67 3 (.slice A m c) m (encs encU l') ∧ Below base w w'
theorem grown_of {a b : World} (hb : Below a.heap.size a b) : a.grownBy b none := ⟨hb.os, hb.tape, hb.output, hb.size, fun i hi _ => hb.block i hi⟩
theorem wpList_append_gr {P : Program} {W : World} {ops : Array Oper} {rest : List Oper} {o : Oper} {a : Act} {Q : Exit → Act → World → Prop} (hgd : o.guard = none) (s x : Operand) (t : TypeId)
 (ho : o.op = .call { callee := .builtin .append, args := #[s, x], argTypes := #[t, t] })
 (base : Nat) (e : TypeId) (i : TypeInfo) (z : Value) (size bytes : Nat) (ht : P.underlying t = some (.slice e)) (hi : P.info? e = some i) (hz : i.zero = some z)
 (hsize : i.size = size) (hby : i.bytes = bytes) (hzs : z.cells.size = size) (hsz : 0 < size)
 (v : Value) (n : Nat) (xs : List Value) (hs : a.eval s = v) (hown : W.ownsRow base e size v n xs)
 (ad : Addr) (m c : Nat) (news : List Value) (hx : a.eval x = .slice (some ad) m c) (hl : news.length = m * size) (hnews : ∀ j u, news[j]? = some u → W.cell? (ad.add j) = some u) (h1 : ∀ u ∈ news, u.oneCell' = true)
 (h63 : n + m ≤ maxLen) (hbytes : (n + m) * bytes ≤ 140737488355328) (hbase : base ≤ W.heap.size)
 (h : ∀ v' w', w'.ownsRow base e size v' (n + m) (xs ++ news) → W.grownBy w' v.ownBlock → wpList P ops Q rest (a.put o.dst v') w') : wpList P ops Q (o :: rest) a W := by
 refine wpList_plain hgd fun K hK => ?_
 obtain ⟨v', w', hr, h2, h3, _, _⟩ := run_append_own_at (P := P) W base t o.type e i z size bytes ht hi hz hsize hby hzs hsz v n xs hown ad m c news hl hnews h1 h63 hbytes hbase
 unfold Oper.wp execOp
 simp only [ho, resolve, invoke, builtin, Sem.run_bind, Sem.run_pure, Result.andThen_ok, List.map_toArray, List.map_cons, List.map_nil, hs, hx, hr]
 exact hK _ _ (h _ _ h2 h3)
theorem add0' (b j : Nat) : (⟨b, 0, none⟩ : Addr).add j = ⟨b, j, none⟩ := by unfold Addr.add; split <;> simp_all
theorem new_row (W : World) (xs : List Value) (t : TypeId) (j : Nat) (u : Value) (h : xs[j]? = some u) : (W.alloc (.cells xs.toArray t)).cell? ((⟨W.heap.size, 0, none⟩ : Addr).add j) = some u := by
 rw [add0', cell_of_row _ _ j _ _ _ (heap_alloc_new W _)]
 simpa using h
theorem info_au : (Tryz.prog.info? 67).map (fun i => (i.zero, i.size, i.bytes)) = some (some (.agg #[.int .i64 0, .int .i64 0, .int .i64 0]), 3, 24) := by kernel_rfl
theorem accounts_lands (CS : SortU) (g n : Nat) (F : Int → Option Us) (w : World) (hM : UseM w g n F) (hn : n ≤ 1000000) :
 Calls Tryz.prog 53 #[.map (some g)] w fun e w' => ∃ A m c l, e = .returned (.slice A m c) ∧ w'.ownsRow w.heap.size 67 3 (.slice A m c) m (encs encU l) ∧ AccL l (totF F) ∧ m ≤ n ∧ Below w.heap.size w w' := by
 have hgl := hM.lt
 obtain ⟨D, hown, hD, hF, hwf⟩ := hM
 have hsz := hown.size_le
 obtain ⟨i2, hj, hj0, hj1, hj2⟩ := info_parts info_au
 have HS := Lib.hid CS
 have HF := Lib.hid hF
 have HWF := Lib.hid hwf
 have HN := Lib.hid hn
 have HSZ := Lib.hid hsz
 have HGL := Lib.hid hgl
 clear CS hF hwf hn hsz hgl hD
 go_enter Tryz.func53, Tryz.ntmps53
 go_wp2_with (first
  | (at_range; refine wpList_range_own _ rfl _ 107 rfl 3 42 keyedW Tryz.underlying107 _ g n _ rfl hown ?_; intro w0 hrg0 hg0 hs0)
  | go_in)
 go_frame
 obtain ⟨r0, hr0⟩ : ∃ r, w.heap.size = r := ⟨_, rfl⟩
 rw [hr0] at hrg0 hs0 ⊢
 have HR0 := Lib.hid hr0
 clear hr0
 go_loopw [3] (fun A wr => ∃ (left : Lit → Bool) (cnt m c : Nat) (B : Option Addr) (l : List (Int × Us)), A = .slice B m c ∧ wr.ranges Tryz.prog 3 heldU g r0 n D left cnt ∧ m + cnt ≤ n ∧ wr.ownsRow (r0 + 1) 67 3 (.slice B m c) m (encs encU l) ∧ Coll F left l ∧ Below r0 w wr ∧ r0 + 1 ≤ wr.heap.size) (fun _ wr => wr.rangeLeft g r0)
 case atStart =>
  refine ⟨_, _, 0, 0, none, [], rfl, hrg0, by have := HSZ.out; omega, World.ownsRow_nil _ _ _ _, Coll.start fun o u h => ?_, ?_, by omega⟩
  · rw [(HF.out o (HWF.out o u h)).2, h]; rfl
  · rw [← HR0.out]; exact (Below.refl _ w).grown hg0 (Nat.le_refl _) (fun j hj => by cases hj)
 case round =>
  obtain ⟨left, cnt, m, c, B, l, rfl, hrg, hmc, hO, hC, hbw, hrs⟩ := hrel
  have HO := Lib.hid hO
  have HC := Lib.hid hC
  have HBW := Lib.hid hbw
  have HRS := Lib.hid hrs
  have HMC := Lib.hid hmc
  clear hO hC hbw hrs hmc
  go_wp2_with (first
   | (at_next; refine wpList_next_ranges _ rfl _ rfl 3 keyedW heldU (Value.int .i64) usv (fun key kl hkey => by obtain ⟨x, rfl, _⟩ := Maps.keyOf_int_inv Tryz.underlying3 hkey; exact ⟨x, rfl⟩) (fun v y h => by obtain ⟨c, e, _⟩ := heldU_shape h; exact ⟨c, e⟩) g r0 n D left cnt rfl hrg ?_ ?_)
   | go_in)
  · intro hc0 hl0
    have HL0 := Lib.hid hl0
    have CS := Lib.hid (HS.out (r0 + 1) B m c l wr (by have := HMC.out; have := HN.out; omega) HO.out)
    clear hl0 hrg hc0
    go_wp2_with (go_at_call 98; (with_reducible refine CS.out.mono ?_); rintro e w5 ⟨rfl, l', hp, hs, hO', hb'⟩; have H5 := Lib.hid (And.intro hp (And.intro hs (And.intro hO' hb'))); clear hp hs hO' hb')
    go_ret
    obtain ⟨hp, hs, hO', hb'⟩ := H5.out
    exact ⟨B, m, c, l', rfl, by rw [HR0.out]; exact own_weak hO' (Nat.le_succ _), HC.out.sorted HL0.out hp hs, by have := HMC.out; omega, by rw [HR0.out]; exact HBW.out.trans (hb'.mono (Nat.le_succ _))⟩
  · intro x a b kl y1 y2 w1 cnt1 hkey hlx hR hat hrg1 hlt hg1 hs1 hen
    obtain ⟨x', ex, rfl, hwx⟩ := Maps.keyOf_int_inv Tryz.underlying3 hkey
    cases ex
    have hy := Option.some.inj hR
    injection hy with hy1 hy2
    subst hy1 hy2
    have hFx : F x = some (a, b) := by
     cases e : F x with
     | none =>
       have := (hat .nil).symm.trans ((HF.out x hwx).1 .nil)
       rw [e] at this; cases this
     | some v =>
       have := (hat .nil).symm.trans ((HF.out x hwx).1 .nil)
       rw [e] at this
       injection this with this
       injection this with this
       have e2 := congrArg Array.toList this
       simp at e2
       exact congrArg some (Prod.ext e2.1.symm e2.2.symm)
    have hO1 := own_blk (w' := w1) HO.out (fun k hk => hg1.block k (HO.out.lt k hk).2 (fun e => by have := (HO.out.lt k hk).1; injection e with e; omega))
    have hB1 : Below r0 w w1 := HBW.out.grown hg1 (by have := HRS.out; omega) (fun j hj => by cases hj; exact Nat.le_refl _)
    have HX := Lib.hid (And.intro hFx hlx)
    have HO1 := Lib.hid hO1
    have HB1 := Lib.hid hB1
    have HS1 := Lib.hid (show r0 + 1 ≤ w1.heap.size by rw [hs1]; exact HRS.out)
    have HLT := Lib.hid (And.intro hlt hrg.left_eq)
    have hbx : Below w1.heap.size w1 ((w1.alloc (.cells zG 42)).setRow w1.heap.size #[.int .i64 a, .int .i64 b]) := below_setRow ((Below.refl _ w1).alloc (Nat.le_refl _) _) (Nat.le_refl _) _
    have HBX := Lib.hid hbx
    have HCX := Lib.hid (setRow_heap (w1.alloc (.cells zG 42)) w1.heap.size zG #[.int .i64 a, .int .i64 b] 42 (0, 0) (heap_alloc_new w1 _))
    have HRG := Lib.hid (hrg1.kept (grown_of hbx) (by simp) (by simp))
    clear hkey hR hat hwx hFx hlx hlt hg1 hs1 hO1 hB1 hrg hrg1 hbx hown
    go_upto_region 5 with (first | (with_reducible refine wpList_store_row rfl 42 _ _ rfl w1.heap.size #[.int .i64 a, .int .i64 b] rfl rfl 42 zG (heap_alloc_new w1 _) (by kernel_rfl) rfl (by simp [Value.oneCell']) ?_) | go_in)
    generalize (w1.alloc (.cells zG 42)).setRow w1.heap.size #[.int .i64 a, .int .i64 b] = w2 at *
    have hne : ∀ W, (binOp .neq 42 (.agg #[.int .i64 a, .int .i64 b]) (.agg #[.int .i64 0, .int .i64 0])).run Tryz.prog W = .ok (.bool (!decide ((a, b) = ((0, 0) : Us)))) W := fun W => neqUse (a, b) (0, 0) W
    have gU := guardUse
    have HO2 := Lib.hid (own_keep HO1.out HBX.out)
    have HB2 := Lib.hid (HB1.out.trans (HBX.out.mono (by have := HS1.out; omega)))
    have HS2 := Lib.hid (Nat.le_trans HS1.out HBX.out.size)
    by_cases h0 : (a, b) = ((0, 0) : Us)
    · have e1 : decide ((a, b) = ((0, 0) : Us)) = true := decide_eq_true h0
      rw [e1] at hne
      have HH := Lib.hid (show F x = some (0, 0) by rw [← h0]; exact HX.out.1)
      clear e1 h0
      go_wp2_with (first | (with_reducible refine wpList_load_row rfl 42 _ rfl w1.heap.size rfl 42 #[.int .i64 a, .int .i64 b] (0, 0) _ HCX.out Tryz.underlying42 rfl (by kernel_rfl) ?_) | go_in)
      go_roundw
      case rel => exact ⟨_, cnt1, m, c, B, l, rfl, HRG.out, by have := HMC.out; have := HLT.out.1; omega, HO2.out, HC.out.skip HH.out, HB2.out, HS2.out⟩
      case measure => rw [HRG.out.left_eq, HLT.out.2]; exact HLT.out.1
    · have e1 : decide ((a, b) = ((0, 0) : Us)) = false := decide_eq_false h0
      rw [e1] at hne
      have HH := Lib.hid h0
      clear e1 h0
      go_wp2_with (first | (with_reducible refine wpList_load_row rfl 42 _ rfl w1.heap.size rfl 42 #[.int .i64 a, .int .i64 b] (0, 0) _ HCX.out Tryz.underlying42 rfl (by kernel_rfl) ?_) | (at_builtin; refine wpList_append_gr rfl _ _ 35 rfl (r0 + 1) 67 i2 _ 3 24 Tryz.underlying35 hj hj0 hj1 hj2 rfl (by decide) _ _ _ rfl (own_keep HO2.out ((Below.refl _ w2).alloc (Nat.le_refl _) _)) ⟨w2.heap.size, 0, none⟩ 1 1 (encU (x, (a, b))) rfl rfl (new_row w2 _ _) (encU_one _) (by unfold maxLen; have := HMC.out; have := HN.out; omega) (by have := HMC.out; have := HN.out; omega) (by have := HS2.out; simp; omega) ?_; intro v' w3 hown3 hg3; obtain ⟨B3, c3, rfl⟩ := own_form hown3; have HO3 := Lib.hid hown3; have HG3 := Lib.hid hg3; clear hown3 hg3) | go_in)
      have hnl := HO2.out.lt
      have hra : Below w2.heap.size w2 (w2.alloc (.cells (encU (x, (a, b))).toArray 67)) := (Below.refl _ w2).alloc (Nat.le_refl _) _
      have HR3 := Lib.hid ((HRG.out.kept (grown_of hra) (by simp) (by simp)).kept HG3.out (fun e => by have := (hnl _ e.symm).1; have := HGL.out; have := HR0.out; omega) (fun e => by have := (hnl _ e.symm).1; omega))
      have HB3 := Lib.hid ((HB2.out.trans (hra.mono (by have := HS2.out; omega))).grown HG3.out (by have := HS2.out; have := hra.size; omega) (fun k e => by have := (hnl k e).1; omega))
      have HS3 := Lib.hid (show r0 + 1 ≤ w3.heap.size from Nat.le_trans HS2.out (Nat.le_trans hra.size HG3.out.size))
      clear hnl hra
      go_roundw
      case rel => exact ⟨_, cnt1, m + 1, c3, B3, l ++ [(x, (a, b))], rfl, HR3.out, by have := HMC.out; have := HLT.out.1; omega, by have := HO3.out; unfold encs at this ⊢; rw [List.flatMap_append]; simpa using this, HC.out.next HX.out.1 HX.out.2 HH.out, HB3.out, HS3.out⟩
      case measure => rw [HR3.out.left_eq, HLT.out.2]; exact HLT.out.1
end Go.Proofs.YtemgejblnionlaaGreatDoor
namespace Go.Proofs.YtemgejblnionlaaGreatDoor
open Go.RowKit Go.Shelf Go.Lib Go.Sort
attribute [local go_sem] Oper.semAt_some
set_option maxHeartbeats 4000000
set_option maxRecDepth 100000
section
variable {α : Type} [Inhabited α] {f : α → List Value} {s : Nat} (hf : ∀ a, (f a).length = s) (hs : 0 < s)
include hf hs
theorem flatK_encs (L : List α) : flatK f s L.toArray = (encs f L).toArray := by
 have hz : (flatK f s L.toArray).size = (encs f L).toArray.size := by simp [encs_len hf]
 refine ext_get! hz fun t ht => ?_
 have ht' : t < L.length * s := by simpa using ht
 rw [get_flatK _ _ _ t (by simpa using ht')]
 have hq : t / s < L.length := Nat.div_lt_of_lt_mul (by rw [Nat.mul_comm]; exact ht')
 have hg : L[t / s]? = some L[t / s] := List.getElem?_eq_getElem hq
 have e0 : (L.toArray)[t / s]! = L[t / s] := by simp [hq]
 rw [e0]
 have hr : t % s < s := Nat.mod_lt _ hs
 have h1 := encs_get hf (show t % s < s from hr) hg
 have h2 : t / s * s + t % s = t := by rw [Nat.mul_comm]; exact Nat.div_add_mod t s
 rw [h2] at h1
 have h3 : t % s < (f L[t / s]).length := by rw [hf]; exact hr
 have h4 : (f L[t / s])[t % s]? = some (f L[t / s])[t % s] := List.getElem?_eq_getElem h3
 rw [h4] at h1
 rw [Array.getElem!_eq_getD, Array.getD_eq_getD_getElem?, List.getElem?_toArray, h1]
 simp [h3]
theorem own_holds {w : World} {base g m c : Nat} {e : TypeId} {L : List α} (h : w.ownsRow base e s (.slice (some ⟨g, 0, none⟩) m c) m (encs f L)) : HoldsK f s w g 0 L.toArray := by
 unfold HoldsK
 rw [flatK_encs hf hs]
 intro k hk
 rw [Nat.zero_add]
 have hk' : k < (encs f L).length := by simpa using hk
 have := own_at h (j := k) (u := (encs f L)[k]) (List.getElem?_eq_getElem hk')
 refine ⟨?_, this.2⟩
 rw [this.1]
 simp [hk']
theorem own_sorted {w : World} {base g m c n : Nat} {e : TypeId} {L : List α} {d' : Array α} {os : _} (h : w.ownsRow base e s (.slice (some ⟨g, 0, none⟩) m c) m (encs f L)) (hd : d'.size = m) :
 (sortWorldK f s w g 0 n d' os).ownsRow base e s (.slice (some ⟨g, 0, none⟩) m c) m (encs f d'.toList) ∧ Below base w (sortWorldK f s w g 0 n d' os) := by
 rcases h.2 with ⟨hv, hn⟩ | ⟨g', cap, cur, hv, hbg, hgb, hnc, hcm, hcs, htake⟩
 · cases hv
 · injection hv with hv _ hc
   injection hv with hv
   injection hv with hv
   subst hv hc
   have hgs := (Array.getElem?_eq_some_iff.1 hgb).1
   have hF : flatK f s d' = (encs f d'.toList).toArray := by rw [← flatK_encs hf hs d'.toList, Array.toArray_toList]
   unfold sortWorldK putRowK
   rw [hF]
   have hl' : d'.toList.length = m := by rw [Array.length_toList]; exact hd
   have hlen : (encs f d'.toList).length = m * s := by rw [encs_len hf, hl']
   have hheap : (grow (putRow id (Sort.ahead w n) g 0 (encs f d'.toList).toArray) os).heap[g]? = some (.cells (putCells id 0 (encs f d'.toList).toArray cur) e (0, 0)) := by
    rw [heap_grow_old _ _ (by simpa using hgs)]
    simp [putRow, mapBlock, Sort.ahead, Array.getElem?_modify, hgb, onCells]
   have hms : m * s ≤ c * s := Nat.mul_le_mul_right _ hnc
   refine ⟨⟨hlen, .inr ⟨g, c, _, rfl, hbg, hheap, hnc, hcm, by simp [putCells, hcs], ?_⟩⟩, ?_⟩
   · apply List.ext_getElem?
     intro k
     by_cases hk : k < m * s
     · have hc3 : k < cur.size := by rw [hcs]; omega
       rw [List.getElem?_take_of_lt hk, Array.getElem?_toList]
       simp [putCells, hlen, hk, hc3]
     · rw [List.getElem?_take_eq_none (by omega), List.getElem?_eq_none (by omega)]
   · refine ⟨rfl, rfl, rfl, by simp, fun k hk => ?_⟩
     have hne : g ≠ k := by omega
     rw [heap_grow_old _ _ (by simp; omega)]
     simp [putRow, mapBlock, Sort.ahead, Array.getElem?_modify, hne]
end
theorem cmpU_any (d e : Int × Us) (W : World) : Calls Tryz.prog 99 #[.agg (encU d).toArray, .agg (encU e).toArray] W fun r w' => r = .returned (.int .i64 (Lib.compareInt d.1 e.1)) ∧ ∃ q os', w' = grow (W.drewN q) os' := by
 have hcon := fun W' => Tryz.cmp_Compare_int d.1 e.1 W'
 change ∀ W', Calls Tryz.prog 93 _ _ _ at hcon
 generalize Lib.compareInt d.1 e.1 = r at hcon ⊢
 show Calls Tryz.prog 99 #[.agg #[.int .i64 d.1, .int .i64 d.2.1, .int .i64 d.2.2], .agg #[.int .i64 e.1, .int .i64 e.2.1, .int .i64 e.2.2]] W _
 go_enter Tryz.func99, Tryz.ntmps99
 go_wp2_with (go_at_call 93; refine (hcon _).mono ?_; rintro e w' ⟨rfl, rfl⟩)
 go_ret
 exact ⟨rfl, 0, _, by rw [alloc_eq_grow, alloc_eq_grow, grow_grow]; rfl⟩
theorem ltU (d e : Int × Us) : ltOf (fun d e : Int × Us => Lib.compareInt d.1 e.1) d e = decide (d.1 < e.1) := by
 unfold ltOf Lib.compareInt
 by_cases h1 : d.1 < e.1
 · simp [h1]
 · by_cases h2 : e.1 < d.1 <;> simp [h1, h2]
theorem swoU : SWO (ltOf fun d e : Int × Us => Lib.compareInt d.1 e.1) :=
 ⟨fun x => by rw [ltU]; simp, fun x y z h1 h2 => by rw [ltU] at *; simp at *; omega, fun x y z h1 h2 => by rw [ltU] at *; simp at *; omega⟩
theorem sortU_c : SortU := by
 intro base A m c L w hm hown
 have hl : L.length = m := own_plen encU_len hown (by decide)
 by_cases h0 : m = 0
 · subst h0
   have hcon := AnyF.slices_SortFunc_none Tryz.sortU A c (.func (.func 99) #[] #[]) w
   change Calls Tryz.prog 98 _ _ _ at hcon
   refine hcon.mono ?_
   rintro e w' ⟨rfl, rfl⟩
   obtain rfl : L = [] := List.eq_nil_of_length_eq_zero hl
   exact ⟨rfl, [], List.Perm.refl _, List.Pairwise.nil, hown, Below.refl _ _⟩
 · obtain ⟨g, cap, hv, hbg, hgs⟩ := hown.form (Nat.pos_of_ne_zero h0)
   injection hv with hv _ hc
   subst hv hc
   have eg : ∀ args w, (callFunc 99 args).run Tryz.prog w = .ok (.enter 99 args) w := enters_of Tryz.func99 (by kernel_rfl) rfl
   have hcon := AnyQ.slices_SortFunc Tryz.sortU 3 Tryz.isAgg67 Tryz.sizeOf67 encU (fun _ => rfl) encU_one (fun d e => Lib.compareInt d.1 e.1) swoU 99 #[] g 0 c L.toArray w eg
    (fun _ _ _ _ d e => cmpU_any d e _) (own_holds encU_len (by decide) hown) (hown.lt g rfl).2 (by simp; omega)
   change Calls Tryz.prog 98 _ _ _ at hcon
   rw [List.size_toArray, hl] at hcon
   refine hcon.mono ?_
   rintro e w' ⟨rfl, d', n, os, hp, hs, rfl⟩
   obtain ⟨hps, _, hpp⟩ := hp
   replace hps : d'.size = m := hps.trans (by simpa using hl)
   have hl' : d'.toList.length = m := by rw [Array.length_toList]; exact hps
   have hperm : d'.toList.Perm L := by
    have e1 : (d'.extract 0 m).toList = d'.toList := by rw [← hps]; simp
    have e2 : (L.toArray.extract 0 m).toList = L := by rw [← hl]; simp
    rw [e1, e2] at hpp
    exact hpp
   have hsort : d'.toList.Pairwise (fun d e => d.1 ≤ e.1) := by
    rw [List.pairwise_iff_getElem]
    intro i j hi hj hij
    have := hs i j (Nat.zero_le _) hij (by rw [hl'] at hj; exact hj)
    rw [ltU, decide_eq_false_iff_not] at this
    rw [Array.length_toList] at hi hj
    rw [getElem!_pos d' j hj, getElem!_pos d' i hi] at this
    rw [Array.getElem_toList, Array.getElem_toList]
    omega
   obtain ⟨o1, o2⟩ := own_sorted (n := n) (os := os) encU_len (by decide) hown hps
   exact ⟨rfl, d'.toList, hperm, hsort, o1, o2⟩
end Go.Proofs.YtemgejblnionlaaGreatDoor
namespace Go.Proofs.YtemgejblnionlaaGreatDoor
open Go.RowKit Go.Maps
set_option maxHeartbeats 16000000
set_option maxRecDepth 100000
def allU (l : List (Int × Us)) : Us := l.foldl (fun s a => addU s a.2) (0, 0)
theorem allU_snoc (l : List (Int × Us)) (a : Int × Us) : allU (l ++ [a]) = addU (allU l) a.2 := by unfold allU; rw [List.foldl_append]; rfl
def getU (l : List (Int × Us)) (o : Int) : Us := ((l.find? (fun a => a.1 == o)).map (·.2)).getD (0, 0)
theorem takeU_snoc {α : Type} {l : List α} {k : Nat} {a : α} (h : l[k]? = some a) : l.take (k + 1) = l.take k ++ [a] := by
 rw [List.take_add_one, h]; rfl
theorem load_us {ops : Array Oper} {rest : List Oper} {o : Oper} {a : Act} {w : World} {Q : Exit → Act → World → Prop} (hgd : o.guard = none) (x : Operand) (ho : o.op = .load 42 x)
 (b k : Nat) (hx : a.eval x = .pointer (some ⟨b, k, none⟩)) (u : Us) (hc : w.rangeAt b k [.int .i64 u.1, .int .i64 u.2]) (hr : wpList Tryz.prog ops Q rest (a.put o.dst (usv u)) w) : wpList Tryz.prog ops Q (o :: rest) a w :=
 wpList_load_mid hgd 42 x ho b k hx [.int .i64 u.1, .int .i64 u.2] _ hc Tryz.underlying42 rfl (by kernel_rfl) hr
theorem load_au {ops : Array Oper} {rest : List Oper} {o : Oper} {a : Act} {w : World} {Q : Exit → Act → World → Prop} (hgd : o.guard = none) (x : Operand) (ho : o.op = .load 67 x)
 (b k : Nat) (hx : a.eval x = .pointer (some ⟨b, k, none⟩)) (u : Int × Us) (hc : w.rangeAt b k (encU u)) (hr : wpList Tryz.prog ops Q rest (a.put o.dst (.agg (encU u).toArray)) w) : wpList Tryz.prog ops Q (o :: rest) a w :=
 wpList_load_mid hgd 67 x ho b k hx (encU u) _ hc Tryz.underlying67 rfl (by kernel_rfl) hr
theorem store_au {ops : Array Oper} {rest : List Oper} {o : Oper} {a : Act} {w : World} {Q : Exit → Act → World → Prop} (hgd : o.guard = none) (x y : Operand) (ho : o.op = .store 67 x y)
 (g : Nat) (hx : a.eval x = .pointer (some ⟨g, 0, none⟩)) (u : Int × Us) (hy : a.eval y = .agg (encU u).toArray) (old : Array Value) (hg : w.heap[g]? = some (.cells old 67 (0, 0))) (hold : old.size = 3)
 (hr : wpList Tryz.prog ops Q rest (a.put o.dst undef) (w.setRow g (encU u).toArray)) : wpList Tryz.prog ops Q (o :: rest) a w :=
 wpList_store_row hgd 67 x y ho g (encU u).toArray hx hy 67 old hg (by kernel_rfl) hold (by simp [encU, Value.oneCell']) hr
theorem store_us {ops : Array Oper} {rest : List Oper} {o : Oper} {a : Act} {w : World} {Q : Exit → Act → World → Prop} (hgd : o.guard = none) (x y : Operand) (ho : o.op = .store 42 x y)
 (g : Nat) (hx : a.eval x = .pointer (some ⟨g, 0, none⟩)) (u : Us) (hy : a.eval y = usv u) (old : Array Value) (hg : w.heap[g]? = some (.cells old 42 (0, 0))) (hold : old.size = 2)
 (hr : wpList Tryz.prog ops Q rest (a.put o.dst undef) (w.setRow g #[.int .i64 u.1, .int .i64 u.2])) : wpList Tryz.prog ops Q (o :: rest) a w :=
 wpList_store_row hgd 42 x y ho g #[.int .i64 u.1, .int .i64 u.2] hx hy 42 old hg (by kernel_rfl) hold (by simp [Value.oneCell']) hr
theorem ret_us {fn : Func} {p : Tmp} (h : fn.results = #[.cell p 42]) (tmps : Array Value) (w : World) (g : Nat) (u : Us) (hp : tmps.getD p undef = .pointer (some ⟨g, 0, none⟩)) (hg : w.heap[g]? = some (.cells #[.int .i64 u.1, .int .i64 u.2] 42 (0, 0))) : (results fn tmps).run Tryz.prog w = .ok (usv u) w :=
 results_cell_row h tmps w g 42 _ (0, 0) _ hp hg Tryz.underlying42 rfl (by kernel_rfl)
abbrev zA : Array Value := #[.int .i64 0, .int .i64 0, .int .i64 0]
abbrev urow (u : Us) : Array Value := #[.int .i64 u.1, .int .i64 u.2]
theorem All_lands (A : Option Addr) (n c : Nat) (l : List (Int × Us)) (w : World) (hA : Sv w A n c 3 (encs encU l)) (hn : n ≤ 1000000) :
 Calls Tryz.prog 22 #[.slice A n c] w fun e w' => e = .returned (usv (allU l)) ∧ Below w.heap.size w w' := by
 have HA := Lib.hid hA
 have HL := Lib.hid (hA.plen encU_len (by decide))
 have HN := Lib.hid hn
 have CS := Lib.hid (fun u v W => sum_lands u v W)
 clear hA hn
 have kk0 := Bxs.nil w
 obtain ⟨x1, hwx1, hzx1, kx1⟩ := kk0.new rfl zG zG 42
 obtain ⟨x2, hwx2, hzx2, kx2⟩ := kx1.new hzx1 zG zG 42
 have HW1 := Lib.hid hwx1
 have HW2 := Lib.hid hwx2
 have K2 := Lib.hid kx2
 have hz1 := hzx1
 clear kk0 hwx1 hwx2 hzx1 hzx2 kx1 kx2
 go_enter Tryz.func22, Tryz.ntmps22
 go_upto_region 1 with fail
 rw [HW1.out]
 go_upto_region 2 with fail
 rw [HW2.out]
 go_wp2
 clear hz1
 go_loopw [8] (fun i wr => ∃ (k : Nat), k ≤ n ∧ i = .int .i64 k ∧ Bxs w [(w.heap.size + 1, urow (allU (l.take k)), 42), (w.heap.size, zG, 42)] wr) (fun i _ => n - (intOf i).toNat)
 case atStart => exact ⟨0, Nat.zero_le _, rfl, K2.out⟩
 case round =>
  obtain ⟨k, hk, rfl, hB⟩ := hrel
  have HB := Lib.hid hB
  clear hB
  by_cases hlt : k < n
  · obtain ⟨a, ha⟩ : ∃ a, l[k]? = some a := ⟨_, List.getElem?_eq_getElem (by rw [HL.out]; exact hlt)⟩
    have kn : (k : Int) < (n : Int) := Int.ofNat_lt.2 hlt
    have k0 : (0 : Int) ≤ (k : Int) := Int.natCast_nonneg k
    have hwj : IntKind.i64.wrap ((k : Int) + 1) = (k : Int) + 1 := IntWalk.i64_in _ (by have := HN.out; omega)
    obtain ⟨g, ad, rfl, hg, hc⟩ := Sv.range encU_len (by decide) (HA.out.below HB.out.low.out) ha
    have HC := Lib.hid hc
    have HT := Lib.hid (show allU (l.take (k + 1)) = addU (allU (l.take k)) a.2 by rw [takeU_snoc ha, allU_snoc])
    have HLT := Lib.hid hlt
    clear hc ha hlt hk
    obtain ⟨y1, hwy1, hzy1, ky1⟩ := HB.out.new rfl zA zA 67
    have HY1 := Lib.hid hwy1
    have KY1 := Lib.hid ky1
    have KY2 := Lib.hid (ky1.row 0 rfl (encU a).toArray)
    clear hwy1 hzy1 ky1
    go_upto_region 5 with (first | rw [HY1.out] | (with_reducible refine load_au rfl _ rfl g (ad + k * 3) rfl a HC.out ?_) | (with_reducible refine store_au rfl _ _ rfl wr.heap.size rfl a rfl zA (KY1.out.at 0 rfl).out rfl ?_))
    generalize y1.setRow wr.heap.size (encU a).toArray = y2 at *
    have CSa := Lib.hid (CS.out (allU (l.take k)) a.2 y2)
    go_wp2_with (first | (with_reducible refine load_us rfl _ rfl (w.heap.size + 1) 0 rfl (allU (l.take k)) (mid_range (KY2.out.at 1 rfl).out 0 _ rfl) ?_) | (with_reducible refine load_us rfl _ rfl wr.heap.size 1 rfl a.2 (mid_range (KY2.out.at 0 rfl).out 1 _ rfl) ?_) | (go_at_call 51; (with_reducible refine CSa.out.mono ?_); rintro e w5 ⟨rfl, hb5⟩; have K5 := Lib.hid (KY2.out.step hb5); clear hb5) | (with_reducible refine store_us rfl _ _ rfl (w.heap.size + 1) rfl (addU (allU (l.take k)) a.2) rfl _ (K5.out.at 1 rfl).out rfl ?_))
    have K6 := (K5.out.row 1 rfl (urow (addU (allU (l.take k)) a.2))).drop 1
    rw [← HT.out] at K6
    have HK6 := Lib.hid K6
    clear K6
    rw [← HT.out]
    generalize w5.setRow (w.heap.size + 1) (urow (allU (l.take (k + 1)))) = w6 at *
    go_roundw
    case rel => exact ⟨k + 1, HLT.out, by go_num, HK6.out⟩
    case measure => have := HLT.out; simp [intOf]; omega
  · have kn : ¬ (k : Int) < (n : Int) := fun e => hlt (Int.ofNat_lt.1 e)
    have hkn : k = n := by omega
    subst hkn
    have ht : l.take k = l := List.take_of_length_le (by rw [HL.out]; exact Nat.le_refl _)
    rw [ht] at HB
    clear hlt hk ht
    go_wp2_with (first | (with_reducible refine load_us rfl _ rfl (w.heap.size + 1) 0 rfl (allU l) (mid_range (HB.out.at 0 rfl).out 0 _ rfl) ?_) | (with_reducible refine store_us rfl _ _ rfl w.heap.size rfl (allU l) rfl zG (HB.out.at 1 rfl).out rfl ?_))
    have K4 := HB.out.row 1 rfl (urow (allU l))
    refine bodyPost_ret (ret_us rfl _ _ w.heap.size (allU l) rfl (K4.at 1 rfl).out) rfl ?_
    exact ⟨rfl, K4.low.out⟩
theorem Get_lands (A : Option Addr) (n c : Nat) (l : List (Int × Us)) (o : Int) (w : World) (hA : Sv w A n c 3 (encs encU l)) (hn : n ≤ 1000000) :
 Calls Tryz.prog 24 #[.slice A n c, .int .i64 o] w fun e w' => e = .returned (usv (getU l o)) ∧ Below w.heap.size w w' := by
 have HA := Lib.hid hA
 have HL := Lib.hid (hA.plen encU_len (by decide))
 have HN := Lib.hid hn
 clear hA hn
 have kk0 := Bxs.nil w
 obtain ⟨x1, hwx1, hzx1, kx1⟩ := kk0.new rfl zG zG 42
 have HW1 := Lib.hid hwx1
 have K1 := Lib.hid kx1
 clear kk0 hwx1 hzx1 kx1
 go_enter Tryz.func24, Tryz.ntmps24
 go_upto_region 1 with fail
 rw [HW1.out]
 go_wp2
 go_loopw [9] (fun i wr => ∃ (k : Nat), k ≤ n ∧ i = .int .i64 k ∧ getU l o = getU (l.drop k) o ∧ Bxs w [(w.heap.size, zG, 42)] wr) (fun i _ => n - (intOf i).toNat)
 case atStart => exact ⟨0, Nat.zero_le _, rfl, rfl, K1.out⟩
 case round =>
  obtain ⟨k, hk, rfl, hgt, hB⟩ := hrel
  have HB := Lib.hid hB
  have HG := Lib.hid hgt
  clear hB hgt
  by_cases hlt : k < n
  · obtain ⟨a, ha⟩ : ∃ a, l[k]? = some a := ⟨_, List.getElem?_eq_getElem (by rw [HL.out]; exact hlt)⟩
    have kn : (k : Int) < (n : Int) := Int.ofNat_lt.2 hlt
    have k0 : (0 : Int) ≤ (k : Int) := Int.natCast_nonneg k
    have hwj : IntKind.i64.wrap ((k : Int) + 1) = (k : Int) + 1 := IntWalk.i64_in _ (by have := HN.out; omega)
    obtain ⟨g, ad, rfl, hg, hc⟩ := Sv.range encU_len (by decide) (HA.out.below HB.out.low.out) ha
    have HC := Lib.hid hc
    have hdr : l.drop k = a :: l.drop (k + 1) := by obtain ⟨hl, he⟩ := List.getElem?_eq_some_iff.1 ha; rw [List.drop_eq_getElem_cons hl, he]
    have HT := Lib.hid (show getU (l.drop k) o = if a.1 = o then a.2 else getU (l.drop (k + 1)) o by
     rw [hdr]; unfold getU
     by_cases e : a.1 = o
     · simp [e]
     · simp [e])
    have HLT := Lib.hid hlt
    clear hc ha hlt hk hdr
    obtain ⟨y1, hwy1, hzy1, ky1⟩ := HB.out.new rfl zA zA 67
    have HY1 := Lib.hid hwy1
    have KY1 := Lib.hid ky1
    have KY2 := Lib.hid (ky1.row 0 rfl (encU a).toArray)
    clear hwy1 hzy1 ky1
    go_upto_region 4 with (first | rw [HY1.out] | (with_reducible refine load_au rfl _ rfl g (ad + k * 3) rfl a HC.out ?_) | (with_reducible refine store_au rfl _ _ rfl wr.heap.size rfl a rfl zA (KY1.out.at 0 rfl).out rfl ?_))
    generalize y1.setRow wr.heap.size (encU a).toArray = y2 at *
    have c0 : y2.cell? ⟨wr.heap.size, 0, none⟩ = some (.int .i64 a.1) := KY2.out.cell 0 0 _ rfl
    by_cases he : a.1 = o
    · have e1 : (a.1 == o) = true := by simp [he]
      have HE := Lib.hid (HG.out.trans (HT.out.trans (if_pos he)))
      clear he
      go_wp2_with (first | (with_reducible refine load_us rfl _ rfl wr.heap.size 1 rfl a.2 (mid_range (KY2.out.at 0 rfl).out 1 _ rfl) ?_) | (with_reducible refine store_us rfl _ _ rfl w.heap.size rfl a.2 rfl zG (KY2.out.at 1 rfl).out rfl ?_))
      have K4 := KY2.out.row 1 rfl (urow a.2)
      refine bodyPost_ret (ret_us rfl _ _ w.heap.size a.2 rfl (K4.at 1 rfl).out) rfl ?_
      exact ⟨by rw [HE.out], K4.low.out⟩
    · have e1 : (a.1 == o) = false := by simp [he]
      have HE := Lib.hid (HG.out.trans (HT.out.trans (if_neg he)))
      clear he
      go_wp2
      have HK := Lib.hid (KY2.out.drop 1)
      go_roundw
      case rel => exact ⟨k + 1, HLT.out, by go_num, HE.out, HK.out⟩
      case measure => have := HLT.out; simp [intOf]; omega
  · have kn : ¬ (k : Int) < (n : Int) := fun e => hlt (Int.ofNat_lt.1 e)
    have hkn : k = n := by omega
    subst hkn
    have ht : getU l o = (0, 0) := by
     rw [HG.out, List.drop_eq_nil_of_le (by rw [HL.out]; exact Nat.le_refl _)]; rfl
    have HT := Lib.hid ht
    clear hlt hk ht
    go_wp2_with (with_reducible refine store_us rfl _ _ rfl w.heap.size rfl (0, 0) rfl zG (HB.out.at 0 rfl).out rfl ?_)
    have K4 := HB.out.row 0 rfl (urow (0, 0))
    refine bodyPost_ret (ret_us rfl _ _ w.heap.size (0, 0) rfl (K4.at 0 rfl).out) rfl ?_
    exact ⟨by rw [HT.out], K4.low.out⟩
theorem limited_lands (A : Option Addr) (n c : Nat) (l : List (Int × Us)) (o : Int) (w : World) (hA : Sv w A n c 3 (encs encU l)) (hn : n ≤ 1000000) :
 Calls Tryz.prog 61 #[.slice A n c, .int .i64 o] w fun e w' => e = .returned (usv (if o = -1 then allU l else getU l o)) ∧ Below w.heap.size w w' := by
 have kk0 := Bxs.nil w
 obtain ⟨x1, hwx1, hzx1, kx1⟩ := kk0.new rfl zG zG 42
 have HW1 := Lib.hid hwx1
 have K1 := Lib.hid kx1
 have CA := Lib.hid (All_lands A n c l x1 (hA.below kx1.low.out) hn)
 have CG := Lib.hid (Get_lands A n c l o x1 (hA.below kx1.low.out) hn)
 clear kk0 hwx1 hzx1 kx1 hA hn
 by_cases h : o = -1
 · have e1 : (o == -1) = true := by simp [h]
   rw [if_pos h]
   clear h CG
   go_enter Tryz.func61, Tryz.ntmps61
   go_upto_region 1 with fail
   rw [HW1.out]
   go_wp2_with (first | (go_at_call 22; (with_reducible refine CA.out.mono ?_); rintro e w5 ⟨rfl, hb5⟩; have K5 := Lib.hid (K1.out.step hb5); clear hb5) | (with_reducible refine store_us rfl _ _ rfl w.heap.size rfl (allU l) rfl zG (K5.out.at 0 rfl).out rfl ?_))
   have K4 := K5.out.row 0 rfl (urow (allU l))
   refine bodyPost_ret (ret_us rfl _ _ w.heap.size (allU l) rfl (K4.at 0 rfl).out) rfl ?_
   exact ⟨rfl, K4.low.out⟩
 · have e1 : (o == -1) = false := by simp [h]
   rw [if_neg h]
   clear h CA
   go_enter Tryz.func61, Tryz.ntmps61
   go_upto_region 1 with fail
   rw [HW1.out]
   go_wp2_with (first | (go_at_call 24; (with_reducible refine CG.out.mono ?_); rintro e w5 ⟨rfl, hb5⟩; have K5 := Lib.hid (K1.out.step hb5); clear hb5) | (with_reducible refine store_us rfl _ _ rfl w.heap.size rfl (getU l o) rfl zG (K5.out.at 0 rfl).out rfl ?_))
   have K4 := K5.out.row 0 rfl (urow (getU l o))
   refine bodyPost_ret (ret_us rfl _ _ w.heap.size (getU l o) rfl (K4.at 0 rfl).out) rfl ?_
   exact ⟨rfl, K4.low.out⟩
def negU (a : Int × Us) : Int × Us := (a.1, (wrap64 (-a.2.1), wrap64 (-a.2.2)))
theorem negative_lands (A : Option Addr) (n c : Nat) (l : List (Int × Us)) (w : World) (hA : Sv w A n c 3 (encs encU l)) (hn : n ≤ 1000000) :
 Calls Tryz.prog 54 #[.slice A n c] w fun e w' => ∃ B m d, e = .returned (.slice B m d) ∧ w'.ownsRow w.heap.size 67 3 (.slice B m d) m (encs encU (l.map negU)) ∧ m = n ∧ Below w.heap.size w w' := by
 obtain ⟨i2, hj, hj0, hj1, hj2⟩ := info_parts info_au
 have HA := Lib.hid hA
 have HL := Lib.hid (hA.plen encU_len (by decide))
 have HN := Lib.hid hn
 clear hA hn
 go_enter Tryz.func54, Tryz.ntmps54
 go_wp2
 go_loopw [3, 8] (fun v i wr => ∃ (k d : Nat) (B : Option Addr), k ≤ n ∧ i = .int .i64 k ∧ v = .slice B k d ∧ wr.ownsRow w.heap.size 67 3 (.slice B k d) k (encs encU ((l.take k).map negU)) ∧ Below w.heap.size w wr) (fun _ i _ => n - (intOf i).toNat)
 case atStart => exact ⟨0, 0, none, Nat.zero_le _, rfl, rfl, World.ownsRow_nil _ _ _ _, by go_grown⟩
 case round =>
  obtain ⟨k, d, B, hk, rfl, rfl, hO, hB⟩ := hrel
  have HB := Lib.hid hB
  have HO := Lib.hid hO
  clear hB hO
  by_cases hlt : k < n
  · obtain ⟨a, ha⟩ : ∃ a, l[k]? = some a := ⟨_, List.getElem?_eq_getElem (by rw [HL.out]; exact hlt)⟩
    have kn : (k : Int) < (n : Int) := Int.ofNat_lt.2 hlt
    have k0 : (0 : Int) ≤ (k : Int) := Int.natCast_nonneg k
    have hwj : IntKind.i64.wrap ((k : Int) + 1) = (k : Int) + 1 := IntWalk.i64_in _ (by have := HN.out; omega)
    obtain ⟨g, ad, rfl, hg, hc⟩ := Sv.range encU_len (by decide) (HA.out.below HB.out) ha
    have HC := Lib.hid hc
    have HT := Lib.hid (show (l.take (k + 1)).map negU = (l.take k).map negU ++ [negU a] by rw [takeU_snoc ha, List.map_append]; rfl)
    have HLT := Lib.hid hlt
    have HSZ := Lib.hid HB.out.size
    clear hc ha hlt hk
    have kk0 := Bxs.nil wr
    obtain ⟨y1, hwy1, hzy1, ky1⟩ := kk0.new rfl zA zA 67
    have HY1 := Lib.hid hwy1
    have KY1 := Lib.hid ky1
    have KY2 := Lib.hid (ky1.row 0 rfl (encU a).toArray)
    clear kk0 hwy1 hzy1 ky1
    go_upto_region 5 with (first | rw [HY1.out] | (with_reducible refine load_au rfl _ rfl g (ad + k * 3) rfl a HC.out ?_) | (with_reducible refine store_au rfl _ _ rfl wr.heap.size rfl a rfl zA (KY1.out.at 0 rfl).out rfl ?_))
    generalize y1.setRow wr.heap.size (encU a).toArray = y2 at *
    have c0 : y2.cell? ⟨wr.heap.size, 0, none⟩ = some (.int .i64 a.1) := KY2.out.cell 0 0 _ rfl
    have c1 : y2.cell? ⟨wr.heap.size, 1, none⟩ = some (.int .i64 a.2.1) := KY2.out.cell 0 1 _ rfl
    have c2 : y2.cell? ⟨wr.heap.size, 2, none⟩ = some (.int .i64 a.2.2) := KY2.out.cell 0 2 _ rfl
    have HO2 := Lib.hid (own_keep HO.out KY2.out.low.out)
    have HS2 := Lib.hid (Nat.le_trans HSZ.out KY2.out.low.out.size)
    go_wp2_with (at_builtin; refine wpList_append_gr rfl _ _ 35 rfl w.heap.size 67 i2 _ 3 24 Tryz.underlying35 hj hj0 hj1 hj2 rfl (by decide) _ _ _ rfl (own_keep HO2.out ((Below.refl _ y2).alloc (Nat.le_refl _) _)) ⟨y2.heap.size, 0, none⟩ 1 1 (encU (negU a)) rfl rfl (new_row y2 _ _) (encU_one _) (by unfold maxLen; have := HLT.out; have := HN.out; omega) (by have := HLT.out; have := HN.out; omega) (by have := HS2.out; simp; omega) ?_; intro v' w3 hown3 hg3; obtain ⟨B3, c3, rfl⟩ := own_form hown3; have HO3 := Lib.hid hown3; have HG3 := Lib.hid hg3; clear hown3 hg3)
    have hra : Below y2.heap.size y2 (y2.alloc (.cells (encU (negU a)).toArray 67)) := (Below.refl _ y2).alloc (Nat.le_refl _) _
    have HB3 := Lib.hid (((HB.out.trans (KY2.out.low.out.mono HSZ.out)).trans (hra.mono HS2.out)).grown HG3.out (Nat.le_trans HS2.out hra.size) (fun k e => (HO2.out.lt k e).1))
    clear hra
    go_roundw
    case rel => exact ⟨k + 1, c3, B3, HLT.out, by go_num, rfl, by have := HO3.out; rw [HT.out]; unfold encs at this ⊢; rw [List.flatMap_append]; simpa using this, HB3.out⟩
    case measure => have := HLT.out; simp [intOf]; omega
  · have kn : ¬ (k : Int) < (n : Int) := fun e => hlt (Int.ofNat_lt.1 e)
    have hkn : k = n := by omega
    subst hkn
    have ht : l.take k = l := List.take_of_length_le (by rw [HL.out]; exact Nat.le_refl _)
    rw [ht] at HO
    clear hlt hk ht
    go_wp2
    go_ret
    exact ⟨B, k, d, rfl, HO.out, rfl, HB.out⟩
end Go.Proofs.YtemgejblnionlaaGreatDoor
namespace Go.Proofs.YtemgejblnionlaaGreatDoor
open Go.RowKit Go.Maps
set_option maxHeartbeats 16000000
set_option maxRecDepth 100000
theorem growU_lands (k : Nat) (hk : k ≤ 1000000000) (w : World) : Calls Tryz.prog 100 #[.slice none 0 0, .int .i64 (k : Int)] w fun e w' => ∃ B d, e = .returned (.slice B 0 d) ∧ w'.ownsRow w.heap.size 67 3 (.slice B 0 d) 0 [] ∧ Below w.heap.size w w' := by
 obtain ⟨i2, hj, hj0, hj1, hj2⟩ := info_parts info_au
 have h0 : ¬ ((k : Int) < 0) := by omega
 have hs : wrap64 ((k : Int) - wrap64 ((0 : Int) - 0)) = k := by unfold wrap64; omega
 by_cases hz : k = 0
 · subst hz
   go_enter Tryz.func100, Tryz.ntmps100
   go_wp2
   go_ret
   exact ⟨none, 0, rfl, World.ownsRow_nil _ _ _ _, Below.refl _ _⟩
 · have hr := fun ty => Lib.run_append_nil_zeros (P := Tryz.prog) w 35 3 ty 67 i2 (Value.agg #[.int .i64 0, .int .i64 0, .int .i64 0]) .i64 .i64 Tryz.underlying35 Tryz.underlying3 hj hj0 k (by omega) (by rw [hj1]; decide) (by omega) (by rw [hj2]; omega)
   have hpos : (k : Int) > 0 := by omega
   have hge := grownCap_ge w k 0 67
   have hle := grownCap_le_maxLen w k 0 67 (by unfold maxLen; omega)
   obtain ⟨G, hG⟩ : ∃ G, G = grownCap w k 0 67 := ⟨_, rfl⟩
   rw [← hG] at hr hge hle
   have hmax : G ≤ 9223372036854775807 := by unfold maxLen at hle; omega
   have HL := Lib.hid hle
   have HGE := Lib.hid hge
   clear hG hle hz
   go_enter Tryz.func100, Tryz.ntmps100
   go_wp2_with (at_builtin; refine Lib.wpList_append_run _ rfl _ _ _ _ rfl _ _ rfl rfl _ _ (hr _) ?_)
   go_ret
   have hb : Below w.heap.size w (w.drew.alloc (.cells (Builtin.zeroCells (Value.agg #[.int .i64 0, .int .i64 0, .int .i64 0]).cells k ++ Builtin.zeroCells (Value.agg #[.int .i64 0, .int .i64 0, .int .i64 0]).cells (G - k)) 67)) := (below_drewN w 1).alloc (Nat.le_refl _) _
   refine ⟨_, G, rfl, ⟨rfl, .inr ⟨_, G, _, rfl, Nat.le_refl _, heap_alloc_new w.drew _, Nat.zero_le _, HL.out, ?_, rfl⟩⟩, hb⟩
   rw [Array.size_append, size_zeroCells, size_zeroCells, ← Nat.add_mul]
   show (k + (G - k)) * 3 = G * 3
   congr 1
   have := HGE.out
   omega
theorem concatU_lands (g : Nat) (A1 A2 : Option Addr) (n1 c1 n2 c2 : Nat) (l1 l2 : List (Int × Us)) (w : World) (hg : w.heap[g]? = some (.cells #[.slice A1 n1 c1, .slice A2 n2 c2] 35 (0, 0))) (h1 : Sv w A1 n1 c1 3 (encs encU l1)) (h2 : Sv w A2 n2 c2 3 (encs encU l2)) (hn1 : n1 ≤ 1000000) (hn2 : n2 ≤ 1000000) :
 Calls Tryz.prog 55 #[.slice (some ⟨g, 0, none⟩) 2 2] w fun e w' => ∃ B m d, e = .returned (.slice B m d) ∧ w'.ownsRow w.heap.size 67 3 (.slice B m d) m (encs encU (l1 ++ l2)) ∧ m = n1 + n2 ∧ Below w.heap.size w w' := by
 obtain ⟨i2, hj, hj0, hj1, hj2⟩ := info_parts info_au
 have HG := Lib.hid hg
 have HS1 := Lib.hid h1
 have HS2 := Lib.hid h2
 have HN := Lib.hid (And.intro hn1 hn2)
 have CG0 := fun W => growU_lands (n1 + n2) (by omega) W
 rw [show ((n1 + n2 : Nat) : Int) = (n1 : Int) + (n2 : Int) by omega] at CG0
 have CG := Lib.hid CG0
 clear CG0
 have q0 : w.cell? ⟨g, 0, none⟩ = some (.slice A1 n1 c1) := cell_of_row _ _ 0 _ _ _ hg
 have q1 : w.cell? ⟨g, 1, none⟩ = some (.slice A2 n2 c2) := cell_of_row _ _ 1 _ _ _ hg
 have w1 : wrap64 (n1 : Int) = n1 := by unfold wrap64; omega
 have w2 : wrap64 ((n1 : Int) + (n2 : Int)) = (n1 : Int) + (n2 : Int) := by unfold wrap64; omega
 have p1 : ¬ ((n1 : Int) < 0) := by omega
 have p2 : ¬ ((n1 : Int) + (n2 : Int) < 0) := by omega
 clear hg h1 h2 hn1 hn2
 go_enter Tryz.func55, Tryz.ntmps55
 go_wp2
 go_loopw [3, 11] (fun z i wr => wr = w ∧ ((i = .int .i64 0 ∧ z = .int .i64 0) ∨ (i = .int .i64 1 ∧ z = .int .i64 (n1 : Int)) ∨ (i = .int .i64 2 ∧ z = .int .i64 ((n1 : Int) + (n2 : Int))))) (fun _ i _ => 2 - (intOf i).toNat)
 case atStart => exact ⟨rfl, .inl ⟨rfl, rfl⟩⟩
 case round =>
  obtain ⟨hw, hh⟩ := hrel
  subst hw
  rcases hh with ⟨rfl, rfl⟩ | ⟨rfl, rfl⟩ | ⟨rfl, rfl⟩
  · go_wp2
    go_roundw
    case rel => simp [w1]
    case measure => decide
  · go_wp2
    go_roundw
    case rel => simp [w2]
    case measure => decide
  · clear p1 w1 w2
    obtain ⟨wq, hwq⟩ : ∃ q, q = wr := ⟨_, rfl⟩
    subst hwq
    go_upto_region 10 with (go_at_call 100; (with_reducible refine (CG.out _).mono ?_); rintro e w5 ⟨B, d, rfl, hO, hb5⟩; have HO5 := Lib.hid hO; have HB5 := Lib.hid hb5; clear hO hb5)
    clear p2 q0 q1
    have q0 : w5.cell? ⟨g, 0, none⟩ = some (.slice A1 n1 c1) := cell_of_row _ _ 0 _ _ _ ((HB5.out.block g (Array.getElem?_eq_some_iff.1 HG.out).1).trans HG.out)
    go_wp2
    go_loopw [6, 27] (fun v i wr => Below wq.heap.size wq wr ∧ ((i = .int .i64 0 ∧ ∃ B d, v = .slice B 0 d ∧ wr.ownsRow wq.heap.size 67 3 (.slice B 0 d) 0 []) ∨ (i = .int .i64 1 ∧ ∃ B d, v = .slice B n1 d ∧ wr.ownsRow wq.heap.size 67 3 (.slice B n1 d) n1 (encs encU l1)) ∨ (i = .int .i64 2 ∧ ∃ B d, v = .slice B (n1 + n2) d ∧ wr.ownsRow wq.heap.size 67 3 (.slice B (n1 + n2) d) (n1 + n2) (encs encU (l1 ++ l2))))) (fun _ i _ => 2 - (intOf i).toNat)
    case atStart => exact ⟨HB5.out, .inl ⟨rfl, B, d, rfl, HO5.out⟩⟩
    case round =>
     clear q0 HO5 HB5
     obtain ⟨hbr, hh⟩ := hrel
     have HBR := Lib.hid hbr
     have HSZ := Lib.hid hbr.size
     have r0 : wr.cell? ⟨g, 0, none⟩ = some (.slice A1 n1 c1) := cell_of_row _ _ 0 _ _ _ ((hbr.block g (Array.getElem?_eq_some_iff.1 HG.out).1).trans HG.out)
     have r1 : wr.cell? ⟨g, 1, none⟩ = some (.slice A2 n2 c2) := cell_of_row _ _ 1 _ _ _ ((hbr.block g (Array.getElem?_eq_some_iff.1 HG.out).1).trans HG.out)
     clear hbr
     rcases hh with ⟨rfl, B2, d2, rfl, hO⟩ | ⟨rfl, B2, d2, rfl, hO⟩ | ⟨rfl, B2, d2, rfl, hO⟩
     · have HO := Lib.hid hO
       clear hO
       go_wp2_with (at_builtin; refine wpList_append_sv rfl _ _ 35 rfl wq.heap.size 67 i2 _ 3 24 Tryz.underlying35 hj hj0 hj1 hj2 rfl (by decide) _ _ _ rfl HO.out A1 n1 c1 (encs encU l1) rfl (HS1.out.below HBR.out) (by unfold maxLen; have := HN.out; omega) (by have := HN.out; omega) HSZ.out ?_; intro v' w3 hown3 hB3; rw [Nat.zero_add, List.nil_append] at hown3; obtain ⟨B3, c3, rfl⟩ := own_form hown3; have HO3 := Lib.hid hown3; have HB3 := Lib.hid (hB3 wq (Nat.le_refl _) HBR.out); clear hown3 hB3)
       go_roundw
       case rel => exact ⟨HB3.out, .inr (.inl ⟨rfl, B3, c3, by simp, HO3.out⟩)⟩
       case measure => decide
     · have HO := Lib.hid hO
       clear hO
       go_wp2_with (at_builtin; refine wpList_append_sv rfl _ _ 35 rfl wq.heap.size 67 i2 _ 3 24 Tryz.underlying35 hj hj0 hj1 hj2 rfl (by decide) _ _ _ rfl HO.out A2 n2 c2 (encs encU l2) rfl (HS2.out.below HBR.out) (by unfold maxLen; have := HN.out; omega) (by have := HN.out; omega) HSZ.out ?_; intro v' w3 hown3 hB3; obtain ⟨B3, c3, rfl⟩ := own_form hown3; have HO3 := Lib.hid hown3; have HB3 := Lib.hid (hB3 wq (Nat.le_refl _) HBR.out); clear hown3 hB3)
       go_roundw
       case rel => exact ⟨HB3.out, .inr (.inr ⟨rfl, B3, c3, rfl, by have := HO3.out; unfold encs at this ⊢; rw [List.flatMap_append]; exact this⟩)⟩
       case measure => decide
     · have HO := Lib.hid hO
       clear hO r0 r1
       go_wp2
       go_ret
       exact ⟨B2, n1 + n2, d2, rfl, HO.out, rfl, HBR.out⟩
end Go.Proofs.YtemgejblnionlaaGreatDoor
namespace Go.Proofs.YtemgejblnionlaaGreatDoor
open Go.RowKit Go.Maps
set_option maxHeartbeats 16000000
set_option maxRecDepth 100000
theorem wp_any_ordC {P : Program} {ops : Array Oper} {Q : Exit → Act → World → Prop} {md : Region.Mode} {fuel : Nat} {listed : Array Bool} {a : Act} {w : World} (S : World → Prop) (ord : List (Nat × Bool)) (hk : (okOrd md ops ord listed).map (fun l => (Region.ready md ops l).isEmpty) = some true) (hf : fuel = ord.length) (hs : Region.noSelect ops = true)
 (hS : S w) (hQ : ∀ d v c a w, Q (.panic c) (Act.put a d v) w → Q (.panic c) a w) (h : wpOrd P ops Q S (Q .normal) ord a w) : wpAnyH P md ops Q S fuel listed a w := by
 cases hk' : okOrd md ops ord listed with
 | none => rw [hk'] at hk; cases hk
 | some l =>
   rw [hk'] at hk
   simp only [Option.map_some, Option.some.injEq, List.isEmpty_iff] at hk
   have := ord_sound (P := P) (Q := Q) (S := S) hs hQ 0 ord _ a w hk' hS (wpOrd_mono (fun a w h _ => wpAnyH_done hk h 0) _ _ _ h)
   rw [Nat.zero_add] at this
   rw [hf]
   exact this
def updF (F : Int → Option Us) (o : Int) (u : Us) : Int → Option Us := fun y => if y = o then some (addU ((F o).getD (0, 0)) u) else F y
def ofF (l : List (Int × Us)) : Int → Option Us := l.foldl (fun F a => updF F a.1 a.2) (fun _ => none)
theorem ofF_snoc (l : List (Int × Us)) (a : Int × Us) : ofF (l ++ [a]) = updF (ofF l) a.1 a.2 := by simp [ofF]
theorem Bxs.grown {w W W' : World} {l : List (Nat × Array Value × TypeId)} {g : Nat} (K : Bxs w l W) (hg : W.grownBy W' (some g)) (h : w.heap.size ≤ g) (hn : ∀ x ∈ l, x.1 ≠ g) : Bxs w l W' :=
 K.keep (K.low_.grown hg K.low_.size (fun k e => by cases e; exact h)) fun x hx => hg.block x.1 (K.lts x hx) (fun e => hn x hx (Option.some.inj e))
def nuse (L : Low) (n : Nd) : Int × Us := (n.owner, (1, L.size n.body))
theorem body_ok {L : Low} {t : Tr} (LG : LowG L) (G : Good L t) {n : Nd} (hn : n ∈ t.nodes) : L.bodyOk n.body = true := by
 rcases G.kinds n hn with h | h
 · rw [(G.dir n hn h).1]; exact LG.body0
 · exact (G.file n hn h).2.1
theorem wf_small {x : Int} (h0 : 0 ≤ x) (h1 : x ≤ 999) : (Lit.int .i64 x).wf = true := by
 simpa [Lit.wf] using (show IntKind.i64.min ≤ x ∧ x ≤ IntKind.i64.max from ⟨by show (-9223372036854775808 : Int) ≤ x; omega, by show x ≤ (9223372036854775807 : Int); omega⟩)
theorem Of_lands {L : Low} {Env : World → Prop} (LW : LowW L Env) (LG : LowG L) (CS : SortU) (T : Th) (w : World) (hE : Env w) (hT : T.ok w) (G : Good L T.t) :
 Calls Tryz.prog 18 #[T.val] w fun e w' => ∃ A m c l, e = .returned (.slice A m c) ∧ w'.ownsRow w.heap.size 67 3 (.slice A m c) m (encs encU l) ∧ AccL l (totF (ofF (T.t.nodes.map (nuse L)))) ∧ m ≤ 256 ∧ Below w.heap.size w w' := by
 have hlen : T.n ≤ 256 := by have := G.len; rw [Th.t_len hT] at this; exact this
 have HT := Lib.hid hT
 have HG := Lib.hid G
 have HLW := Lib.hid LW
 have HLG := Lib.hid LG
 have HE := Lib.hid hE
 have HN := Lib.hid hlen
 have HLN := Lib.hid hT.len
 have CA := Lib.hid (fun g n F W hM hn => accounts_lands CS g n F W hM hn)
 have CSM := Lib.hid (fun u v W => sum_lands u v W)
 have hmm := @run_makeMap Tryz.prog
 clear hT G LW LG hE hlen CS
 have kk0 := Bxs.nil w
 obtain ⟨x1, hwx1, hzx1, kx1⟩ := kk0.new rfl T.cs (Th.enc T).toArray 31
 have HW1 := Lib.hid hwx1
 have HZ1 := Lib.hid hzx1
 have K1 := Lib.hid (kx1.step (W' := x1.alloc (.map #[] 0)) ((Below.refl _ x1).alloc (Nat.le_refl _) _))
 have HM := Lib.hid (UseM.made x1)
 have hz1 := hzx1
 clear kk0 hwx1 hzx1 kx1
 go_enter Tryz.func18, Tryz.ntmps18
 go_upto_region 1 with fail
 rw [HW1.out]
 go_upto_region 2 with fail
 clear hz1 hmm
 rw [HZ1.out] at HM
 have q0 : (x1.alloc (.map #[] 0)).cell? ⟨w.heap.size, 0, none⟩ = some (.slice T.A T.n T.c) := K1.out.cell 0 0 _ rfl
 generalize x1.alloc (.map #[] 0) = x2 at *
 go_wp2
 clear q0
 go_loopw [10] (fun i wr => ∃ (k : Nat), k ≤ T.n ∧ i = .int .i64 k ∧ UseM wr (w.heap.size + 1) k (ofF ((T.t.nodes.take k).map (nuse L))) ∧ Bxs w [(w.heap.size, (Th.enc T).toArray, 31)] wr) (fun i _ => T.n - (intOf i).toNat)
 case atStart => exact ⟨0, Nat.zero_le _, rfl, HM.out, K1.out⟩
 case round =>
  clear HM K1
  obtain ⟨k, hk, rfl, hM, hB⟩ := hrel
  have HB := Lib.hid hB
  have HM := Lib.hid hM
  clear hB hM
  by_cases hlt : k < T.n
  · obtain ⟨h, hh⟩ : ∃ h, T.hs[k]? = some h := ⟨_, List.getElem?_eq_getElem (by rw [HLN.out]; exact hlt)⟩
    have kn : (k : Int) < (T.n : Int) := Int.ofNat_lt.2 hlt
    have k0 : (0 : Int) ≤ (k : Int) := Int.natCast_nonneg k
    have hwj : IntKind.i64.wrap ((k : Int) + 1) = (k : Int) + 1 := IntWalk.i64_in _ (by have := HN.out; omega)
    obtain ⟨g, ad, hA, hg, hc⟩ := Sv.range Nh.enc_len (by decide) ((HT.out.below HB.out.low.out).nodes) hh
    have HC := Lib.hid hc
    have hmem : h.d ∈ T.t.nodes := List.mem_map.2 ⟨h, List.mem_of_getElem? hh, rfl⟩
    have hnk : T.t.nodes[k]? = some h.d := by show (T.hs.map (·.d))[k]? = _; rw [List.getElem?_map, hh]; rfl
    have HTK := Lib.hid (show ofF ((T.t.nodes.take (k + 1)).map (nuse L)) = updF (ofF ((T.t.nodes.take k).map (nuse L))) h.d.owner (1, L.size h.d.body) by
     rw [takeU_snoc hnk, List.map_append]; exact ofF_snoc _ _)
    have HMEM := Lib.hid (And.intro (List.mem_of_getElem? hh) hmem)
    have HLT := Lib.hid hlt
    have HA := Lib.hid hA
    clear hc hh hlt hk hnk hmem
    obtain ⟨F, hF⟩ : ∃ F, ofF ((T.t.nodes.take k).map (nuse L)) = F := ⟨_, rfl⟩
    rw [hF] at HM HTK
    clear hF
    obtain ⟨y1, hwy1, hzy1, ky1⟩ := HB.out.new rfl zN zN 65
    have HY1 := Lib.hid hwy1
    have KY1 := Lib.hid ky1
    have hb2 : Below wr.heap.size wr (y1.setRow wr.heap.size h.enc.toArray) := by rw [← hwy1]; exact below_setRow ((Below.refl _ wr).alloc (Nat.le_refl _) _) (Nat.le_refl _) _
    have KY2 := Lib.hid (ky1.row 0 rfl h.enc.toArray)
    have HM2 := Lib.hid (HM.out.keep hb2 HM.out.lt)
    have HGL := Lib.hid HM.out.lt
    have HB2 := Lib.hid hb2
    clear hwy1 hzy1 ky1 hb2
    go_upto_region 5 with (first | rw [HY1.out] | (with_reducible refine load_nd rfl _ rfl g (ad + k * 8) rfl h HC.out ?_) | (with_reducible refine store_nd rfl _ _ rfl wr.heap.size rfl h rfl zN (KY1.out.at 0 rfl).out rfl ?_))
    clear hA
    generalize y1.setRow wr.heap.size h.enc.toArray = y2 at *
    have hd := below_drewN y2 1
    have KD := Lib.hid (KY2.out.step (W' := y2.drew) hd)
    have HMD := Lib.hid (HM2.out.keep (w' := y2.drew) hd HM2.out.lt)
    have hself := HG.out.self h.d HMEM.out.2
    have HWF := Lib.hid (wf_small hself.1 hself.2.1)
    have CZ := Lib.hid (HLW.out.size h.bA h.bn h.bc h.d.body y2.drew (HLW.out.env _ _ HE.out KD.out.low.out) ((HT.out.below KD.out.low.out).each h HMEM.out.1).body (body_ok HLG.out HG.out HMEM.out.2))
    clear hd hself
    refine wp_region_fork (fun w' => w'.cell? ⟨wr.heap.size, 2, none⟩ = some (.int .i64 h.d.owner) ∧ w'.cell? ⟨wr.heap.size, 5, none⟩ = some (.slice h.bA h.bn h.bc)) [(0, true), (1, true), (2, true), (3, true), (4, true), (5, true), (7, true), (8, true)] 5 #[true, true, true, true, true, true, false, true, true, false, false, false, false] (by kernel_rfl) (by kernel_rfl) (by rfl) (by kernel_rfl) ⟨KD.out.cell 0 2 _ rfl, KD.out.cell 0 5 _ rfl⟩ (fun d _ _ _ _ h => by cases d <;> exact h) ?_
    iterate 8 refine ord_pure ?_
    refine ord_nil (fun _ => ?_)
    generalize y2.drew = y3 at *
    refine wpAnyH_ready (rs := [6, 9]) (by kernel_rfl) (by simp) ?_
    refine AllReadyH.cons (by rfl) (fun K hK => ?_) (AllReadyH.cons (by rfl) (fun K hK => ?_) AllReadyH.nil)
    · have hl := HMD.out.look HWF.out
      go_simp
      refine hK.out _ _ ⟨KD.out.cell 0 2 _ rfl, KD.out.cell 0 5 _ rfl⟩ (fun _ => ?_)
      clear hl hK K
      try simp only [Act.put, puts]
      refine wp_any_ordC (fun w' => w'.cell? ⟨wr.heap.size, 2, none⟩ = some (.int .i64 h.d.owner) ∧ w'.cell? ⟨wr.heap.size, 5, none⟩ = some (.slice h.bA h.bn h.bc)) [(9, false), (10, true), (11, false), (12, false)] (by kernel_rfl) rfl (by kernel_rfl) ⟨KD.out.cell 0 2 _ rfl, KD.out.cell 0 5 _ rfl⟩ (fun d _ _ _ _ h => by cases d <;> exact h) ?_
      refine ord_eff (by rfl) (fun K hK => ?_)
      go_simp
      go_wp2_with (go_at_call 52; (with_reducible refine (CZ.out).mono ?_); rintro e w5 ⟨rfl, hb5⟩; have HBs := Lib.hid hb5; clear hb5)
      have K5 := Lib.hid (KD.out.step (W' := w5) HBs.out)
      have HM5 := Lib.hid (HMD.out.keep HBs.out HMD.out.lt)
      refine hK.out _ _ ⟨K5.out.cell 0 2 _ rfl, K5.out.cell 0 5 _ rfl⟩ ?_
      clear hK K
      try simp only [Act.put, puts]
      refine ord_pure (v := usv (1, L.size h.d.body)) ?_
      refine ord_eff (by rfl) (fun K hK => ?_)
      go_simp
      have CSa := Lib.hid (CSM.out ((F h.d.owner).getD (0, 0)) (1, L.size h.d.body) w5)
      go_wp2_with (go_at_call 51; (with_reducible refine CSa.out.mono ?_); rintro e w6 ⟨rfl, hb6⟩; have HB6 := Lib.hid hb6; clear hb6)
      have K6 := Lib.hid (K5.out.step (W' := w6) HB6.out)
      have HM6 := Lib.hid (HM5.out.keep HB6.out HM5.out.lt)
      refine hK.out _ _ ⟨K6.out.cell 0 2 _ rfl, K6.out.cell 0 5 _ rfl⟩ ?_
      clear hK K
      try simp only [Act.put, puts]
      refine ord_eff (by rfl) (fun K hK => ?_)
      obtain ⟨w7, hrun, hM7, hg7⟩ := HM6.out.update (by unfold maxLen; have := HLT.out; have := HN.out; omega) HWF.out (addU ((F h.d.owner).getD (0, 0)) (1, L.size h.d.body))
      go_simp
      have K7 := Lib.hid (K6.out.grown hg7 (Nat.le_succ _) (fun y hy => by
       simp only [List.set_cons_zero, List.mem_cons, List.not_mem_nil, or_false] at hy
       have := HGL.out
       rcases hy with rfl | rfl <;> dsimp only <;> omega))
      have HM7 := Lib.hid hM7
      refine hK.out _ _ ⟨K7.out.cell 0 2 _ rfl, K7.out.cell 0 5 _ rfl⟩ ?_
      clear hrun hM7 hg7 hK K
      refine ord_nil ?_
      go_wp2
      have HK := Lib.hid (K7.out.drop 1)
      rw [← HA.out]
      go_roundw
      case rel => exact ⟨k + 1, HLT.out, by go_num, by rw [HTK.out]; exact HM7.out, HK.out⟩
      case measure => have := HLT.out; simp [intOf]; omega
    · go_simp
      go_wp2_with (go_at_call 52; (with_reducible refine (CZ.out).mono ?_); rintro e w5 ⟨rfl, hb5⟩; have HBs := Lib.hid hb5; clear hb5)
      have K5 := Lib.hid (KD.out.step (W' := w5) HBs.out)
      have HM5 := Lib.hid (HMD.out.keep HBs.out HMD.out.lt)
      refine hK.out _ _ ⟨K5.out.cell 0 2 _ rfl, K5.out.cell 0 5 _ rfl⟩ (fun _ => ?_)
      clear hK K
      try simp only [Act.put, puts]
      refine wp_any_ordC (fun w' => w'.cell? ⟨wr.heap.size, 2, none⟩ = some (.int .i64 h.d.owner) ∧ w'.cell? ⟨wr.heap.size, 5, none⟩ = some (.slice h.bA h.bn h.bc)) [(10, true), (6, false), (11, false), (12, false)] (by kernel_rfl) rfl (by kernel_rfl) ⟨K5.out.cell 0 2 _ rfl, K5.out.cell 0 5 _ rfl⟩ (fun d _ _ _ _ h => by cases d <;> exact h) ?_
      refine ord_pure (v := usv (1, L.size h.d.body)) ?_
      refine ord_eff (by rfl) (fun K hK => ?_)
      have hl := HM5.out.look HWF.out
      go_simp
      refine hK.out _ _ ⟨K5.out.cell 0 2 _ rfl, K5.out.cell 0 5 _ rfl⟩ ?_
      clear hl hK K
      try simp only [Act.put, puts]
      refine ord_eff (by rfl) (fun K hK => ?_)
      go_simp
      have CSa := Lib.hid (CSM.out ((F h.d.owner).getD (0, 0)) (1, L.size h.d.body) w5)
      go_wp2_with (go_at_call 51; (with_reducible refine CSa.out.mono ?_); rintro e w6 ⟨rfl, hb6⟩; have HB6 := Lib.hid hb6; clear hb6)
      have K6 := Lib.hid (K5.out.step (W' := w6) HB6.out)
      have HM6 := Lib.hid (HM5.out.keep HB6.out HM5.out.lt)
      refine hK.out _ _ ⟨K6.out.cell 0 2 _ rfl, K6.out.cell 0 5 _ rfl⟩ ?_
      clear hK K
      try simp only [Act.put, puts]
      refine ord_eff (by rfl) (fun K hK => ?_)
      obtain ⟨w7, hrun, hM7, hg7⟩ := HM6.out.update (by unfold maxLen; have := HLT.out; have := HN.out; omega) HWF.out (addU ((F h.d.owner).getD (0, 0)) (1, L.size h.d.body))
      go_simp
      have K7 := Lib.hid (K6.out.grown hg7 (Nat.le_succ _) (fun y hy => by
       simp only [List.set_cons_zero, List.mem_cons, List.not_mem_nil, or_false] at hy
       have := HGL.out
       rcases hy with rfl | rfl <;> dsimp only <;> omega))
      have HM7 := Lib.hid hM7
      refine hK.out _ _ ⟨K7.out.cell 0 2 _ rfl, K7.out.cell 0 5 _ rfl⟩ ?_
      clear hrun hM7 hg7 hK K
      refine ord_nil ?_
      go_wp2
      have HK := Lib.hid (K7.out.drop 1)
      rw [← HA.out]
      go_roundw
      case rel => exact ⟨k + 1, HLT.out, by go_num, by rw [HTK.out]; exact HM7.out, HK.out⟩
      case measure => have := HLT.out; simp [intOf]; omega
  · have kn : ¬ (k : Int) < (T.n : Int) := fun e => hlt (Int.ofNat_lt.1 e)
    have hkn : k = T.n := by omega
    subst hkn
    have ht : T.t.nodes.take T.n = T.t.nodes := List.take_of_length_le (by show (T.hs.map (·.d)).length ≤ T.n; rw [List.length_map, HLN.out]; exact Nat.le_refl _)
    rw [ht] at HM
    have CAa := Lib.hid (CA.out (w.heap.size + 1) T.n _ wr HM.out (by have := HN.out; omega))
    clear hlt hk ht
    go_wp2_with (go_at_call 53; (with_reducible refine CAa.out.mono ?_); rintro e w5 ⟨A, m, c, l, rfl, hO, hA, hm, hb5⟩; have H5 := Lib.hid (And.intro hO (And.intro hA (And.intro hm hb5))); clear hO hA hm hb5)
    go_ret
    obtain ⟨hO, hA, hm, hb5⟩ := H5.out
    exact ⟨A, m, c, l, rfl, own_weak hO HB.out.low.out.size, hA, Nat.le_trans hm HN.out, HB.out.low.out.trans (hb5.mono HB.out.low.out.size)⟩
end Go.Proofs.YtemgejblnionlaaGreatDoor
