/-
  Texts Gi Gj Gk Gl Gm Gnd Go, put together by program.
-/
import Derived.Test.YtemgejblnionlaaGreatDoorY0
import Derived.Test.YtemgejblnionlaaGreatDoorY1
import Derived.Test.YtemgejblnionlaaGreatDoorY4
namespace Go.Proofs.YtemgejblnionlaaGreatDoor
open Go.RowKit
set_option maxHeartbeats 1000000
set_option maxRecDepth 100000
theorem keep_block {W W' : World} {b : Nat} {o : Obj} (h : W.heap[b]? = some o) (hb : Below W.heap.size W W') : W'.heap[b]? = some o := (hb.block _ (Array.getElem?_eq_some_iff.1 h).1).trans h
theorem block_lt {W : World} {b : Nat} {o : Obj} (h : W.heap[b]? = some o) : b < W.heap.size := (Array.getElem?_eq_some_iff.1 h).1
def Nh.lst (N : Nh) (l : List En) (A : Option Addr) (n c : Nat) (ver : Int) : Nh := ⟨{ N.d with list := l, ver := ver }, N.aA, N.an, N.ac, A, n, c, N.bA, N.bn, N.bc⟩
theorem Nh.lst_ok {w w' : World} {N : Nh} {l : List En} {A : Option Addr} {n c base : Nat} {ver : Int} (h : N.ok w) (hb : Below w.heap.size w w') (hO : w'.ownsRow base 174 2 (.slice A n c) n (encs encE l)) : (N.lst l A n c ver).ok w' :=
 ⟨h.acl.below hb, Sv.own hO (encs_cells encE_one _), h.body.below hb⟩
theorem enter_any (T : Th) (dir : Int) (en : En) (ver : Int) (w : World) (hT : T.ok w) (hn : T.n ≤ 100000) (hl : (nodeH T.hs dir).ln ≤ 100000) :
 Calls Tryz.prog 125 #[T.val, .int .i64 dir, .agg #[.string en.name, .int .i64 en.id], .int .i64 ver] w fun e w' => ∃ A' m c' B k d, e = .returned (Th.val ⟨A', m, c', withH T.hs ((nodeH T.hs dir).lst (putE (nodeH T.hs dir).d.list en) B k d ver), T.next, T.oA, T.on, T.oc, T.opens⟩) ∧
  Th.ok w' ⟨A', m, c', withH T.hs ((nodeH T.hs dir).lst (putE (nodeH T.hs dir).d.list en) B k d ver), T.next, T.oA, T.on, T.oc, T.opens⟩ ∧ m ≤ T.n + 1 ∧ Below w.heap.size w w' ∧
  ∀ P, T.In P → Th.In (Fresh P w) ⟨A', m, c', withH T.hs ((nodeH T.hs dir).lst (putE (nodeH T.hs dir).d.list en) B k d ver), T.next, T.oA, T.on, T.oc, T.opens⟩ := by
 have CN := Lib.hid (fun W (h : Below w.heap.size w W) => node_any T dir W (hT.below h) hn)
 have CP := Lib.hid (fun W (h : Below w.heap.size w W) => put_any (nodeH T.hs dir).lA (nodeH T.hs dir).ln (nodeH T.hs dir).lc (nodeH T.hs dir).d.list en W (((nodeH_ok hT dir).list).below h) hl)
 have CW := Lib.hid (fun N W (h : Below w.heap.size w W) (hN : N.ok W) => with_any T N W (hT.below h) hN hn)
 have KD := Lib.hid (nodeH_ok hT dir)
 have HTT := Lib.hid hT
 have hz8 : zN.size = 8 := rfl
 have hz3 : zT.size = 3 := rfl
 clear hT hn hl
 show Calls Tryz.prog 125 #[T.val, .int .i64 dir, .agg #[.string en.name, .int .i64 en.id], .int .i64 ver] w _
 have kk0 := Bxs.nil w
 obtain ⟨x1, hwx1, hzx1, kx1⟩ := kk0.new rfl T.cs (Th.enc T).toArray 31
 have HWx1 := Lib.hid hwx1
 obtain ⟨x2, hwx2, hzx2, kx2⟩ := kx1.new hzx1 #[.string en.name, .int .i64 en.id] (encE en).toArray 174
 have HWx2 := Lib.hid hwx2
 obtain ⟨x3, hwx3, hzx3, kx3⟩ := kx2.new hzx2 zT zT 31
 have HWx3 := Lib.hid hwx3
 have kk1 := Lib.hid kx3
 clear kk0 hwx1 hzx1 kx1 hwx2 hzx2 kx2 hwx3 hzx3 kx3
 go_enter Tryz.func125, Tryz.ntmps125
 go_upto_region 1 with fail
 rw [HWx1.out, HWx2.out, HWx3.out]
 go_upto_region 2 with (first | (with_reducible refine load_tr rfl _ rfl (w.heap.size) rfl T (box_range (kk1.out.at 2 rfl).out) ?_) | (go_at_call 41; (with_reducible refine (CN.out _ kk1.out.low.out).mono ?_); rintro e w2 ⟨rfl, hb⟩; have HB2 := Lib.hid hb; clear hb) | (with_reducible refine store_nd rfl _ _ rfl w2.heap.size rfl (nodeH T.hs dir) rfl zN (heap_alloc_new w2 _) hz8 ?_))
 have kk2 := Lib.hid (kk1.out.step (W' := w2) HB2.out)
 have kk3 := Lib.hid (kk2.out.alloc (c := zN) zN 65)
 have kk4 := Lib.hid (kk3.out.row 0 rfl (nodeH T.hs dir).enc.toArray)
 generalize (w2.alloc (.cells zN 65)).setRow w2.heap.size (nodeH T.hs dir).enc.toArray = y5 at *
 have NBD := Lib.hid (show w2.heap.size < y5.heap.size from block_lt (kk4.out.at 0 rfl).out)
 have NBR := Lib.hid (show w.heap.size + 1 + 1 < y5.heap.size from block_lt (kk4.out.at 1 rfl).out)
 have NY := Lib.hid (show w.heap.size ≤ y5.heap.size from kk4.out.low.out.size)
 have d4 : y5.cell? ⟨w2.heap.size, 4, none⟩ = some (.slice (nodeH T.hs dir).lA (nodeH T.hs dir).ln (nodeH T.hs dir).lc) := kk4.out.cell 0 4 _ rfl
 have e0 : y5.cell? ⟨w.heap.size + 1, 0, none⟩ = some (.string en.name) := kk4.out.cell 2 0 _ rfl
 have e1 : y5.cell? ⟨w.heap.size + 1, 1, none⟩ = some (.int .i64 en.id) := kk4.out.cell 2 1 _ rfl
 go_upto_region 3 with (go_at_call 168; (with_reducible refine (CP.out _ kk4.out.low.out).mono ?_); rintro e w3 ⟨B, k, d, rfl, hown, hb⟩; have HO := Lib.hid hown; have HB3 := Lib.hid hb; clear hown hb; have f4 := frozen_of_row w3 _ 4 _ _ (keep_block (kk4.out.at 0 rfl).out HB3.out); have g4 : w3.cell? ⟨w2.heap.size, 4, none⟩ = some (.slice (nodeH T.hs dir).lA (nodeH T.hs dir).ln (nodeH T.hs dir).lc) := cell_of_row _ _ 4 _ _ _ (keep_block (kk4.out.at 0 rfl).out HB3.out))
 clear d4 e0 e1 f4 g4
 have kk6 := Lib.hid (kk4.out.step (W' := w3) HB3.out)
 have kk7 := Lib.hid (kk6.out.cel 0 rfl 4 (.slice B k d) ((nodeH T.hs dir).lst (putE (nodeH T.hs dir).d.list en) B k d (nodeH T.hs dir).d.ver).enc.toArray)
 have HYSa := Lib.hid (show y5.heap.size ≤ (w3.setCell ⟨w2.heap.size, 4, none⟩ (.slice B k d)).heap.size by simpa [World.setCell] using HB3.out.size)
 have HOa := Lib.hid (own_low_cell HO.out (p := ⟨w2.heap.size, 4, none⟩) NBD.out (.slice B k d))
 clear HO
 generalize w3.setCell ⟨w2.heap.size, 4, none⟩ (.slice B k d) = y8 at *
 have f7 : y8.frozen? ⟨w2.heap.size, 7, none⟩ = false := kk7.out.thaw 0 7 rfl
 have d7 : y8.cell? ⟨w2.heap.size, 7, none⟩ = some (.int .i64 (nodeH T.hs dir).d.ver) := kk7.out.cell 0 7 _ rfl
 go_upto_region 4 with fail
 clear f7 d7
 have kk9 := Lib.hid (kk7.out.cel 0 rfl 7 (.int .i64 ver) ((nodeH T.hs dir).lst (putE (nodeH T.hs dir).d.list en) B k d ver).enc.toArray)
 have HYS := Lib.hid (show y5.heap.size ≤ ((y8.setCell ⟨w2.heap.size, 7, none⟩ (.int .i64 ver))).heap.size by simpa [World.setCell] using HYSa.out)
 have HO := Lib.hid (own_low_cell HOa.out (p := ⟨w2.heap.size, 7, none⟩) NBD.out (.int .i64 ver))
 clear HOa
 generalize y8.setCell ⟨w2.heap.size, 7, none⟩ (.int .i64 ver) = y10 at *
 have HYW := Lib.hid (show w.heap.size ≤ y10.heap.size from kk9.out.low.out.size)
 have HY3 := Lib.hid (show y5.heap.size ≤ y10.heap.size from HYS.out)
 have KD3 := Lib.hid (Nh.lst_ok (ver := ver) KD.out kk9.out.low.out HO.out)
 have KI := Lib.hid (fun P (hP : Th.In P T) => (show Nh.In (Fresh P w) ((nodeH T.hs dir).lst (putE (nodeH T.hs dir).d.list en) B k d ver) from ⟨(nodeH_in hP dir).acl.mono fun _ => .inl, (plc_own HO.out).mono fun _ hg => .inr (Nat.le_trans NY.out hg), (nodeH_in hP dir).body.mono fun _ => .inl⟩))
 have KJ := Lib.hid (show Nh.In (fun g => g < w.heap.size ∨ y5.heap.size ≤ g) ((nodeH T.hs dir).lst (putE (nodeH T.hs dir).d.list en) B k d ver) from ⟨(nodeH_in (HTT.out.inside (Th.true_in _)) dir).acl.mono fun _ h => .inl h.2, (plc_own HO.out).mono fun _ hg => .inr hg, (nodeH_in (HTT.out.inside (Th.true_in _)) dir).body.mono fun _ h => .inl h.2⟩)
 repeat (first | (go_big_may; (first | (with_reducible refine load_tr rfl _ rfl (w.heap.size) rfl T (box_range (kk9.out.at 3 rfl).out) ?_) | (with_reducible refine load_nd rfl _ rfl (w2.heap.size) 0 rfl ((nodeH T.hs dir).lst (putE (nodeH T.hs dir).d.list en) B k d ver) (box_range (kk9.out.at 0 rfl).out) ?_) | (go_at_call 124; (with_reducible refine (CW.out ((nodeH T.hs dir).lst (putE (nodeH T.hs dir).d.list en) B k d ver) _ kk9.out.low.out KD3.out).mono ?_); rintro e w5 ⟨A2, m2, c2, rfl, hok, hm, hb, hin⟩; have HB5 := Lib.hid hb; have HK5 := Lib.hid (And.intro hok (And.intro hm hin)); clear hok hm hb hin) | (with_reducible refine store_tr rfl _ _ rfl (w.heap.size + 1 + 1) rfl ⟨A2, m2, c2, withH T.hs ((nodeH T.hs dir).lst (putE (nodeH T.hs dir).d.list en) B k d ver), T.next, T.oA, T.on, T.oc, T.opens⟩ rfl zT (keep_block (kk9.out.at 1 rfl).out HB5.out) hz3 ?_))) | go_values | go_skip | go_guarded | go_step | go_upon | dsimp only)
 have kk11 := Lib.hid (kk9.out.step (W' := w5) HB5.out)
 refine bodyPost_ret (v := Th.val ⟨A2, m2, c2, withH T.hs ((nodeH T.hs dir).lst (putE (nodeH T.hs dir).d.list en) B k d ver), T.next, T.oA, T.on, T.oc, T.opens⟩) (ret_tr rfl _ _ (w.heap.size + 1 + 1) ⟨A2, m2, c2, withH T.hs ((nodeH T.hs dir).lst (putE (nodeH T.hs dir).d.list en) B k d ver), T.next, T.oA, T.on, T.oc, T.opens⟩ zT rfl (kk11.out.at 1 rfl).out) rfl ?_
 refine ⟨A2, m2, c2, B, k, d, rfl, ?_, HK5.out.2.1, below_setRow kk11.out.low.out (by omega) _, fun P hP => ?_⟩
 · refine HK5.out.1.agree (HK5.out.2.2 (fun g => g < w.heap.size ∨ y5.heap.size ≤ g) ((HTT.out.inside (Th.true_in _)).mono fun _ h => .inl h.2) KJ.out) (fun g hg => setRow_other _ _ _ _ ?_) (by simp)
   have h1 := NBR.out
   have h2 := HY3.out
   rcases hg with (hg | hg) | hg <;> omega
 · exact (HK5.out.2.2 (Fresh P w) (hP.mono fun _ => .inl) (KI.out P hP)).mono fun g hg => by
    have h2 := HYW.out
    rcases hg with (hg | hg) | hg
    · exact .inl hg
    · exact .inr hg
    · exact .inr (by omega)
end Go.Proofs.YtemgejblnionlaaGreatDoor
namespace Go.Proofs.YtemgejblnionlaaGreatDoor
open Go.RowKit
set_option maxHeartbeats 1000000
set_option maxRecDepth 100000
def nodeD (l : List Nd) (id : Int) : Nd := (l.find? (fun n => n.id == id)).getD Nd.zero
def withD (l : List Nd) (n : Nd) : List Nd := match l.findIdx? (fun x => x.id == n.id) with | some i => l.set i n | none => l ++ [n]
def dropD (l : List Nd) (id : Int) : List Nd := l.filter (fun n => n.id != id)
theorem nodeH_d (hs : List Nh) (id : Int) : (nodeH hs id).d = nodeD (hs.map (·.d)) id := by
 unfold nodeH nodeD
 rw [List.find?_map]
 cases h : hs.find? (fun h => h.d.id == id) with
 | none => rw [show List.find? ((fun n : Nd => n.id == id) ∘ fun x : Nh => x.d) hs = none from h]; rfl
 | some n => rw [show List.find? ((fun n : Nd => n.id == id) ∘ fun x : Nh => x.d) hs = some n from h]; rfl
theorem withH_d (hs : List Nh) (N : Nh) : (withH hs N).map (·.d) = withD (hs.map (·.d)) N.d := by
 unfold withH withD idx
 rw [List.findIdx?_map]
 cases h : hs.findIdx? (fun h => h.d.id == N.d.id) with
 | none => rw [show List.findIdx? ((fun x : Nd => x.id == N.d.id) ∘ fun x : Nh => x.d) hs = none from h]; simp
 | some i => rw [show List.findIdx? ((fun x : Nd => x.id == N.d.id) ∘ fun x : Nh => x.d) hs = some i from h]; simp [List.map_set]
abbrev TreeRes (w : World) (T : Th) (t : Tr) (e : Ending) (w' : World) : Prop := ∃ T' : Th, e = .returned T'.val ∧ T'.ok w' ∧ T'.t = t ∧ (∀ P, T.In P → T'.In (Fresh P w)) ∧ Below w.heap.size w w'
abbrev Tr.small (t : Tr) : Prop := t.nodes.length ≤ 1000 ∧ t.opens.length ≤ 1000 ∧ ∀ n ∈ t.nodes, n.acl.length ≤ 1000 ∧ n.list.length ≤ 1000 ∧ n.body.length ≤ 1000
def Tr.withN (t : Tr) (n : Nd) : Tr := { t with nodes := withD t.nodes n }
def Tr.dropN (t : Tr) (id : Int) : Tr := { t with nodes := dropD t.nodes id }
theorem nodeD_small {t : Tr} (h : t.small) (id : Int) : (nodeD t.nodes id).acl.length ≤ 1000 ∧ (nodeD t.nodes id).list.length ≤ 1000 ∧ (nodeD t.nodes id).body.length ≤ 1000 := by
 unfold nodeD
 cases e : t.nodes.find? (fun n => n.id == id) with
 | none => exact ⟨by decide, by decide, by decide⟩
 | some n => exact h.2.2 n (List.mem_of_find?_eq_some e)
theorem Th.t_len {w : World} {T : Th} (k : T.ok w) : T.t.nodes.length = T.n := by rw [← k.len]; simp [Th.t]
theorem with_c (T : Th) (N : Nh) (w : World) (hT : T.ok w) (hN : N.ok w) (hn : T.t.nodes.length ≤ 100000) :
 Calls Tryz.prog 124 #[T.val, N.val] w fun e w' => ∃ T' : Th, e = .returned T'.val ∧ T'.ok w' ∧ T'.t = T.t.withN N.d ∧ (∀ P, T.In P → N.In P → T'.In (Fresh P w)) ∧ Below w.heap.size w w' :=
 (with_any T N w hT hN (by rwa [Th.t_len hT] at hn)).mono fun e w' ⟨A', m, c', he, hok, hm, hb, hin⟩ => ⟨_, he, hok, by
  unfold Th.t Tr.withN
  simp only [withH_d], fun P h1 h2 => hin P h1 h2, hb⟩
def Tr.enter (t : Tr) (dir : Int) (en : En) (ver : Int) : Tr := t.withN { nodeD t.nodes dir with list := putE (nodeD t.nodes dir).list en, ver := ver }
theorem enter_c (T : Th) (dir : Int) (en : En) (ver : Int) (w : World) (hT : T.ok w) (hs : T.t.small) :
 Calls Tryz.prog 125 #[T.val, .int .i64 dir, .agg #[.string en.name, .int .i64 en.id], .int .i64 ver] w fun e w' => TreeRes w T (T.t.enter dir en ver) e w' :=
 (enter_any T dir en ver w hT (by have := hs.1; rw [Th.t_len hT] at this; omega) (by have := (nodeD_small hs dir).2.1; rw [← (nodeH_ok hT dir).llen, nodeH_d]; show (nodeD T.t.nodes dir).list.length ≤ 100000; omega)).mono
  fun e w' ⟨A', m, c', B, k, d, he, hok, hm, hb, hin⟩ => ⟨_, he, hok, by
   unfold Tr.enter Tr.withN
   unfold Th.t
   simp only [withH_d, Nh.lst, nodeH_d], fun P h1 => hin P h1, hb⟩
end Go.Proofs.YtemgejblnionlaaGreatDoor
namespace Go.Proofs.YtemgejblnionlaaGreatDoor
open Go.RowKit
set_option maxHeartbeats 1000000
set_option maxRecDepth 100000
theorem Th.ok.setRow {W : World} {T : Th} {b : Nat} (k : T.ok W) (h : T.In (fun g => g ≠ b)) (cs : Array Value) : T.ok (W.setRow b cs) := k.agree h (fun g hg => setRow_other W b g cs hg) (by simp)
theorem Th.ok.setCell {W : World} {T : Th} {b k : Nat} (h : T.ok W) (hi : T.In (fun g => g ≠ b)) (v : Value) : T.ok (W.setCell ⟨b, k, none⟩ v) := h.agree hi (fun g hg => heap_setCell_other W ⟨b, k, none⟩ g v hg) (by simp [World.setCell])
theorem Nh.ok.setRow {W : World} {T : Nh} {b : Nat} (k : T.ok W) (h : T.In (fun g => g ≠ b)) (cs : Array Value) : T.ok (W.setRow b cs) := k.agree h (fun g hg => setRow_other W b g cs hg) (by simp)
theorem Nh.ok.setCell {W : World} {T : Nh} {b k : Nat} (h : T.ok W) (hi : T.In (fun g => g ≠ b)) (v : Value) : T.ok (W.setCell ⟨b, k, none⟩ v) := h.agree hi (fun g hg => heap_setCell_other W ⟨b, k, none⟩ g v hg) (by simp [World.setCell])
theorem Th.ok.off {W : World} {T : Th} (k : T.ok W) {b : Nat} (hb : W.heap.size ≤ b) : T.In (fun g => g ≠ b) := (k.inside T.true_in).mono fun g h => by omega
theorem Nh.true_in (N : Nh) : N.In (fun _ => True) := ⟨fun _ _ _ _ _ => trivial, fun _ _ _ _ _ => trivial, fun _ _ _ _ _ => trivial⟩
theorem Nh.ok.off {W : World} {T : Nh} (k : T.ok W) {b : Nat} (hb : W.heap.size ≤ b) : T.In (fun g => g ≠ b) := (k.inside T.true_in).mono fun g h => by omega
theorem withD_len (l : List Nd) (n : Nd) : (withD l n).length ≤ l.length + 1 := by
 unfold withD
 split
 · simp
 · simp
def Tr.leave (t : Tr) (dir : Int) (name : ByteArray) (id ver : Int) : Tr :=
 let t1 := t.withN { nodeD t.nodes dir with list := takeE (nodeD t.nodes dir).list name, ver := ver }
 let n := nodeD t1.nodes id
 if n.kind = 1 then t1.dropN id
 else if IntKind.i64.wrap (n.links - 1) = 0 ∧ openedB t1.opens n.id (-1) = false then t1.dropN n.id
 else t1.withN { n with links := IntKind.i64.wrap (n.links - 1) }
end Go.Proofs.YtemgejblnionlaaGreatDoor
namespace Go.Proofs.YtemgejblnionlaaGreatDoor
open Go.RowKit
set_option maxHeartbeats 1000000
set_option maxRecDepth 100000
def wayL (L : Low) (nodes : List Nd) (who : Int) : Int → List ByteArray → Int × Int
 | id, [] => (id, 0)
 | id, x :: l =>
   if (nodeD nodes id).kind = 1 then
    if L.allows (nodeD nodes id).acl who (nodeD nodes id).owner 4 = true then
     if entryI (nodeD nodes id).list x = 0 then (0, 90) else wayL L nodes who (entryI (nodeD nodes id).list x) l
    else (0, 95)
   else (0, 92)
theorem store_got {ops : Array Oper} {rest : List Oper} {o : Oper} {a : Act} {w : World} {Q : Exit → Act → World → Prop} (hgd : o.guard = none) (x y : Operand) (ho : o.op = .store 83 x y)
 (g : Nat) (hx : a.eval x = .pointer (some ⟨g, 0, none⟩)) (i e : Int) (hy : a.eval y = .agg #[.int .i64 i, .int .i64 e]) (old : Array Value) (hg : w.heap[g]? = some (.cells old 83 (0, 0))) (hold : old.size = 2)
 (hr : wpList Tryz.prog ops Q rest (a.put o.dst undef) (w.setRow g #[.int .i64 i, .int .i64 e])) : wpList Tryz.prog ops Q (o :: rest) a w :=
 wpList_store_row hgd 83 x y ho g _ hx hy 83 old hg (by kernel_rfl) hold (by simp [Value.oneCell']) hr
theorem ret_got {fn : Func} {p : Tmp} (h : fn.results = #[.cell p 83]) (tmps : Array Value) (w : World) (g : Nat) (i e : Int) (old : Array Value)
 (hp : tmps.getD p undef = .pointer (some ⟨g, 0, none⟩)) (hg : w.heap[g]? = some (.cells old 83 (0, 0))) : (results fn tmps).run Tryz.prog (w.setRow g #[.int .i64 i, .int .i64 e]) = .ok (.agg #[.int .i64 i, .int .i64 e]) (w.setRow g #[.int .i64 i, .int .i64 e]) :=
 results_cell_row h tmps _ g 83 _ (0, 0) _ hp (setRow_heap _ _ _ _ _ _ hg) Tryz.underlying83 rfl (by kernel_rfl)
theorem way_any {L : Low} (LR : LowR0 L) (T : Th) (who : Int) (NA : Option Addr) (m nc : Nat) (names : List ByteArray) (w : World) (hT : T.ok w) (hs' : T.t.small) (hN : Sv w NA m nc 1 (encs encS names)) (hm : m ≤ 100) :
 Calls Tryz.prog 120 #[T.val, .int .i64 who, .slice NA m nc] w fun e w' => e = .returned (.agg #[.int .i64 (wayL L T.t.nodes who 1 names).1, .int .i64 (wayL L T.t.nodes who 1 names).2]) ∧ Below w.heap.size w w' := by
 have CN := Lib.hid (fun id W (h : Below w.heap.size w W) => (show Calls Tryz.prog 41 #[T.val, .int .i64 id] W fun e w' => ∃ N : Nh, e = .returned N.val ∧ N.ok w ∧ N.d = nodeD T.t.nodes id ∧ Below W.heap.size W w' from
  (node_any T id W (hT.below h) (by have := hs'.1; rw [Th.t_len hT] at this; omega)).mono fun e w' ⟨he, hb⟩ => ⟨_, he, nodeH_ok hT id, nodeH_d _ _, hb⟩))
 have HSM := Lib.hid hs'
 have HNS := Lib.hid hN
 have HNL := Lib.hid (hN.plen encS_len (by decide))
 have HM := Lib.hid hm
 have hz8 : zN.size = 8 := rfl
 have hz2 : zG.size = 2 := rfl
 clear hT hs' hN hm
 show Calls Tryz.prog 120 #[T.val, .int .i64 who, .slice NA m nc] w _
 have kk0 := Bxs.nil w
 obtain ⟨x1, hwx1, hzx1, kx1⟩ := kk0.new rfl T.cs (Th.enc T).toArray 31
 have HWx1 := Lib.hid hwx1
 obtain ⟨x2, hwx2, hzx2, kx2⟩ := kx1.new hzx1 zG zG 83
 have HWx2 := Lib.hid hwx2
 have kk1 := Lib.hid kx2
 clear kk0 hwx1 hzx1 kx1 hwx2 hzx2 kx2
 go_enter Tryz.func120, Tryz.ntmps120
 go_upto_region 1 with fail
 rw [HWx1.out, HWx2.out]
 go_wp2
 go_loopw [7, 8] (fun d i wr => ∃ (k : Nat) (id : Int), k ≤ m ∧ i = .int .i64 k ∧ d = .int .i64 id ∧ wayL L T.t.nodes who 1 names = wayL L T.t.nodes who id (names.drop k) ∧ Bxs w [(w.heap.size + 1, zG, 83), (w.heap.size, (Th.enc T).toArray, 31)] wr) (fun _ i _ => m - (intOf i).toNat)
 case atStart => exact ⟨0, 1, Nat.zero_le _, rfl, rfl, rfl, kk1.out⟩
 case round =>
  obtain ⟨k, id, hk, rfl, rfl, hway, hbx⟩ := hrel
  have HWY := Lib.hid hway
  have kk2 := Lib.hid (hbx)
  clear hway hbx
  by_cases hlt : k < m
  · obtain ⟨x, hx⟩ : ∃ x, names[k]? = some x := ⟨_, List.getElem?_eq_getElem (by rw [HNL.out]; exact hlt)⟩
    have hdr : names.drop k = x :: names.drop (k + 1) := by obtain ⟨hl, he⟩ := List.getElem?_eq_some_iff.1 hx; rw [List.drop_eq_getElem_cons hl, he]
    have kn : (k : Int) < (m : Int) := Int.ofNat_lt.2 hlt
    have k0 : (0 : Int) ≤ (k : Int) := Int.natCast_nonneg k
    have hwj : IntKind.i64.wrap ((k : Int) + 1) = (k : Int) + 1 := IntWalk.i64_in _ (by have := HM.out; omega)
    have HDR := Lib.hid hdr
    have HX := Lib.hid hx
    have HLT := Lib.hid hlt
    clear hdr hx hlt
    have C1 := Lib.hid (CN.out id wr kk2.out.low.out)
    go_upto_region 6 with (first | (with_reducible refine load_tr rfl _ rfl (w.heap.size) rfl T (box_range (kk2.out.at 1 rfl).out) ?_) | (go_at_call 41; (with_reducible refine C1.out.mono ?_); rintro e w2 ⟨N, rfl, hok, hd, hb⟩; have HB2 := Lib.hid hb; have H1 := Lib.hid (And.intro hok hd); clear hok hd hb) | (with_reducible refine store_nd rfl _ _ rfl w2.heap.size rfl N rfl zN (heap_alloc_new w2 _) hz8 ?_))
    have kk3 := Lib.hid (kk2.out.step (W' := w2) HB2.out)
    have kk4 := Lib.hid (kk3.out.alloc (c := zN) zN 65)
    have kk5 := Lib.hid (kk4.out.row 0 rfl N.enc.toArray)
    generalize (w2.alloc (.cells zN 65)).setRow w2.heap.size N.enc.toArray = y6 at *
    have k1 : y6.cell? ⟨w2.heap.size, 1, none⟩ = some (.int .i64 N.d.kind) := kk5.out.cell 0 1 _ rfl
    by_cases hk1 : N.d.kind = 1
    · have bk : (N.d.kind != 1) = false := by simp [hk1]
      have HK1 := Lib.hid (show (nodeD T.t.nodes id).kind = 1 by rw [← H1.out.2]; exact hk1)
      clear hk1
      have C2 := Lib.hid (may_any LR N who 4 y6 (H1.out.1.below kk5.out.low.out) (by rw [← H1.out.1.alen, H1.out.2]; exact (nodeD_small HSM.out id).1))
      obtain ⟨al, hal⟩ : ∃ b, L.allows N.d.acl who N.d.owner 4 = b := ⟨_, rfl⟩
      rw [hal] at C2
      rw [H1.out.2] at hal
      have HAL := Lib.hid hal
      clear hal
      cases al
      · go_upto_region 9 with (first | (with_reducible refine load_nd rfl _ rfl (w2.heap.size) 0 rfl N (box_range (kk5.out.at 0 rfl).out) ?_) | (go_at_call 122; (with_reducible refine C2.out.mono ?_); rintro e w3 ⟨rfl, hb⟩; have HB3 := Lib.hid hb; clear hb))
        clear k1
        have kk7 := Lib.hid (kk5.out.step (W' := w3) HB3.out)
        repeat (first | (go_big_may; (with_reducible refine store_got rfl _ _ rfl (w.heap.size + 1) rfl 0 95 rfl zG ((kk7.out.at 1 rfl).out) hz2 ?_)) | go_values | go_skip | go_guarded | go_step | go_upon | dsimp only)
        refine bodyPost_ret (v := .agg #[.int .i64 0, .int .i64 95]) (ret_got rfl _ _ (w.heap.size + 1) 0 95 zG rfl (kk7.out.at 1 rfl).out) rfl ?_
        exact ⟨by rw [HWY.out, HDR.out, wayL, if_pos HK1.out, if_neg (by rw [HAL.out]; decide)], below_setRow kk7.out.low.out (by omega) _⟩
      · go_upto_region 10 with (first | (with_reducible refine load_nd rfl _ rfl (w2.heap.size) 0 rfl N (box_range (kk5.out.at 0 rfl).out) ?_) | (go_at_call 122; (with_reducible refine C2.out.mono ?_); rintro e w3 ⟨rfl, hb⟩; have HB3 := Lib.hid hb; clear hb))
        clear k1
        have kk7 := Lib.hid (kk5.out.step (W' := w3) HB3.out)
        obtain ⟨g, ad, hA, hgw, hcw⟩ := Sv.range encS_len (by decide) HNS.out HX.out
        have HCW := Lib.hid (fun W (h : Below w.heap.size w W) => (show W.cell? ⟨g, ad + k, none⟩ = some (.string x) from by have := range_below hcw hgw h 0 _ rfl; simpa using this))
        subst hA
        clear hcw hgw
        have C3 := Lib.hid (fun W (h : Below w.heap.size w W) => entry_any N x W (H1.out.1.below h) (by rw [← H1.out.1.llen, H1.out.2]; have := (nodeD_small HSM.out id).2.1; omega))
        have HBq := Lib.hid (show Below w.heap.size w w3.drew from kk7.out.low.out.trans ((below_drewN w3 1).mono kk7.out.low.out.size))
        have HNq := Lib.hid (show w3.drew.heap[w2.heap.size]? = some (.cells N.enc.toArray 65 (0, 0)) from (kk7.out.at 0 rfl).out)
        have HXq := Lib.hid (show Below w3.heap.size w3 w3.drew from below_drewN w3 1)
        refine wp_region_held_drew (S := (fun W' => W'.heap[w2.heap.size]? = some (.cells N.enc.toArray 65 (0, 0)) ∧ W'.cell? ⟨g, ad + k, none⟩ = some (.string x))) (by kernel_rfl) (by exact ⟨HNq.out, HCW.out _ HBq.out⟩) (fun hHeld => ?_)
        refine wpAnyH_take (i := 0) (v := N.val) rfl (by kernel_rfl) (by kernel_rfl) (by kernel_rfl) (fun _ _ _ h => h) (yieldsIf_load_mid (by rfl) 65 _ rfl (w2.heap.size) 0 rfl N.enc _ (fun w h => box_range h.1) Tryz.underlying65 rfl (by kernel_rfl)) (by assumption) ?_
        simp only [Act.put, puts]
        refine takeH 1 ?_ rfl (Or.inl ⟨by rfl, ?_⟩) ?_
        rotate_left
        · ((intro w' hSw); (try dsimp only at hSw); go_simp; all_goals (with_reducible rfl))
        simp only [Act.put, puts]
        refine takeH 2 ?_ rfl (Or.inl ⟨by rfl, ?_⟩) ?_
        rotate_left
        · ((intro w' hSw); (try dsimp only at hSw); go_simp; all_goals (with_reducible rfl))
        simp only [Act.put, puts]
        refine takeH 3 ?_ rfl (Or.inl ⟨by rfl, ?_⟩) ?_
        rotate_left
        · ((intro w' hSw); (try dsimp only at hSw); go_simp; all_goals (with_reducible rfl))
        simp only [Act.put, puts]
        refine takeH 4 ?_ rfl (Or.inl ⟨by rfl, ?_⟩) ?_
        rotate_left
        · ((intro w' hSw); (try dsimp only at hSw); go_simp; all_goals (with_reducible rfl))
        simp only [Act.put, puts]
        refine wpAnyH_ready (rs := [5]) (by kernel_rfl) (by simp) ?_
        refine AllReadyH.cons rfl (fun K hK => ?_) AllReadyH.nil
        go_simp
        go_wp2_with (go_at_call 166; (with_reducible refine (C3.out _ HBq.out).mono ?_); rintro e w4 ⟨rfl, hb⟩; have HB4 := Lib.hid hb; clear hb)
        refine hK.out _ _ ?_ (fun hHeld => ?_)
        · exact ⟨keep_block HNq.out HB4.out, HCW.out _ (HBq.out.trans (HB4.out.mono HBq.out.size))⟩
        clear hK K
        refine takeH 6 ?_ rfl (Or.inl ⟨by rfl, ?_⟩) ?_
        rotate_left
        · ((intro w' hSw); (try dsimp only at hSw); go_simp; all_goals (with_reducible rfl))
        simp only [Act.put, puts]
        refine wpAnyH_done (by kernel_rfl) ?_ _
        have HB5 := Lib.hid (show Below w3.heap.size w3 w4 from HXq.out.trans HB4.out)
        have kk8 := Lib.hid (kk7.out.step (W' := w4) HB5.out)
        obtain ⟨q, hq⟩ : ∃ q, entryI N.d.list x = q := ⟨_, rfl⟩
        rw [hq]
        rw [H1.out.2] at hq
        have HQ := Lib.hid hq
        clear hq hHeld
        by_cases hq0 : q = 0
        · have b0 : (q == 0) = true := by simp [hq0]
          have HQ0 := Lib.hid hq0
          clear hq0
          repeat (first | (go_big_may; (with_reducible refine store_got rfl _ _ rfl (w.heap.size + 1) rfl 0 90 rfl zG ((kk8.out.at 1 rfl).out) hz2 ?_)) | go_values | go_skip | go_guarded | go_step | go_upon | dsimp only)
          refine bodyPost_ret (v := .agg #[.int .i64 0, .int .i64 90]) (ret_got rfl _ _ (w.heap.size + 1) 0 90 zG rfl (kk8.out.at 1 rfl).out) rfl ?_
          exact ⟨by rw [HWY.out, HDR.out, wayL, if_pos HK1.out, if_pos HAL.out, if_pos (by rw [HQ.out]; exact HQ0.out)], below_setRow kk8.out.low.out (by omega) _⟩
        · have b0 : (q == 0) = false := by simp [hq0]
          have HQ0 := Lib.hid hq0
          clear hq0
          go_wp2
          go_roundw
          case rel => exact ⟨k + 1, q, HLT.out, by go_num, rfl, by rw [HWY.out, HDR.out, wayL, if_pos HK1.out, if_pos HAL.out, if_neg (by rw [HQ.out]; exact HQ0.out), HQ.out], kk8.out.drop 1⟩
          case measure => have := HLT.out; simp [intOf]; omega
    · have bk : (N.d.kind != 1) = true := by simp [hk1]
      have HK1 := Lib.hid (show ¬ (nodeD T.t.nodes id).kind = 1 by rw [← H1.out.2]; exact hk1)
      clear hk1
      repeat (first | (go_big_may; (with_reducible refine store_got rfl _ _ rfl (w.heap.size + 1) rfl 0 92 rfl zG ((kk5.out.at 1 rfl).out) hz2 ?_)) | go_values | go_skip | go_guarded | go_step | go_upon | dsimp only)
      refine bodyPost_ret (v := .agg #[.int .i64 0, .int .i64 92]) (ret_got rfl _ _ (w.heap.size + 1) 0 92 zG rfl (kk5.out.at 1 rfl).out) rfl ?_
      exact ⟨by rw [HWY.out, HDR.out, wayL, if_neg HK1.out], below_setRow kk5.out.low.out (by omega) _⟩
  · have kn : ¬ (k : Int) < (m : Int) := fun e => hlt (Int.ofNat_lt.1 e)
    have hdr : names.drop k = [] := List.drop_eq_nil_of_le (by rw [HNL.out]; omega)
    have HDR := Lib.hid hdr
    clear hdr hlt
    repeat (first | (go_big_may; (with_reducible refine store_got rfl _ _ rfl (w.heap.size + 1) rfl id 0 rfl zG ((kk2.out.at 0 rfl).out) hz2 ?_)) | go_values | go_skip | go_guarded | go_step | go_upon | dsimp only)
    refine bodyPost_ret (v := .agg #[.int .i64 id, .int .i64 0]) (ret_got rfl _ _ (w.heap.size + 1) id 0 zG rfl (kk2.out.at 0 rfl).out) rfl ?_
    exact ⟨by rw [HWY.out, HDR.out, wayL], below_setRow kk2.out.low.out (by omega) _⟩
end Go.Proofs.YtemgejblnionlaaGreatDoor
namespace Go.Proofs.YtemgejblnionlaaGreatDoor
open Go.RowKit
set_option maxHeartbeats 1000000
set_option maxRecDepth 100000
def wayP (L : Low) (nodes : List Nd) (who : Int) (path : ByteArray) : Int × Int := if (L.parts path).2 = 0 then wayL L nodes who 1 (L.parts path).1 else (0, 10)
structure Pl where
 dir : Int
 name : ByteArray
 id : Int
 e : Int
def placeP (L : Low) (nodes : List Nd) (who : Int) (path : ByteArray) : Pl :=
 if (L.parts path).2 = 0 then
  match (L.parts path).1.getLast? with
  | none => ⟨0, ⟨#[]⟩, 0, 10⟩
  | some last =>
    if (wayL L nodes who 1 (L.parts path).1.dropLast).2 = 0 then
     if (nodeD nodes (wayL L nodes who 1 (L.parts path).1.dropLast).1).kind = 1 then
      if L.allows (nodeD nodes (wayL L nodes who 1 (L.parts path).1.dropLast).1).acl who (nodeD nodes (wayL L nodes who 1 (L.parts path).1.dropLast).1).owner 4 = true then
       ⟨(wayL L nodes who 1 (L.parts path).1.dropLast).1, last, entryI (nodeD nodes (wayL L nodes who 1 (L.parts path).1.dropLast).1).list last, 0⟩
      else ⟨0, ⟨#[]⟩, 0, 95⟩
     else ⟨0, ⟨#[]⟩, 0, 92⟩
    else ⟨0, ⟨#[]⟩, 0, (wayL L nodes who 1 (L.parts path).1.dropLast).2⟩
 else ⟨0, ⟨#[]⟩, 0, 10⟩
theorem slice_strs (A : Option Addr) (m c j : Nat) (hj : j ≤ c) (hA : A = none ∨ ∃ g o, A = some ⟨g, o, none⟩) (W : World) : (Instr.slice 69 (.slice A m c) none (some (.int .i64 (j : Int))) none).run Tryz.prog W = .ok (.slice A j c) W := by
 have h0 : (0 : Int) ≤ (j : Int) := by omega
 have h1 : (j : Int) ≤ (c : Int) := by omega
 rw [run_slice_h _ _ _ _ _ Tryz.underlying69 _ _ h0 h1]
 rcases hA with rfl | ⟨g, o, rfl⟩
 · simp [go_sem, sliced]
 · have hadd : (⟨g, o, none⟩ : Addr).add 0 = ⟨g, o, none⟩ := by unfold Addr.add; split <;> simp_all
   simp [go_sem, sliced]
theorem store_spot {ops : Array Oper} {rest : List Oper} {o : Oper} {a : Act} {w : World} {Q : Exit → Act → World → Prop} (hgd : o.guard = none) (x y : Operand) (ho : o.op = .store 184 x y)
 (g : Nat) (hx : a.eval x = .pointer (some ⟨g, 0, none⟩)) (i : Int) (s : ByteArray) (k e : Int) (hy : a.eval y = .agg #[.int .i64 i, .string s, .int .i64 k, .int .i64 e]) (old : Array Value) (hg : w.heap[g]? = some (.cells old 184 (0, 0))) (hold : old.size = 4)
 (hr : wpList Tryz.prog ops Q rest (a.put o.dst undef) (w.setRow g #[.int .i64 i, .string s, .int .i64 k, .int .i64 e])) : wpList Tryz.prog ops Q (o :: rest) a w :=
 wpList_store_row hgd 184 x y ho g _ hx hy 184 old hg (by kernel_rfl) hold (by simp [Value.oneCell']) hr
theorem ret_spot {fn : Func} {p : Tmp} (h : fn.results = #[.cell p 184]) (tmps : Array Value) (w : World) (g : Nat) (i : Int) (s : ByteArray) (k e : Int) (old : Array Value)
 (hp : tmps.getD p undef = .pointer (some ⟨g, 0, none⟩)) (hg : w.heap[g]? = some (.cells old 184 (0, 0))) : (results fn tmps).run Tryz.prog (w.setRow g #[.int .i64 i, .string s, .int .i64 k, .int .i64 e]) = .ok (.agg #[.int .i64 i, .string s, .int .i64 k, .int .i64 e]) (w.setRow g #[.int .i64 i, .string s, .int .i64 k, .int .i64 e]) :=
 results_cell_row h tmps _ g 184 _ (0, 0) _ hp (setRow_heap _ _ _ _ _ _ hg) Tryz.underlying184 rfl (by kernel_rfl)
theorem step_store_row {P : Program} {W : World} {ops : Array Oper} {o : Oper} {a : Act} {K : Act → World → Prop} {Q : Exit → Act → World → Prop} {E : Prop} (hgd : o.guard = none) (ty : TypeId) (x y : Operand) (ho : o.op = .store ty x y)
 (g : Nat) (cells : Array Value) (hx : a.eval x = .pointer (some ⟨g, 0, none⟩)) (hy : a.eval y = .agg cells) (old : Array Value) (hg : W.heap[g]? = some (.cells old ty (0, 0))) (hi : (P.info? ty).map (·.size) = some cells.size)
 (hold : old.size = cells.size) (h1 : cells.all (·.oneCell') = true) (hK : K (a.put o.dst undef) (W.setRow g cells)) :
 if Region.wanted o (yielded ops a.tmps) = true then Oper.wp P o a W K Q else E := by
 have hw : Region.wanted o (yielded ops a.tmps) = true := by simp [Region.wanted, hgd]
 rw [if_pos hw]
 exact wp_store_row ty x y ho g cells hx hy ty old hg hi hold h1 hK
theorem rows_sl {α : Type} {f : α → List Value} {s : Nat} (hf : ∀ a, (f a).length = s) {w : World} {A : Option Addr} {n c k : Nat} {l : List α} (hs : 0 < s) (h : Sv w A n c s (encs f l)) (hk : k ≤ n) : Sv w A k c s (encs f (l.take k)) := by
 have hl : l.length = n := h.plen hf hs
 refine ⟨by rw [encs_len hf, List.length_take]; congr 1; omega, Nat.le_trans hk h.cap, h.max, h.nil, fun u hu => h.one u ?_, fun hn => ?_⟩
 · unfold encs at hu ⊢
   obtain ⟨a, ha, h2⟩ := List.mem_flatMap.1 hu
   exact List.mem_flatMap.2 ⟨a, List.mem_of_mem_take ha, h2⟩
 · have hne : encs f l ≠ [] := fun e => hn (by
    have : l = [] := by
     cases l with
     | nil => rfl
     | cons a l => exfalso; have h3 := encs_len hf (a :: l); rw [e] at h3; have h4 := Nat.mul_pos (show 0 < (a :: l).length by simp) hs; exact absurd (show 0 = (a :: l).length * s from h3) (Nat.ne_of_lt h4)
    rw [this]; simp [encs])
   obtain ⟨g, o, hA, hg, hc⟩ := h.cells hne
   refine ⟨g, o, hA, hg, fun j u hu => hc j u ?_⟩
   have e : encs f l = encs f (l.take k) ++ encs f (l.drop k) := by rw [← encs_append, List.take_append_drop]
   rw [e, List.getElem?_append_left (List.getElem?_eq_some_iff.1 hu).1]
   exact hu
theorem wayp_any {L : Low} (LR : LowR0 L) (T : Th) (who : Int) (path : ByteArray) (w : World) (hT : T.ok w) (hs' : T.t.small) (hp : path.size < 4294967281) :
 Calls Tryz.prog 76 #[T.val, .int .i64 who, .string path] w fun e w' => e = .returned (.agg #[.int .i64 (wayP L T.t.nodes who path).1, .int .i64 (wayP L T.t.nodes who path).2]) ∧ Below w.heap.size w w' := by
 have HSM := Lib.hid hs'
 have HTT := Lib.hid hT
 have hz2 : zG.size = 2 := rfl
 clear hT hs'
 show Calls Tryz.prog 76 #[T.val, .int .i64 who, .string path] w _
 have kk0 := Bxs.nil w
 obtain ⟨x1, hwx1, hzx1, kx1⟩ := kk0.new rfl T.cs (Th.enc T).toArray 31
 have HWx1 := Lib.hid hwx1
 obtain ⟨x2, hwx2, hzx2, kx2⟩ := kx1.new hzx1 zG zG 83
 have HWx2 := Lib.hid hwx2
 have kk1 := Lib.hid kx2
 clear kk0 hwx1 hzx1 kx1 hwx2 hzx2 kx2
 go_enter Tryz.func76, Tryz.ntmps76
 go_upto_region 1 with fail
 rw [HWx1.out, HWx2.out]
 have CP := Lib.hid (LR.parts path x2 hp)
 go_upto_region 2 with (go_at_call 119; (with_reducible refine CP.out.mono ?_); rintro e w2 ⟨NA, m, nc, rfl, hns, hm, hb⟩; have HB2 := Lib.hid hb; have HNS := Lib.hid hns; have HM := Lib.hid hm; clear hb hns hm)
 have kk2 := Lib.hid (kk1.out.step (W' := w2) HB2.out)
 by_cases he : (L.parts path).2 = 0
 · have be : ((L.parts path).2 != 0) = false := by simp [he]
   have HE := Lib.hid he
   clear he
   have CW := Lib.hid (way_any LR T who NA m nc (L.parts path).1 w2 (HTT.out.below kk2.out.low.out) HSM.out HNS.out (by have := HM.out; omega))
   obtain ⟨r1, hr1⟩ : ∃ r, (wayL L T.t.nodes who 1 (L.parts path).1).1 = r := ⟨_, rfl⟩
   obtain ⟨r2, hr2⟩ : ∃ r, (wayL L T.t.nodes who 1 (L.parts path).1).2 = r := ⟨_, rfl⟩
   rw [hr1, hr2] at CW
   have HR := Lib.hid (And.intro hr1 hr2)
   clear hr1 hr2
   repeat (first | (go_big_may; (first | (with_reducible refine load_tr rfl _ rfl (w.heap.size) rfl T (box_range (kk2.out.at 1 rfl).out) ?_) | (go_at_call 120; (with_reducible refine CW.out.mono ?_); rintro e w3 ⟨rfl, hb⟩; have HB3 := Lib.hid hb; clear hb) | (with_reducible refine store_got rfl _ _ rfl (w.heap.size + 1) rfl r1 r2 rfl zG (keep_block (kk2.out.at 0 rfl).out HB3.out) hz2 ?_))) | go_values | go_skip | go_guarded | go_step | go_upon | dsimp only)
   have kk3 := Lib.hid (kk2.out.step (W' := w3) HB3.out)
   refine bodyPost_ret (v := .agg #[.int .i64 r1, .int .i64 r2]) (ret_got rfl _ _ (w.heap.size + 1) r1 r2 zG rfl (kk3.out.at 0 rfl).out) rfl ?_
   exact ⟨by unfold wayP; rw [if_pos HE.out, HR.out.1, HR.out.2], below_setRow kk3.out.low.out (by omega) _⟩
 · have be : ((L.parts path).2 != 0) = true := by simp [he]
   have HE := Lib.hid he
   clear he
   repeat (first | (go_big_may; (with_reducible refine store_got rfl _ _ rfl (w.heap.size + 1) rfl 0 10 rfl zG (kk2.out.at 0 rfl).out hz2 ?_)) | go_values | go_skip | go_guarded | go_step | go_upon | dsimp only)
   refine bodyPost_ret (v := .agg #[.int .i64 0, .int .i64 10]) (ret_got rfl _ _ (w.heap.size + 1) 0 10 zG rfl (kk2.out.at 0 rfl).out) rfl ?_
   exact ⟨by unfold wayP; rw [if_neg HE.out], below_setRow kk2.out.low.out (by omega) _⟩
theorem place_any {L : Low} (LR : LowR0 L) (T : Th) (who : Int) (path : ByteArray) (w : World) (hT : T.ok w) (hs' : T.t.small) (hp : path.size < 4294967281) :
 Calls Tryz.prog 121 #[T.val, .int .i64 who, .string path] w fun e w' => e = .returned (.agg #[.int .i64 (placeP L T.t.nodes who path).dir, .string (placeP L T.t.nodes who path).name, .int .i64 (placeP L T.t.nodes who path).id, .int .i64 (placeP L T.t.nodes who path).e]) ∧ Below w.heap.size w w' := by
 have CN := Lib.hid (fun id W (h : Below w.heap.size w W) => (show Calls Tryz.prog 41 #[T.val, .int .i64 id] W fun e w' => ∃ N : Nh, e = .returned N.val ∧ N.ok w ∧ N.d = nodeD T.t.nodes id ∧ Below W.heap.size W w' from
  (node_any T id W (hT.below h) (by have := hs'.1; rw [Th.t_len hT] at this; omega)).mono fun e w' ⟨he, hb⟩ => ⟨_, he, nodeH_ok hT id, nodeH_d _ _, hb⟩))
 have HSM := Lib.hid hs'
 have HTT := Lib.hid hT
 have hz2 : zG.size = 2 := rfl
 have hz4 : zS.size = 4 := rfl
 have hz8 : zN.size = 8 := rfl
 clear hT hs'
 show Calls Tryz.prog 121 #[T.val, .int .i64 who, .string path] w _
 have kk0 := Bxs.nil w
 obtain ⟨x1, hwx1, hzx1, kx1⟩ := kk0.new rfl T.cs (Th.enc T).toArray 31
 have HWx1 := Lib.hid hwx1
 obtain ⟨x2, hwx2, hzx2, kx2⟩ := kx1.new hzx1 zS zS 184
 have HWx2 := Lib.hid hwx2
 have kk1 := Lib.hid kx2
 clear kk0 hwx1 hzx1 kx1 hwx2 hzx2 kx2
 go_enter Tryz.func121, Tryz.ntmps121
 go_upto_region 1 with fail
 rw [HWx1.out, HWx2.out]
 have CP := Lib.hid (LR.parts path x2 hp)
 go_upto_region 2 with (go_at_call 119; (with_reducible refine CP.out.mono ?_); rintro e w2 ⟨NA, m, nc, rfl, hns, hm, hb⟩; have HB2 := Lib.hid hb; have HNS := Lib.hid hns; have HM := Lib.hid hm; clear hb hns hm)
 have kk2 := Lib.hid (kk1.out.step (W' := w2) HB2.out)
 have HNL := Lib.hid (HNS.out.plen encS_len (by decide))
 by_cases he : (L.parts path).2 = 0
 · have be : ((L.parts path).2 != 0) = false := by simp [he]
   have HE := Lib.hid he
   clear he
   by_cases hm0 : m = 0
   · have hgl : (L.parts path).1.getLast? = none := by rw [List.getLast?_eq_none_iff]; exact List.eq_nil_of_length_eq_zero (by rw [HNL.out]; exact hm0)
     have HG := Lib.hid hgl
     have b0 : ((m : Int) == 0) = true := by simp [hm0]
     clear hgl hm0
     repeat (first | (go_big_may; (with_reducible refine store_spot rfl _ _ rfl (w.heap.size + 1) rfl 0 ⟨#[]⟩ 0 10 rfl zS (kk2.out.at 0 rfl).out hz4 ?_)) | go_values | go_skip | go_guarded | go_step | go_upon | dsimp only)
     refine bodyPost_ret (v := .agg #[.int .i64 0, .string ⟨#[]⟩, .int .i64 0, .int .i64 10]) (ret_spot rfl _ _ (w.heap.size + 1) 0 ⟨#[]⟩ 0 10 zS rfl (kk2.out.at 0 rfl).out) rfl ?_
     exact ⟨by unfold placeP; rw [if_pos HE.out, HG.out], below_setRow kk2.out.low.out (by omega) _⟩
   · have b0 : ((m : Int) == 0) = false := by simp [hm0]
     obtain ⟨j, hj⟩ : ∃ j, j + 1 = m := ⟨m - 1, by omega⟩
     go_upto_region 4 with fail
     obtain ⟨last, hlast⟩ : ∃ x, (L.parts path).1[j]? = some x := ⟨_, List.getElem?_eq_getElem (by rw [HNL.out]; omega)⟩
     have HG := Lib.hid (show (L.parts path).1.getLast? = some last by rw [List.getLast?_eq_getElem?, HNL.out, ← hj, Nat.add_sub_cancel]; exact hlast)
     have HDL := Lib.hid (show (L.parts path).1.dropLast = (L.parts path).1.take j by rw [List.dropLast_eq_take, HNL.out, ← hj, Nat.add_sub_cancel])
     have HLA := Lib.hid hlast
     have hjw : IntKind.i64.wrap ((m : Int) - 1) = (j : Int) := by rw [IntWalk.i64_in _ (by have := HM.out; omega)]; omega
     have k0 : (0 : Int) ≤ (j : Int) := Int.natCast_nonneg j
     have km : (j : Int) < (m : Int) := by omega
     obtain ⟨g, ad, hA, hgw, hcw⟩ := Sv.range encS_len (by decide) HNS.out hlast
     have HCW := Lib.hid (fun W (h : Below w2.heap.size w2 W) => (show W.cell? ⟨g, ad + j, none⟩ = some (.string last) from by have := range_below hcw hgw h 0 _ rfl; simpa using this))
     have hsl := slice_strs NA m nc j (by have := HNS.out.cap; omega) (.inr ⟨g, ad, hA⟩)
     have HJM := Lib.hid (show j ≤ m by omega)
     subst hA
     clear hgw hcw hlast hm0
     obtain ⟨r1, hr1⟩ : ∃ r, (wayL L T.t.nodes who 1 ((L.parts path).1.take j)).1 = r := ⟨_, rfl⟩
     obtain ⟨r2, hr2⟩ : ∃ r, (wayL L T.t.nodes who 1 ((L.parts path).1.take j)).2 = r := ⟨_, rfl⟩
     have CW := Lib.hid (fun W (h : Below w2.heap.size w2 W) => (show Calls Tryz.prog 120 #[Th.val T, .int .i64 who, .slice (some ⟨g, ad, none⟩) j nc] W fun e w' => e = .returned (.agg #[.int .i64 r1, .int .i64 r2]) ∧ Below W.heap.size W w' from hr1 ▸ hr2 ▸ way_any LR T who (some ⟨g, ad, none⟩) j nc ((L.parts path).1.take j) W (HTT.out.below (kk2.out.low.out.trans (h.mono kk2.out.low.out.size))) HSM.out (rows_sl encS_len (by decide) (HNS.out.below h) HJM.out) (by have := HM.out; omega)))
     have HR := Lib.hid (And.intro hr1 hr2)
     clear hr1 hr2 hj
     go_cut [9] from 25 to 32 (fun s9 wx => ∃ b, s9 = .pointer (some ⟨b, 0, none⟩) ∧ w2.heap.size ≤ b ∧ wx.heap[b]? = some (.cells #[.int .i64 r1, .int .i64 r2] 83 (0, 0)) ∧ Below w2.heap.size w2 wx)
     case first =>
      have HBq := Lib.hid (show Below w2.heap.size w2 w2.drew from below_drewN w2 1)
      have HTq := Lib.hid (show w2.drew.heap[w.heap.size]? = some (.cells (Th.enc T).toArray 31 (0, 0)) from (kk2.out.at 1 rfl).out)
      refine wp_region_held_drew (S := (fun W' => W'.heap[w.heap.size]? = some (.cells (Th.enc T).toArray 31 (0, 0)))) (by kernel_rfl) (by exact HTq.out) (fun hHeld => ?_)
      generalize w2.drew = u at *
      refine wpAnyH_take (i := 0) (v := Th.val T) rfl (by kernel_rfl) (by kernel_rfl) (by kernel_rfl) (fun _ _ _ h => h) (yieldsIf_load_mid (by rfl) 31 _ rfl (w.heap.size) 0 rfl (Th.enc T) _ (fun w h => box_range h) Tryz.underlying31 rfl (by kernel_rfl)) (by assumption) ?_
      simp only [Act.put, puts]
      refine takeH 1 ?_ rfl (Or.inl ⟨by rfl, ?_⟩) ?_
      rotate_left
      · ((intro w' hSw); (try dsimp only at hSw); go_simp; all_goals (with_reducible rfl))
      simp only [Act.put, puts]
      refine takeH 2 ?_ rfl (Or.inl ⟨by rfl, ?_⟩) ?_
      rotate_left
      · ((intro w' hSw); (try dsimp only at hSw); go_simp; all_goals (with_reducible rfl))
      simp only [Act.put, puts]
      refine takeH 3 ?_ rfl (Or.inl ⟨by rfl, ?_⟩) ?_
      rotate_left
      · ((intro w' hSw); (try dsimp only at hSw); go_simp; all_goals (with_reducible rfl))
      simp only [Act.put, puts]
      refine takeH 4 ?_ rfl (Or.inl ⟨by rfl, ?_⟩) ?_
      rotate_left
      · ((intro w' hSw); (try dsimp only at hSw); go_simp; all_goals (with_reducible rfl))
      simp only [Act.put, puts]
      refine takeH 5 ?_ rfl (Or.inl ⟨by rfl, ?_⟩) ?_
      rotate_left
      · ((intro w' hSw); (try dsimp only at hSw); go_simp; all_goals (with_reducible rfl))
      simp only [Act.put, puts]
      try rw [hjw]
      refine wpAnyH_take (i := 6) (v := .slice (some ⟨g, ad, none⟩) j nc) rfl (by kernel_rfl) (by kernel_rfl) (by kernel_rfl) (fun _ _ _ h => h) (Or.inl ⟨by rfl, ?_⟩) (by assumption) ?_
      · ((intro w' hSw); go_simp)
      simp only [Act.put, puts]
      refine wpAnyH_ready (rs := [7, 8]) (by kernel_rfl) (by simp) ?_
      refine AllReadyH.cons rfl (fun K hK => ?_) (AllReadyH.cons rfl (fun K hK => ?_) AllReadyH.nil)
      · go_simp
        go_wp2_with (go_at_call 120; (with_reducible refine (CW.out _ HBq.out).mono ?_); rintro e w3 ⟨rfl, hb⟩; have HB3 := Lib.hid hb; clear hb)
        refine hK.out _ _ ?_ (fun hHeld => ?_)
        · exact keep_block HTq.out HB3.out
        clear hK K
        try simp only [Act.put, List.setIfInBounds_toArray, List.set_cons_zero, List.set_cons_succ]
        refine wpAnyH_ready (rs := [8]) (by kernel_rfl) (by simp) ?_
        refine AllReadyH.cons rfl (fun K hK => ?_) AllReadyH.nil
        go_simp
        have HBz := Lib.hid (show Below w3.heap.size w3 (w3.alloc (.cells zG 83)) from (Below.refl _ w3).alloc (Nat.le_refl _) _)
        refine hK.out _ _ ?_ (fun hHeld => ?_)
        · exact keep_block (keep_block HTq.out HB3.out) HBz.out
        clear hK K
        try simp only [Act.put, List.setIfInBounds_toArray, List.set_cons_zero, List.set_cons_succ]
        refine wpAnyH_ready (rs := [9]) (by kernel_rfl) (by simp) ?_
        refine AllReadyH.cons rfl (fun K hK => ?_) AllReadyH.nil
        refine step_store_row rfl 83 _ _ rfl w3.heap.size #[.int .i64 r1, .int .i64 r2] rfl rfl zG (heap_alloc_new w3 _) (by kernel_rfl) rfl (by simp [Value.oneCell']) ?_
        have HBx := Lib.hid (below_setRow (HBq.out.trans ((HB3.out.trans (HBz.out.mono HB3.out.size)).mono HBq.out.size)) (g := w3.heap.size) (Nat.le_trans HBq.out.size HB3.out.size) #[.int .i64 r1, .int .i64 r2])
        refine hK.out _ _ ?_ (fun hHeld => ?_)
        · exact (setRow_other _ _ _ _ (by have := block_lt HTq.out; have h2 := HB3.out.size; omega)).trans (keep_block (keep_block HTq.out HB3.out) HBz.out)
        clear hK K
        refine wpAnyH_done (by kernel_rfl) ?_ _
        go_wp2
        go_meet
        case rel => exact ⟨w3.heap.size, rfl, Nat.le_trans HBq.out.size HB3.out.size, setRow_heap _ _ _ _ _ _ (heap_alloc_new w3 _), HBx.out⟩
      · go_simp
        have HBz := Lib.hid (show Below u.heap.size u (u.alloc (.cells zG 83)) from (Below.refl _ u).alloc (Nat.le_refl _) _)
        have HBy := Lib.hid (show Below w2.heap.size w2 (u.alloc (.cells zG 83)) from HBq.out.trans (HBz.out.mono HBq.out.size))
        have HNz := Lib.hid (heap_alloc_new u (.cells zG 83))
        refine hK.out _ _ ?_ (fun hHeld => ?_)
        · exact keep_block HTq.out HBz.out
        clear hK K
        try simp only [Act.put, puts]
        generalize u.alloc (.cells zG 83) = u2 at *
        refine wpAnyH_ready (rs := [7]) (by kernel_rfl) (by simp) ?_
        refine AllReadyH.cons rfl (fun K hK => ?_) AllReadyH.nil
        go_simp
        go_wp2_with (go_at_call 120; (with_reducible refine (CW.out _ HBy.out).mono ?_); rintro e w3 ⟨rfl, hb⟩; have HB3 := Lib.hid hb; clear hb)
        refine hK.out _ _ ?_ (fun hHeld => ?_)
        · exact keep_block (keep_block HTq.out HBz.out) HB3.out
        clear hK K
        try simp only [Act.put, puts]
        refine wpAnyH_ready (rs := [9]) (by kernel_rfl) (by simp) ?_
        refine AllReadyH.cons rfl (fun K hK => ?_) AllReadyH.nil
        refine step_store_row rfl 83 _ _ rfl u.heap.size #[.int .i64 r1, .int .i64 r2] rfl rfl zG (keep_block HNz.out HB3.out) (by kernel_rfl) rfl (by simp [Value.oneCell']) ?_
        have HBx := Lib.hid (below_setRow (HBy.out.trans (HB3.out.mono HBy.out.size)) (g := u.heap.size) HBq.out.size #[.int .i64 r1, .int .i64 r2])
        refine hK.out _ _ ?_ (fun hHeld => ?_)
        · exact (setRow_other _ _ _ _ (by have := block_lt HTq.out; omega)).trans (keep_block (keep_block HTq.out HBz.out) HB3.out)
        clear hK K
        refine wpAnyH_done (by kernel_rfl) ?_ _
        go_wp2
        go_meet
        case rel => exact ⟨u.heap.size, rfl, HBq.out.size, setRow_heap _ _ _ _ _ _ (keep_block HNz.out HB3.out), HBx.out⟩
     case rest =>
      obtain ⟨b, rfl, hbge, hbx, hbc⟩ := hcut
      have HBG := Lib.hid hbge
      have BG0 := Lib.hid hbx
      have HBC := Lib.hid hbc
      clear hbge hbx hbc
      have kk3 := Lib.hid (kk2.out.add HBC.out BG0.out HBG.out)
      have HDW := Lib.hid (show (wayL L T.t.nodes who 1 (L.parts path).1.dropLast).1 = r1 ∧ (wayL L T.t.nodes who 1 (L.parts path).1.dropLast).2 = r2 by rw [HDL.out]; exact HR.out)
      have g0 : wc.cell? ⟨b, 0, none⟩ = some (.int .i64 r1) := kk3.out.cell 0 0 _ rfl
      have g1 : wc.cell? ⟨b, 1, none⟩ = some (.int .i64 r2) := kk3.out.cell 0 1 _ rfl
      by_cases hr0 : r2 = 0
      · have b2 : (r2 != 0) = false := by simp [hr0]
        have HR0 := Lib.hid hr0
        clear hr0
        go_upto_region 7 with fail
        have C1 := Lib.hid (CN.out r1 wc kk3.out.low.out)
        go_upto_region 8 with (first | (with_reducible refine load_tr rfl _ rfl (w.heap.size) rfl T (box_range (kk3.out.at 2 rfl).out) ?_) | (go_at_call 41; (with_reducible refine C1.out.mono ?_); rintro e w4 ⟨N, rfl, hok, hd, hb⟩; have HB4 := Lib.hid hb; have H1 := Lib.hid (And.intro hok hd); clear hok hd hb) | (with_reducible refine store_nd rfl _ _ rfl w4.heap.size rfl N rfl zN (heap_alloc_new w4 _) hz8 ?_))
        clear g0 g1
        have kk4 := Lib.hid (kk3.out.step (W' := w4) HB4.out)
        have kk5 := Lib.hid (kk4.out.alloc (c := zN) zN 65)
        have kk6 := Lib.hid (kk5.out.row 0 rfl N.enc.toArray)
        have HW4 := Lib.hid (below_setRow ((HBC.out.trans (HB4.out.mono HBC.out.size)).alloc (Nat.le_trans HBC.out.size HB4.out.size) (.cells zN 65)) (g := w4.heap.size) (Nat.le_trans HBC.out.size HB4.out.size) N.enc.toArray)
        generalize (w4.alloc (.cells zN 65)).setRow w4.heap.size N.enc.toArray = y7 at *
        have k1 : y7.cell? ⟨w4.heap.size, 1, none⟩ = some (.int .i64 N.d.kind) := kk6.out.cell 0 1 _ rfl
        by_cases hk1 : N.d.kind = 1
        · have bk : (N.d.kind != 1) = false := by simp [hk1]
          have HK1 := Lib.hid (show (nodeD T.t.nodes r1).kind = 1 by rw [← H1.out.2]; exact hk1)
          clear hk1
          have C2 := Lib.hid (may_any LR N who 4 y7 (H1.out.1.below kk6.out.low.out) (by rw [← H1.out.1.alen, H1.out.2]; exact (nodeD_small HSM.out r1).1))
          obtain ⟨al, hal⟩ : ∃ b, L.allows N.d.acl who N.d.owner 4 = b := ⟨_, rfl⟩
          rw [hal] at C2
          rw [H1.out.2] at hal
          have HAL := Lib.hid hal
          clear hal
          cases al
          · go_upto_region 11 with (first | (with_reducible refine load_nd rfl _ rfl (w4.heap.size) 0 rfl N (box_range (kk6.out.at 0 rfl).out) ?_) | (go_at_call 122; (with_reducible refine C2.out.mono ?_); rintro e w5 ⟨rfl, hb⟩; have HB5 := Lib.hid hb; clear hb))
            clear k1
            have kk8 := Lib.hid (kk6.out.step (W' := w5) HB5.out)
            repeat (first | (go_big_may; (with_reducible refine store_spot rfl _ _ rfl (w.heap.size + 1) rfl 0 ⟨#[]⟩ 0 95 rfl zS (kk8.out.at 2 rfl).out hz4 ?_)) | go_values | go_skip | go_guarded | go_step | go_upon | dsimp only)
            refine bodyPost_ret (v := .agg #[.int .i64 0, .string ⟨#[]⟩, .int .i64 0, .int .i64 95]) (ret_spot rfl _ _ (w.heap.size + 1) 0 ⟨#[]⟩ 0 95 zS rfl (kk8.out.at 2 rfl).out) rfl ?_
            refine ⟨?_, below_setRow kk8.out.low.out (by omega) _⟩
            have hpl : placeP L T.t.nodes who path = ⟨0, ⟨#[]⟩, 0, 95⟩ := by unfold placeP; rw [if_pos HE.out, HG.out]; simp only [HDW.out.1, HDW.out.2]; rw [if_pos HR0.out, if_pos HK1.out, if_neg (by rw [HAL.out]; decide)]
            rw [hpl]
          · go_upto_region 12 with (first | (with_reducible refine load_nd rfl _ rfl (w4.heap.size) 0 rfl N (box_range (kk6.out.at 0 rfl).out) ?_) | (go_at_call 122; (with_reducible refine C2.out.mono ?_); rintro e w5 ⟨rfl, hb⟩; have HB5 := Lib.hid hb; clear hb))
            clear k1
            have kk8 := Lib.hid (kk6.out.step (W' := w5) HB5.out)
            have HBCw := Lib.hid (show Below w2.heap.size w2 w5 from HW4.out.trans (HB5.out.mono HW4.out.size))
            have nl := HCW.out w5 HBCw.out
            go_upto_region 13 with fail
            clear nl
            have C3 := Lib.hid (fun W (h : Below w.heap.size w W) => entry_any N last W (H1.out.1.below h) (by rw [← H1.out.1.llen, H1.out.2]; have := (nodeD_small HSM.out r1).2.1; omega))
            have HXq := Lib.hid (show Below w5.heap.size w5 w5.drew from below_drewN w5 1)
            have kk9 := Lib.hid (kk8.out.step (W' := w5.drew) HXq.out)
            refine wp_region_held_drew (S := (fun W' => W'.heap[w4.heap.size]? = some (.cells N.enc.toArray 65 (0, 0)) ∧ W'.cell? ⟨b, 0, none⟩ = some (.int .i64 r1))) (by kernel_rfl) (by exact ⟨(kk9.out.at 0 rfl).out, cell_of_row _ _ 0 _ _ _ (kk9.out.at 1 rfl).out⟩) (fun hHeld => ?_)
            generalize w5.drew = y10 at *
            refine takeH 0 ?_ rfl (Or.inl ⟨by rfl, ?_⟩) ?_
            rotate_left
            · ((intro w' hSw); (try dsimp only at hSw); go_simp; all_goals (with_reducible rfl))
            simp only [Act.put, puts]
            refine takeH 1 ?_ rfl (Or.inl ⟨by rfl, ?_⟩) ?_
            rotate_left
            · ((intro w' hSw); (try dsimp only at hSw); go_simp; all_goals (with_reducible rfl))
            simp only [Act.put, puts]
            refine takeH 2 ?_ rfl (Or.inl ⟨by rfl, ?_⟩) ?_
            rotate_left
            · ((intro w' hSw); (try dsimp only at hSw); go_simp; all_goals (with_reducible rfl))
            simp only [Act.put, puts]
            refine wpAnyH_take (i := 3) (v := N.val) rfl (by kernel_rfl) (by kernel_rfl) (by kernel_rfl) (fun _ _ _ h => h) (yieldsIf_load_mid (by rfl) 65 _ rfl (w4.heap.size) 0 rfl N.enc _ (fun w h => box_range h.1) Tryz.underlying65 rfl (by kernel_rfl)) (by assumption) ?_
            simp only [Act.put, puts]
            refine takeH 4 ?_ rfl (Or.inl ⟨by rfl, ?_⟩) ?_
            rotate_left
            · ((intro w' hSw); (try dsimp only at hSw); go_simp; all_goals (with_reducible rfl))
            simp only [Act.put, puts]
            refine wpAnyH_ready (rs := [5]) (by kernel_rfl) (by simp) ?_
            refine AllReadyH.cons rfl (fun K hK => ?_) AllReadyH.nil
            go_simp
            go_wp2_with (go_at_call 166; (with_reducible refine (C3.out _ kk9.out.low.out).mono ?_); rintro e w6 ⟨rfl, hb⟩; have HB6 := Lib.hid hb; clear hb)
            refine hK.out _ _ ?_ (fun hHeld => ?_)
            · exact ⟨keep_block (kk9.out.at 0 rfl).out HB6.out, cell_of_row _ _ 0 _ _ _ (keep_block (kk9.out.at 1 rfl).out HB6.out)⟩
            clear hK K
            have kk11 := Lib.hid (kk9.out.step (W' := w6) HB6.out)
            obtain ⟨q, hq⟩ : ∃ q, entryI N.d.list last = q := ⟨_, rfl⟩
            rw [hq]
            have HQ := Lib.hid (show entryI (nodeD T.t.nodes r1).list last = q by rw [← H1.out.2]; exact hq)
            clear hq
            refine takeH 6 ?_ rfl (Or.inl ⟨by rfl, ?_⟩) ?_
            rotate_left
            · ((intro w' hSw); (try dsimp only at hSw); go_simp; all_goals (with_reducible rfl))
            simp only [Act.put, puts]
            refine wpAnyH_ready (rs := [7]) (by kernel_rfl) (by simp) ?_
            refine AllReadyH.cons rfl (fun K hK => ?_) AllReadyH.nil
            refine step_store_row rfl 184 _ _ rfl (w.heap.size + 1) #[.int .i64 r1, .string last, .int .i64 q, .int .i64 0] rfl rfl zS (kk11.out.at 2 rfl).out (by kernel_rfl) rfl (by simp [Value.oneCell']) ?_
            refine hK.out _ _ ?_ (fun hHeld => ?_)
            · exact ⟨(setRow_other _ _ _ _ (by have hc := kk11.out.chn; dsimp [chn] at hc; omega)).trans (kk11.out.at 0 rfl).out, (World.cell?_of_block (a := ⟨b, 0, none⟩) (setRow_other w6 (w.heap.size + 1) (b) _ (by have hc := kk11.out.chn; dsimp [chn] at hc; omega))).trans (cell_of_row _ _ 0 _ _ _ (kk11.out.at 1 rfl).out)⟩
            clear hK K
            refine wpAnyH_done (by kernel_rfl) ?_ _
            go_wp2
            refine bodyPost_ret (v := .agg #[.int .i64 r1, .string last, .int .i64 q, .int .i64 0]) (ret_spot rfl _ _ (w.heap.size + 1) r1 last q 0 zS rfl (kk11.out.at 2 rfl).out) rfl ?_
            refine ⟨?_, below_setRow kk11.out.low.out (by omega) _⟩
            have hpl : placeP L T.t.nodes who path = ⟨r1, last, q, 0⟩ := by unfold placeP; rw [if_pos HE.out, HG.out]; simp only [HDW.out.1, HDW.out.2]; rw [if_pos HR0.out, if_pos HK1.out, if_pos HAL.out, HQ.out]
            rw [hpl]
        · have bk : (N.d.kind != 1) = true := by simp [hk1]
          have HK1 := Lib.hid (show ¬ (nodeD T.t.nodes r1).kind = 1 by rw [← H1.out.2]; exact hk1)
          clear hk1
          repeat (first | (go_big_may; (with_reducible refine store_spot rfl _ _ rfl (w.heap.size + 1) rfl 0 ⟨#[]⟩ 0 92 rfl zS (kk6.out.at 2 rfl).out hz4 ?_)) | go_values | go_skip | go_guarded | go_step | go_upon | dsimp only)
          refine bodyPost_ret (v := .agg #[.int .i64 0, .string ⟨#[]⟩, .int .i64 0, .int .i64 92]) (ret_spot rfl _ _ (w.heap.size + 1) 0 ⟨#[]⟩ 0 92 zS rfl (kk6.out.at 2 rfl).out) rfl ?_
          refine ⟨?_, below_setRow kk6.out.low.out (by omega) _⟩
          have hpl : placeP L T.t.nodes who path = ⟨0, ⟨#[]⟩, 0, 92⟩ := by unfold placeP; rw [if_pos HE.out, HG.out]; simp only [HDW.out.1, HDW.out.2]; rw [if_pos HR0.out, if_neg HK1.out]
          rw [hpl]
      · have b2 : (r2 != 0) = true := by simp [hr0]
        have HR0 := Lib.hid hr0
        clear hr0
        repeat (first | (go_big_may; (with_reducible refine store_spot rfl _ _ rfl (w.heap.size + 1) rfl 0 ⟨#[]⟩ 0 r2 rfl zS (kk3.out.at 1 rfl).out hz4 ?_)) | go_values | go_skip | go_guarded | go_step | go_upon | dsimp only)
        refine bodyPost_ret (v := .agg #[.int .i64 0, .string ⟨#[]⟩, .int .i64 0, .int .i64 r2]) (ret_spot rfl _ _ (w.heap.size + 1) 0 ⟨#[]⟩ 0 r2 zS rfl (kk3.out.at 1 rfl).out) rfl ?_
        refine ⟨?_, below_setRow kk3.out.low.out (by omega) _⟩
        have hpl : placeP L T.t.nodes who path = ⟨0, ⟨#[]⟩, 0, r2⟩ := by unfold placeP; rw [if_pos HE.out, HG.out]; simp only [HDW.out.1, HDW.out.2]; rw [if_neg HR0.out]
        rw [hpl]
 · have be : ((L.parts path).2 != 0) = true := by simp [he]
   have HE := Lib.hid he
   clear he
   repeat (first | (go_big_may; (with_reducible refine store_spot rfl _ _ rfl (w.heap.size + 1) rfl 0 ⟨#[]⟩ 0 10 rfl zS (kk2.out.at 0 rfl).out hz4 ?_)) | go_values | go_skip | go_guarded | go_step | go_upon | dsimp only)
   refine bodyPost_ret (v := .agg #[.int .i64 0, .string ⟨#[]⟩, .int .i64 0, .int .i64 10]) (ret_spot rfl _ _ (w.heap.size + 1) 0 ⟨#[]⟩ 0 10 zS rfl (kk2.out.at 0 rfl).out) rfl ?_
   exact ⟨by unfold placeP; rw [if_neg HE.out], below_setRow kk2.out.low.out (by omega) _⟩
end Go.Proofs.YtemgejblnionlaaGreatDoor
namespace Go.Proofs.YtemgejblnionlaaGreatDoor
open Go.RowKit
set_option maxHeartbeats 1000000
set_option maxRecDepth 100000
structure Xh where
 kind : Int
 who : Int
 path : ByteArray
 dst : ByteArray
 off : Int
 n : Int
 id : Int
 A : Option Addr
 m : Nat
 c : Nat
 acl : List Ac
abbrev Xh.cs (x : Xh) : Array Value := #[.int .i64 x.kind, .int .i64 x.who, .string x.path, .string x.dst, .int .i64 x.off, .int .i64 x.n, .int .i64 x.id, .slice x.A x.m x.c]
abbrev Xh.val (x : Xh) : Value := .agg x.cs
structure Xh.ok (w : World) (x : Xh) : Prop where
 acl : Sv w x.A x.m x.c 5 (encs encA x.acl)
 path : x.path.size < 4294967281
 dst : x.dst.size < 4294967281
structure Rp where
 e : Int
 n : Int
 names : List ByteArray
 body : List Pc
 node : Nd
def Rp.num (e n : Int) : Rp := ⟨e, n, [], [], Nd.zero⟩
def Rh.r (R : Rh) : Rp := ⟨R.e, R.n, R.names, R.body, R.node.d⟩
structure Rh.In (P : Nat → Prop) (R : Rh) : Prop where
 names : plc P R.nA R.nn
 body : plc P R.bA R.bn
 node : R.node.In P
theorem Rh.num_in (P : Nat → Prop) (e n : Int) : (Rh.num e n).In P := ⟨plc_none P, plc_none P, Nh.zero_in P⟩
abbrev DoneRes (w : World) (T : Th) (d : Tr × Rp) (e : Ending) (w' : World) : Prop := ∃ (T' : Th) (R : Rh), e = .returned (dval T' R) ∧ T'.ok w' ∧ R.ok w' ∧ T'.t = d.1 ∧ R.r = d.2 ∧ (∀ P, T.In P → T'.In (Fresh P w)) ∧ (∀ P, T.In P → R.In (Fresh P w)) ∧ Below w.heap.size w w'
theorem Bxs.done {w W W7 : World} {l : List (Nat × Array Value × TypeId)} {b : Nat} {c : Array Value} {t : TypeId} {T T2 : Th} {R2 : Rh} {D : Tr × Rp} (K : Bxs w l W) (i : Nat) (h : l[i]? = some (b, c, t)) (hT : T.ok w) (hb : Below W.heap.size W W7) (hok : T2.ok W7) (hrk : R2.ok W7)
 (ht : T2.t = D.1) (hr : R2.r = D.2) (hi : ∀ P, T.In P → T2.In (Fresh P W)) (hj : ∀ P, T.In P → R2.In (Fresh P W)) : DoneRes w T D (.returned (dval T2 R2)) (W7.setRow b (denc T2 R2).toArray) := by
 have h1 := K.ge i h
 have h2 := K.lt i h
 have h3 := K.low_.size
 refine ⟨T2, R2, rfl, hok.agree ((hi _ (hT.off h1)).mono fun g hg => ?_) (fun g hg => setRow_other W7 b g _ hg) (by simp), ?_, ht, hr, fun P hP => (hi P hP).mono fun g hg => ?_, fun P hP => ?_, below_setRow (K.low_.trans (hb.mono h3)) h1 _⟩
 · rcases hg with hg | hg
   · exact hg
   · omega
 · have h4 := hj _ (hT.off h1)
   have h5 : ∀ g, Fresh (fun g => g ≠ b) W g → g ≠ b := fun g hg => by
    rcases hg with hg | hg
    · exact hg
    · omega
   exact ⟨hrk.names.agree (h4.names.mono h5) (fun g hg => setRow_other W7 b g _ hg) (by simp), hrk.body.agree (h4.body.mono h5) (fun g hg => setRow_other W7 b g _ hg) (by simp), hrk.node.agree (h4.node.mono h5) (fun g hg => setRow_other W7 b g _ hg) (by simp)⟩
 · rcases hg with hg | hg
   · exact .inl hg
   · exact .inr (by omega)
 · have h4 := hj P hP
   have h5 : ∀ g, Fresh P W g → Fresh P w g := fun g hg => by
    rcases hg with hg | hg
    · exact .inl hg
    · exact .inr (by omega)
   exact ⟨h4.names.mono h5, h4.body.mono h5, h4.node.mono h5⟩
theorem Bxs.failed {w W W7 : World} {l : List (Nat × Array Value × TypeId)} {b : Nat} {c : Array Value} {t : TypeId} {T : Th} (K : Bxs w l W) (i : Nat) (h : l[i]? = some (b, c, t)) (hT : T.ok w) (hb : Below W.heap.size W W7) (code : Int) :
 DoneRes w T (T.t, Rp.num code 0) (.returned (dval T (Rh.num code 0))) (W7.setRow b (denc T (Rh.num code 0)).toArray) :=
 K.done i h hT hb (hT.below (K.low_.trans (hb.mono K.low_.size))) (Rh.num_ok _ _ _) rfl rfl (fun _ h => h.mono fun _ => .inl) (fun _ _ => Rh.num_in _ _ _)
end Go.Proofs.YtemgejblnionlaaGreatDoor
namespace Go.Proofs.YtemgejblnionlaaGreatDoor
open Go.RowKit
set_option maxHeartbeats 1000000
set_option maxRecDepth 100000
section
variable {L : Low} {t : Tr}
abbrev Srt (l : List Nd) : Prop := l.Pairwise (fun a b => a.id < b.id)
theorem Srt.inj {l : List Nd} (h : Srt l) {a b : Nd} (ha : a ∈ l) (hb : b ∈ l) (e : a.id = b.id) : a = b := by
 induction l with
 | nil => cases ha
 | cons x l ih =>
   rw [Srt, List.pairwise_cons] at h
   rcases List.mem_cons.1 ha with ea | ha' <;> rcases List.mem_cons.1 hb with eb | hb'
   · rw [ea, eb]
   · have := h.1 _ hb'; rw [ea] at e; omega
   · have := h.1 _ ha'; rw [eb] at e; omega
   · exact ih h.2 ha' hb'
theorem nodeD_at {l : List Nd} (h : Srt l) {n : Nd} (hn : n ∈ l) : nodeD l n.id = n := by
 unfold nodeD
 cases e : l.find? (fun x => x.id == n.id) with
 | none => have := List.find?_eq_none.1 e n hn; simp at this
 | some x =>
   have h1 := List.find?_some e
   simp only [beq_iff_eq] at h1
   exact h.inj (List.mem_of_find?_eq_some e) hn h1
theorem nodeD_not {l : List Nd} {id : Int} (h : ∀ n ∈ l, n.id ≠ id) : nodeD l id = Nd.zero := by
 unfold nodeD
 rw [List.find?_eq_none.2 (fun x hx => by simpa using h x hx)]
 rfl
theorem nodeD_mem {l : List Nd} {id : Int} (h : ∃ n ∈ l, n.id = id) : nodeD l id ∈ l ∧ (nodeD l id).id = id := by
 unfold nodeD
 cases e : l.find? (fun x => x.id == id) with
 | none =>
   obtain ⟨n, hn, hi⟩ := h
   exact absurd hi (by have := List.find?_eq_none.1 e n hn; simpa using this)
 | some x => exact ⟨List.mem_of_find?_eq_some e, by simpa using List.find?_some e⟩
theorem nodeD_or (l : List Nd) (id : Int) : (nodeD l id ∈ l ∧ (nodeD l id).id = id) ∨ (nodeD l id = Nd.zero ∧ ∀ n ∈ l, n.id ≠ id) := by
 by_cases h : ∃ n ∈ l, n.id = id
 · exact .inl (nodeD_mem h)
 · have h' : ∀ n ∈ l, n.id ≠ id := fun n hn e => h ⟨n, hn, e⟩
   exact .inr ⟨nodeD_not h', h'⟩
theorem nodeD_kind {l : List Nd} {id : Int} (h : (nodeD l id).kind ≠ 0) : nodeD l id ∈ l ∧ (nodeD l id).id = id := by
 rcases nodeD_or l id with h' | ⟨h', -⟩
 · exact h'
 · rw [h'] at h; exact absurd rfl h
def linkedD (L : Low) (t : Tr) (who : Int) (path dst : ByteArray) (ver : Int) : Tr × Rp :=
 if (wayP L t.nodes who path).2 = 0 then
  let n := nodeD t.nodes (wayP L t.nodes who path).1
  if n.kind = 2 then
   let s := placeP L t.nodes who dst
   if s.e = 0 then
    if 0 < s.id then (t, .num 91 0)
    else if L.allows (nodeD t.nodes s.dir).acl who (nodeD t.nodes s.dir).owner 2 = true then
     ((t.withN { n with links := wrap64 (n.links + 1) }).enter s.dir ⟨s.name, n.id⟩ ver, .num 0 n.id)
    else (t, .num 95 0)
   else (t, .num s.e 0)
  else (t, .num 93 0)
 else (t, .num (wayP L t.nodes who path).2 0)
def ruledD (L : Low) (t : Tr) (kind who : Int) (path : ByteArray) (k : Int) (acl : List Ac) (ver : Int) : Tr × Rp :=
 if (wayP L t.nodes who path).2 = 0 then
  let n := nodeD t.nodes (wayP L t.nodes who path).1
  if L.allows n.acl who n.owner 8 = true then
   if kind = 11 then
    if 0 ≤ k ∧ k ≤ 999 then (t.withN { n with owner := k, ver := ver }, .num 0 0) else (t, .num 1 0)
   else if acl.any (·.given) = true ∨ L.aclOk acl = false then (t, .num 20 0)
   else if 16 < (acl ++ n.acl.filter (·.given)).length then (t, .num 2 0)
   else (t.withN { n with acl := acl ++ n.acl.filter (·.given), ver := ver }, .num 0 0)
  else (t, .num 95 0)
 else (t, .num (wayP L t.nodes who path).2 0)
def putO : List (Int × Int) → Int × Int → List (Int × Int)
 | [], o => [o]
 | p :: l, o => if p.1 > o.1 ∨ (p.1 = o.1 ∧ p.2 > o.2) then o :: p :: l else p :: putO l o
def openD (L : Low) (t : Tr) (who : Int) (path : ByteArray) : Tr × Rp :=
 if (wayP L t.nodes who path).2 = 0 then
  let n := nodeD t.nodes (wayP L t.nodes who path).1
  if n.kind = 2 then
   if L.allows n.acl who n.owner 1 = true then
    if openedB t.opens n.id who = true then (t, .num 0 n.id)
    else if 32 ≤ t.opens.length then (t, .num 2 0)
    else ({ t with opens := putO t.opens (n.id, who) }, .num 0 n.id)
   else (t, .num 95 0)
  else (t, .num 93 0)
 else (t, .num (wayP L t.nodes who path).2 0)
def closeD (t : Tr) (who k : Int) : Tr × Rp :=
 if openedB t.opens k who = true then
  let o := t.opens.filter (fun o => !(o.1 == k && o.2 == who))
  if (nodeD t.nodes k).links = 0 ∧ openedB o k (-1) = false then (⟨dropD t.nodes k, t.next, o⟩, .num 0 0) else (⟨t.nodes, t.next, o⟩, .num 0 0)
 else (t, .num 90 0)
def heightF (l : List Nd) : Nat → Int → Nat
 | 0, _ => 0
 | k + 1, id => ((nodeD l id).list.map (fun e => 1 + heightF l k e.id)).foldl max 0
def moveD (t : Tr) (sdir : Int) (sname : ByteArray) (ddir : Int) (dname : ByteArray) (sid ver : Int) : Tr :=
 (t.withN { nodeD t.nodes sdir with list := takeE (nodeD t.nodes sdir).list sname, ver := ver }).enter ddir ⟨dname, sid⟩ ver
def renamedD (L : Low) (t : Tr) (who : Int) (path dst : ByteArray) (ver : Int) : Tr × Rp :=
 let s := placeP L t.nodes who path
 let d := placeP L t.nodes who dst
 if s.e = 0 then
  if s.id = 0 then (t, .num 90 0)
  else if d.e = 0 then
   if L.allows (nodeD t.nodes s.dir).acl who (nodeD t.nodes s.dir).owner 2 = true ∧ L.allows (nodeD t.nodes d.dir).acl who (nodeD t.nodes d.dir).owner 2 = true then
    if L.below dst path = true then (t, .num 96 0)
    else if 0 < d.id ∧ overI (nodeD t.nodes s.id) (nodeD t.nodes d.id) ≠ 0 then (t, .num (overI (nodeD t.nodes s.id) (nodeD t.nodes d.id)) 0)
    else if 8 < (L.parts dst).1.length + heightF t.nodes 9 s.id then (t, .num 2 0)
    else if d.id = s.id then (t.leave s.dir s.name s.id ver, .num 0 0)
    else (moveD (if 0 < d.id then t.leave d.dir d.name d.id ver else t) s.dir s.name d.dir d.name s.id ver, .num 0 0)
   else (t, .num 95 0)
  else (t, .num d.e 0)
 else (t, .num s.e 0)
def partD (L : Low) (t : Tr) (n : Nd) (off k : Int) : Tr × Rp :=
 if off < 0 ∨ k < 0 then (t, .num 1 0) else (t, ⟨0, L.size (L.part n.body off k), [], L.part n.body off k, Nd.zero⟩)
def askedD (L : Low) (t : Tr) (kind who : Int) (path : ByteArray) (off k id : Int) : Tr × Rp :=
 if kind = 16 ∧ path.toList = [] then
  if openedB t.opens id who = true then partD L t (nodeD t.nodes id) off k else (t, .num 90 0)
 else if (wayP L t.nodes who path).2 = 0 then
  let n := nodeD t.nodes (wayP L t.nodes who path).1
  if kind = 15 then (t, ⟨0, wrap64 (L.size n.body + n.list.length), [], [], { n with list := [], body := [] }⟩)
  else if kind = 14 ∧ n.kind ≠ 1 then (t, .num 92 0)
  else if kind = 16 ∧ n.kind ≠ 2 then (t, .num 93 0)
  else if L.allows n.acl who n.owner 1 = true then
   if kind = 16 then partD L t n off k else (t, ⟨0, n.list.length, n.list.map (·.name), [], Nd.zero⟩)
  else (t, .num 95 0)
 else (t, .num (wayP L t.nodes who path).2 0)
structure Xd where
 kind : Int
 who : Int
 path : ByteArray
 dst : ByteArray
 off : Int
 n : Int
 id : Int
 acl : List Ac
end
end Go.Proofs.YtemgejblnionlaaGreatDoor
