/-
  Texts Tp Gq Tj Tq, put together by program.
-/
import Derived.Test.YtemgejblnionlaaGreatDoorY0
import Derived.Test.YtemgejblnionlaaGreatDoorY5
import Derived.Test.YtemgejblnionlaaGreatDoorY6
import Derived.Test.YtemgejblnionlaaGreatDoorY8
import Derived.Lib.OwnKind
namespace Go.Proofs.YtemgejblnionlaaGreatDoor
open Go.RowKit
set_option maxHeartbeats 4000000
set_option maxRecDepth 100000
abbrev wcs (T : Th) (x : Xh) (ver : Int) (R : Rh) : Array Value := #[.slice T.A T.n T.c, .int .i64 T.next, .slice T.oA T.on T.oc, .int .i64 x.kind, .int .i64 x.who, .string x.path, .string x.dst, .int .i64 x.off, .int .i64 x.n, .int .i64 x.id, .slice x.A x.m x.c, .int .i64 ver, .int .i64 R.e, .int .i64 R.n, .slice R.nA R.nn R.nc, .slice R.bA R.bn R.bc, .int .i64 R.node.d.id, .int .i64 R.node.d.kind, .int .i64 R.node.d.owner, .slice R.node.aA R.node.an R.node.ac, .slice R.node.lA R.node.ln R.node.lc, .slice R.node.bA R.node.bn R.node.bc, .int .i64 R.node.d.links, .int .i64 R.node.d.ver]
abbrev nsl (T : Th) : Value := .slice T.A T.n T.c
abbrev osl (T : Th) : Value := .slice T.oA T.on T.oc
abbrev lsl (h : Nh) : Value := .slice h.lA h.ln h.lc
def Mut (b : Nat) (T : Th) (g : Nat) : Prop := g = b ∨ (nsl T).ownBlock = some g ∨ (osl T).ownBlock = some g ∨ ∃ h ∈ T.hs, (lsl h).ownBlock = some g
def Far (u : World) (b : Nat) (T : Th) (g : Nat) : Prop := u.heap.size ≤ g ∧ ¬ Mut b T g
structure Wrk (u : World) (b : Nat) (T : Th) (x : Xh) (ver : Int) (R : Rh) (W : World) : Prop where
 low : Below u.heap.size u W
 ge : u.heap.size ≤ b
 box : W.heap[b]? = some (.cells (wcs T x ver R) 131 (0, 0))
 row : W.ownsRow u.heap.size 65 8 (nsl T) T.n (encs Nh.enc T.hs)
 opens : W.ownsRow u.heap.size 166 2 (osl T) T.on (encs encO T.opens)
 lists : ∀ h ∈ T.hs, W.ownsRow u.heap.size 174 2 (lsl h) h.ln (encs encE h.d.list)
 apart : ∀ (i j : Nat) (h h' : Nh), T.hs[i]? = some h → T.hs[j]? = some h' → i < j → ∀ k, (lsl h).ownBlock = some k → (lsl h').ownBlock ≠ some k
 acls : ∀ h ∈ T.hs, Sv W h.aA h.an h.ac 5 (encs encA h.d.acl) ∧ plc (Far u b T) h.aA h.an
 bodies : ∀ h ∈ T.hs, Sv W h.bA h.bn h.bc 3 (encs encP h.d.body) ∧ plc (Far u b T) h.bA h.bn
 op : x.ok W ∧ plc (fun g => ¬ Mut b T g) x.A x.m
 rep : R.ok W ∧ R.In (Far u b T)
theorem own_blk {w w' : World} {base : Nat} {e : TypeId} {s : Nat} {v : Value} {n : Nat} {xs : List Value} (h : w.ownsRow base e s v n xs) (hk : ∀ g, v.ownBlock = some g → w'.heap[g]? = w.heap[g]?) : w'.ownsRow base e s v n xs := by
 rcases h with ⟨h1, ⟨h2, h3⟩ | ⟨g, cap, cur, h2, h3, h4, h5⟩⟩
 · exact ⟨h1, .inl ⟨h2, h3⟩⟩
 · exact ⟨h1, .inr ⟨g, cap, cur, h2, h3, (hk g (by rw [h2]; rfl)).trans h4, h5⟩⟩
theorem own_not {w : World} {base g : Nat} {e t : TypeId} {s : Nat} {v : Value} {n : Nat} {xs : List Value} {cs : Array Value} {fz : Nat × Nat} (h : w.ownsRow base e s v n xs) (hg : w.heap[g]? = some (.cells cs t fz)) (ht : t ≠ e) : v.ownBlock ≠ some g := fun e1 => by
 obtain ⟨c, f, h2⟩ := Lib.ownsRow_kind h g e1
 rw [hg] at h2
 injection h2 with h2
 injection h2 with _ h3
 exact ht h3
section
variable {u W W' : World} {b : Nat} {T : Th} {x : Xh} {ver : Int} {R : Rh}
theorem Wrk.mut_lt (K : Wrk u b T x ver R W) {g : Nat} (h : Mut b T g) : g < W.heap.size := by
 rcases h with rfl | h | h | ⟨n, hn, h⟩
 · exact (Array.getElem?_eq_some_iff.1 K.box).1
 · exact (K.row.lt g h).2
 · exact (K.opens.lt g h).2
 · exact ((K.lists n hn).lt g h).2
theorem Wrk.each (K : Wrk u b T x ver R W) {h : Nh} (hm : h ∈ T.hs) : h.ok W := ⟨(K.acls h hm).1, Sv.own (K.lists h hm) (encs_cells encE_one _), (K.bodies h hm).1⟩
theorem Wrk.tok (K : Wrk u b T x ver R W) : T.ok W := ⟨Sv.own K.row (encs_cells Nh.enc_one _), fun _ hm => K.each hm, Sv.own K.opens (encs_cells encO_one _)⟩
theorem Wrk.step (K : Wrk u b T x ver R W) (hb : Below W.heap.size W W') : Wrk u b T x ver R W' where
 low := K.low.trans (hb.mono K.low.size)
 ge := K.ge
 box := (hb.block _ (Array.getElem?_eq_some_iff.1 K.box).1).trans K.box
 row := own_keep K.row hb
 opens := own_keep K.opens hb
 lists := fun h hm => own_keep (K.lists h hm) hb
 apart := K.apart
 acls := fun h hm => ⟨(K.acls h hm).1.below hb, (K.acls h hm).2⟩
 bodies := fun h hm => ⟨(K.bodies h hm).1.below hb, (K.bodies h hm).2⟩
 op := ⟨⟨K.op.1.acl.below hb, K.op.1.path, K.op.1.dst⟩, K.op.2⟩
 rep := ⟨K.rep.1.below hb, K.rep.2⟩
theorem Wrk.cell (K : Wrk u b T x ver R W) (k : Nat) (v : Value) (hv : (wcs T x ver R)[k]? = some v := by rfl) : W.cell? ⟨b, k, none⟩ = some v := (cell_of_row _ _ k _ _ _ K.box).trans hv
theorem Wrk.thaw (K : Wrk u b T x ver R W) (k : Nat) : W.frozen? ⟨b, k, none⟩ = false := frozen_of_row _ _ k _ _ K.box
def Rest (b : Nat) (T : Th) (W W' : World) : Prop := W.heap.size ≤ W'.heap.size ∧ ∀ g, g < W.heap.size → ¬ Mut b T g → W'.heap[g]? = W.heap[g]?
theorem Rest.refl (b : Nat) (T : Th) (W : World) : Rest b T W W := ⟨Nat.le_refl _, fun _ _ _ => rfl⟩
theorem Rest.of_below {b : Nat} {T : Th} (hb : Below W.heap.size W W') : Rest b T W W' := ⟨hb.size, fun g hg _ => hb.block g hg⟩
theorem Rest.step {b : Nat} {T : Th} {W'' : World} (h : Rest b T W W') (hb : Below W'.heap.size W' W'') : Rest b T W W'' := ⟨Nat.le_trans h.1 hb.size, fun g hg hn => (hb.block g (Nat.lt_of_lt_of_le hg h.1)).trans (h.2 g hg hn)⟩
theorem Rest.then_ {b : Nat} {T T2 : Th} {W'' : World} (h : Rest b T W W') (h2 : Rest b T2 W' W'') (hm : ∀ g, g < W.heap.size → Mut b T2 g → Mut b T g) : Rest b T W W'' :=
 ⟨Nat.le_trans h.1 h2.1, fun g hg hn => (h2.2 g (Nat.lt_of_lt_of_le hg h.1) (fun h3 => hn (hm g hg h3))).trans (h.2 g hg hn)⟩
theorem Wrk.reply (K : Wrk u b T x ver R W) {R' : Rh} (hbox : W'.heap[b]? = some (.cells (wcs T x ver R') 131 (0, 0))) (ho : ∀ i, i ≠ b → W'.heap[i]? = W.heap[i]?) (hz : W.heap.size ≤ W'.heap.size) (hlow : Below u.heap.size u W') (hr : R'.ok W ∧ R'.In (Far u b T)) :
 Wrk u b T x ver R' W' ∧ Rest b T W W' := by
 have hP : ∀ g, ¬ Mut b T g → W'.heap[g]? = W.heap[g]? := fun g hg => ho g fun e => hg (.inl e)
 have hF : ∀ g, Far u b T g → W'.heap[g]? = W.heap[g]? := fun g hg => hP g hg.2
 have hO : ∀ {e : TypeId} {s : Nat} {v : Value} {n : Nat} {xs : List Value}, W.ownsRow u.heap.size e s v n xs → 131 ≠ e → W'.ownsRow u.heap.size e s v n xs := fun h ht => own_blk h fun g hg => ho g fun e1 => own_not h K.box ht (e1 ▸ hg)
 refine ⟨⟨hlow, K.ge, hbox, hO K.row (by decide), hO K.opens (by decide), fun h hm => hO (K.lists h hm) (by decide), K.apart,
  fun h hm => ⟨(K.acls h hm).1.agree (K.acls h hm).2 hF hz, (K.acls h hm).2⟩, fun h hm => ⟨(K.bodies h hm).1.agree (K.bodies h hm).2 hF hz, (K.bodies h hm).2⟩,
  ⟨⟨K.op.1.acl.agree K.op.2 hP hz, K.op.1.path, K.op.1.dst⟩, K.op.2⟩, ⟨⟨hr.1.names.agree hr.2.names hF hz, hr.1.body.agree hr.2.body hF hz, hr.1.node.agree hr.2.node hF hz⟩, hr.2⟩⟩, hz, fun g _ hn => hP g hn⟩
theorem Wrk.node (K : Wrk u b T x ver R W) {j g : Nat} {h h' : Nh} (hj : T.hs[j]? = some h) (hA : T.A = some ⟨g, 0, none⟩) (hrow : W'.ownsRow u.heap.size 65 8 (nsl T) T.n (encs Nh.enc (T.hs.set j h')))
 (ho : ∀ i, i ≠ g → W'.heap[i]? = W.heap[i]?) (hz : W.heap.size ≤ W'.heap.size) (hlow : Below u.heap.size u W') (hl : lsl h' = lsl h ∧ h'.ln = h.ln ∧ h'.d.list = h.d.list)
 (ha : Sv W h'.aA h'.an h'.ac 5 (encs encA h'.d.acl) ∧ plc (Far u b T) h'.aA h'.an) (hbd : Sv W h'.bA h'.bn h'.bc 3 (encs encP h'.d.body) ∧ plc (Far u b T) h'.bA h'.bn) :
 Wrk u b { T with hs := T.hs.set j h' } x ver R W' ∧ Rest b T W W' ∧ ∀ g, Mut b { T with hs := T.hs.set j h' } g → Mut b T g := by
 have hgb : (nsl T).ownBlock = some g := by simp only [nsl, hA, Value.ownBlock]
 obtain ⟨cur, fz, hcur⟩ := Lib.ownsRow_kind K.row g hgb
 have hP : ∀ k, ¬ Mut b T k → W'.heap[k]? = W.heap[k]? := fun k hk => ho k fun e => hk (.inr (.inl (e ▸ hgb)))
 have hO : ∀ {e : TypeId} {s : Nat} {v : Value} {n : Nat} {xs : List Value}, W.ownsRow u.heap.size e s v n xs → 65 ≠ e → W'.ownsRow u.heap.size e s v n xs := fun h2 ht => own_blk h2 fun k hk => ho k fun e1 => own_not h2 hcur ht (e1 ▸ hk)
 have hM : ∀ k, Mut b { T with hs := T.hs.set j h' } k → Mut b T k := fun k hk => by
  rcases hk with hk | hk | hk | ⟨n, hn, hk⟩
  · exact .inl hk
  · exact .inr (.inl hk)
  · exact .inr (.inr (.inl hk))
  · rcases List.mem_or_eq_of_mem_set hn with hn | rfl
    · exact .inr (.inr (.inr ⟨n, hn, hk⟩))
    · exact .inr (.inr (.inr ⟨h, List.mem_of_getElem? hj, hl.1 ▸ hk⟩))
 have hQ : ∀ {A : Option Addr} {n : Nat}, plc (fun g => ¬ Mut b T g) A n → plc (fun g => ¬ Mut b { T with hs := T.hs.set j h' } g) A n := fun h2 => h2.mono fun k hk h3 => hk (hM k h3)
 have hQF : ∀ {A : Option Addr} {n : Nat}, plc (Far u b T) A n → plc (Far u b { T with hs := T.hs.set j h' }) A n := fun h2 => h2.mono fun k hk => ⟨hk.1, fun h3 => hk.2 (hM k h3)⟩
 have hSF : ∀ {A : Option Addr} {n c s : Nat} {xs : List Value}, Sv W A n c s xs → plc (Far u b T) A n → Sv W' A n c s xs := fun h2 h3 => h2.agree h3 (fun k hk => hP k hk.2) hz
 have hS : ∀ {A : Option Addr} {n c s : Nat} {xs : List Value}, Sv W A n c s xs → plc (fun g => ¬ Mut b T g) A n → Sv W' A n c s xs := fun h2 h3 => h2.agree h3 hP hz
 have hG : ∀ (i : Nat) (n : Nh), (T.hs.set j h')[i]? = some n → ∃ n0, T.hs[i]? = some n0 ∧ lsl n = lsl n0 := fun i n hi => by
  by_cases e : j = i
  · subst e
    rw [List.getElem?_set_self (List.getElem?_eq_some_iff.1 hj).1] at hi
    injection hi with hi
    subst hi
    exact ⟨h, hj, hl.1⟩
  · rw [List.getElem?_set_ne e] at hi
    exact ⟨n, hi, rfl⟩
 have hbg : b ≠ g := fun e => by rw [← e, K.box] at hcur; cases hcur
 refine ⟨⟨hlow, K.ge, (ho b hbg).trans K.box, hrow, hO K.opens (by decide), fun n hn => ?_, fun i k n n' hi hk hik q h2 h3 => ?_, fun n hn => ?_, fun n hn => ?_,
  ⟨⟨hS K.op.1.acl K.op.2, K.op.1.path, K.op.1.dst⟩, hQ K.op.2⟩, ⟨⟨hSF K.rep.1.names K.rep.2.names, hSF K.rep.1.body K.rep.2.body, ⟨hSF K.rep.1.node.acl K.rep.2.node.acl, hSF K.rep.1.node.list K.rep.2.node.list, hSF K.rep.1.node.body K.rep.2.node.body⟩⟩, hQF K.rep.2.names, hQF K.rep.2.body, hQF K.rep.2.node.acl, hQF K.rep.2.node.list, hQF K.rep.2.node.body⟩⟩, ⟨hz, fun k _ hn => hP k hn⟩, hM⟩
 · rcases List.mem_or_eq_of_mem_set hn with hn | rfl
   · exact hO (K.lists n hn) (by decide)
   · rw [hl.1, hl.2.1, hl.2.2]
     exact hO (K.lists h (List.mem_of_getElem? hj)) (by decide)
 · obtain ⟨n0, hi0, e0⟩ := hG i n hi
   obtain ⟨n1, hk1, e1⟩ := hG k n' hk
   exact K.apart i k n0 n1 hi0 hk1 hik q (e0 ▸ h2) (e1 ▸ h3)
 · rcases List.mem_or_eq_of_mem_set hn with hn | rfl
   · exact ⟨hSF (K.acls n hn).1 (K.acls n hn).2, hQF (K.acls n hn).2⟩
   · exact ⟨hSF ha.1 ha.2, hQF ha.2⟩
 · rcases List.mem_or_eq_of_mem_set hn with hn | rfl
   · exact ⟨hSF (K.bodies n hn).1 (K.bodies n hn).2, hQF (K.bodies n hn).2⟩
   · exact ⟨hSF hbd.1 hbd.2, hQF hbd.2⟩
theorem Wrk.not_mut (K : Wrk u b T x ver R W) {g : Nat} {cs : Array Value} {t : TypeId} {fz : Nat × Nat} (hg : W.heap[g]? = some (.cells cs t fz)) (h1 : t ≠ 65) (h2 : t ≠ 166) (h3 : t ≠ 174) (h4 : t ≠ 131) : ¬ Mut b T g := fun h => by
 rcases h with rfl | h | h | ⟨n, hn, h⟩
 · rw [K.box] at hg
   injection hg with hg
   injection hg with _ hg
   exact h4 hg.symm
 · exact own_not K.row hg h1 h
 · exact own_not K.opens hg h2 h
 · exact own_not (K.lists n hn) hg h3 h
theorem Wrk.inn (K : Wrk u b T x ver R W) : T.In (u.heap.size ≤ ·) :=
 ⟨plc_own K.row, fun h hm => ⟨(K.acls h hm).2.mono fun _ k => k.1, plc_own (K.lists h hm), (K.bodies h hm).2.mono fun _ k => k.1⟩, plc_own K.opens⟩
end
end Go.Proofs.YtemgejblnionlaaGreatDoor
namespace Go.Proofs.YtemgejblnionlaaGreatDoor
open Go.RowKit
set_option maxHeartbeats 8000000
set_option maxRecDepth 100000
def wroteD (L : Low) (t : Tr) (kind who : Int) (path : ByteArray) (off id k ver : Int) : Tr × Rp :=
 if (wayP L t.nodes who path).2 = 0 then
  let nd := nodeD t.nodes (wayP L t.nodes who path).1
  if nd.kind = 2 then
   if L.allows nd.acl who nd.owner 2 = true then
    let r := if kind = 5 then L.cut nd.body k else L.put nd.body (if kind = 4 then L.size nd.body else off) id k
    if r.2 = 0 then (t.withN { nd with body := r.1, ver := ver }, .num 0 (L.size r.1)) else (t, .num r.2 0)
   else (t, .num 95 0)
  else (t, .num 93 0)
 else (t, .num (wayP L t.nodes who path).2 0)
def Nh.bdy (N : Nh) (l : List Pc) (A : Option Addr) (n c : Nat) (ver : Int) : Nh := ⟨{ N.d with body := l, ver := ver }, N.aA, N.an, N.ac, N.lA, N.ln, N.lc, A, n, c⟩
theorem wrote_c {L : Low} (LR : LowR0 L) (T : Th) (x : Xh) (ver : Int) (w : World) (hT : T.ok w) (hs' : T.t.small) (hx : x.ok w) (hkk : x.kind = 3 ∨ x.kind = 4 ∨ x.kind = 5) :
 Calls Tryz.prog 81 #[T.val, x.val, .int .i64 ver] w fun e w' => DoneRes w T (wroteD L T.t x.kind x.who x.path x.off x.id x.n ver) e w' := by
 have CN := Lib.hid (fun id W (h : Below w.heap.size w W) => (show Calls Tryz.prog 41 #[T.val, .int .i64 id] W fun e w' => ∃ N : Nh, e = .returned N.val ∧ N.ok w ∧ N.d = nodeD T.t.nodes id ∧ (∀ P, T.In P → N.In P) ∧ Below W.heap.size W w' from
  (node_any T id W (hT.below h) (by have := hs'.1; rw [Th.t_len hT] at this; omega)).mono fun e w' ⟨he, hb⟩ => ⟨_, he, nodeH_ok hT id, nodeH_d _ _, fun P h => nodeH_in h id, hb⟩))
 have HTT := Lib.hid hT
 have HSM := Lib.hid hs'
 have HX := Lib.hid hx
 have hz8 : zN.size = 8 := rfl
 have hz4 : zS.size = 4 := rfl
 have hz2 : zG.size = 2 := rfl
 have hz15 : zD.size = 15 := rfl
 clear hT hs' hx
 show Calls Tryz.prog 81 #[T.val, x.val, .int .i64 ver] w _
 have kk0 := Bxs.nil w
 obtain ⟨x1, hwx1, hzx1, kx1⟩ := kk0.new rfl T.cs (Th.enc T).toArray 31
 have HWx1 := Lib.hid hwx1
 obtain ⟨x2, hwx2, hzx2, kx2⟩ := kx1.new hzx1 x.cs x.cs 25
 have HWx2 := Lib.hid hwx2
 obtain ⟨x3, hwx3, hzx3, kx3⟩ := kx2.new hzx2 zD zD 98
 have HWx3 := Lib.hid hwx3
 have kk1 := Lib.hid kx3
 clear kk0 hwx1 hzx1 kx1 hwx2 hzx2 kx2 hwx3 hzx3 kx3
 go_enter Tryz.func81, Tryz.ntmps81
 go_upto_region 1 with fail
 rw [HWx1.out, HWx2.out, HWx3.out]
 have x1c : x3.cell? ⟨w.heap.size + 1, 1, none⟩ = some (.int .i64 x.who) := kk1.out.cell 1 1 _ rfl
 have x2c : x3.cell? ⟨w.heap.size + 1, 2, none⟩ = some (.string x.path) := kk1.out.cell 1 2 _ rfl
 have hcp := wayp_any LR T x.who x.path x3 (HTT.out.below kk1.out.low.out) HSM.out HX.out.path
 obtain ⟨gg, hs0⟩ : ∃ s, (wayP L T.t.nodes x.who x.path) = s := ⟨_, rfl⟩
 rw [hs0] at hcp
 obtain ⟨g1, g2⟩ := gg
 have CP := Lib.hid hcp
 have HS := Lib.hid hs0
 clear hcp hs0
 go_upto_region 2 with (first | (with_reducible refine load_tr rfl _ rfl (w.heap.size) rfl T (box_range (kk1.out.at 2 rfl).out) ?_) | (go_at_call 76; (with_reducible refine CP.out.mono ?_); rintro e w2 ⟨rfl, hb⟩; have HB2 := Lib.hid hb; clear hb) | (with_reducible refine store_got rfl _ _ rfl w2.heap.size rfl g1 g2 rfl zG (heap_alloc_new w2 _) hz2 ?_))
 clear x1c x2c
 have kk2 := Lib.hid (kk1.out.step (W' := w2) HB2.out)
 have kk3 := Lib.hid (kk2.out.alloc (c := zG) zG 83)
 have kk4 := Lib.hid (kk3.out.row 0 rfl #[.int .i64 g1, .int .i64 g2])
 generalize (w2.alloc (.cells zG 83)).setRow w2.heap.size #[.int .i64 g1, .int .i64 g2] = y5 at *
 have nid : y5.cell? ⟨w2.heap.size, 0, none⟩ = some (.int .i64 g1) := kk4.out.cell 0 0 _ rfl
 have CON := Lib.hid (CN.out g1 y5 kk4.out.low.out)
 go_upto_region 3 with (first | (with_reducible refine load_tr rfl _ rfl (w.heap.size) rfl T (box_range (kk4.out.at 3 rfl).out) ?_) | (go_at_call 41; (with_reducible refine CON.out.mono ?_); rintro e w3 ⟨N, rfl, hok, hd, hi, hb⟩; have HBw3 := Lib.hid hb; have H1 := Lib.hid (And.intro hok (And.intro hd hi)); clear hok hd hi hb) | (with_reducible refine store_nd rfl _ _ rfl w3.heap.size rfl N rfl zN (heap_alloc_new w3 _) hz8 ?_))
 clear nid
 have kk6 := Lib.hid (kk4.out.step (W' := w3) HBw3.out)
 have kk7 := Lib.hid (kk6.out.alloc (c := zN) zN 65)
 have kk8 := Lib.hid (kk7.out.row 0 rfl N.enc.toArray)
 generalize (w3.alloc (.cells zN 65)).setRow w3.heap.size N.enc.toArray = y9 at *
 have HNK := Lib.hid (show (nodeD T.t.nodes g1) = N.d from H1.out.2.1.symm)
 have e1 : y9.cell? ⟨w2.heap.size, 1, none⟩ = some (.int .i64 g2) := kk8.out.cell 1 1 _ rfl
 by_cases he : g2 = 0
 · have b3 : (g2 != 0) = false := by simp [he]
   have HE := Lib.hid he
   clear he
   go_upto_region 5 with fail
   clear e1
   have k1 : y9.cell? ⟨w3.heap.size, 1, none⟩ = some (.int .i64 N.d.kind) := kk8.out.cell 0 1 _ rfl
   by_cases hk1 : N.d.kind = 2
   · have b5 : (N.d.kind != 2) = false := by simp [hk1]
     have HK1 := Lib.hid hk1
     clear hk1
     go_upto_region 7 with fail
     clear k1
     have x1c : y9.cell? ⟨w.heap.size + 1, 1, none⟩ = some (.int .i64 x.who) := kk8.out.cell 3 1 _ rfl
     have C2 := Lib.hid (may_any LR N x.who 2 y9 (H1.out.1.below kk8.out.low.out) (by rw [← H1.out.1.alen, H1.out.2.1]; exact (nodeD_small HSM.out g1).1))
     obtain ⟨al, hal⟩ : ∃ b, L.allows N.d.acl x.who N.d.owner 2 = b := ⟨_, rfl⟩
     rw [hal] at C2
     have HAL := Lib.hid hal
     clear hal
     cases al
     · go_upto_region 8 with (first | (with_reducible refine load_nd rfl _ rfl (w3.heap.size) 0 rfl N (box_range (kk8.out.at 0 rfl).out) ?_) | (go_at_call 122; (with_reducible refine C2.out.mono ?_); rintro e w4 ⟨rfl, hb⟩; have HB4 := Lib.hid hb; clear hb))
       clear x1c
       have kk10 := Lib.hid (kk8.out.step (W' := w4) HB4.out)
       have FA := Lib.hid (failed_any T 95 w4)
       repeat (first | (go_big_may; (first | (with_reducible refine load_tr rfl _ rfl (w.heap.size) rfl T (box_range (kk10.out.at 4 rfl).out) ?_) | (go_at_call 79; (with_reducible refine FA.out.mono ?_); rintro e wf ⟨rfl, hb⟩; have HBf := Lib.hid hb; clear hb) | (with_reducible refine store_dn rfl _ _ rfl (w.heap.size + 1 + 1) rfl T (Rh.num 95 0) rfl zD (keep_block (kk10.out.at 2 rfl).out HBf.out) hz15 ?_))) | go_values | go_skip | go_guarded | go_step | go_upon | dsimp only)
       refine bodyPost_ret (v := dval T (Rh.num 95 0)) (ret_dn rfl _ _ (w.heap.size + 1 + 1) T (Rh.num 95 0) zD rfl (keep_block (kk10.out.at 2 rfl).out HBf.out)) rfl ?_
       rw [show wroteD L T.t x.kind x.who x.path x.off x.id x.n ver = (Th.t T, Rp.num 95 0) by unfold wroteD; rw [HS.out]; simp only []; rw [HNK.out, if_pos HE.out, if_pos HK1.out, if_neg (by rw [HAL.out]; decide)]]
       exact kk10.out.failed 2 rfl HTT.out HBf.out 95
     · go_upto_region 9 with (first | (with_reducible refine load_nd rfl _ rfl (w3.heap.size) 0 rfl N (box_range (kk8.out.at 0 rfl).out) ?_) | (go_at_call 122; (with_reducible refine C2.out.mono ?_); rintro e w4 ⟨rfl, hb⟩; have HB4 := Lib.hid hb; clear hb))
       clear x1c
       have kk10 := Lib.hid (kk8.out.step (W' := w4) HB4.out)
       have HBL := Lib.hid (show N.bn ≤ 1000 by rw [← H1.out.1.blen, H1.out.2.1]; exact (nodeD_small HSM.out g1).2.2)
       have NPB := Lib.hid (show plc (fun g => g < w.heap.size) N.bA N.bn from ((H1.out.1.inside N.true_in).body).mono fun g h => h.2)
       have x0c : w4.cell? ⟨w.heap.size + 1, 0, none⟩ = some (.int .i64 x.kind) := kk10.out.cell 3 0 _ rfl
       have x4c : w4.cell? ⟨w.heap.size + 1, 4, none⟩ = some (.int .i64 x.off) := kk10.out.cell 3 4 _ rfl
       have x5c : w4.cell? ⟨w.heap.size + 1, 5, none⟩ = some (.int .i64 x.n) := kk10.out.cell 3 5 _ rfl
       have x6c : w4.cell? ⟨w.heap.size + 1, 6, none⟩ = some (.int .i64 x.id) := kk10.out.cell 3 6 _ rfl
       have d5 : w4.cell? ⟨w3.heap.size, 5, none⟩ = some (.slice N.bA N.bn N.bc) := kk10.out.cell 0 5 _ rfl
       rcases hkk with hk | hk | hk
       · have hk4 : (x.kind == 4) = false := by simp [hk]
         have hk5 : (x.kind == 5) = false := by simp [hk]
         have HK := Lib.hid hk
         clear hk
         go_upto_region 12 with fail
         have CP2 := Lib.hid (LR.put N.bA N.bn N.bc N.d.body x.off x.id x.n w4 (H1.out.1.body.below kk10.out.low.out) HBL.out)
         have HSC := Lib.hid (show w3.heap.size < w4.heap.size from block_lt (kk10.out.at 0 rfl).out)
         have HSL := Lib.hid (show w.heap.size ≤ w4.heap.size from kk10.out.low.out.size)
         go_upto_region 13 with (go_at_call 126; (with_reducible refine CP2.out.mono ?_); rintro e w6 ⟨PA, pm, pc, rfl, hsv, hpm, hpl, hb⟩; have HB6 := Lib.hid hb; have HSV := Lib.hid hsv; have HPM := Lib.hid hpm; have HPL := Lib.hid hpl; clear hb hsv hpm hpl)
         clear x0c x4c x5c x6c d5
         have kk11 := Lib.hid (kk10.out.step (W' := w6) HB6.out)
         have x0c : w6.cell? ⟨w.heap.size + 1, 0, none⟩ = some (.int .i64 x.kind) := kk11.out.cell 3 0 _ rfl
         go_upto_region 15 with fail
         clear x0c
         obtain ⟨r1, hr1⟩ : ∃ r, (L.put N.d.body x.off x.id x.n).1 = r := ⟨_, rfl⟩
         obtain ⟨r2, hr2⟩ : ∃ r, (L.put N.d.body x.off x.id x.n).2 = r := ⟨_, rfl⟩
         rw [hr1] at HSV
         rw [hr2]
         have HR := Lib.hid (And.intro hr1 hr2)
         clear hr1 hr2
         by_cases h2 : r2 = 0
         · have b2 : (r2 != 0) = false := by simp [h2]
           have H2 := Lib.hid h2
           clear h2
           go_upto_region 17 with fail
           have d5 : w6.cell? ⟨w3.heap.size, 5, none⟩ = some (.slice N.bA N.bn N.bc) := kk11.out.cell 0 5 _ rfl
           have f5 : w6.frozen? ⟨w3.heap.size, 5, none⟩ = false := kk11.out.thaw 0 5 rfl
           have HPB := Lib.hid (show plc (fun g => g ≠ w3.heap.size) PA pm from (HPL.out (fun g => g < w.heap.size) NPB.out).mono fun g hg => by have hc := kk11.out.chn; dsimp [chn] at hc; have h1 := HSC.out; rcases hg with hg | hg <;> omega)
           have HPR := Lib.hid (show plc (fun g => g ≠ w.heap.size + 1 + 1) PA pm from (HPL.out (fun g => g < w.heap.size) NPB.out).mono fun g hg => by have hc := kk11.out.chn; dsimp [chn] at hc; have h1 := HSC.out; rcases hg with hg | hg <;> omega)
           go_upto_region 18 with fail
           clear d5 f5
           have kk12 := Lib.hid (kk11.out.cel 0 rfl 5 (.slice PA pm pc) (Nh.bdy N r1 PA pm pc N.d.ver).enc.toArray)
           have HSW := Lib.hid (HSV.out.agree HPB.out (fun g hg => heap_setCell_other w6 ⟨w3.heap.size, 5, none⟩ g (.slice PA pm pc) hg) (by simp [World.setCell]))
           generalize w6.setCell ⟨w3.heap.size, 5, none⟩ (.slice PA pm pc) = y13 at *
           have d7 : y13.cell? ⟨w3.heap.size, 7, none⟩ = some (.int .i64 N.d.ver) := kk12.out.cell 0 7 _ rfl
           have f7 : y13.frozen? ⟨w3.heap.size, 7, none⟩ = false := kk12.out.thaw 0 7 rfl
           go_upto_region 19 with fail
           clear d7 f7
           have kk14 := Lib.hid (kk12.out.cel 0 rfl 7 (.int .i64 ver) (Nh.bdy N r1 PA pm pc ver).enc.toArray)
           have HSX := Lib.hid (HSW.out.agree HPB.out (fun g hg => heap_setCell_other y13 ⟨w3.heap.size, 7, none⟩ g (.int .i64 ver) hg) (by simp [World.setCell]))
           generalize y13.setCell ⟨w3.heap.size, 7, none⟩ (.int .i64 ver) = y15 at *
           have OKN := Lib.hid (show Nh.ok y15 (Nh.bdy N r1 PA pm pc ver) from ⟨H1.out.1.acl.below kk14.out.low.out, H1.out.1.list.below kk14.out.low.out, HSX.out⟩)
           have INR := Lib.hid (show Nh.In (fun g => g ≠ w.heap.size + 1 + 1) (Nh.bdy N r1 PA pm pc ver) from ⟨(H1.out.1.off (by omega)).acl, (H1.out.1.off (by omega)).list, HPR.out⟩)
           have INP := Lib.hid (fun P (hP : Th.In P T) => (show Nh.In (Fresh P w) (Nh.bdy N r1 PA pm pc ver) from ⟨(H1.out.2.2 P hP).acl.mono fun _ => .inl, (H1.out.2.2 P hP).list.mono fun _ => .inl, (HPL.out P (H1.out.2.2 P hP).body).mono fun g hg => by have h1 := HSL.out; rcases hg with hg | hg; exact .inl hg; exact .inr (by omega)⟩))
           have CX := Lib.hid (with_c T (Nh.bdy N r1 PA pm pc ver) y15 (HTT.out.below kk14.out.low.out) OKN.out (by have := HSM.out.1; omega))
           have CZ := Lib.hid (fun W (h : Below y15.heap.size y15 W) => LR.size PA pm pc r1 W (HSX.out.below h) (by have := HPM.out; have h1 := HBL.out; omega))
           have HRY := Lib.hid (show w.heap.size + 1 + 1 < y15.heap.size from block_lt (kk14.out.at 2 rfl).out)
           have HWY := Lib.hid (show w.heap.size ≤ y15.heap.size from kk14.out.low.out.size)
           repeat (first | (go_big_may; (first | (with_reducible refine load_tr rfl _ rfl (w.heap.size) rfl T (box_range (kk14.out.at 4 rfl).out) ?_) | (with_reducible refine load_nd rfl _ rfl (w3.heap.size) 0 rfl (Nh.bdy N r1 PA pm pc ver) (box_range (kk14.out.at 0 rfl).out) ?_) | (go_at_call 124; (with_reducible refine CX.out.mono ?_); rintro e w8 ⟨T2, rfl, hok, ht, hi, hb⟩; have HB8 := Lib.hid hb; have H9 := Lib.hid (And.intro hok (And.intro ht hi)); clear hok ht hi hb) | (go_at_call 35; (with_reducible refine (CZ.out _ HB8.out).mono ?_); rintro e w9 ⟨rfl, hb⟩; have HB9 := Lib.hid hb; clear hb) | (with_reducible refine store_dn rfl _ _ rfl (w.heap.size + 1 + 1) rfl T2 (Rh.num 0 (L.size r1)) rfl zD (keep_block (keep_block (kk14.out.at 2 rfl).out HB8.out) HB9.out) hz15 ?_))) | go_values | go_skip | go_guarded | go_step | go_upon | dsimp only)
           have kk16 := Lib.hid (kk14.out.step (W' := w8) HB8.out)
           have kk17 := Lib.hid (kk16.out.step (W' := w9) HB9.out)
           have LOWz := Lib.hid (below_setRow kk17.out.low.out (g := w.heap.size + 1 + 1) (by omega) (denc T2 (Rh.num 0 (L.size r1))).toArray)
           refine bodyPost_ret (v := dval T2 (Rh.num 0 (L.size r1))) (ret_dn rfl _ _ (w.heap.size + 1 + 1) T2 (Rh.num 0 (L.size r1)) zD rfl (kk17.out.at 2 rfl).out) rfl ?_
           have hmd : wroteD L T.t x.kind x.who x.path x.off x.id x.n ver = (Tr.withN T.t (Nh.d (Nh.bdy N r1 PA pm pc ver)), Rp.num 0 (L.size r1)) := by unfold wroteD; rw [HS.out]; simp only []; rw [HNK.out, if_pos HE.out, if_pos HK1.out, if_pos HAL.out, if_neg (fun h => absurd (HK.out.symm.trans h) (by decide)), if_neg (fun h => absurd (HK.out.symm.trans h) (by decide))]; simp only [HR.out.1, HR.out.2]; rw [if_pos H2.out]; rfl
           rw [hmd]
           refine ⟨T2, Rh.num 0 (L.size r1), rfl, (H9.out.1.below HB9.out).setRow ((H9.out.2.2 (fun g => g ≠ w.heap.size + 1 + 1) (HTT.out.off (by omega)) INR.out).mono fun g hg => ?_) _, Rh.num_ok _ _ _, H9.out.2.1, rfl, fun P hP => (H9.out.2.2 (Fresh P w) (hP.mono fun _ => .inl) (INP.out P hP)).mono fun g hg => ?_, fun P _ => Rh.num_in _ _ _, LOWz.out⟩
           · have h1 := HRY.out
             rcases hg with hg | hg
             · exact hg
             · omega
           · have h1 := HWY.out
             rcases hg with (hg | hg) | hg
             · exact .inl hg
             · exact .inr hg
             · exact .inr (by omega)
         · have b2 : (r2 != 0) = true := by simp [h2]
           have H2 := Lib.hid h2
           clear h2
           go_upto_region 16 with fail
           have FA := Lib.hid (failed_any T r2 w6)
           repeat (first | (go_big_may; (first | (with_reducible refine load_tr rfl _ rfl (w.heap.size) rfl T (box_range (kk11.out.at 4 rfl).out) ?_) | (go_at_call 79; (with_reducible refine FA.out.mono ?_); rintro e wf ⟨rfl, hb⟩; have HBf := Lib.hid hb; clear hb) | (with_reducible refine store_dn rfl _ _ rfl (w.heap.size + 1 + 1) rfl T (Rh.num r2 0) rfl zD (keep_block (kk11.out.at 2 rfl).out HBf.out) hz15 ?_))) | go_values | go_skip | go_guarded | go_step | go_upon | dsimp only)
           refine bodyPost_ret (v := dval T (Rh.num r2 0)) (ret_dn rfl _ _ (w.heap.size + 1 + 1) T (Rh.num r2 0) zD rfl (keep_block (kk11.out.at 2 rfl).out HBf.out)) rfl ?_
           rw [show wroteD L T.t x.kind x.who x.path x.off x.id x.n ver = (Th.t T, Rp.num r2 0) by unfold wroteD; rw [HS.out]; simp only []; rw [HNK.out, if_pos HE.out, if_pos HK1.out, if_pos HAL.out, if_neg (fun h => absurd (HK.out.symm.trans h) (by decide)), if_neg (fun h => absurd (HK.out.symm.trans h) (by decide))]; simp only [HR.out.1, HR.out.2]; rw [if_neg H2.out]]
           exact kk11.out.failed 2 rfl HTT.out HBf.out r2
       · have hk4 : (x.kind == 4) = true := by simp [hk]
         have hk5 : (x.kind == 5) = false := by simp [hk]
         have HK := Lib.hid hk
         clear hk
         have CS := Lib.hid (LR.size N.bA N.bn N.bc N.d.body w4 (H1.out.1.body.below kk10.out.low.out) (by have := HBL.out; omega))
         go_upto_region 12 with (go_at_call 35; (with_reducible refine CS.out.mono ?_); rintro e w5 ⟨rfl, hb⟩; have HB5 := Lib.hid hb; clear hb)
         clear x0c x4c x5c x6c d5
         have kk11 := Lib.hid (kk10.out.step (W' := w5) HB5.out)
         have x0c : w5.cell? ⟨w.heap.size + 1, 0, none⟩ = some (.int .i64 x.kind) := kk11.out.cell 3 0 _ rfl
         have x5c : w5.cell? ⟨w.heap.size + 1, 5, none⟩ = some (.int .i64 x.n) := kk11.out.cell 3 5 _ rfl
         have x6c : w5.cell? ⟨w.heap.size + 1, 6, none⟩ = some (.int .i64 x.id) := kk11.out.cell 3 6 _ rfl
         have d5 : w5.cell? ⟨w3.heap.size, 5, none⟩ = some (.slice N.bA N.bn N.bc) := kk11.out.cell 0 5 _ rfl
         have x4c : w5.cell? ⟨w.heap.size + 1, 4, none⟩ = some (.int .i64 x.off) := kk11.out.cell 3 4 _ rfl
         have CP2 := Lib.hid (LR.put N.bA N.bn N.bc N.d.body (L.size N.d.body) x.id x.n w5 (H1.out.1.body.below kk11.out.low.out) HBL.out)
         have HSC := Lib.hid (show w3.heap.size < w5.heap.size from block_lt (kk11.out.at 0 rfl).out)
         have HSL := Lib.hid (show w.heap.size ≤ w5.heap.size from kk11.out.low.out.size)
         go_upto_region 13 with (go_at_call 126; (with_reducible refine CP2.out.mono ?_); rintro e w6 ⟨PA, pm, pc, rfl, hsv, hpm, hpl, hb⟩; have HB6 := Lib.hid hb; have HSV := Lib.hid hsv; have HPM := Lib.hid hpm; have HPL := Lib.hid hpl; clear hb hsv hpm hpl)
         clear x0c x4c x5c x6c d5
         have kk12 := Lib.hid (kk11.out.step (W' := w6) HB6.out)
         have x0c : w6.cell? ⟨w.heap.size + 1, 0, none⟩ = some (.int .i64 x.kind) := kk12.out.cell 3 0 _ rfl
         go_upto_region 15 with fail
         clear x0c
         obtain ⟨r1, hr1⟩ : ∃ r, (L.put N.d.body (L.size N.d.body) x.id x.n).1 = r := ⟨_, rfl⟩
         obtain ⟨r2, hr2⟩ : ∃ r, (L.put N.d.body (L.size N.d.body) x.id x.n).2 = r := ⟨_, rfl⟩
         rw [hr1] at HSV
         rw [hr2]
         have HR := Lib.hid (And.intro hr1 hr2)
         clear hr1 hr2
         by_cases h2 : r2 = 0
         · have b2 : (r2 != 0) = false := by simp [h2]
           have H2 := Lib.hid h2
           clear h2
           go_upto_region 17 with fail
           have d5 : w6.cell? ⟨w3.heap.size, 5, none⟩ = some (.slice N.bA N.bn N.bc) := kk12.out.cell 0 5 _ rfl
           have f5 : w6.frozen? ⟨w3.heap.size, 5, none⟩ = false := kk12.out.thaw 0 5 rfl
           have HPB := Lib.hid (show plc (fun g => g ≠ w3.heap.size) PA pm from (HPL.out (fun g => g < w.heap.size) NPB.out).mono fun g hg => by have hc := kk12.out.chn; dsimp [chn] at hc; have h1 := HSC.out; rcases hg with hg | hg <;> omega)
           have HPR := Lib.hid (show plc (fun g => g ≠ w.heap.size + 1 + 1) PA pm from (HPL.out (fun g => g < w.heap.size) NPB.out).mono fun g hg => by have hc := kk12.out.chn; dsimp [chn] at hc; have h1 := HSC.out; rcases hg with hg | hg <;> omega)
           go_upto_region 18 with fail
           clear d5 f5
           have kk13 := Lib.hid (kk12.out.cel 0 rfl 5 (.slice PA pm pc) (Nh.bdy N r1 PA pm pc N.d.ver).enc.toArray)
           have HSW := Lib.hid (HSV.out.agree HPB.out (fun g hg => heap_setCell_other w6 ⟨w3.heap.size, 5, none⟩ g (.slice PA pm pc) hg) (by simp [World.setCell]))
           generalize w6.setCell ⟨w3.heap.size, 5, none⟩ (.slice PA pm pc) = y14 at *
           have d7 : y14.cell? ⟨w3.heap.size, 7, none⟩ = some (.int .i64 N.d.ver) := kk13.out.cell 0 7 _ rfl
           have f7 : y14.frozen? ⟨w3.heap.size, 7, none⟩ = false := kk13.out.thaw 0 7 rfl
           go_upto_region 19 with fail
           clear d7 f7
           have kk15 := Lib.hid (kk13.out.cel 0 rfl 7 (.int .i64 ver) (Nh.bdy N r1 PA pm pc ver).enc.toArray)
           have HSX := Lib.hid (HSW.out.agree HPB.out (fun g hg => heap_setCell_other y14 ⟨w3.heap.size, 7, none⟩ g (.int .i64 ver) hg) (by simp [World.setCell]))
           generalize y14.setCell ⟨w3.heap.size, 7, none⟩ (.int .i64 ver) = y16 at *
           have OKN := Lib.hid (show Nh.ok y16 (Nh.bdy N r1 PA pm pc ver) from ⟨H1.out.1.acl.below kk15.out.low.out, H1.out.1.list.below kk15.out.low.out, HSX.out⟩)
           have INR := Lib.hid (show Nh.In (fun g => g ≠ w.heap.size + 1 + 1) (Nh.bdy N r1 PA pm pc ver) from ⟨(H1.out.1.off (by omega)).acl, (H1.out.1.off (by omega)).list, HPR.out⟩)
           have INP := Lib.hid (fun P (hP : Th.In P T) => (show Nh.In (Fresh P w) (Nh.bdy N r1 PA pm pc ver) from ⟨(H1.out.2.2 P hP).acl.mono fun _ => .inl, (H1.out.2.2 P hP).list.mono fun _ => .inl, (HPL.out P (H1.out.2.2 P hP).body).mono fun g hg => by have h1 := HSL.out; rcases hg with hg | hg; exact .inl hg; exact .inr (by omega)⟩))
           have CX := Lib.hid (with_c T (Nh.bdy N r1 PA pm pc ver) y16 (HTT.out.below kk15.out.low.out) OKN.out (by have := HSM.out.1; omega))
           have CZ := Lib.hid (fun W (h : Below y16.heap.size y16 W) => LR.size PA pm pc r1 W (HSX.out.below h) (by have := HPM.out; have h1 := HBL.out; omega))
           have HRY := Lib.hid (show w.heap.size + 1 + 1 < y16.heap.size from block_lt (kk15.out.at 2 rfl).out)
           have HWY := Lib.hid (show w.heap.size ≤ y16.heap.size from kk15.out.low.out.size)
           repeat (first | (go_big_may; (first | (with_reducible refine load_tr rfl _ rfl (w.heap.size) rfl T (box_range (kk15.out.at 4 rfl).out) ?_) | (with_reducible refine load_nd rfl _ rfl (w3.heap.size) 0 rfl (Nh.bdy N r1 PA pm pc ver) (box_range (kk15.out.at 0 rfl).out) ?_) | (go_at_call 124; (with_reducible refine CX.out.mono ?_); rintro e w8 ⟨T2, rfl, hok, ht, hi, hb⟩; have HB8 := Lib.hid hb; have H9 := Lib.hid (And.intro hok (And.intro ht hi)); clear hok ht hi hb) | (go_at_call 35; (with_reducible refine (CZ.out _ HB8.out).mono ?_); rintro e w9 ⟨rfl, hb⟩; have HB9 := Lib.hid hb; clear hb) | (with_reducible refine store_dn rfl _ _ rfl (w.heap.size + 1 + 1) rfl T2 (Rh.num 0 (L.size r1)) rfl zD (keep_block (keep_block (kk15.out.at 2 rfl).out HB8.out) HB9.out) hz15 ?_))) | go_values | go_skip | go_guarded | go_step | go_upon | dsimp only)
           have kk17 := Lib.hid (kk15.out.step (W' := w8) HB8.out)
           have kk18 := Lib.hid (kk17.out.step (W' := w9) HB9.out)
           have LOWz := Lib.hid (below_setRow kk18.out.low.out (g := w.heap.size + 1 + 1) (by omega) (denc T2 (Rh.num 0 (L.size r1))).toArray)
           refine bodyPost_ret (v := dval T2 (Rh.num 0 (L.size r1))) (ret_dn rfl _ _ (w.heap.size + 1 + 1) T2 (Rh.num 0 (L.size r1)) zD rfl (kk18.out.at 2 rfl).out) rfl ?_
           have hmd : wroteD L T.t x.kind x.who x.path x.off x.id x.n ver = (Tr.withN T.t (Nh.d (Nh.bdy N r1 PA pm pc ver)), Rp.num 0 (L.size r1)) := by unfold wroteD; rw [HS.out]; simp only []; rw [HNK.out, if_pos HE.out, if_pos HK1.out, if_pos HAL.out, if_neg (fun h => absurd (HK.out.symm.trans h) (by decide)), if_pos HK.out]; simp only [HR.out.1, HR.out.2]; rw [if_pos H2.out]; rfl
           rw [hmd]
           refine ⟨T2, Rh.num 0 (L.size r1), rfl, (H9.out.1.below HB9.out).setRow ((H9.out.2.2 (fun g => g ≠ w.heap.size + 1 + 1) (HTT.out.off (by omega)) INR.out).mono fun g hg => ?_) _, Rh.num_ok _ _ _, H9.out.2.1, rfl, fun P hP => (H9.out.2.2 (Fresh P w) (hP.mono fun _ => .inl) (INP.out P hP)).mono fun g hg => ?_, fun P _ => Rh.num_in _ _ _, LOWz.out⟩
           · have h1 := HRY.out
             rcases hg with hg | hg
             · exact hg
             · omega
           · have h1 := HWY.out
             rcases hg with (hg | hg) | hg
             · exact .inl hg
             · exact .inr hg
             · exact .inr (by omega)
         · have b2 : (r2 != 0) = true := by simp [h2]
           have H2 := Lib.hid h2
           clear h2
           go_upto_region 16 with fail
           have FA := Lib.hid (failed_any T r2 w6)
           repeat (first | (go_big_may; (first | (with_reducible refine load_tr rfl _ rfl (w.heap.size) rfl T (box_range (kk12.out.at 4 rfl).out) ?_) | (go_at_call 79; (with_reducible refine FA.out.mono ?_); rintro e wf ⟨rfl, hb⟩; have HBf := Lib.hid hb; clear hb) | (with_reducible refine store_dn rfl _ _ rfl (w.heap.size + 1 + 1) rfl T (Rh.num r2 0) rfl zD (keep_block (kk12.out.at 2 rfl).out HBf.out) hz15 ?_))) | go_values | go_skip | go_guarded | go_step | go_upon | dsimp only)
           refine bodyPost_ret (v := dval T (Rh.num r2 0)) (ret_dn rfl _ _ (w.heap.size + 1 + 1) T (Rh.num r2 0) zD rfl (keep_block (kk12.out.at 2 rfl).out HBf.out)) rfl ?_
           rw [show wroteD L T.t x.kind x.who x.path x.off x.id x.n ver = (Th.t T, Rp.num r2 0) by unfold wroteD; rw [HS.out]; simp only []; rw [HNK.out, if_pos HE.out, if_pos HK1.out, if_pos HAL.out, if_neg (fun h => absurd (HK.out.symm.trans h) (by decide)), if_pos HK.out]; simp only [HR.out.1, HR.out.2]; rw [if_neg H2.out]]
           exact kk12.out.failed 2 rfl HTT.out HBf.out r2
       · have hk4 : (x.kind == 4) = false := by simp [hk]
         have hk5 : (x.kind == 5) = true := by simp [hk]
         have HK := Lib.hid hk
         clear hk
         go_upto_region 12 with fail
         have CP2 := Lib.hid (LR.put N.bA N.bn N.bc N.d.body x.off x.id x.n w4 (H1.out.1.body.below kk10.out.low.out) HBL.out)
         have HSC := Lib.hid (show w3.heap.size < w4.heap.size from block_lt (kk10.out.at 0 rfl).out)
         have HSL := Lib.hid (show w.heap.size ≤ w4.heap.size from kk10.out.low.out.size)
         go_upto_region 13 with (go_at_call 126; (with_reducible refine CP2.out.mono ?_); rintro e w6 ⟨PA, pm, pc, rfl, hsv, hpm, hpl, hb⟩; have HB6 := Lib.hid hb; have HSV := Lib.hid hsv; have HPM := Lib.hid hpm; have HPL := Lib.hid hpl; clear hb hsv hpm hpl)
         clear x0c x4c x5c x6c d5
         have kk11 := Lib.hid (kk10.out.step (W' := w6) HB6.out)
         have x0c : w6.cell? ⟨w.heap.size + 1, 0, none⟩ = some (.int .i64 x.kind) := kk11.out.cell 3 0 _ rfl
         have x5c : w6.cell? ⟨w.heap.size + 1, 5, none⟩ = some (.int .i64 x.n) := kk11.out.cell 3 5 _ rfl
         have x6c : w6.cell? ⟨w.heap.size + 1, 6, none⟩ = some (.int .i64 x.id) := kk11.out.cell 3 6 _ rfl
         have d5 : w6.cell? ⟨w3.heap.size, 5, none⟩ = some (.slice N.bA N.bn N.bc) := kk11.out.cell 0 5 _ rfl
         have x4c : w6.cell? ⟨w.heap.size + 1, 4, none⟩ = some (.int .i64 x.off) := kk11.out.cell 3 4 _ rfl
         have CP3 := Lib.hid (LR.cut N.bA N.bn N.bc N.d.body x.n w6 (H1.out.1.body.below kk11.out.low.out) HBL.out)
         clear HSV HPM HPL HSC HSL
         have HSC := Lib.hid (show w3.heap.size < w6.heap.size from block_lt (kk11.out.at 0 rfl).out)
         have HSL := Lib.hid (show w.heap.size ≤ w6.heap.size from kk11.out.low.out.size)
         go_upto_region 15 with (go_at_call 127; (with_reducible refine CP3.out.mono ?_); rintro e w7 ⟨PA, pm, pc, rfl, hsv, hpm, hpl, hb⟩; have HB7 := Lib.hid hb; have HSV := Lib.hid hsv; have HPM := Lib.hid hpm; have HPL := Lib.hid hpl; clear hb hsv hpm hpl)
         clear x0c x4c x5c x6c d5
         have kk12 := Lib.hid (kk11.out.step (W' := w7) HB7.out)
         obtain ⟨r1, hr1⟩ : ∃ r, (L.cut N.d.body x.n).1 = r := ⟨_, rfl⟩
         obtain ⟨r2, hr2⟩ : ∃ r, (L.cut N.d.body x.n).2 = r := ⟨_, rfl⟩
         rw [hr1] at HSV
         rw [hr2]
         have HR := Lib.hid (And.intro hr1 hr2)
         clear hr1 hr2
         by_cases h2 : r2 = 0
         · have b2 : (r2 != 0) = false := by simp [h2]
           have H2 := Lib.hid h2
           clear h2
           go_upto_region 17 with fail
           have d5 : w7.cell? ⟨w3.heap.size, 5, none⟩ = some (.slice N.bA N.bn N.bc) := kk12.out.cell 0 5 _ rfl
           have f5 : w7.frozen? ⟨w3.heap.size, 5, none⟩ = false := kk12.out.thaw 0 5 rfl
           have HPB := Lib.hid (show plc (fun g => g ≠ w3.heap.size) PA pm from (HPL.out (fun g => g < w.heap.size) NPB.out).mono fun g hg => by have hc := kk12.out.chn; dsimp [chn] at hc; have h1 := HSC.out; rcases hg with hg | hg <;> omega)
           have HPR := Lib.hid (show plc (fun g => g ≠ w.heap.size + 1 + 1) PA pm from (HPL.out (fun g => g < w.heap.size) NPB.out).mono fun g hg => by have hc := kk12.out.chn; dsimp [chn] at hc; have h1 := HSC.out; rcases hg with hg | hg <;> omega)
           go_upto_region 18 with fail
           clear d5 f5
           have kk13 := Lib.hid (kk12.out.cel 0 rfl 5 (.slice PA pm pc) (Nh.bdy N r1 PA pm pc N.d.ver).enc.toArray)
           have HSW := Lib.hid (HSV.out.agree HPB.out (fun g hg => heap_setCell_other w7 ⟨w3.heap.size, 5, none⟩ g (.slice PA pm pc) hg) (by simp [World.setCell]))
           generalize w7.setCell ⟨w3.heap.size, 5, none⟩ (.slice PA pm pc) = y14 at *
           have d7 : y14.cell? ⟨w3.heap.size, 7, none⟩ = some (.int .i64 N.d.ver) := kk13.out.cell 0 7 _ rfl
           have f7 : y14.frozen? ⟨w3.heap.size, 7, none⟩ = false := kk13.out.thaw 0 7 rfl
           go_upto_region 19 with fail
           clear d7 f7
           have kk15 := Lib.hid (kk13.out.cel 0 rfl 7 (.int .i64 ver) (Nh.bdy N r1 PA pm pc ver).enc.toArray)
           have HSX := Lib.hid (HSW.out.agree HPB.out (fun g hg => heap_setCell_other y14 ⟨w3.heap.size, 7, none⟩ g (.int .i64 ver) hg) (by simp [World.setCell]))
           generalize y14.setCell ⟨w3.heap.size, 7, none⟩ (.int .i64 ver) = y16 at *
           have OKN := Lib.hid (show Nh.ok y16 (Nh.bdy N r1 PA pm pc ver) from ⟨H1.out.1.acl.below kk15.out.low.out, H1.out.1.list.below kk15.out.low.out, HSX.out⟩)
           have INR := Lib.hid (show Nh.In (fun g => g ≠ w.heap.size + 1 + 1) (Nh.bdy N r1 PA pm pc ver) from ⟨(H1.out.1.off (by omega)).acl, (H1.out.1.off (by omega)).list, HPR.out⟩)
           have INP := Lib.hid (fun P (hP : Th.In P T) => (show Nh.In (Fresh P w) (Nh.bdy N r1 PA pm pc ver) from ⟨(H1.out.2.2 P hP).acl.mono fun _ => .inl, (H1.out.2.2 P hP).list.mono fun _ => .inl, (HPL.out P (H1.out.2.2 P hP).body).mono fun g hg => by have h1 := HSL.out; rcases hg with hg | hg; exact .inl hg; exact .inr (by omega)⟩))
           have CX := Lib.hid (with_c T (Nh.bdy N r1 PA pm pc ver) y16 (HTT.out.below kk15.out.low.out) OKN.out (by have := HSM.out.1; omega))
           have CZ := Lib.hid (fun W (h : Below y16.heap.size y16 W) => LR.size PA pm pc r1 W (HSX.out.below h) (by have := HPM.out; have h1 := HBL.out; omega))
           have HRY := Lib.hid (show w.heap.size + 1 + 1 < y16.heap.size from block_lt (kk15.out.at 2 rfl).out)
           have HWY := Lib.hid (show w.heap.size ≤ y16.heap.size from kk15.out.low.out.size)
           repeat (first | (go_big_may; (first | (with_reducible refine load_tr rfl _ rfl (w.heap.size) rfl T (box_range (kk15.out.at 4 rfl).out) ?_) | (with_reducible refine load_nd rfl _ rfl (w3.heap.size) 0 rfl (Nh.bdy N r1 PA pm pc ver) (box_range (kk15.out.at 0 rfl).out) ?_) | (go_at_call 124; (with_reducible refine CX.out.mono ?_); rintro e w8 ⟨T2, rfl, hok, ht, hi, hb⟩; have HB8 := Lib.hid hb; have H9 := Lib.hid (And.intro hok (And.intro ht hi)); clear hok ht hi hb) | (go_at_call 35; (with_reducible refine (CZ.out _ HB8.out).mono ?_); rintro e w9 ⟨rfl, hb⟩; have HB9 := Lib.hid hb; clear hb) | (with_reducible refine store_dn rfl _ _ rfl (w.heap.size + 1 + 1) rfl T2 (Rh.num 0 (L.size r1)) rfl zD (keep_block (keep_block (kk15.out.at 2 rfl).out HB8.out) HB9.out) hz15 ?_))) | go_values | go_skip | go_guarded | go_step | go_upon | dsimp only)
           have kk17 := Lib.hid (kk15.out.step (W' := w8) HB8.out)
           have kk18 := Lib.hid (kk17.out.step (W' := w9) HB9.out)
           have LOWz := Lib.hid (below_setRow kk18.out.low.out (g := w.heap.size + 1 + 1) (by omega) (denc T2 (Rh.num 0 (L.size r1))).toArray)
           refine bodyPost_ret (v := dval T2 (Rh.num 0 (L.size r1))) (ret_dn rfl _ _ (w.heap.size + 1 + 1) T2 (Rh.num 0 (L.size r1)) zD rfl (kk18.out.at 2 rfl).out) rfl ?_
           have hmd : wroteD L T.t x.kind x.who x.path x.off x.id x.n ver = (Tr.withN T.t (Nh.d (Nh.bdy N r1 PA pm pc ver)), Rp.num 0 (L.size r1)) := by unfold wroteD; rw [HS.out]; simp only []; rw [HNK.out, if_pos HE.out, if_pos HK1.out, if_pos HAL.out, if_pos HK.out]; simp only [HR.out.1, HR.out.2]; rw [if_pos H2.out]; rfl
           rw [hmd]
           refine ⟨T2, Rh.num 0 (L.size r1), rfl, (H9.out.1.below HB9.out).setRow ((H9.out.2.2 (fun g => g ≠ w.heap.size + 1 + 1) (HTT.out.off (by omega)) INR.out).mono fun g hg => ?_) _, Rh.num_ok _ _ _, H9.out.2.1, rfl, fun P hP => (H9.out.2.2 (Fresh P w) (hP.mono fun _ => .inl) (INP.out P hP)).mono fun g hg => ?_, fun P _ => Rh.num_in _ _ _, LOWz.out⟩
           · have h1 := HRY.out
             rcases hg with hg | hg
             · exact hg
             · omega
           · have h1 := HWY.out
             rcases hg with (hg | hg) | hg
             · exact .inl hg
             · exact .inr hg
             · exact .inr (by omega)
         · have b2 : (r2 != 0) = true := by simp [h2]
           have H2 := Lib.hid h2
           clear h2
           go_upto_region 16 with fail
           have FA := Lib.hid (failed_any T r2 w7)
           repeat (first | (go_big_may; (first | (with_reducible refine load_tr rfl _ rfl (w.heap.size) rfl T (box_range (kk12.out.at 4 rfl).out) ?_) | (go_at_call 79; (with_reducible refine FA.out.mono ?_); rintro e wf ⟨rfl, hb⟩; have HBf := Lib.hid hb; clear hb) | (with_reducible refine store_dn rfl _ _ rfl (w.heap.size + 1 + 1) rfl T (Rh.num r2 0) rfl zD (keep_block (kk12.out.at 2 rfl).out HBf.out) hz15 ?_))) | go_values | go_skip | go_guarded | go_step | go_upon | dsimp only)
           refine bodyPost_ret (v := dval T (Rh.num r2 0)) (ret_dn rfl _ _ (w.heap.size + 1 + 1) T (Rh.num r2 0) zD rfl (keep_block (kk12.out.at 2 rfl).out HBf.out)) rfl ?_
           rw [show wroteD L T.t x.kind x.who x.path x.off x.id x.n ver = (Th.t T, Rp.num r2 0) by unfold wroteD; rw [HS.out]; simp only []; rw [HNK.out, if_pos HE.out, if_pos HK1.out, if_pos HAL.out, if_pos HK.out]; simp only [HR.out.1, HR.out.2]; rw [if_neg H2.out]]
           exact kk12.out.failed 2 rfl HTT.out HBf.out r2
   · have b5 : (N.d.kind != 2) = true := by simp [hk1]
     have HK1 := Lib.hid hk1
     clear hk1
     go_upto_region 6 with fail
     clear k1
     have FA := Lib.hid (failed_any T 93 y9)
     repeat (first | (go_big_may; (first | (with_reducible refine load_tr rfl _ rfl (w.heap.size) rfl T (box_range (kk8.out.at 4 rfl).out) ?_) | (go_at_call 79; (with_reducible refine FA.out.mono ?_); rintro e wf ⟨rfl, hb⟩; have HBf := Lib.hid hb; clear hb) | (with_reducible refine store_dn rfl _ _ rfl (w.heap.size + 1 + 1) rfl T (Rh.num 93 0) rfl zD (keep_block (kk8.out.at 2 rfl).out HBf.out) hz15 ?_))) | go_values | go_skip | go_guarded | go_step | go_upon | dsimp only)
     refine bodyPost_ret (v := dval T (Rh.num 93 0)) (ret_dn rfl _ _ (w.heap.size + 1 + 1) T (Rh.num 93 0) zD rfl (keep_block (kk8.out.at 2 rfl).out HBf.out)) rfl ?_
     rw [show wroteD L T.t x.kind x.who x.path x.off x.id x.n ver = (Th.t T, Rp.num 93 0) by unfold wroteD; rw [HS.out]; simp only []; rw [HNK.out, if_pos HE.out, if_neg HK1.out]]
     exact kk8.out.failed 2 rfl HTT.out HBf.out 93
 · have b3 : (g2 != 0) = true := by simp [he]
   have HE := Lib.hid he
   clear he
   go_upto_region 4 with fail
   have FA := Lib.hid (failed_any T g2 y9)
   repeat (first | (go_big_may; (first | (with_reducible refine load_tr rfl _ rfl (w.heap.size) rfl T (box_range (kk8.out.at 4 rfl).out) ?_) | (go_at_call 79; (with_reducible refine FA.out.mono ?_); rintro e wf ⟨rfl, hb⟩; have HBf := Lib.hid hb; clear hb) | (with_reducible refine store_dn rfl _ _ rfl (w.heap.size + 1 + 1) rfl T (Rh.num g2 0) rfl zD (keep_block (kk8.out.at 2 rfl).out HBf.out) hz15 ?_))) | go_values | go_skip | go_guarded | go_step | go_upon | dsimp only)
   refine bodyPost_ret (v := dval T (Rh.num g2 0)) (ret_dn rfl _ _ (w.heap.size + 1 + 1) T (Rh.num g2 0) zD rfl (keep_block (kk8.out.at 2 rfl).out HBf.out)) rfl ?_
   rw [show wroteD L T.t x.kind x.who x.path x.off x.id x.n ver = (Th.t T, Rp.num g2 0) by unfold wroteD; rw [HS.out]; simp only []; rw [if_neg HE.out]]
   exact kk8.out.failed 2 rfl HTT.out HBf.out g2
end Go.Proofs.YtemgejblnionlaaGreatDoor
namespace Go.Proofs.YtemgejblnionlaaGreatDoor
open Go.RowKit
set_option maxHeartbeats 16000000
set_option maxRecDepth 100000
theorem person_lands (n : Int) (w : World) : Calls Tryz.prog 111 #[.int .i64 n] w fun e w' => e = .returned (.bool (decide (0 ≤ n) && decide (n ≤ 999))) ∧ w' = w := by
 go_enter Tryz.func111, Tryz.ntmps111
 by_cases h0 : 0 ≤ n
 · by_cases h1 : n ≤ 999
   · go_wp2
     go_ret
     simp [h0, h1]
   · go_wp2
     go_ret
     simp [h1]
 · go_wp2
   go_ret
   simp
   omega
abbrev Nh.cs (h : Nh) : Array Value := #[.int .i64 h.d.id, .int .i64 h.d.kind, .int .i64 h.d.owner, .slice h.aA h.an h.ac, .slice h.lA h.ln h.lc, .slice h.bA h.bn h.bc, .int .i64 h.d.links, .int .i64 h.d.ver]
def ErrRes (c : Int) (e : Ending) : Prop := e = if c = 0 then .returned (.tuple #[]) else panics c
end Go.Proofs.YtemgejblnionlaaGreatDoor
namespace Go.Proofs.YtemgejblnionlaaGreatDoor
open Go.RowKit
set_option maxHeartbeats 16000000
set_option maxRecDepth 100000
structure LowW (L : Low) (Env : World → Prop) : Prop extends LowT L Env where
 size : ∀ (A : Option Addr) (n c : Nat) (l : List Pc) (W : World), Env W → Sv W A n c 3 (encs encP l) → L.bodyOk l = true →
  Calls Tryz.prog 52 #[.slice A n c] W fun e w' => e = .returned (.int .i64 (L.size l)) ∧ Below W.heap.size W w'
 put : ∀ (A : Option Addr) (n c : Nat) (l : List Pc) (off id k : Int) (W : World), Env W → Sv W A n c 3 (encs encP l) → L.bodyOk l = true → (Lit.int .i64 off).wf = true → (Lit.int .i64 id).wf = true → (Lit.int .i64 k).wf = true →
  Calls Tryz.prog 194 #[.slice A n c, .int .i64 off, .int .i64 id, .int .i64 k] W fun e w' => ∃ A' m c', e = .returned (.tuple #[.slice A' m c', .int .i64 (L.put l off id k).2]) ∧ ((L.put l off id k).2 = 0 → Sv w' A' m c' 3 (encs encP (L.put l off id k).1) ∧ plc (W.heap.size ≤ ·) A' m) ∧ Below W.heap.size W w'
 cut : ∀ (A : Option Addr) (n c : Nat) (l : List Pc) (k : Int) (W : World), Env W → Sv W A n c 3 (encs encP l) → L.bodyOk l = true → (Lit.int .i64 k).wf = true →
  Calls Tryz.prog 196 #[.slice A n c, .int .i64 k] W fun e w' => ∃ A' m c', e = .returned (.tuple #[.slice A' m c', .int .i64 (L.cut l k).2]) ∧ ((L.cut l k).2 = 0 → Sv w' A' m c' 3 (encs encP (L.cut l k).1) ∧ plc (W.heap.size ≤ ·) A' m) ∧ Below W.heap.size W w'
 rng : ∀ l, L.bodyOk l = true → 0 ≤ L.size l ∧ L.size l ≤ 1048576
theorem mid_range {W : World} {b : Nat} {cs : Array Value} {t : TypeId} {fz : Nat × Nat} (h : W.heap[b]? = some (.cells cs t fz)) (o : Nat) (l : List Value) (he : (cs.toList.drop o).take l.length = l) : W.rangeAt b o l := fun j v hv => by
 refine (cell_of_row _ _ (o + j) _ _ _ h).trans ?_
 rw [← he] at hv
 have hj : j < l.length := by
  have := (List.getElem?_eq_some_iff.1 hv).1
  rw [he] at this
  exact this
 rw [List.getElem?_take_of_lt hj, List.getElem?_drop] at hv
 simpa using hv
section
variable {L : Low} {Env : World → Prop} (LT : LowT L Env) {u W : World} {b : Nat} {T : Th} {x : Xh} {ver : Int} {R : Rh}
include LT
theorem wway_lands (K : Wrk u b T x ver R W) (path : ByteArray) (hE : Env W) (hs' : T.t.small) (G : Good L T.t) (hp : path.size < 4294967281) :
 Calls Tryz.prog 197 #[.pointer (some ⟨b, 0, none⟩), .string path] W fun e w' => Below W.heap.size W w' ∧ WayRes W T (wayP L T.t.nodes x.who path) e := by
 have hd := below_drewN W 1
 have CW := Lib.hid (way_lands LT T x.who path W.drew (LT.env _ _ hE hd) (K.tok.below hd) hs' G hp)
 have HB := Lib.hid (K.step hd).box
 have c1 := Lib.hid ((K.step hd).cell 4 (.int .i64 x.who))
 have HT := Lib.hid K.tok
 have HLT := Lib.hid (Array.getElem?_eq_some_iff.1 K.box).1
 clear hE K hs' G hp LT
 obtain ⟨p, hpp⟩ : ∃ p, wayP L T.t.nodes x.who path = p := ⟨_, rfl⟩
 rw [hpp] at CW ⊢
 clear hpp
 have HD := Lib.hid hd
 clear hd
 go_enter Tryz.func197, Tryz.ntmps197
 go_upto_region 1 with fail
 refine wp_region_ord (fun w' => w'.heap[b]? = some (.cells (wcs T x ver R) 131 (0, 0)) ∧ w'.cell? ⟨b, 4, none⟩ = some (.int .i64 x.who)) [(0, true), (1, true), (2, true), (3, true), (4, true), (5, true), (6, true), (7, true), (8, true), (9, true), (10, false), (11, true)] (by kernel_rfl) (by kernel_rfl) (by kernel_rfl) ⟨HB.out, c1.out⟩ (fun d _ _ _ _ h => by cases d <;> exact h) ?_
 iterate 3 refine ord_pure ?_
 refine ord_pure (v := T.val) (hy := yieldsIf_load_mid (by rfl) 31 _ rfl b 0 rfl (Th.enc T) _ (fun w h => mid_range h.1 0 _ rfl) Tryz.underlying31 rfl (by kernel_rfl)) ?_
 iterate 6 refine ord_pure ?_
 refine ord_eff (by rfl) (fun K hK => ?_)
 go_simp
 by_cases hp0 : p.2 = 0
 · go_wp2_with (go_at_call 237; (with_reducible refine CW.out.mono ?_); rintro e w5 ⟨hb, hr⟩; rw [WayRes, if_pos hp0] at hr; obtain ⟨h, v, hm, hid, hpt, rfl⟩ := hr; have HB5 := Lib.hid hb; have HR := Lib.hid (And.intro hm (And.intro hid hpt)); clear hb hm hid hpt)
   refine hK.out _ _ ⟨(HB5.out.block b HLT.out).trans HB.out, (HB5.out.cell (block_lt_of_cell c1.out)).trans c1.out⟩ ?_
   clear hK K
   try simp only [Act.put, puts]
   refine ord_pure ?_
   refine ord_nil ?_
   go_wp2
   go_ret
   have hb := HD.out.trans (HB5.out.mono HD.out.size)
   refine ⟨hb, ?_⟩
   rw [WayRes, if_pos hp0]
   exact ⟨h, _, HR.out.1, HR.out.2.1, HR.out.2.2.any HT.out, rfl⟩
 · go_wp2_with (go_at_call 237; (with_reducible refine CW.out.mono ?_); rintro e w5 ⟨hb, hr⟩; rw [WayRes, if_neg hp0] at hr; subst hr; have HB5 := Lib.hid hb; clear hb)
   refine ⟨rfl, HD.out.trans (HB5.out.mono HD.out.size), ?_⟩
   rw [WayRes, if_neg hp0]
theorem wdemand_lands (K : Wrk u b T x ver R W) (h : Nh) (v : Value) (right : Int) (hr : (Lit.int .i64 right).wf = true) (hE : Env W) (hs' : T.t.small) (hp : Ptr W T h v) :
 Calls Tryz.prog 199 #[.pointer (some ⟨b, 0, none⟩), v, .int .i64 right] W fun e w' => Below W.heap.size W w' ∧ ErrRes (if L.allows h.d.acl x.who h.d.owner right = true then 0 else 95) e := by
 have CM := Lib.hid (may_lands LT T h v x.who right hr W hE K.tok hs' hp)
 clear hr
 have c1 := K.cell 4 (.int .i64 x.who)
 have CN := Lib.hid (fun e W => refuse_no e W)
 have CY := Lib.hid (fun e W => refuse_yes e W)
 obtain ⟨j, g, o, -, -, rfl, -⟩ := hp
 clear hE hs' K LT
 obtain ⟨al, hal⟩ : ∃ c, L.allows h.d.acl x.who h.d.owner right = c := ⟨_, rfl⟩
 rw [hal] at CM ⊢
 clear hal
 go_enter Tryz.func199, Tryz.ntmps199
 cases al
 · go_wp2_with (first | (go_at_call 110; (with_reducible refine (CY.out _ _).mono ?_); rintro e w3 ⟨rfl, rfl⟩) | (go_at_call 239; (with_reducible refine CM.out.mono ?_); rintro e w4 ⟨rfl, hb4⟩; have HB4 := Lib.hid hb4; clear hb4))
   exact ⟨rfl, HB4.out, rfl⟩
 · go_wp2_with (first | (go_at_call 110; (with_reducible refine (CN.out _ _).mono ?_); rintro e w3 ⟨rfl, rfl⟩) | (go_at_call 239; (with_reducible refine CM.out.mono ?_); rintro e w4 ⟨rfl, hb4⟩; have HB4 := Lib.hid hb4; clear hb4))
   go_end0
   exact ⟨HB4.out, rfl⟩
def FileRes (L : Low) (W : World) (T : Th) (who : Int) (path : ByteArray) (right : Int) (e : Ending) : Prop :=
 if (wayP L T.t.nodes who path).2 = 0 then
  if (nodeD T.t.nodes (wayP L T.t.nodes who path).1).kind = 2 then
   if L.allows (nodeD T.t.nodes (wayP L T.t.nodes who path).1).acl who (nodeD T.t.nodes (wayP L T.t.nodes who path).1).owner right = true then ∃ h v, h ∈ T.hs ∧ h.d = nodeD T.t.nodes (wayP L T.t.nodes who path).1 ∧ Ptr W T h v ∧ e = .returned v
   else e = panics 95
  else e = panics 93
 else e = panics (wayP L T.t.nodes who path).2
theorem wfile_lands (K : Wrk u b T x ver R W) (right : Int) (hr : (Lit.int .i64 right).wf = true) (hE : Env W) (hs' : T.t.small) (G : Good L T.t) (hp : x.path.size < 4294967281) :
 Calls Tryz.prog 193 #[.pointer (some ⟨b, 0, none⟩), .int .i64 right] W fun e w' => Below W.heap.size W w' ∧ FileRes L W T x.who x.path right e := by
 have CW := Lib.hid (wway_lands LT K x.path hE hs' G hp)
 have CD := Lib.hid (fun W' (hb : Below W.heap.size W W') h v (hp : Ptr W' T h v) => wdemand_lands LT (K.step hb) h v right hr (LT.env _ _ hE hb) hs' hp)
 clear hr
 have CN := Lib.hid (fun e W => refuse_no e W)
 have CY := Lib.hid (fun e W => refuse_yes e W)
 have c1 := K.cell 5 (.string x.path)
 have HG := Lib.hid G
 have HT := Lib.hid K.tok
 clear hE K hs' G hp LT
 obtain ⟨p, hpp⟩ : ∃ p, wayP L T.t.nodes x.who x.path = p := ⟨_, rfl⟩
 unfold FileRes
 rw [hpp] at CW ⊢
 clear hpp
 obtain ⟨nd, hnd⟩ : ∃ n, nodeD T.t.nodes p.1 = n := ⟨_, rfl⟩
 rw [hnd]
 have HND := Lib.hid hnd
 clear hnd
 by_cases hp0 : p.2 = 0
 · simp only [if_pos hp0]
   have FW : ∀ h, h ∈ T.hs → h.d.id = p.1 → h.d = nd := fun h hm hid => (HG.out.at_ (List.mem_map.2 ⟨h, hm, rfl⟩)).symm.trans (by rw [hid, HND.out])
   have HFW := Lib.hid FW
   clear FW
   by_cases hk : nd.kind = 2
   · simp only [if_pos hk]
     have hb0 : (nd.kind == 1) = false := by simp [hk]
     have HB0 := Lib.hid hb0
     clear hk hb0
     obtain ⟨al, hal⟩ : ∃ c, L.allows nd.acl x.who nd.owner right = c := ⟨_, rfl⟩
     have HAL := Lib.hid hal
     simp only [hal]
     clear hal
     cases al
     · simp only [Bool.false_eq_true, if_false]
       go_enter Tryz.func193, Tryz.ntmps193
       go_upto_region 2 with (go_at_call 197; (with_reducible refine CW.out.mono ?_); rintro e w5 ⟨hb, hr⟩; rw [WayRes, if_pos hp0] at hr; obtain ⟨h, v, hm, hid, hpt, rfl⟩ := hr; have HB5 := Lib.hid hb; have HH := Lib.hid (HFW.out h hm hid); have HR := Lib.hid (And.intro hm hpt); clear hb hm hid hpt)
       have hb0 : (h.d.kind == 1) = false := by rw [HH.out]; exact HB0.out
       have CDh := CD.out w5 HB5.out h v (HR.out.2.below HB5.out)
       simp only [HH.out, HAL.out, ErrRes, Bool.false_eq_true, if_false, show ¬ ((95 : Int) = 0) by decide] at CDh
       have HCD := Lib.hid CDh
       clear CDh CW c1
       obtain ⟨j, g, o, hj, hA, rfl, hrg⟩ := HR.out.2
       have c3 : w5.cell? ⟨g, o + j * 8 + 1, none⟩ = some (.int .i64 h.d.kind) := hrg w5 HB5.out 1 _ rfl
       clear hj hA hrg
       go_wp2_with (first | (go_at_call 110; (with_reducible refine (CN.out _ _).mono ?_); rintro e w3 ⟨rfl, rfl⟩) | (go_at_call 199; (with_reducible refine HCD.out.mono ?_); rintro e w4 ⟨hb4, rfl⟩; have HB4 := Lib.hid hb4; clear hb4))
       exact ⟨rfl, HB5.out.trans (HB4.out.mono HB5.out.size), rfl⟩
     · simp only [if_true]
       go_enter Tryz.func193, Tryz.ntmps193
       go_upto_region 2 with (go_at_call 197; (with_reducible refine CW.out.mono ?_); rintro e w5 ⟨hb, hr⟩; rw [WayRes, if_pos hp0] at hr; obtain ⟨h, v, hm, hid, hpt, rfl⟩ := hr; have HB5 := Lib.hid hb; have HH := Lib.hid (HFW.out h hm hid); have HR := Lib.hid (And.intro hm hpt); clear hb hm hid hpt)
       have hb0 : (h.d.kind == 1) = false := by rw [HH.out]; exact HB0.out
       have CDh := CD.out w5 HB5.out h v (HR.out.2.below HB5.out)
       simp only [HH.out, HAL.out, ErrRes, if_true] at CDh
       have HCD := Lib.hid CDh
       clear CDh CW c1
       obtain ⟨j, g, o, hj, hA, rfl, hrg⟩ := HR.out.2
       have c3 : w5.cell? ⟨g, o + j * 8 + 1, none⟩ = some (.int .i64 h.d.kind) := hrg w5 HB5.out 1 _ rfl
       clear hj hA hrg
       go_wp2_with (first | (go_at_call 110; (with_reducible refine (CN.out _ _).mono ?_); rintro e w3 ⟨rfl, rfl⟩) | (go_at_call 199; (with_reducible refine HCD.out.mono ?_); rintro e w4 ⟨hb4, rfl⟩; have HB4 := Lib.hid hb4; clear hb4))
       go_ret
       exact ⟨HB5.out.trans (HB4.out.mono HB5.out.size), h, _, HR.out.1, HH.out, HR.out.2, rfl⟩
   · simp only [if_neg hk]
     have HK1 := Lib.hid hk
     clear hk
     go_enter Tryz.func193, Tryz.ntmps193
     go_upto_region 2 with (go_at_call 197; (with_reducible refine CW.out.mono ?_); rintro e w5 ⟨hb, hr⟩; rw [WayRes, if_pos hp0] at hr; obtain ⟨h, v, hm, hid, hpt, rfl⟩ := hr; have HB5 := Lib.hid hb; have HH := Lib.hid (HFW.out h hm hid); have HR := Lib.hid (And.intro hm hpt); clear hb hm hid hpt)
     have hb0 : (h.d.kind == 1) = true := by
      rcases HG.out.kinds h.d (List.mem_map.2 ⟨h, HR.out.1, rfl⟩) with e | e
      · simp [e]
      · exact absurd (HH.out ▸ e) HK1.out
     clear CW c1
     obtain ⟨j, g, o, hj, hA, rfl, hrg⟩ := HR.out.2
     have c3 : w5.cell? ⟨g, o + j * 8 + 1, none⟩ = some (.int .i64 h.d.kind) := hrg w5 HB5.out 1 _ rfl
     clear hj hA hrg
     go_wp2_with (first | (go_at_call 110; (with_reducible refine (CY.out _ _).mono ?_); rintro e w3 ⟨rfl, rfl⟩))
     exact ⟨rfl, HB5.out, rfl⟩
 · simp only [if_neg hp0]
   go_enter Tryz.func193, Tryz.ntmps193
   go_wp2_with (go_at_call 197; (with_reducible refine CW.out.mono ?_); rintro e w5 ⟨hb, hr⟩; rw [WayRes, if_neg hp0] at hr; subst hr; have HB5 := Lib.hid hb; clear hb)
   exact ⟨rfl, HB5.out, rfl⟩
end
end Go.Proofs.YtemgejblnionlaaGreatDoor
