/-
  Texts Gb Gc Gd Ge Gf Gg Gh, put together by program.
-/
import Derived.Test.YtemgejblnionlaaGreatDoorY1
import Derived.Test.YtemgejblnionlaaGreatDoorY2
import Derived.Test.YtemgejblnionlaaGreatDoorY3
namespace Go.Proofs.YtemgejblnionlaaGreatDoor
open Go.RowKit
set_option maxHeartbeats 400000
set_option maxRecDepth 100000
abbrev Ac := Acl.Ap.Ac
abbrev Pc := Ext.Ex.Pc
structure En where
 name : ByteArray
 id : Int
 deriving DecidableEq
def encA (a : Ac) : List Value := [.int .i64 a.who, .bool a.allow, .int .i64 a.rights, .int .i64 a.reach, .bool a.given]
def encE (e : En) : List Value := [.string e.name, .int .i64 e.id]
def encP (p : Pc) : List Value := [.int .i64 p.id, .int .i64 p.fr, .int .i64 p.n]
def encO (o : Int × Int) : List Value := [.int .i64 o.1, .int .i64 o.2]
theorem encA_len (a : Ac) : (encA a).length = 5 := rfl
theorem encE_len (a : En) : (encE a).length = 2 := rfl
theorem encP_len (a : Pc) : (encP a).length = 3 := rfl
theorem encO_len (a : Int × Int) : (encO a).length = 2 := rfl
theorem encA_one (a : Ac) : ∀ u ∈ encA a, u.oneCell' = true := oneC rfl
theorem encE_one (a : En) : ∀ u ∈ encE a, u.oneCell' = true := oneC rfl
theorem encO_one (a : Int × Int) : ∀ u ∈ encO a, u.oneCell' = true := oneC rfl
structure Nd where
 id : Int
 kind : Int
 owner : Int
 acl : List Ac
 list : List En
 body : List Pc
 links : Int
 ver : Int
 deriving DecidableEq
structure Tr where
 nodes : List Nd
 next : Int
 opens : List (Int × Int)
 deriving DecidableEq
structure Nh where
 d : Nd
 aA : Option Addr
 an : Nat
 ac : Nat
 lA : Option Addr
 ln : Nat
 lc : Nat
 bA : Option Addr
 bn : Nat
 bc : Nat
def Nh.enc (h : Nh) : List Value := [.int .i64 h.d.id, .int .i64 h.d.kind, .int .i64 h.d.owner, .slice h.aA h.an h.ac, .slice h.lA h.ln h.lc, .slice h.bA h.bn h.bc, .int .i64 h.d.links, .int .i64 h.d.ver]
abbrev Nh.val (h : Nh) : Value := .agg #[.int .i64 h.d.id, .int .i64 h.d.kind, .int .i64 h.d.owner, .slice h.aA h.an h.ac, .slice h.lA h.ln h.lc, .slice h.bA h.bn h.bc, .int .i64 h.d.links, .int .i64 h.d.ver]
theorem Nh.enc_len (h : Nh) : h.enc.length = 8 := rfl
theorem Nh.enc_one (h : Nh) : ∀ u ∈ h.enc, u.oneCell' = true := oneC rfl
structure Nh.ok (w : World) (h : Nh) : Prop where
 acl : Sv w h.aA h.an h.ac 5 (encs encA h.d.acl)
 list : Sv w h.lA h.ln h.lc 2 (encs encE h.d.list)
 body : Sv w h.bA h.bn h.bc 3 (encs encP h.d.body)
theorem Nh.ok.below {w w' : World} {h : Nh} (k : h.ok w) (hb : Below w.heap.size w w') : h.ok w' := ⟨k.acl.below hb, k.list.below hb, k.body.below hb⟩
abbrev Nd.zero : Nd := ⟨0, 0, 0, [], [], [], 0, 0⟩
abbrev Nh.zero : Nh := ⟨Nd.zero, none, 0, 0, none, 0, 0, none, 0, 0⟩
theorem Nh.zero_ok (w : World) : Nh.zero.ok w := ⟨Sv.none_ _ _, Sv.none_ _ _, Sv.none_ _ _⟩
structure Th where
 A : Option Addr
 n : Nat
 c : Nat
 hs : List Nh
 next : Int
 oA : Option Addr
 on : Nat
 oc : Nat
 opens : List (Int × Int)
abbrev Th.cs (T : Th) : Array Value := #[.slice T.A T.n T.c, .int .i64 T.next, .slice T.oA T.on T.oc]
abbrev Th.val (T : Th) : Value := .agg T.cs
def Th.enc (T : Th) : List Value := [.slice T.A T.n T.c, .int .i64 T.next, .slice T.oA T.on T.oc]
def Th.t (T : Th) : Tr := ⟨T.hs.map (·.d), T.next, T.opens⟩
structure Th.ok (w : World) (T : Th) : Prop where
 nodes : Sv w T.A T.n T.c 8 (encs Nh.enc T.hs)
 each : ∀ h ∈ T.hs, h.ok w
 opens : Sv w T.oA T.on T.oc 2 (encs encO T.opens)
theorem Th.ok.below {w w' : World} {T : Th} (k : T.ok w) (hb : Below w.heap.size w w') : T.ok w' := ⟨k.nodes.below hb, fun h hm => (k.each h hm).below hb, k.opens.below hb⟩
theorem Th.ok.len {w : World} {T : Th} (k : T.ok w) : T.hs.length = T.n := k.nodes.plen Nh.enc_len (by decide)
theorem Th.ok.olen {w : World} {T : Th} (k : T.ok w) : T.opens.length = T.on := k.opens.plen encO_len (by decide)
theorem Nh.ok.alen {w : World} {h : Nh} (k : h.ok w) : h.d.acl.length = h.an := k.acl.plen encA_len (by decide)
theorem Nh.ok.llen {w : World} {h : Nh} (k : h.ok w) : h.d.list.length = h.ln := k.list.plen encE_len (by decide)
theorem Nh.ok.blen {w : World} {h : Nh} (k : h.ok w) : h.d.body.length = h.bn := k.body.plen encP_len (by decide)
def plc (P : Nat → Prop) (A : Option Addr) (n : Nat) : Prop := 0 < n → ∀ g o s, A = some ⟨g, o, s⟩ → P g
theorem plc.mono {P Q : Nat → Prop} {A : Option Addr} {n : Nat} (h : plc P A n) (hpq : ∀ g, P g → Q g) : plc Q A n := fun hn g o s e => hpq g (h hn g o s e)
theorem plc_own {w : World} {base : Nat} {e : TypeId} {s : Nat} {A : Option Addr} {n c : Nat} {xs : List Value} (h : w.ownsRow base e s (.slice A n c) n xs) : plc (base ≤ ·) A n := fun hn g o sp e => by
 obtain ⟨g', c', hv, hb, _⟩ := h.form hn
 injection hv with hv
 rw [hv] at e
 injection e with e
 injection e with e1
 rw [← e1]
 exact hb
theorem plc_none (P : Nat → Prop) : plc P none 0 := fun h => by cases h
theorem Sv.agree {P : Nat → Prop} {w w' : World} {A : Option Addr} {n c s : Nat} {xs : List Value} (h : Sv w A n c s xs) (hp : plc P A n) (ha : ∀ g, P g → w'.heap[g]? = w.heap[g]?) (hs : w.heap.size ≤ w'.heap.size) : Sv w' A n c s xs :=
 ⟨h.len, h.cap, h.max, h.nil, h.one, fun hn => by
  obtain ⟨g, o, hA, hg, hc⟩ := h.cells hn
  have hn0 : 0 < n := by
   rcases Nat.eq_zero_or_pos n with e | e
   · subst e
     have := h.len
     simp at this
     exact absurd this hn
   · exact e
  have hP := hp hn0 g o none hA
  exact ⟨g, o, hA, Nat.lt_of_lt_of_le hg hs, fun j u hu => (World.cell?_of_block (w := w) (a := ⟨g, o + j, none⟩) (ha g hP)).trans (hc j u hu)⟩⟩
theorem Sv.inside {P : Nat → Prop} {w : World} {A : Option Addr} {n c s : Nat} {xs : List Value} (h : Sv w A n c s xs) (hs : 0 < s) (hp : plc P A n) : plc (fun g => P g ∧ g < w.heap.size) A n := fun hn g o sp e => by
 have hne : xs ≠ [] := fun e0 => by
  have := h.len
  rw [e0] at this
  have := Nat.mul_pos hn hs
  simp at *
  omega
 obtain ⟨g', o', hA, hg, _⟩ := h.cells hne
 refine ⟨hp hn g o sp e, ?_⟩
 rw [e] at hA
 injection hA with hA
 injection hA with h1
 rw [h1]
 exact hg
structure Nh.In (P : Nat → Prop) (h : Nh) : Prop where
 acl : plc P h.aA h.an
 list : plc P h.lA h.ln
 body : plc P h.bA h.bn
structure Th.In (P : Nat → Prop) (T : Th) : Prop where
 nodes : plc P T.A T.n
 each : ∀ h ∈ T.hs, h.In P
 opens : plc P T.oA T.on
theorem Nh.In.mono {P Q : Nat → Prop} {h : Nh} (k : h.In P) (hpq : ∀ g, P g → Q g) : h.In Q := ⟨k.acl.mono hpq, k.list.mono hpq, k.body.mono hpq⟩
theorem Th.In.mono {P Q : Nat → Prop} {T : Th} (k : T.In P) (hpq : ∀ g, P g → Q g) : T.In Q := ⟨k.nodes.mono hpq, fun h hm => (k.each h hm).mono hpq, k.opens.mono hpq⟩
theorem Nh.zero_in (P : Nat → Prop) : Nh.zero.In P := ⟨plc_none P, plc_none P, plc_none P⟩
theorem Nh.ok.agree {P : Nat → Prop} {w w' : World} {h : Nh} (k : h.ok w) (hp : h.In P) (ha : ∀ g, P g → w'.heap[g]? = w.heap[g]?) (hs : w.heap.size ≤ w'.heap.size) : h.ok w' := ⟨k.acl.agree hp.acl ha hs, k.list.agree hp.list ha hs, k.body.agree hp.body ha hs⟩
theorem Th.ok.agree {P : Nat → Prop} {w w' : World} {T : Th} (k : T.ok w) (hp : T.In P) (ha : ∀ g, P g → w'.heap[g]? = w.heap[g]?) (hs : w.heap.size ≤ w'.heap.size) : T.ok w' :=
 ⟨k.nodes.agree hp.nodes ha hs, fun h hm => (k.each h hm).agree (hp.each h hm) ha hs, k.opens.agree hp.opens ha hs⟩
theorem Nh.ok.inside {P : Nat → Prop} {w : World} {h : Nh} (k : h.ok w) (hp : h.In P) : h.In (fun g => P g ∧ g < w.heap.size) := ⟨k.acl.inside (by decide) hp.acl, k.list.inside (by decide) hp.list, k.body.inside (by decide) hp.body⟩
theorem Th.ok.inside {P : Nat → Prop} {w : World} {T : Th} (k : T.ok w) (hp : T.In P) : T.In (fun g => P g ∧ g < w.heap.size) :=
 ⟨k.nodes.inside (by decide) hp.nodes, fun h hm => (k.each h hm).inside (hp.each h hm), k.opens.inside (by decide) hp.opens⟩
theorem Th.true_in (T : Th) : T.In (fun _ => True) := ⟨fun _ _ _ _ _ => trivial, fun _ _ => ⟨fun _ _ _ _ _ => trivial, fun _ _ _ _ _ => trivial, fun _ _ _ _ _ => trivial⟩, fun _ _ _ _ _ => trivial⟩
abbrev Fresh (P : Nat → Prop) (w : World) : Nat → Prop := fun g => P g ∨ w.heap.size ≤ g
def idx (hs : List Nh) (id : Int) : Option Nat := hs.findIdx? (fun h => h.d.id == id)
def idxI (hs : List Nh) (id : Int) : Int := match idx hs id with | some i => (i : Int) | none => -1
def nodeH (hs : List Nh) (id : Int) : Nh := (hs.find? (fun h => h.d.id == id)).getD Nh.zero
theorem idx_at {hs : List Nh} {id : Int} {k : Nat} {h : Nh} (hn : idx (hs.take k) id = none) (hk : hs[k]? = some h) (he : h.d.id = id) : idx hs id = some k := by
 unfold idx at *
 obtain ⟨hlt, hh⟩ := List.getElem?_eq_some_iff.1 hk
 rw [List.findIdx?_eq_some_iff_getElem]
 refine ⟨hlt, by rw [hh]; simpa using he, fun j hj => ?_⟩
 have hn' := List.findIdx?_eq_none_iff.1 hn
 have hm : hs[j] ∈ hs.take k := by
  rw [List.mem_take_iff_getElem]
  exact ⟨j, by omega, rfl⟩
 have := hn' _ hm
 simpa using this
theorem idx_step {hs : List Nh} {id : Int} {k : Nat} {h : Nh} (hn : idx (hs.take k) id = none) (hk : hs[k]? = some h) (he : ¬ h.d.id = id) : idx (hs.take (k + 1)) id = none := by
 unfold idx at *
 rw [List.findIdx?_eq_none_iff] at *
 intro x hx
 rw [List.take_add_one, hk] at hx
 rcases List.mem_append.1 hx with hx | hx
 · exact hn x hx
 · have : x = h := by simpa using hx
   subst this
   simpa using he
theorem idx_all {hs : List Nh} {id : Int} {k : Nat} (hn : idx (hs.take k) id = none) (hk : hs.length ≤ k) : idx hs id = none := by rwa [List.take_of_length_le hk] at hn
theorem idx_some {hs : List Nh} {id : Int} {i : Nat} (h : idx hs id = some i) : ∃ n, hs[i]? = some n ∧ n.d.id = id ∧ nodeH hs id = n := by
 unfold idx at h
 rw [List.findIdx?_eq_some_iff_getElem] at h
 obtain ⟨hlt, h1, h2⟩ := h
 refine ⟨hs[i], List.getElem?_eq_getElem hlt, by simpa using h1, ?_⟩
 have : hs.find? (fun h => h.d.id == id) = some hs[i] := List.find?_eq_some_iff_getElem.2 ⟨h1, i, hlt, rfl, fun j hj => by simpa using h2 j hj⟩
 unfold nodeH
 rw [this]
 rfl
theorem idx_none {hs : List Nh} {id : Int} (h : idx hs id = none) : nodeH hs id = Nh.zero := by
 unfold idx at h
 rw [List.findIdx?_eq_none_iff] at h
 have : hs.find? (fun h => h.d.id == id) = none := List.find?_eq_none.2 fun x hx => by simpa using h x hx
 unfold nodeH
 rw [this]
 rfl
theorem nodeH_ok {w : World} {T : Th} (k : T.ok w) (id : Int) : (nodeH T.hs id).ok w := by
 unfold nodeH
 cases h : T.hs.find? (fun h => h.d.id == id) with
 | none => exact Nh.zero_ok w
 | some n => exact k.each n (List.mem_of_find?_eq_some h)
theorem nodeH_in {P : Nat → Prop} {T : Th} (k : T.In P) (id : Int) : (nodeH T.hs id).In P := by
 unfold nodeH
 cases h : T.hs.find? (fun h => h.d.id == id) with
 | none => exact Nh.zero_in P
 | some n => exact k.each n (List.mem_of_find?_eq_some h)
end Go.Proofs.YtemgejblnionlaaGreatDoor
namespace Go.Proofs.YtemgejblnionlaaGreatDoor
open Go.RowKit
set_option maxHeartbeats 1000000
set_option maxRecDepth 100000
theorem store_nd {ops : Array Oper} {rest : List Oper} {o : Oper} {a : Act} {w : World} {Q : Exit → Act → World → Prop} (hgd : o.guard = none) (x y : Operand) (ho : o.op = .store 65 x y)
 (g : Nat) (hx : a.eval x = .pointer (some ⟨g, 0, none⟩)) (h : Nh) (hy : a.eval y = h.val) (old : Array Value) (hg : w.heap[g]? = some (.cells old 65 (0, 0))) (hold : old.size = 8)
 (hr : wpList Tryz.prog ops Q rest (a.put o.dst undef) (w.setRow g h.enc.toArray)) : wpList Tryz.prog ops Q (o :: rest) a w :=
 wpList_store_row hgd 65 x y ho g h.enc.toArray hx hy 65 old hg (by kernel_rfl) hold (by simp [Nh.enc, Value.oneCell']) hr
theorem store_nd0 {ops : Array Oper} {rest : List Oper} {o : Oper} {a : Act} {w : World} {Q : Exit → Act → World → Prop} (hgd : o.guard = none) (x y : Operand) (ho : o.op = .store 65 x y)
 (g : Nat) (hx : a.eval x = .pointer (some ⟨g, 0, none⟩)) (hy : a.eval y = .agg #[.int .i64 0, .int .i64 0, .int .i64 0, .slice none 0 0, .slice none 0 0, .slice none 0 0, .int .i64 0, .int .i64 0]) (old : Array Value) (hg : w.heap[g]? = some (.cells old 65 (0, 0))) (hold : old.size = 8)
 (hr : wpList Tryz.prog ops Q rest (a.put o.dst undef) (w.setRow g Nh.zero.enc.toArray)) : wpList Tryz.prog ops Q (o :: rest) a w :=
 wpList_store_row hgd 65 x y ho g Nh.zero.enc.toArray hx hy 65 old hg (by kernel_rfl) hold (by simp [Nh.enc, Value.oneCell']) hr
theorem ret_nd {fn : Func} {p : Tmp} (h : fn.results = #[.cell p 65]) (tmps : Array Value) (w : World) (g : Nat) (n : Nh) (old : Array Value)
 (hp : tmps.getD p undef = .pointer (some ⟨g, 0, none⟩)) (hg : w.heap[g]? = some (.cells old 65 (0, 0))) : (results fn tmps).run Tryz.prog (w.setRow g n.enc.toArray) = .ok n.val (w.setRow g n.enc.toArray) :=
 results_cell_row h tmps _ g 65 n.enc.toArray (0, 0) _ hp (setRow_heap _ _ _ _ _ _ hg) Tryz.underlying65 rfl (by kernel_rfl)
theorem load_nd {ops : Array Oper} {rest : List Oper} {o : Oper} {a : Act} {w : World} {Q : Exit → Act → World → Prop} (hgd : o.guard = none) (x : Operand) (ho : o.op = .load 65 x)
 (b k : Nat) (hx : a.eval x = .pointer (some ⟨b, k, none⟩)) (h : Nh) (hc : w.rangeAt b k h.enc) (hr : wpList Tryz.prog ops Q rest (a.put o.dst h.val) w) : wpList Tryz.prog ops Q (o :: rest) a w :=
 wpList_load_mid hgd 65 x ho b k hx h.enc _ hc Tryz.underlying65 rfl (by kernel_rfl) hr
theorem load_tr {ops : Array Oper} {rest : List Oper} {o : Oper} {a : Act} {w : World} {Q : Exit → Act → World → Prop} (hgd : o.guard = none) (x : Operand) (ho : o.op = .load 31 x)
 (b : Nat) (hx : a.eval x = .pointer (some ⟨b, 0, none⟩)) (T : Th) (hc : w.rangeAt b 0 T.enc) (hr : wpList Tryz.prog ops Q rest (a.put o.dst T.val) w) : wpList Tryz.prog ops Q (o :: rest) a w :=
 wpList_load_mid hgd 31 x ho b 0 hx T.enc _ hc Tryz.underlying31 rfl (by kernel_rfl) hr
theorem store_tr {ops : Array Oper} {rest : List Oper} {o : Oper} {a : Act} {w : World} {Q : Exit → Act → World → Prop} (hgd : o.guard = none) (x y : Operand) (ho : o.op = .store 31 x y)
 (g : Nat) (hx : a.eval x = .pointer (some ⟨g, 0, none⟩)) (T : Th) (hy : a.eval y = T.val) (old : Array Value) (hg : w.heap[g]? = some (.cells old 31 (0, 0))) (hold : old.size = 3)
 (hr : wpList Tryz.prog ops Q rest (a.put o.dst undef) (w.setRow g T.enc.toArray)) : wpList Tryz.prog ops Q (o :: rest) a w :=
 wpList_store_row hgd 31 x y ho g T.enc.toArray hx hy 31 old hg (by kernel_rfl) hold (by simp [Th.enc, Value.oneCell']) hr
theorem ret_tr {fn : Func} {p : Tmp} (h : fn.results = #[.cell p 31]) (tmps : Array Value) (w : World) (g : Nat) (T : Th) (old : Array Value)
 (hp : tmps.getD p undef = .pointer (some ⟨g, 0, none⟩)) (hg : w.heap[g]? = some (.cells old 31 (0, 0))) : (results fn tmps).run Tryz.prog (w.setRow g T.enc.toArray) = .ok T.val (w.setRow g T.enc.toArray) :=
 results_cell_row h tmps _ g 31 T.enc.toArray (0, 0) _ hp (setRow_heap _ _ _ _ _ _ hg) Tryz.underlying31 rfl (by kernel_rfl)
theorem somebody_any (n : Int) (w : World) : Calls Tryz.prog 78 #[.int .i64 n] w fun e w' => e = .returned (.bool (decide (0 ≤ n) && decide (n ≤ 999))) ∧ w' = w := by
 go_enter Tryz.func78, Tryz.ntmps78
 by_cases h0 : 0 ≤ n
 · by_cases h1 : n ≤ 999
   · go_wp2
     go_ret
     exact ⟨ret_bool (a := true) (by simp [h0, h1]), rfl⟩
   · go_wp2
     go_ret
     exact ⟨ret_bool (a := false) (by simp; omega), rfl⟩
 · go_wp2
   go_ret
   exact ⟨ret_bool (a := false) (by simp; omega), rfl⟩
theorem index_any (T : Th) (id : Int) (w : World) (hT : T.ok w) (hn : T.n ≤ 100000) :
 Calls Tryz.prog 77 #[T.val, .int .i64 id] w fun e w' => e = .returned (.int .i64 (idxI T.hs id)) ∧ Below w.heap.size w w' := by
 obtain ⟨A, n, c, hs, next, oA, on, oc, opens⟩ := T
 have KN := Lib.hid (show Sv w A n c 8 (encs Nh.enc hs) from hT.nodes)
 have KE := Lib.hid (show ∀ h ∈ hs, h.ok w from hT.each)
 have KO := Lib.hid (show Sv w oA on oc 2 (encs encO opens) from hT.opens)
 have KL := Lib.hid (show hs.length = n from hT.len)
 have KM := Lib.hid (show opens.length = on from hT.olen)
 have HN := Lib.hid (show n ≤ 100000 from hn)
 clear hT hn
 show Calls Tryz.prog 77 #[.agg #[.slice A n c, .int .i64 next, .slice oA on oc], .int .i64 id] w _
 obtain ⟨w0, hw0, hb0, hlt0, hbx⟩ := box_new w #[.slice A n c, .int .i64 next, .slice oA on oc] 31
 have HW0 := Lib.hid hw0
 have HB0 := Lib.hid hb0
 have BT := Lib.hid (fun W (h : Below w0.heap.size w0 W) => (show W.cell? ⟨w.heap.size, 0, none⟩ = some (.slice A n c) ∧ W.cell? ⟨w.heap.size, 1, none⟩ = some (.int .i64 next) ∧ W.cell? ⟨w.heap.size, 2, none⟩ = some (.slice oA on oc) from ⟨box_at hbx h 0, box_at hbx h 1, box_at hbx h 2⟩))
 clear hb0 hlt0 hbx hw0
 go_enter Tryz.func77, Tryz.ntmps77
 go_upto_region 1 with fail
 rw [HW0.out]
 go_wp2
 go_loopw [5] (fun i wr => ∃ k : Nat, k ≤ n ∧ i = .int .i64 k ∧ idx (hs.take k) id = none ∧ Below w0.heap.size w0 wr) (fun i _ => n - (intOf i).toNat)
 case atStart => exact ⟨0, Nat.zero_le _, rfl, rfl, Below.refl _ _⟩
 case round =>
  obtain ⟨k, hk, rfl, hid, hbw⟩ := hrel
  obtain ⟨t0, -, -⟩ := BT.out _ hbw
  have HI := Lib.hid hid
  have HBW := Lib.hid hbw
  have hbws := hbw.size
  by_cases hlt : k < n
  · obtain ⟨h, hh⟩ : ∃ h, hs[k]? = some h := ⟨_, List.getElem?_eq_getElem (by rw [KL.out]; exact hlt)⟩
    have kn : (k : Int) < (n : Int) := Int.ofNat_lt.2 hlt
    have k0 : (0 : Int) ≤ (k : Int) := Int.natCast_nonneg k
    have hwj : IntKind.i64.wrap ((k : Int) + 1) = (k : Int) + 1 := IntWalk.i64_in _ (by have := HN.out; omega)
    obtain ⟨g, o, hA, -, hc⟩ := Sv.at_ Nh.enc_len (by decide) (KN.out.below (HB0.out.trans (hbw.mono HB0.out.size))) hh
    have q0 : wr.cell? ⟨g, o + k * 8, none⟩ = some (.int .i64 h.d.id) := hc 0 _ (by decide) rfl
    subst hA
    have HH := Lib.hid hh
    clear hh hc hid hbw
    by_cases he : h.d.id = id
    · have hb : (h.d.id == id) = true := by simp [he]
      have HR := Lib.hid (idx_at HI.out HH.out he)
      clear he
      go_wp2
      go_ret
      exact ⟨ret_int (by unfold idxI; rw [HR.out]), HB0.out.trans (HBW.out.mono HB0.out.size)⟩
    · have hb : (h.d.id == id) = false := by simp [he]
      have HR := Lib.hid (idx_step HI.out HH.out he)
      clear he
      go_wp2
      go_roundw
      case rel => exact ⟨k + 1, hlt, by go_num, HR.out, HBW.out⟩
      case measure => simp [intOf]; omega
  · have kn : ¬ (k : Int) < (n : Int) := fun e => hlt (Int.ofNat_lt.1 e)
    have HR := Lib.hid (idx_all HI.out (by rw [KL.out]; omega))
    clear hid hbw hlt
    go_wp2
    go_ret
    exact ⟨ret_int (by unfold idxI; rw [HR.out]), HB0.out.trans (HBW.out.mono HB0.out.size)⟩
theorem node_any (T : Th) (id : Int) (w : World) (hT : T.ok w) (hn : T.n ≤ 100000) :
 Calls Tryz.prog 41 #[T.val, .int .i64 id] w fun e w' => e = .returned (nodeH T.hs id).val ∧ Below w.heap.size w w' := by
 have CI := Lib.hid (fun W (h : Below w.heap.size w W) => index_any T id W (hT.below h) hn)
 obtain ⟨A, n, c, hs, next, oA, on, oc, opens⟩ := T
 have KN := Lib.hid (show Sv w A n c 8 (encs Nh.enc hs) from hT.nodes)
 have KE := Lib.hid (show ∀ h ∈ hs, h.ok w from hT.each)
 have KO := Lib.hid (show Sv w oA on oc 2 (encs encO opens) from hT.opens)
 have KL := Lib.hid (show hs.length = n from hT.len)
 have KM := Lib.hid (show opens.length = on from hT.olen)
 have HN := Lib.hid (show n ≤ 100000 from hn)
 clear hT hn
 show Calls Tryz.prog 41 #[.agg #[.slice A n c, .int .i64 next, .slice oA on oc], .int .i64 id] w _
 obtain ⟨w0, hw0, hb0, hlt0, hbx⟩ := box_new w #[.slice A n c, .int .i64 next, .slice oA on oc] 31
 have HW0 := Lib.hid hw0
 have HB0 := Lib.hid hb0
 have BT := Lib.hid (fun W (h : Below w0.heap.size w0 W) => (show W.cell? ⟨w.heap.size, 0, none⟩ = some (.slice A n c) ∧ W.cell? ⟨w.heap.size, 1, none⟩ = some (.int .i64 next) ∧ W.cell? ⟨w.heap.size, 2, none⟩ = some (.slice oA on oc) from ⟨box_at hbx h 0, box_at hbx h 1, box_at hbx h 2⟩))
 clear hb0 hlt0 hbx hw0
 have hsz : w0.heap.size = w.heap.size + 1 := by rw [← HW0.out]; simp
 obtain ⟨wR, hwR, hbR, hltR, hbxR⟩ := box_new w0 #[.int .i64 0, .int .i64 0, .int .i64 0, .slice none 0 0, .slice none 0 0, .slice none 0 0, .int .i64 0, .int .i64 0] 65
 rw [hsz] at hltR hbxR
 have HWR := Lib.hid hwR
 have HBR := Lib.hid hbR
 have HRR := Lib.hid (fun W (h : Below wR.heap.size wR W) => (show W.heap[w.heap.size + 1]? = some (.cells #[.int .i64 0, .int .i64 0, .int .i64 0, .slice none 0 0, .slice none 0 0, .slice none 0 0, .int .i64 0, .int .i64 0] 65 (0, 0)) from (h.block _ hltR).trans hbxR))
 have HLR := Lib.hid hltR
 have HBW : Hid (∀ W cs, Below wR.heap.size wR W → Below w.heap.size w (W.setRow (w.heap.size + 1) cs)) := Lib.hid fun W cs h => below_setRow ((HB0.out.trans (hbR.mono HB0.out.size)).trans (h.mono (HB0.out.trans (hbR.mono HB0.out.size)).size)) (by omega) _
 clear hwR hbR hltR hbxR hsz
 have hz8 : (#[.int .i64 0, .int .i64 0, .int .i64 0, .slice none 0 0, .slice none 0 0, .slice none 0 0, .int .i64 0, .int .i64 0] : Array Value).size = 8 := rfl
 go_enter Tryz.func41, Tryz.ntmps41
 go_upto_region 1 with fail
 rw [HW0.out, HWR.out]
 obtain ⟨t0, t1, t2⟩ := BT.out _ HBR.out
 go_upto_region 2 with (go_at_call 77; refine (CI.out _ (HB0.out.trans (HBR.out.mono HB0.out.size))).mono ?_; rintro e w2 ⟨rfl, hb⟩; have HB2 := Lib.hid hb; clear hb)
 clear t0 t1 t2
 cases hi : idx hs id with
 | none =>
   have hI : idxI hs id = -1 := by unfold idxI; rw [hi]
   have HR := Lib.hid (idx_none hi)
   rw [hI]
   clear hi hI
   go_wp2_with (with_reducible refine store_nd0 rfl _ _ rfl (w.heap.size + 1) rfl rfl #[.int .i64 0, .int .i64 0, .int .i64 0, .slice none 0 0, .slice none 0 0, .slice none 0 0, .int .i64 0, .int .i64 0] (HRR.out _ HB2.out) hz8 ?_)
   refine bodyPost_ret (v := Nh.zero.val) (ret_nd rfl _ _ (w.heap.size + 1) Nh.zero #[.int .i64 0, .int .i64 0, .int .i64 0, .slice none 0 0, .slice none 0 0, .slice none 0 0, .int .i64 0, .int .i64 0] rfl (HRR.out _ HB2.out)) rfl ?_
   exact ⟨by rw [HR.out], HBW.out _ _ HB2.out⟩
 | some i =>
   have hI : idxI hs id = (i : Int) := by unfold idxI; rw [hi]
   obtain ⟨h, hh, -, hnode⟩ := idx_some hi
   have HR := Lib.hid hnode
   rw [hI]
   clear hi hI hnode
   obtain ⟨t0, t1, t2⟩ := BT.out _ (HBR.out.trans (HB2.out.mono HBR.out.size))
   obtain ⟨g, o, hA, -, hc⟩ := Sv.at_ Nh.enc_len (by decide) ((KN.out.below HB0.out).below (HBR.out.trans (HB2.out.mono HBR.out.size))) hh
   have q0 : w2.cell? ⟨g, o + i * 8, none⟩ = some (.int .i64 h.d.id) := hc 0 _ (by decide) rfl
   have q1 : w2.cell? ⟨g, o + i * 8 + 1, none⟩ = some (.int .i64 h.d.kind) := hc 1 _ (by decide) rfl
   have q2 : w2.cell? ⟨g, o + i * 8 + 2, none⟩ = some (.int .i64 h.d.owner) := hc 2 _ (by decide) rfl
   have q3 : w2.cell? ⟨g, o + i * 8 + 3, none⟩ = some (.slice h.aA h.an h.ac) := hc 3 _ (by decide) rfl
   have q4 : w2.cell? ⟨g, o + i * 8 + 4, none⟩ = some (.slice h.lA h.ln h.lc) := hc 4 _ (by decide) rfl
   have q5 : w2.cell? ⟨g, o + i * 8 + 5, none⟩ = some (.slice h.bA h.bn h.bc) := hc 5 _ (by decide) rfl
   have q6 : w2.cell? ⟨g, o + i * 8 + 6, none⟩ = some (.int .i64 h.d.links) := hc 6 _ (by decide) rfl
   have q7 : w2.cell? ⟨g, o + i * 8 + 7, none⟩ = some (.int .i64 h.d.ver) := hc 7 _ (by decide) rfl
   subst hA
   have kn : (i : Int) < (n : Int) := Int.ofNat_lt.2 (by have := (List.getElem?_eq_some_iff.1 hh).1; rw [KL.out] at this; exact this)
   have k0 : (0 : Int) ≤ (i : Int) := Int.natCast_nonneg i
   have kneg : ¬ (i : Int) < 0 := by omega
   clear hc hh
   go_wp2_with (with_reducible refine store_nd rfl _ _ rfl (w.heap.size + 1) rfl h rfl #[.int .i64 0, .int .i64 0, .int .i64 0, .slice none 0 0, .slice none 0 0, .slice none 0 0, .int .i64 0, .int .i64 0] (HRR.out _ HB2.out) hz8 ?_)
   refine bodyPost_ret (v := h.val) (ret_nd rfl _ _ (w.heap.size + 1) h #[.int .i64 0, .int .i64 0, .int .i64 0, .slice none 0 0, .slice none 0 0, .slice none 0 0, .int .i64 0, .int .i64 0] rfl (HRR.out _ HB2.out)) rfl ?_
   exact ⟨by rw [HR.out], HBW.out _ _ HB2.out⟩
end Go.Proofs.YtemgejblnionlaaGreatDoor
namespace Go.Proofs.YtemgejblnionlaaGreatDoor
open Go.RowKit
set_option maxHeartbeats 1000000
set_option maxRecDepth 100000
theorem info_en : (Tryz.prog.info? 174).map (fun i => (i.zero, i.size, i.bytes)) = some (some (.agg #[.string ByteArray.empty, .int .i64 0]), 2, 24) := by kernel_rfl
theorem info_nd : (Tryz.prog.info? 65).map (fun i => (i.zero, i.size, i.bytes)) = some (some (.agg #[.int .i64 0, .int .i64 0, .int .i64 0, .slice none 0 0, .slice none 0 0, .slice none 0 0, .int .i64 0, .int .i64 0]), 8, 112) := by kernel_rfl
theorem sv_new (w : World) (xs : List Value) (n s : Nat) (t : TypeId) (hl : xs.length = n * s) (hn : n ≤ 1000000) (h1 : ∀ u ∈ xs, u.oneCell' = true) : Sv (w.alloc (.cells xs.toArray t)) (some ⟨w.heap.size, 0, none⟩) n n s xs :=
 ⟨hl, Nat.le_refl _, by omega, (fun h => by cases h), h1, fun _ => ⟨_, _, rfl, by simp, fun j u hu => by
  rw [Nat.zero_add, cell_of_row _ _ j _ _ _ (heap_alloc_new w _)]
  simpa using hu⟩⟩
def entryI (l : List En) (name : ByteArray) : Int := ((l.find? (fun e => e.name.toList == name.toList)).map (·.id)).getD 0
def takeE (l : List En) (name : ByteArray) : List En := l.filter (fun e => e.name.toList != name.toList)
end Go.Proofs.YtemgejblnionlaaGreatDoor
namespace Go.Proofs.YtemgejblnionlaaGreatDoor
open Go.RowKit
set_option maxHeartbeats 1000000
set_option maxRecDepth 100000
theorem in_new {w w' : World} {A : Option Addr} {n c base : Nat} {hs' : List Nh} {next : Int} {oA : Option Addr} {on oc : Nat} {opens : List (Int × Int)} {P : Nat → Prop} (hO : w'.ownsRow base 65 8 (.slice A n c) n (encs Nh.enc hs')) (hbase : w.heap.size ≤ base)
 (hE : ∀ h ∈ hs', h.In P) (hK : plc P oA on) : Th.In (Fresh P w) ⟨A, n, c, hs', next, oA, on, oc, opens⟩ :=
 ⟨(plc_own hO).mono fun _ hg => .inr (Nat.le_trans hbase hg), fun h hm => (hE h hm).mono fun _ => .inl, hK.mono fun _ => .inl⟩
def withH (hs : List Nh) (h : Nh) : List Nh := match idx hs h.d.id with | some i => hs.set i h | none => hs ++ [h]
theorem ok_new {w w' : World} {A : Option Addr} {n c base : Nat} {hs' : List Nh} {next : Int} {oA : Option Addr} {on oc : Nat} {opens : List (Int × Int)} (hO : w'.ownsRow base 65 8 (.slice A n c) n (encs Nh.enc hs'))
 (hE : ∀ h ∈ hs', h.ok w) (hK : Sv w oA on oc 2 (encs encO opens)) (hb : Below w.heap.size w w') : Th.ok w' ⟨A, n, c, hs', next, oA, on, oc, opens⟩ :=
 ⟨Sv.own hO (encs_cells Nh.enc_one _), fun h hm => (hE h hm).below hb, hK.below hb⟩
theorem store_own_nd {ops : Array Oper} {rest : List Oper} {o : Oper} {a : Act} {w : World} {Q : Exit → Act → World → Prop} (hgd : o.guard = none) (x y : Operand) (ho : o.op = .store 65 x y)
 (g i : Nat) (hx : a.eval x = .pointer (some ⟨g, i * 8, none⟩)) (h : Nh) (hy : a.eval y = h.val) {base n c : Nat} {hs : List Nh} (hO : w.ownsRow base 65 8 (.slice (some ⟨g, 0, none⟩) n c) n (encs Nh.enc hs)) (hi : i < hs.length)
 (hr : wpList Tryz.prog ops Q rest (a.put o.dst undef) (w.setCells g (i * 8) h.enc)) : wpList Tryz.prog ops Q (o :: rest) a w :=
 wpList_store_mid hgd 65 x y ho g (i * 8) h.enc.toArray hx hy (fun j hj => by
  have hj8 : j < 8 := hj
  have e : (encs Nh.enc hs)[i * 8 + j]? = hs[i].enc[j]? := encs_get Nh.enc_len hj8 (List.getElem?_eq_getElem hi)
  have e2 : hs[i].enc[j]? = some hs[i].enc[j] := List.getElem?_eq_getElem (by rw [Nh.enc_len]; exact hj8)
  obtain ⟨h1, h2⟩ := own_at hO (e.trans e2)
  rw [h1, h2]
  exact ⟨rfl, rfl⟩) (by kernel_rfl) (by simp [Nh.enc, Value.oneCell']) hr
theorem with_any (T : Th) (N : Nh) (w : World) (hT : T.ok w) (hN : N.ok w) (hn : T.n ≤ 100000) :
 Calls Tryz.prog 124 #[T.val, N.val] w fun e w' => ∃ A' m c', e = .returned (Th.val ⟨A', m, c', withH T.hs N, T.next, T.oA, T.on, T.oc, T.opens⟩) ∧ Th.ok w' ⟨A', m, c', withH T.hs N, T.next, T.oA, T.on, T.oc, T.opens⟩ ∧ m ≤ T.n + 1 ∧ Below w.heap.size w w' ∧ ∀ P, T.In P → N.In P → Th.In (Fresh P w) ⟨A', m, c', withH T.hs N, T.next, T.oA, T.on, T.oc, T.opens⟩ := by
 have CI := Lib.hid (fun W (h : Below w.heap.size w W) => index_any T N.d.id W (hT.below h) hn)
 obtain ⟨A, n, c, hs, next, oA, on, oc, opens⟩ := T
 have KN := Lib.hid (show Sv w A n c 8 (encs Nh.enc hs) from hT.nodes)
 have KE := Lib.hid (show ∀ h ∈ hs, h.ok w from hT.each)
 have KO := Lib.hid (show Sv w oA on oc 2 (encs encO opens) from hT.opens)
 have KL := Lib.hid (show hs.length = n from hT.len)
 have KM := Lib.hid (show opens.length = on from hT.olen)
 have HN := Lib.hid (show n ≤ 100000 from hn)
 have HNO := Lib.hid hN
 clear hT hn hN
 show Calls Tryz.prog 124 #[.agg #[.slice A n c, .int .i64 next, .slice oA on oc], N.val] w _
 obtain ⟨i2, hj, hj0, hj1, hj2⟩ := info_parts info_nd
 obtain ⟨w0, hw0, hb0, hlt0, hbx⟩ := box_new w #[.slice A n c, .int .i64 next, .slice oA on oc] 31
 have HW0 := Lib.hid hw0
 have HB0 := Lib.hid hb0
 have BT := Lib.hid (fun W (h : Below w0.heap.size w0 W) => (show W.cell? ⟨w.heap.size, 0, none⟩ = some (.slice A n c) ∧ W.cell? ⟨w.heap.size, 1, none⟩ = some (.int .i64 next) ∧ W.cell? ⟨w.heap.size, 2, none⟩ = some (.slice oA on oc) from ⟨box_at hbx h 0, box_at hbx h 1, box_at hbx h 2⟩))
 have HBX0 := Lib.hid (fun W (h : Below w0.heap.size w0 W) => (show W.heap[w.heap.size]? = some (.cells #[.slice A n c, .int .i64 next, .slice oA on oc] 31 (0, 0)) from (h.block _ hlt0).trans hbx))
 clear hb0 hlt0 hbx hw0
 have hsz0 : w0.heap.size = w.heap.size + 1 := by rw [← HW0.out]; simp
 obtain ⟨wN, hwN, hbN, hltN, hbxN⟩ := box_new w0 #[.int .i64 N.d.id, .int .i64 N.d.kind, .int .i64 N.d.owner, .slice N.aA N.an N.ac, .slice N.lA N.ln N.lc, .slice N.bA N.bn N.bc, .int .i64 N.d.links, .int .i64 N.d.ver] 65
 rw [hsz0] at hltN hbxN
 have HWN := Lib.hid hwN
 have HBN := Lib.hid hbN
 have HNR := Lib.hid (fun W (h : Below wN.heap.size wN W) => (show W.heap[w.heap.size + 1]? = some (.cells N.enc.toArray 65 (0, 0)) from (h.block _ hltN).trans hbxN))
 have hszN : wN.heap.size = w.heap.size + 2 := by rw [← hwN]; simp [hsz0]
 obtain ⟨wR, hwR, hbR, hltR, hbxR⟩ := box_new wN #[.slice none 0 0, .int .i64 0, .slice none 0 0] 31
 rw [hszN] at hltR hbxR
 have HWR := Lib.hid hwR
 have HBR := Lib.hid hbR
 have HRR := Lib.hid (fun W (h : Below wR.heap.size wR W) => (show W.heap[w.heap.size + 2]? = some (.cells #[.slice none 0 0, .int .i64 0, .slice none 0 0] 31 (0, 0)) from (h.block _ hltR).trans hbxR))
 have HB01 := Lib.hid (HB0.out.trans (hbN.trans (hbR.mono hbN.size) |>.mono HB0.out.size))
 have HBX := Lib.hid (fun W (h : Below w.heap.size w W) (h' : Below wR.heap.size wR W) => HBX0.out W (hbN.trans (hbR.trans (h'.mono hbR.size) |>.mono hbN.size)))
 have HSZ := Lib.hid (show w.heap.size + 3 ≤ wR.heap.size from hltR)
 have hz8 : (#[.slice none 0 0, .int .i64 0, .slice none 0 0] : Array Value).size = 3 := rfl
 clear hwN hbN hltN hbxN hwR hbR hltR hbxR hszN hsz0
 go_enter Tryz.func124, Tryz.ntmps124
 go_upto_region 1 with fail
 rw [HW0.out, HWN.out, HWR.out]
 have HE := Lib.hid (own_empty wR 65 8)
 have HA1 := Lib.hid (show Below wR.heap.size wR (wR.alloc (.cells #[] 65)) from (Below.refl _ wR).alloc (Nat.le_refl _) _)
 obtain ⟨t0, t1, t2⟩ := BT.out _ (HBN.out.trans ((HBR.out.trans (HA1.out.mono HBR.out.size)).mono HBN.out.size))
 go_upto_region 2 with (at_builtin; refine wpList_append_sv rfl _ _ 28 rfl wR.heap.size 65 i2 _ 8 112 Tryz.underlying28 hj hj0 hj1 hj2 rfl (by decide) _ _ _ rfl HE.out A n c (encs Nh.enc hs) rfl (KN.out.below (HB01.out.trans (HA1.out.mono HB01.out.size))) (by unfold maxLen; have := HN.out; omega) (by have := HN.out; omega) HA1.out.size ?_; intro v' w2 hown2 hB2; rw [Nat.zero_add, List.nil_append] at hown2; obtain ⟨A2, c2, rfl⟩ := own_form hown2; have HO := Lib.hid hown2; have HBa := Lib.hid (hB2 wR (Nat.le_refl _) HA1.out); clear hown2 hB2)
 clear HE HA1 t0 t1 t2
 obtain ⟨t0, t1, t2⟩ := BT.out _ (HBN.out.trans ((HBR.out.trans (HBa.out.mono HBR.out.size)).mono HBN.out.size))
 have n0 : w2.cell? ⟨w.heap.size + 1, 0, none⟩ = some (.int .i64 N.d.id) := box_range (HNR.out _ (HBR.out.trans (HBa.out.mono HBR.out.size))) 0 _ rfl
 go_upto_region 3 with (go_at_call 77; refine (CI.out _ (HB01.out.trans (HBa.out.mono HB01.out.size))).mono ?_; rintro e w3 ⟨rfl, hb⟩; have HBb := Lib.hid hb; clear hb)
 clear t0 t1 t2 n0
 have HO2 := Lib.hid (own_keep HO.out HBb.out)
 have HB1r := Lib.hid (HBa.out.trans (HBb.out.mono HBa.out.size))
 have HNX := Lib.hid (HNR.out _ (HBR.out.trans (HB1r.out.mono HBR.out.size)))
 clear HO HBa HBb
 cases hi : idx hs N.d.id with
 | none =>
   have hI : idxI hs N.d.id = -1 := by unfold idxI; rw [hi]
   have HR := Lib.hid (show withH hs N = hs ++ [N] by unfold withH; rw [hi])
   rw [hI]
   clear hi hI
   have HBA := Lib.hid (show Below w3.heap.size w3 (w3.alloc (.cells N.enc.toArray 65)) from (Below.refl _ w3).alloc (Nat.le_refl _) _)
   have HNW := Lib.hid (sv_new w3 N.enc 1 8 65 rfl (by decide) N.enc_one)
   go_upto_region 4 with fail
   have HNY := Lib.hid (HNR.out _ (HBR.out.trans (HB1r.out.mono HBR.out.size)))
   have HB1s := HB1r
   go_upto_region 5 with (first | (with_reducible refine load_nd rfl _ rfl (w.heap.size + 1) 0 rfl N (box_range HNY.out) ?_) | (at_builtin; refine wpList_append_sv rfl _ _ 28 rfl wR.heap.size 65 i2 _ 8 112 Tryz.underlying28 hj hj0 hj1 hj2 rfl (by decide) _ _ _ rfl (own_keep HO2.out HBA.out) (some ⟨w3.heap.size, 0, none⟩) 1 1 N.enc rfl HNW.out (by unfold maxLen; have := HN.out; omega) (by have := HN.out; omega) (Nat.le_trans HB1s.out.size HBA.out.size) ?_; intro v' w4 hown2 hB2; obtain ⟨A3, c3, rfl⟩ := own_form hown2; have HO4 := Lib.hid hown2; replace HB1r := Lib.hid (hB2 wR (Nat.le_refl _) (HB1s.out.trans (HBA.out.mono HB1s.out.size))); have HB1 := Lib.hid (HB01.out.trans (HB1r.out.mono HB01.out.size)); clear hown2 hB2; have HX := Lib.hid (HBX.out _ HB1.out HB1r.out); have f0 : w4.frozen? ⟨w.heap.size, 0, none⟩ = false := frozen_of_row w4 _ 0 _ _ HX.out; obtain ⟨t0, t1, t2⟩ := BT.out _ (HBN.out.trans ((HBR.out.trans (HB1r.out.mono HBR.out.size)).mono HBN.out.size))))
   rw [← encs_one Nh.enc N, ← encs_append] at HO4
   have HT' : Hid ((w4.setCell ⟨w.heap.size, 0, none⟩ (.slice A3 (n + 1) c3)).heap[w.heap.size]? = some (.cells #[.slice A3 (n + 1) c3, .int .i64 next, .slice oA on oc] 31 (0, 0))) := Lib.hid (heap_setCell_same w4 _ 0 _ _ _ HX.out)
   have HR' : Hid ((w4.setCell ⟨w.heap.size, 0, none⟩ (.slice A3 (n + 1) c3)).heap[w.heap.size + 1 + 1]? = some (.cells #[.slice none 0 0, .int .i64 0, .slice none 0 0] 31 (0, 0))) := Lib.hid ((heap_setCell_other w4 _ _ _ (by (try simp only); omega)).trans (HRR.out _ HB1r.out))
   have HO3 := Lib.hid (own_low_row (own_low_cell HO4.out (p := ⟨w.heap.size, 0, none⟩) (show w.heap.size < wR.heap.size by have := HSZ.out; omega) (.slice A3 (n + 1) c3)) (b := w.heap.size + 1 + 1) (show w.heap.size + 1 + 1 < wR.heap.size by have := HSZ.out; omega) (Th.enc ⟨A3, (n + 1), c3, hs ++ [N], next, oA, on, oc, opens⟩).toArray)
   have HB3 := Lib.hid (below_setRow (HB1.out.setCell (p := ⟨w.heap.size, 0, none⟩) (Nat.le_refl _) (.slice A3 (n + 1) c3)) (g := w.heap.size + 1 + 1) (by omega) (Th.enc ⟨A3, (n + 1), c3, hs ++ [N], next, oA, on, oc, opens⟩).toArray)
   go_wp2_with (first | (with_reducible refine load_tr rfl _ rfl w.heap.size rfl ⟨A3, (n + 1), c3, hs ++ [N], next, oA, on, oc, opens⟩ (box_range HT'.out) ?_) | (with_reducible refine store_tr rfl _ _ rfl (w.heap.size + 1 + 1) rfl ⟨A3, (n + 1), c3, hs ++ [N], next, oA, on, oc, opens⟩ rfl #[.slice none 0 0, .int .i64 0, .slice none 0 0] HR'.out hz8 ?_))
   refine bodyPost_ret (v := Th.val ⟨A3, (n + 1), c3, hs ++ [N], next, oA, on, oc, opens⟩) (ret_tr rfl _ _ (w.heap.size + 1 + 1) ⟨A3, (n + 1), c3, hs ++ [N], next, oA, on, oc, opens⟩ #[.slice none 0 0, .int .i64 0, .slice none 0 0] rfl HR'.out) rfl ?_
   refine ⟨A3, (n + 1), c3, by rw [HR.out], ?_⟩
   rw [HR.out]
   exact ⟨ok_new HO3.out (fun h hm => by
    rcases List.mem_append.1 hm with hm | hm
    · exact KE.out h hm
    · obtain rfl := List.mem_singleton.1 hm
      exact HNO.out) KO.out HB3.out, Nat.le_refl _, HB3.out, fun P hP hN => by
    exact in_new HO3.out (Nat.le_trans (Nat.le_add_right _ 3) HSZ.out) (fun h hm => by
     rcases List.mem_append.1 hm with hm | hm
     · exact hP.each h hm
     · obtain rfl := List.mem_singleton.1 hm
       exact hN) hP.opens⟩
 | some i =>
   have hI : idxI hs N.d.id = (i : Int) := by unfold idxI; rw [hi]
   have HR := Lib.hid (show withH hs N = hs.set i N by unfold withH; rw [hi])
   obtain ⟨h, hh, -, -⟩ := idx_some hi
   rw [hI]
   clear hi hI
   have him : i < hs.length := (List.getElem?_eq_some_iff.1 hh).1
   have hin : i < n := by rw [← KL.out]; exact him
   have kn : (i : Int) < (n : Int) := Int.ofNat_lt.2 hin
   have k0 : (0 : Int) ≤ (i : Int) := Int.natCast_nonneg i
   have kneg : ¬ (i : Int) < 0 := by omega
   obtain ⟨gA, cA, hvA, hgA, hgA2⟩ := HO2.out.form (show 0 < n by omega)
   injection hvA with hvA _ hcA
   subst hvA
   subst hcA
   have HIM := Lib.hid him
   clear hh him
   go_upto_region 7 with (first | (with_reducible refine load_nd rfl _ rfl (w.heap.size + 1) 0 rfl N (box_range HNX.out) ?_) | (with_reducible refine store_own_nd rfl _ _ rfl gA i rfl N rfl HO2.out HIM.out ?_))
   have HO4 := Lib.hid (own_setCells N.enc (i * 8) HO2.out)
   rw [encs_set Nh.enc_len hs i N HIM.out] at HO4
   have HB1q := Lib.hid (below_setCells (g := gA) hgA N.enc (i * 8) HB1r.out)
   clear HB1r HO2 HNX
   have HB1r := HB1q
   clear HB1q
   generalize w3.setCells gA (i * 8) N.enc = w4 at *
   have HB1 := Lib.hid (HB01.out.trans (HB1r.out.mono HB01.out.size))
   have HX := Lib.hid (HBX.out _ HB1.out HB1r.out); have f0 : w4.frozen? ⟨w.heap.size, 0, none⟩ = false := frozen_of_row w4 _ 0 _ _ HX.out; obtain ⟨t0, t1, t2⟩ := BT.out _ (HBN.out.trans ((HBR.out.trans (HB1r.out.mono HBR.out.size)).mono HBN.out.size))
   have HT' : Hid ((w4.setCell ⟨w.heap.size, 0, none⟩ (.slice (some ⟨gA, 0, none⟩) n c2)).heap[w.heap.size]? = some (.cells #[.slice (some ⟨gA, 0, none⟩) n c2, .int .i64 next, .slice oA on oc] 31 (0, 0))) := Lib.hid (heap_setCell_same w4 _ 0 _ _ _ HX.out)
   have HR' : Hid ((w4.setCell ⟨w.heap.size, 0, none⟩ (.slice (some ⟨gA, 0, none⟩) n c2)).heap[w.heap.size + 1 + 1]? = some (.cells #[.slice none 0 0, .int .i64 0, .slice none 0 0] 31 (0, 0))) := Lib.hid ((heap_setCell_other w4 _ _ _ (by (try simp only); omega)).trans (HRR.out _ HB1r.out))
   have HO3 := Lib.hid (own_low_row (own_low_cell HO4.out (p := ⟨w.heap.size, 0, none⟩) (show w.heap.size < wR.heap.size by have := HSZ.out; omega) (.slice (some ⟨gA, 0, none⟩) n c2)) (b := w.heap.size + 1 + 1) (show w.heap.size + 1 + 1 < wR.heap.size by have := HSZ.out; omega) (Th.enc ⟨(some ⟨gA, 0, none⟩), n, c2, hs.set i N, next, oA, on, oc, opens⟩).toArray)
   have HB3 := Lib.hid (below_setRow (HB1.out.setCell (p := ⟨w.heap.size, 0, none⟩) (Nat.le_refl _) (.slice (some ⟨gA, 0, none⟩) n c2)) (g := w.heap.size + 1 + 1) (by omega) (Th.enc ⟨(some ⟨gA, 0, none⟩), n, c2, hs.set i N, next, oA, on, oc, opens⟩).toArray)
   go_wp2_with (first | (with_reducible refine load_tr rfl _ rfl w.heap.size rfl ⟨(some ⟨gA, 0, none⟩), n, c2, hs.set i N, next, oA, on, oc, opens⟩ (box_range HT'.out) ?_) | (with_reducible refine store_tr rfl _ _ rfl (w.heap.size + 1 + 1) rfl ⟨(some ⟨gA, 0, none⟩), n, c2, hs.set i N, next, oA, on, oc, opens⟩ rfl #[.slice none 0 0, .int .i64 0, .slice none 0 0] HR'.out hz8 ?_))
   refine bodyPost_ret (v := Th.val ⟨(some ⟨gA, 0, none⟩), n, c2, hs.set i N, next, oA, on, oc, opens⟩) (ret_tr rfl _ _ (w.heap.size + 1 + 1) ⟨(some ⟨gA, 0, none⟩), n, c2, hs.set i N, next, oA, on, oc, opens⟩ #[.slice none 0 0, .int .i64 0, .slice none 0 0] rfl HR'.out) rfl ?_
   refine ⟨(some ⟨gA, 0, none⟩), n, c2, by rw [HR.out], ?_⟩
   rw [HR.out]
   exact ⟨ok_new HO3.out (fun h hm => by
    rcases List.mem_or_eq_of_mem_set hm with hm | rfl
    · exact KE.out h hm
    · exact HNO.out) KO.out HB3.out, Nat.le_succ _, HB3.out, fun P hP hN => by
    exact in_new HO3.out (Nat.le_trans (Nat.le_add_right _ 3) HSZ.out) (fun h hm => by
     rcases List.mem_or_eq_of_mem_set hm with hm | rfl
     · exact hP.each h hm
     · exact hN) hP.opens⟩
end Go.Proofs.YtemgejblnionlaaGreatDoor
namespace Go.Proofs.YtemgejblnionlaaGreatDoor
open Go.RowKit
set_option maxHeartbeats 1000000
set_option maxRecDepth 100000
theorem entryI_at {l : List En} {name : ByteArray} {k : Nat} {e : En} (hn : ∀ x ∈ l.take k, (x.name.toList == name.toList) = false) (hk : l[k]? = some e) (he : (e.name.toList == name.toList) = true) : entryI l name = e.id := by
 unfold entryI
 obtain ⟨hlt, hh⟩ := List.getElem?_eq_some_iff.1 hk
 have : l.find? (fun e => e.name.toList == name.toList) = some e := List.find?_eq_some_iff_getElem.2 ⟨he, k, hlt, hh, fun j hj => by
  have hm : l[j] ∈ l.take k := by
   rw [List.mem_take_iff_getElem]
   exact ⟨j, by omega, rfl⟩
  simpa using hn _ hm⟩
 rw [this]
 rfl
theorem none_step {α : Type} {p : α → Bool} {l : List α} {k : Nat} {e : α} (hn : ∀ x ∈ l.take k, p x = false) (hk : l[k]? = some e) (he : p e = false) : ∀ x ∈ l.take (k + 1), p x = false := fun x hx => by
 rw [List.take_add_one, hk] at hx
 rcases List.mem_append.1 hx with hx | hx
 · exact hn x hx
 · have : x = e := by simpa using hx
   subst this
   exact he
theorem entryI_none {l : List En} {name : ByteArray} (hn : ∀ x ∈ l, (x.name.toList == name.toList) = false) : entryI l name = 0 := by
 unfold entryI
 have : l.find? (fun e => e.name.toList == name.toList) = none := List.find?_eq_none.2 fun x hx => by simpa using hn x hx
 rw [this]
 rfl
theorem entry_any (N : Nh) (name : ByteArray) (w : World) (hN : N.ok w) (hn : N.ln ≤ 100000) :
 Calls Tryz.prog 166 #[N.val, .string name] w fun e w' => e = .returned (.int .i64 (entryI N.d.list name)) ∧ Below w.heap.size w w' := by
 obtain ⟨w0, hwN, hbN, hltN, hbxN⟩ := box_new w #[.int .i64 N.d.id, .int .i64 N.d.kind, .int .i64 N.d.owner, .slice N.aA N.an N.ac, .slice N.lA N.ln N.lc, .slice N.bA N.bn N.bc, .int .i64 N.d.links, .int .i64 N.d.ver] 65
 have HW0 := Lib.hid hwN
 have HB0 := Lib.hid hbN
 have BN := Lib.hid (fun W (h : Below w0.heap.size w0 W) => (show W.rangeAt w.heap.size 0 N.enc from box_range ((h.block _ hltN).trans hbxN)))
 clear hwN hbN hltN hbxN
 have HL := Lib.hid hN.llen
 have HV := Lib.hid hN.list
 have HN := Lib.hid hn
 clear hN hn
 go_enter Tryz.func166, Tryz.ntmps166
 go_upto_region 1 with fail
 rw [HW0.out]
 go_wp2
 go_loopw [5] (fun i wr => ∃ k : Nat, k ≤ N.ln ∧ i = .int .i64 k ∧ (∀ x ∈ N.d.list.take k, (x.name.toList == name.toList) = false) ∧ Below w0.heap.size w0 wr) (fun i _ => N.ln - (intOf i).toNat)
 case atStart => exact ⟨0, Nat.zero_le _, rfl, (fun x hx => by simp at hx), Below.refl _ _⟩
 case round =>
  obtain ⟨k, hk, rfl, hno, hbw⟩ := hrel
  have HNO := Lib.hid hno
  have HBW := Lib.hid hbw
  have t4 : wr.cell? ⟨w.heap.size, 4, none⟩ = some (.slice N.lA N.ln N.lc) := BN.out _ hbw 4 _ rfl
  clear hno hbw
  by_cases hlt : k < N.ln
  · obtain ⟨e, he⟩ : ∃ e, N.d.list[k]? = some e := ⟨_, List.getElem?_eq_getElem (by rw [HL.out]; exact hlt)⟩
    have kn : (k : Int) < (N.ln : Int) := Int.ofNat_lt.2 hlt
    have k0 : (0 : Int) ≤ (k : Int) := Int.natCast_nonneg k
    have hwj : IntKind.i64.wrap ((k : Int) + 1) = (k : Int) + 1 := IntWalk.i64_in _ (by have := HN.out; omega)
    obtain ⟨g, ad, hA, -, hc⟩ := Sv.range encE_len (by decide) (HV.out.below (HB0.out.trans (HBW.out.mono HB0.out.size))) he
    have q0 : wr.cell? ⟨g, ad + k * 2, none⟩ = some (.string e.name) := hc 0 _ rfl
    have q1 : wr.cell? ⟨g, ad + k * 2 + 1, none⟩ = some (.int .i64 e.id) := hc 1 _ rfl
    rw [hA] at t4
    have HE := Lib.hid he
    clear he hc hA
    cases hb : (e.name.toList == name.toList)
    · have HR := Lib.hid (none_step HNO.out HE.out hb)
      go_wp2
      go_roundw
      case rel => exact ⟨k + 1, hlt, by go_num, HR.out, HBW.out⟩
      case measure => simp [intOf]; omega
    · have HR := Lib.hid (entryI_at HNO.out HE.out hb)
      go_wp2
      go_ret
      exact ⟨ret_int HR.out.symm, HB0.out.trans (HBW.out.mono HB0.out.size)⟩
  · have kn : ¬ (k : Int) < (N.ln : Int) := fun e => hlt (Int.ofNat_lt.1 e)
    have HR := Lib.hid (entryI_none (l := N.d.list) (name := name) (by have h := HNO.out; rwa [List.take_of_length_le (by rw [HL.out]; omega)] at h))
    clear hlt
    go_wp2
    go_ret
    exact ⟨ret_int HR.out.symm, HB0.out.trans (HBW.out.mono HB0.out.size)⟩
def openedB (l : List (Int × Int)) (id who : Int) : Bool := l.any (fun o => o.1 == id && (decide (who < 0) || o.2 == who))
end Go.Proofs.YtemgejblnionlaaGreatDoor
namespace Go.Proofs.YtemgejblnionlaaGreatDoor
open Go.RowKit
set_option maxHeartbeats 1000000
set_option maxRecDepth 100000
abbrev ltB (a b : ByteArray) : Bool := Op.bytesLess a.toList b.toList
def putE : List En → En → List En
 | [], e => [e]
 | x :: l, e => if ltB e.name x.name then e :: x :: l else x :: putE l e
def anyLt (l : List En) (e : En) : Bool := l.any (fun x => ltB e.name x.name)
theorem putE_no {l : List En} {e : En} (h : anyLt l e = false) : putE l e = l ++ [e] := by
 induction l with
 | nil => rfl
 | cons x l ih =>
   unfold anyLt at h ih
   rw [List.any_cons, Bool.or_eq_false_iff] at h
   show (if ltB e.name x.name then e :: x :: l else x :: putE l e) = _
   rw [h.1, ih h.2]
   rfl
theorem putE_new {l : List En} {e x : En} (h : anyLt l e = false) (hx : ltB e.name x.name = true) : putE (l ++ [x]) e = (l ++ [e]) ++ [x] := by
 induction l with
 | nil => show (if ltB e.name x.name then [e, x] else [x, e]) = _; rw [hx]; rfl
 | cons y l ih =>
   unfold anyLt at h ih
   rw [List.any_cons, Bool.or_eq_false_iff] at h
   show (if ltB e.name y.name then e :: y :: (l ++ [x]) else y :: putE (l ++ [x]) e) = _
   rw [h.1, ih h.2]
   rfl
theorem putE_yes {l : List En} {e : En} (x : En) (h : anyLt l e = true) : putE (l ++ [x]) e = putE l e ++ [x] := by
 induction l with
 | nil => cases h
 | cons y l ih =>
   unfold anyLt at h ih
   show (if ltB e.name y.name then e :: y :: (l ++ [x]) else y :: putE (l ++ [x]) e) = (if ltB e.name y.name then e :: y :: l else y :: putE l e) ++ [x]
   cases hy : ltB e.name y.name
   · rw [List.any_cons, hy, Bool.false_or] at h
     rw [ih h]
     rfl
   · rfl
theorem anyLt_snoc (l : List En) (e x : En) : anyLt (l ++ [x]) e = (anyLt l e || ltB e.name x.name) := by unfold anyLt; rw [List.any_append]; simp
theorem take_snoc {α : Type} {l : List α} {k : Nat} {x : α} (h : l[k]? = some x) : l.take (k + 1) = l.take k ++ [x] := by rw [List.take_add_one, h]; rfl
def putS (l : List En) (e : En) : List En := if anyLt l e then putE l e else l
theorem put_any (A : Option Addr) (n c : Nat) (l : List En) (e : En) (w : World) (hA : Sv w A n c 2 (encs encE l)) (hn : n ≤ 100000) :
 Calls Tryz.prog 168 #[.slice A n c, .agg #[.string e.name, .int .i64 e.id]] w fun e' w' => ∃ A' m c', e' = .returned (.slice A' m c') ∧ w'.ownsRow w.heap.size 174 2 (.slice A' m c') m (encs encE (putE l e)) ∧ Below w.heap.size w w' := by
 obtain ⟨i2, hj, hj0, hj1, hj2⟩ := info_parts info_en
 obtain ⟨w0, hw0, hb0, hlt0, hbx⟩ := box_new w #[.string e.name, .int .i64 e.id] 174
 have SA := Lib.hid hA
 have HL := Lib.hid (hA.plen encE_len (by decide))
 have HN := Lib.hid hn
 have HW0 := Lib.hid hw0
 have HB0 := Lib.hid hb0
 have BX := Lib.hid (fun W (h : Below w0.heap.size w0 W) => (show W.cell? ⟨w.heap.size, 0, none⟩ = some (.string e.name) ∧ W.cell? ⟨w.heap.size, 1, none⟩ = some (.int .i64 e.id) from ⟨box_at hbx h 0, box_at hbx h 1⟩))
 clear hA hn hw0 hb0 hlt0 hbx
 go_enter Tryz.func168, Tryz.ntmps168
 go_upto_region 1 with fail
 rw [HW0.out]
 go_wp2
 go_loopw [5, 6, 7] (fun s d i wr => ∃ (k m : Nat) (A' : Option Addr) (c' : Nat), k ≤ n ∧ m ≤ k + 1 ∧ i = .int .i64 k ∧ d = .bool (anyLt (l.take k) e) ∧ s = .slice A' m c' ∧ wr.ownsRow w0.heap.size 174 2 (.slice A' m c') m (encs encE (putS (l.take k) e)) ∧ Below w0.heap.size w0 wr) (fun _ _ i _ => n - (intOf i).toNat)
 case atStart => exact ⟨0, 0, some ⟨w0.heap.size, 0, none⟩, 0, Nat.zero_le _, Nat.zero_le _, rfl, rfl, rfl, own_empty _ _ _, by go_grown⟩
 case round =>
  obtain ⟨k, m, A', c', hk, hmk, rfl, rfl, rfl, hown, hbw⟩ := hrel
  have hbs := hbw.size
  have HO := Lib.hid hown
  have HBW := Lib.hid hbw
  obtain ⟨b0, b1⟩ := BX.out _ hbw
  clear hown hbw
  by_cases hlt : k < n
  · obtain ⟨x, hx⟩ : ∃ x, l[k]? = some x := ⟨_, List.getElem?_eq_getElem (by rw [HL.out]; exact hlt)⟩
    have kn : (k : Int) < (n : Int) := Int.ofNat_lt.2 hlt
    have k0 : (0 : Int) ≤ (k : Int) := Int.natCast_nonneg k
    have hwj : IntKind.i64.wrap ((k : Int) + 1) = (k : Int) + 1 := IntWalk.i64_in _ (by have := HN.out; omega)
    obtain ⟨g, ad, rfl, hg, hcw⟩ := Sv.range encE_len (by decide) SA.out hx
    have hc := range_below hcw hg (HB0.out.trans (HBW.out.mono HB0.out.size))
    have q0 : wr.cell? ⟨g, ad + k * 2, none⟩ = some (.string x.name) := hc 0 _ rfl
    have q1 : wr.cell? ⟨g, ad + k * 2 + 1, none⟩ = some (.int .i64 x.id) := hc 1 _ rfl
    have HCR := Lib.hid (And.intro hcw hg)
    clear hcw
    have HT := Lib.hid (take_snoc hx)
    have HAS := Lib.hid (anyLt_snoc (l.take k) e x)
    clear hc hx
    cases hd : anyLt (l.take k) e
    · cases hlb : ltB e.name x.name
      · have HS := Lib.hid (show putS (l.take (k + 1)) e = putS (l.take k) e ++ [x] by rw [HT.out]; unfold putS; rw [HAS.out, hd, hlb]; rfl)
        have HD := Lib.hid (show anyLt (l.take (k + 1)) e = false by rw [HT.out, HAS.out, hd, hlb]; rfl)
        have hlb' : Op.bytesLess e.name.toList x.name.toList = false := hlb
        clear hd hlb
        go_wp2
        go_quiet (fail)
        have HOq := Lib.hid (own_keep HO.out (below_drewN wr nq))
        have HBq := Lib.hid (HBW.out.trans ((below_drewN wr nq).mono hbs))
        go_wp2_with (at_builtin; refine wpList_append_sv rfl _ _ 62 rfl w0.heap.size 174 i2 _ 2 24 Tryz.underlying62 hj hj0 hj1 hj2 rfl (by decide) _ _ _ rfl (own_keep HOq.out (Below.alloc (Below.refl _ (wr.drewN nq)) (Nat.le_refl _) _)) (some ⟨wr.heap.size, 0, none⟩) 1 1 (encE x) rfl (sv_new (wr.drewN nq) (encE x) 1 2 174 rfl (by decide) (encE_one x)) (by unfold maxLen; have := HN.out; omega) (by have := HN.out; omega) (Nat.le_trans hbs (by simp)) ?_; intro v' w2 hown2 hB2; obtain ⟨A2, c2, rfl⟩ := own_form hown2; have HO2 := Lib.hid hown2; have HB2 := Lib.hid (hB2 w0 (Nat.le_refl _) (HBq.out.alloc HBq.out.size _)); clear hown2 hB2)
        go_roundw
        case rel => exact ⟨k + 1, m + 1, A2, c2, hlt, by omega, by go_num, by rw [HD.out], rfl, by rw [HS.out, encs_append, encs_one]; exact HO2.out, HB2.out⟩
        case measure => simp [intOf]; omega
      · have HSe := Lib.hid (show putS (l.take k) e = l.take k by unfold putS; rw [hd]; rfl)
        have HS := Lib.hid (show putS (l.take (k + 1)) e = (l.take k ++ [e]) ++ [x] by rw [HT.out]; unfold putS; rw [HAS.out, hd, hlb]; exact putE_new hd hlb)
        have HD := Lib.hid (show anyLt (l.take (k + 1)) e = true by rw [HT.out, HAS.out, hd, hlb]; rfl)
        have hlb' : Op.bytesLess e.name.toList x.name.toList = true := hlb
        rw [HSe.out] at HO
        have hmk2 : m ≤ k := by have h := own_plen encE_len HO.out (by decide); rw [List.length_take] at h; omega
        clear hd hlb
        go_wp2
        go_quiet (fail)
        have HOq := Lib.hid (own_keep HO.out (below_drewN wr nq))
        have HBq := Lib.hid (HBW.out.trans ((below_drewN wr nq).mono hbs))
        go_upto_region 8 with (at_builtin; refine wpList_append_sv rfl _ _ 62 rfl w0.heap.size 174 i2 _ 2 24 Tryz.underlying62 hj hj0 hj1 hj2 rfl (by decide) _ _ _ rfl (own_keep HOq.out (Below.alloc (Below.refl _ (wr.drewN nq)) (Nat.le_refl _) _)) (some ⟨wr.heap.size, 0, none⟩) 1 1 (encE e) rfl (sv_new (wr.drewN nq) (encE e) 1 2 174 rfl (by decide) (encE_one e)) (by unfold maxLen; have := HN.out; omega) (by have := HN.out; omega) (Nat.le_trans hbs (by simp)) ?_; intro v' w2 hown2 hB2; obtain ⟨A2, c2, rfl⟩ := own_form hown2; have HO2 := Lib.hid hown2; have HB2 := Lib.hid (hB2 w0 (Nat.le_refl _) (HBq.out.alloc HBq.out.size _)); clear hown2 hB2)
        rw [← encs_one encE e, ← encs_append] at HO2
        have hbs2 := HB2.out.size
        have hbs := hbs2
        have hc2 := range_below HCR.out.1 HCR.out.2 (HB0.out.trans (HB2.out.mono HB0.out.size))
        have q0' : w2.cell? ⟨g, ad + k * 2, none⟩ = some (.string x.name) := hc2 0 _ rfl
        have q1' : w2.cell? ⟨g, ad + k * 2 + 1, none⟩ = some (.int .i64 x.id) := hc2 1 _ rfl
        clear q0 q1 b0 b1 HO HBW HOq HBq
        go_wp2_with (at_builtin; refine wpList_append_sv rfl _ _ 62 rfl w0.heap.size 174 i2 _ 2 24 Tryz.underlying62 hj hj0 hj1 hj2 rfl (by decide) _ _ _ rfl (own_keep HO2.out (Below.alloc (Below.refl _ w2) (Nat.le_refl _) _)) (some ⟨w2.heap.size, 0, none⟩) 1 1 (encE x) rfl (sv_new w2 (encE x) 1 2 174 rfl (by decide) (encE_one x)) (by unfold maxLen; have := HN.out; omega) (by have := HN.out; omega) (Nat.le_trans hbs (by simp)) ?_; intro v' w3 hown3 hB3; obtain ⟨A3, c3, rfl⟩ := own_form hown3; have HO3 := Lib.hid hown3; have HB3 := Lib.hid (hB3 w0 (Nat.le_refl _) (HB2.out.alloc hbs _)); clear hown3 hB3)
        go_roundw
        case rel => exact ⟨k + 1, m + 2, A3, c3, hlt, by omega, by go_num, by rw [HD.out], rfl, by rw [HS.out, encs_append, encs_one]; exact HO3.out, HB3.out⟩
        case measure => simp [intOf]; omega
    · have HS := Lib.hid (show putS (l.take (k + 1)) e = putS (l.take k) e ++ [x] by rw [HT.out]; unfold putS; rw [HAS.out, hd]; exact putE_yes x hd)
      have HD := Lib.hid (show anyLt (l.take (k + 1)) e = true by rw [HT.out, HAS.out, hd]; rfl)
      clear hd
      go_wp2
      go_quiet (fail)
      have HOq := Lib.hid (own_keep HO.out (below_drewN wr nq))
      have HBq := Lib.hid (HBW.out.trans ((below_drewN wr nq).mono hbs))
      go_wp2_with (at_builtin; refine wpList_append_sv rfl _ _ 62 rfl w0.heap.size 174 i2 _ 2 24 Tryz.underlying62 hj hj0 hj1 hj2 rfl (by decide) _ _ _ rfl (own_keep HOq.out (Below.alloc (Below.refl _ (wr.drewN nq)) (Nat.le_refl _) _)) (some ⟨wr.heap.size, 0, none⟩) 1 1 (encE x) rfl (sv_new (wr.drewN nq) (encE x) 1 2 174 rfl (by decide) (encE_one x)) (by unfold maxLen; have := HN.out; omega) (by have := HN.out; omega) (Nat.le_trans hbs (by simp)) ?_; intro v' w2 hown2 hB2; obtain ⟨A2, c2, rfl⟩ := own_form hown2; have HO2 := Lib.hid hown2; have HB2 := Lib.hid (hB2 w0 (Nat.le_refl _) (HBq.out.alloc HBq.out.size _)); clear hown2 hB2)
      go_roundw
      case rel => exact ⟨k + 1, m + 1, A2, c2, hlt, by omega, by go_num, by rw [HD.out], rfl, by rw [HS.out, encs_append, encs_one]; exact HO2.out, HB2.out⟩
      case measure => simp [intOf]; omega
  · have kn : ¬ (k : Int) < (n : Int) := fun e => hlt (Int.ofNat_lt.1 e)
    have hkn : l.take k = l := List.take_of_length_le (by rw [HL.out]; omega)
    rw [hkn] at HO
    rw [hkn]
    clear hkn
    cases hd : anyLt l e
    · have HSe := Lib.hid (show putS l e = l by unfold putS; rw [hd]; rfl)
      have HPE := Lib.hid (putE_no hd)
      rw [HSe.out] at HO
      clear hd
      have HBq := HBW
      go_wp2_with (at_builtin; refine wpList_append_sv rfl _ _ 62 rfl w0.heap.size 174 i2 _ 2 24 Tryz.underlying62 hj hj0 hj1 hj2 rfl (by decide) _ _ _ rfl (own_keep HO.out (Below.alloc (Below.refl _ wr) (Nat.le_refl _) _)) (some ⟨wr.heap.size, 0, none⟩) 1 1 (encE e) rfl (sv_new wr (encE e) 1 2 174 rfl (by decide) (encE_one e)) (by unfold maxLen; have := HN.out; omega) (by have := HN.out; omega) (Nat.le_trans hbs (by simp)) ?_; intro v' w2 hown2 hB2; obtain ⟨A2, c2, rfl⟩ := own_form hown2; have HO2 := Lib.hid hown2; have HB2 := Lib.hid (hB2 w0 (Nat.le_refl _) (HBq.out.alloc HBq.out.size _)); clear hown2 hB2)
      go_ret
      exact ⟨_, _, _, rfl, by rw [HPE.out, encs_append, encs_one]; exact own_weak HO2.out HB0.out.size, HB0.out.trans (HB2.out.mono HB0.out.size)⟩
    · have HSe := Lib.hid (show putS l e = putE l e by unfold putS; rw [hd]; rfl)
      rw [HSe.out] at HO
      clear hd
      go_wp2
      go_ret
      exact ⟨_, _, _, rfl, own_weak HO.out HB0.out.size, HB0.out.trans (HBW.out.mono HB0.out.size)⟩
end Go.Proofs.YtemgejblnionlaaGreatDoor
namespace Go.Proofs.YtemgejblnionlaaGreatDoor
open Go.RowKit
set_option maxHeartbeats 1000000
set_option maxRecDepth 100000
structure Low where
 allows : List Ac → Int → Int → Int → Bool
 aclOk : List Ac → Bool
 child : List Ac → Bool → List Ac
 size : List Pc → Int
 put : List Pc → Int → Int → Int → List Pc × Int
 cut : List Pc → Int → List Pc × Int
 part : List Pc → Int → Int → List Pc
 bodyOk : List Pc → Bool
 nameOk : ByteArray → Bool
 parts : ByteArray → List ByteArray × Int
 below : ByteArray → ByteArray → Bool
def encS (s : ByteArray) : List Value := [.string s]
theorem encS_len (s : ByteArray) : (encS s).length = 1 := rfl
structure LowR0 (L : Low) : Prop where
 allows : ∀ (A : Option Addr) (n c : Nat) (l : List Ac) (who owner right : Int) (W : World), Sv W A n c 5 (encs encA l) → n ≤ 1000 →
  Calls Tryz.prog 167 #[.slice A n c, .int .i64 who, .int .i64 owner, .int .i64 right] W fun e w' => e = .returned (.bool (L.allows l who owner right)) ∧ Below W.heap.size W w'
 child : ∀ (A : Option Addr) (n c : Nat) (l : List Ac) (d : Bool) (W : World), Sv W A n c 5 (encs encA l) → n ≤ 1000 →
  Calls Tryz.prog 123 #[.slice A n c, .bool d] W fun e w' => ∃ A' m c', e = .returned (.slice A' m c') ∧ Sv w' A' m c' 5 (encs encA (L.child l d)) ∧ m ≤ n ∧ (∀ P, plc P A n → plc (Fresh P W) A' m) ∧ Below W.heap.size W w'
 size : ∀ (A : Option Addr) (n c : Nat) (l : List Pc) (W : World), Sv W A n c 3 (encs encP l) → n ≤ 2000 →
  Calls Tryz.prog 35 #[.slice A n c] W fun e w' => e = .returned (.int .i64 (L.size l)) ∧ Below W.heap.size W w'
 put : ∀ (A : Option Addr) (n c : Nat) (l : List Pc) (off id k : Int) (W : World), Sv W A n c 3 (encs encP l) → n ≤ 1000 →
  Calls Tryz.prog 126 #[.slice A n c, .int .i64 off, .int .i64 id, .int .i64 k] W fun e w' => ∃ A' m c', e = .returned (.tuple #[.slice A' m c', .int .i64 (L.put l off id k).2]) ∧ Sv w' A' m c' 3 (encs encP (L.put l off id k).1) ∧ m ≤ n + 5 ∧ (∀ P, plc P A n → plc (Fresh P W) A' m) ∧ Below W.heap.size W w'
 cut : ∀ (A : Option Addr) (n c : Nat) (l : List Pc) (k : Int) (W : World), Sv W A n c 3 (encs encP l) → n ≤ 1000 →
  Calls Tryz.prog 127 #[.slice A n c, .int .i64 k] W fun e w' => ∃ A' m c', e = .returned (.tuple #[.slice A' m c', .int .i64 (L.cut l k).2]) ∧ Sv w' A' m c' 3 (encs encP (L.cut l k).1) ∧ m ≤ n + 5 ∧ (∀ P, plc P A n → plc (Fresh P W) A' m) ∧ Below W.heap.size W w'
 parts : ∀ (p : ByteArray) (W : World), p.size < 4294967281 →
  Calls Tryz.prog 119 #[.string p] W fun e w' => ∃ A' m c', e = .returned (.tuple #[.slice A' m c', .int .i64 (L.parts p).2]) ∧ Sv w' A' m c' 1 (encs encS (L.parts p).1) ∧ m ≤ 8 ∧ Below W.heap.size W w'
structure LowR (L : Low) : Prop extends LowR0 L where
 aclOk : ∀ (A : Option Addr) (n c : Nat) (l : List Ac) (W : World), Sv W A n c 5 (encs encA l) →
  Calls Tryz.prog 114 #[.slice A n c] W fun e w' => e = .returned (.bool (L.aclOk l)) ∧ Below W.heap.size W w'
 part : ∀ (A : Option Addr) (n c : Nat) (l : List Pc) (off k : Int) (W : World), Sv W A n c 3 (encs encP l) → n ≤ 1000 → 0 ≤ off → 0 ≤ k →
  Calls Tryz.prog 172 #[.slice A n c, .int .i64 off, .int .i64 k] W fun e w' => ∃ A' m c', e = .returned (.slice A' m c') ∧ Sv w' A' m c' 3 (encs encP (L.part l off k)) ∧ m ≤ n + 5 ∧ (∀ P, plc P A n → plc (Fresh P W) A' m) ∧ Below W.heap.size W w'
 below : ∀ (p q : ByteArray) (W : World), p.size < 4294967281 → q.size < 4294967281 →
  Calls Tryz.prog 129 #[.string p, .string q] W fun e w' => e = .returned (.bool (L.below p q)) ∧ Below W.heap.size W w'
instance {L : Low} : Coe (LowR L) (LowR0 L) := ⟨LowR.toLowR0⟩
structure Rh where
 e : Int
 n : Int
 nA : Option Addr
 nn : Nat
 nc : Nat
 names : List ByteArray
 bA : Option Addr
 bn : Nat
 bc : Nat
 body : List Pc
 node : Nh
def Rh.enc (R : Rh) : List Value := [.int .i64 R.e, .int .i64 R.n, .slice R.nA R.nn R.nc, .slice R.bA R.bn R.bc, .int .i64 R.node.d.id, .int .i64 R.node.d.kind, .int .i64 R.node.d.owner, .slice R.node.aA R.node.an R.node.ac, .slice R.node.lA R.node.ln R.node.lc, .slice R.node.bA R.node.bn R.node.bc, .int .i64 R.node.d.links, .int .i64 R.node.d.ver]
abbrev Rh.val (R : Rh) : Value := .agg #[.int .i64 R.e, .int .i64 R.n, .slice R.nA R.nn R.nc, .slice R.bA R.bn R.bc, .int .i64 R.node.d.id, .int .i64 R.node.d.kind, .int .i64 R.node.d.owner, .slice R.node.aA R.node.an R.node.ac, .slice R.node.lA R.node.ln R.node.lc, .slice R.node.bA R.node.bn R.node.bc, .int .i64 R.node.d.links, .int .i64 R.node.d.ver]
structure Rh.ok (w : World) (R : Rh) : Prop where
 names : Sv w R.nA R.nn R.nc 1 (encs encS R.names)
 body : Sv w R.bA R.bn R.bc 3 (encs encP R.body)
 node : R.node.ok w
theorem Rh.ok.below {w w' : World} {R : Rh} (k : R.ok w) (hb : Below w.heap.size w w') : R.ok w' := ⟨k.names.below hb, k.body.below hb, k.node.below hb⟩
abbrev Rh.num (e n : Int) : Rh := ⟨e, n, none, 0, 0, [], none, 0, 0, [], Nh.zero⟩
theorem Rh.num_ok (w : World) (e n : Int) : (Rh.num e n).ok w := ⟨Sv.none_ _ _, Sv.none_ _ _, Nh.zero_ok w⟩
def denc (T : Th) (R : Rh) : List Value := [.slice T.A T.n T.c, .int .i64 T.next, .slice T.oA T.on T.oc, .int .i64 R.e, .int .i64 R.n, .slice R.nA R.nn R.nc, .slice R.bA R.bn R.bc, .int .i64 R.node.d.id, .int .i64 R.node.d.kind, .int .i64 R.node.d.owner, .slice R.node.aA R.node.an R.node.ac, .slice R.node.lA R.node.ln R.node.lc, .slice R.node.bA R.node.bn R.node.bc, .int .i64 R.node.d.links, .int .i64 R.node.d.ver]
abbrev dval (T : Th) (R : Rh) : Value := .agg #[.slice T.A T.n T.c, .int .i64 T.next, .slice T.oA T.on T.oc, .int .i64 R.e, .int .i64 R.n, .slice R.nA R.nn R.nc, .slice R.bA R.bn R.bc, .int .i64 R.node.d.id, .int .i64 R.node.d.kind, .int .i64 R.node.d.owner, .slice R.node.aA R.node.an R.node.ac, .slice R.node.lA R.node.ln R.node.lc, .slice R.node.bA R.node.bn R.node.bc, .int .i64 R.node.d.links, .int .i64 R.node.d.ver]
theorem store_dn {ops : Array Oper} {rest : List Oper} {o : Oper} {a : Act} {w : World} {Q : Exit → Act → World → Prop} (hgd : o.guard = none) (x y : Operand) (ho : o.op = .store 98 x y)
 (g : Nat) (hx : a.eval x = .pointer (some ⟨g, 0, none⟩)) (T : Th) (R : Rh) (hy : a.eval y = dval T R) (old : Array Value) (hg : w.heap[g]? = some (.cells old 98 (0, 0))) (hold : old.size = 15)
 (hr : wpList Tryz.prog ops Q rest (a.put o.dst undef) (w.setRow g (denc T R).toArray)) : wpList Tryz.prog ops Q (o :: rest) a w :=
 wpList_store_row hgd 98 x y ho g (denc T R).toArray hx hy 98 old hg (by kernel_rfl) hold (by simp [denc, Value.oneCell']) hr
theorem ret_dn {fn : Func} {p : Tmp} (h : fn.results = #[.cell p 98]) (tmps : Array Value) (w : World) (g : Nat) (T : Th) (R : Rh) (old : Array Value)
 (hp : tmps.getD p undef = .pointer (some ⟨g, 0, none⟩)) (hg : w.heap[g]? = some (.cells old 98 (0, 0))) : (results fn tmps).run Tryz.prog (w.setRow g (denc T R).toArray) = .ok (dval T R) (w.setRow g (denc T R).toArray) :=
 results_cell_row h tmps _ g 98 (denc T R).toArray (0, 0) _ hp (setRow_heap _ _ _ _ _ _ hg) Tryz.underlying98 rfl (by kernel_rfl)
section
variable {L : Low} (LR : LowR0 L)
include LR
theorem may_any (N : Nh) (who right : Int) (w : World) (hN : N.ok w) (hn : N.an ≤ 1000) :
 Calls Tryz.prog 122 #[N.val, .int .i64 who, .int .i64 right] w fun e w' => e = .returned (.bool (L.allows N.d.acl who N.d.owner right)) ∧ Below w.heap.size w w' := by
 obtain ⟨w0, hwN, hbN, hltN, hbxN⟩ := box_new w #[.int .i64 N.d.id, .int .i64 N.d.kind, .int .i64 N.d.owner, .slice N.aA N.an N.ac, .slice N.lA N.ln N.lc, .slice N.bA N.bn N.bc, .int .i64 N.d.links, .int .i64 N.d.ver] 65
 have HW0 := Lib.hid hwN
 have HB0 := Lib.hid hbN
 have BN := Lib.hid (fun W (h : Below w0.heap.size w0 W) => (show W.rangeAt w.heap.size 0 N.enc from box_range ((h.block _ hltN).trans hbxN)))
 clear hwN hbN hltN hbxN
 have t3 : w0.cell? ⟨w.heap.size, 3, none⟩ = some (.slice N.aA N.an N.ac) := BN.out _ (Below.refl _ _) 3 _ rfl
 have t2 : w0.cell? ⟨w.heap.size, 2, none⟩ = some (.int .i64 N.d.owner) := BN.out _ (Below.refl _ _) 2 _ rfl
 have C := Lib.hid (LR.allows N.aA N.an N.ac N.d.acl who N.d.owner right w0 (hN.acl.below HB0.out) hn)
 clear hN hn
 go_enter Tryz.func122, Tryz.ntmps122
 go_upto_region 1 with fail
 rw [HW0.out]
 go_wp2_with (go_at_call 167; (with_reducible refine C.out.mono ?_); rintro e w2 ⟨rfl, hb⟩; have HB2 := Lib.hid hb; clear hb)
 go_ret
 exact ⟨rfl, HB0.out.trans (HB2.out.mono HB0.out.size)⟩
end
theorem failed_any (T : Th) (er : Int) (w : World) :
 Calls Tryz.prog 79 #[T.val, .int .i64 er] w fun e w' => e = .returned (dval T (Rh.num er 0)) ∧ Below w.heap.size w w' := by
 obtain ⟨A, n, c, hs, next, oA, on, oc, opens⟩ := T
 show Calls Tryz.prog 79 #[.agg #[.slice A n c, .int .i64 next, .slice oA on oc], .int .i64 er] w _
 obtain ⟨w0, hw0, hb0, hlt0, hbx⟩ := box_new w #[.slice A n c, .int .i64 next, .slice oA on oc] 31
 have HW0 := Lib.hid hw0
 have HB0 := Lib.hid hb0
 have BT := Lib.hid (fun W (h : Below w0.heap.size w0 W) => (show W.cell? ⟨w.heap.size, 0, none⟩ = some (.slice A n c) ∧ W.cell? ⟨w.heap.size, 1, none⟩ = some (.int .i64 next) ∧ W.cell? ⟨w.heap.size, 2, none⟩ = some (.slice oA on oc) from ⟨box_at hbx h 0, box_at hbx h 1, box_at hbx h 2⟩))
 clear hb0 hlt0 hbx hw0
 have hsz : w0.heap.size = w.heap.size + 1 := by rw [← HW0.out]; simp
 obtain ⟨wR, hwR, hbR, hltR, hbxR⟩ := box_new w0 #[.slice none 0 0, .int .i64 0, .slice none 0 0, .int .i64 0, .int .i64 0, .slice none 0 0, .slice none 0 0, .int .i64 0, .int .i64 0, .int .i64 0, .slice none 0 0, .slice none 0 0, .slice none 0 0, .int .i64 0, .int .i64 0] 98
 rw [hsz] at hltR hbxR
 have HWR := Lib.hid hwR
 have HBR := Lib.hid hbR
 have HRR := Lib.hid (fun W (h : Below wR.heap.size wR W) => (show W.heap[w.heap.size + 1]? = some (.cells #[.slice none 0 0, .int .i64 0, .slice none 0 0, .int .i64 0, .int .i64 0, .slice none 0 0, .slice none 0 0, .int .i64 0, .int .i64 0, .int .i64 0, .slice none 0 0, .slice none 0 0, .slice none 0 0, .int .i64 0, .int .i64 0] 98 (0, 0)) from (h.block _ hltR).trans hbxR))
 have HLR := Lib.hid hltR
 have HBW : Hid (∀ W cs, Below wR.heap.size wR W → Below w.heap.size w (W.setRow (w.heap.size + 1) cs)) := Lib.hid fun W cs h => below_setRow ((HB0.out.trans (hbR.mono HB0.out.size)).trans (h.mono (HB0.out.trans (hbR.mono HB0.out.size)).size)) (by omega) _
 clear hwR hbR hltR hbxR hsz
 have hz8 : (#[.slice none 0 0, .int .i64 0, .slice none 0 0, .int .i64 0, .int .i64 0, .slice none 0 0, .slice none 0 0, .int .i64 0, .int .i64 0, .int .i64 0, .slice none 0 0, .slice none 0 0, .slice none 0 0, .int .i64 0, .int .i64 0] : Array Value).size = 15 := rfl
 go_enter Tryz.func79, Tryz.ntmps79
 go_upto_region 1 with fail
 rw [HW0.out, HWR.out]
 obtain ⟨t0, t1, t2⟩ := BT.out _ HBR.out
 go_wp2_with (with_reducible refine store_dn rfl _ _ rfl (w.heap.size + 1) rfl ⟨A, n, c, hs, next, oA, on, oc, opens⟩ (Rh.num er 0) rfl #[.slice none 0 0, .int .i64 0, .slice none 0 0, .int .i64 0, .int .i64 0, .slice none 0 0, .slice none 0 0, .int .i64 0, .int .i64 0, .int .i64 0, .slice none 0 0, .slice none 0 0, .slice none 0 0, .int .i64 0, .int .i64 0] (HRR.out _ (Below.refl _ _)) hz8 ?_)
 refine bodyPost_ret (v := dval ⟨A, n, c, hs, next, oA, on, oc, opens⟩ (Rh.num er 0)) (ret_dn rfl _ _ (w.heap.size + 1) ⟨A, n, c, hs, next, oA, on, oc, opens⟩ (Rh.num er 0) #[.slice none 0 0, .int .i64 0, .slice none 0 0, .int .i64 0, .int .i64 0, .slice none 0 0, .slice none 0 0, .int .i64 0, .int .i64 0, .int .i64 0, .slice none 0 0, .slice none 0 0, .slice none 0 0, .int .i64 0, .int .i64 0] rfl (HRR.out _ (Below.refl _ _))) rfl ?_
 exact ⟨rfl, HBW.out _ _ (Below.refl _ _)⟩
def overI (n m : Nd) : Int := if n.kind = 1 ∧ m.kind = 2 then 92 else if n.kind = 2 ∧ m.kind = 1 then 93 else if n.kind = 1 ∧ 0 < m.list.length then 94 else 0
end Go.Proofs.YtemgejblnionlaaGreatDoor
