/-
  Texts Va Ma Ta Tb Tc Td Te Tf Gs Gt, put together by program.
-/
import Derived.Test.YtemgejblnionlaaGreatDoorY0
import Derived.Test.YtemgejblnionlaaGreatDoorY1
import Derived.Test.YtemgejblnionlaaGreatDoorY5
import Derived.Defers
import Derived.Recover
import Derived.Laws.Pointers
import Derived.WalkSmall
import Derived.Conc.MuLone
namespace Go.Proofs.YtemgejblnionlaaGreatDoor
open Go.RowKit
set_option maxHeartbeats 1600000
set_option maxRecDepth 100000
-- names
theorem bl_lt : ∀ (x y : List UInt8), Op.bytesLess x y = decide (x < y)
 | [], [] => by simp [Op.bytesLess]
 | _ :: _, [] => by simp [Op.bytesLess]
 | [], _ :: _ => by simp [Op.bytesLess]
 | a :: x, b :: y => by
   rw [Op.bytesLess, bl_lt x y]
   by_cases h : a < b
   · simp [h, List.cons_lt_cons_iff]
   · by_cases e : a = b
     · subst e; simp
     · simp [h, e, List.cons_lt_cons_iff]
theorem ltB_irr (a : ByteArray) : ltB a a = false := by
 show Op.bytesLess _ _ = false
 rw [bl_lt, decide_eq_false_iff_not]
 exact List.lt_irrefl _
theorem ltB_trans {a b c : ByteArray} (h : ltB a b = true) (k : ltB b c = true) : ltB a c = true := by
 have h' : Op.bytesLess a.toList b.toList = true := h
 have k' : Op.bytesLess b.toList c.toList = true := k
 show Op.bytesLess _ _ = true
 rw [bl_lt, decide_eq_true_eq] at *
 exact List.lt_trans h' k'
theorem ltB_total (a b : ByteArray) : ltB a b = true ∨ a.toList = b.toList ∨ ltB b a = true := by
 show Op.bytesLess _ _ = true ∨ _ ∨ Op.bytesLess _ _ = true
 rw [bl_lt, bl_lt, decide_eq_true_eq, decide_eq_true_eq]
 by_cases h : a.toList < b.toList
 · exact .inl h
 · by_cases k : b.toList < a.toList
   · exact .inr (.inr k)
   · exact .inr (.inl (List.le_antisymm (List.not_lt.1 k) (List.not_lt.1 h)))
-- nodes
def cnt (l : List En) (id : Int) : Nat := l.countP (fun e => e.id == id)
def linksD (l : List Nd) (id : Int) : Nat := (l.map (fun n => cnt n.list id)).sum
abbrev NSrt (l : List En) : Prop := l.Pairwise (fun a b => ltB a.name b.name = true)
theorem NSrt.inj {l : List En} (h : NSrt l) {a b : En} (ha : a ∈ l) (hb : b ∈ l) (e : a.name.toList = b.name.toList) : a = b := by
 have key : ∀ x y : En, x.name.toList = y.name.toList → ltB x.name y.name = true → False := fun x y he hl => by
  have hl' : Op.bytesLess x.name.toList y.name.toList = true := hl
  rw [he] at hl'
  have := ltB_irr y.name
  unfold ltB at this
  rw [this] at hl'
  cases hl'
 induction l with
 | nil => cases ha
 | cons x l ih =>
   rw [NSrt, List.pairwise_cons] at h
   rcases List.mem_cons.1 ha with ea | ha' <;> rcases List.mem_cons.1 hb with eb | hb'
   · rw [ea, eb]
   · rw [ea] at e ⊢; exact absurd (h.1 _ hb') fun hl => key _ _ e hl
   · rw [eb] at e ⊢; exact absurd (h.1 _ ha') fun hl => key _ _ e.symm hl
   · exact ih h.2 ha' hb'
theorem entry_or (l : List En) (name : ByteArray) : (∃ e ∈ l, e.name.toList = name.toList ∧ entryI l name = e.id) ∨ (entryI l name = 0 ∧ ∀ e ∈ l, e.name.toList ≠ name.toList) := by
 unfold entryI
 cases h : l.find? (fun e => e.name.toList == name.toList) with
 | none => exact .inr ⟨rfl, fun e he => by simpa using List.find?_eq_none.1 h e he⟩
 | some e => exact .inl ⟨e, List.mem_of_find?_eq_some h, by simpa using List.find?_some h, rfl⟩
structure Good (L : Low) (t : Tr) : Prop where
 srt : Srt t.nodes
 kinds : ∀ n ∈ t.nodes, n.kind = 1 ∨ n.kind = 2
 low : ∀ n ∈ t.nodes, 1 ≤ n.id ∧ n.id < t.next
 len : t.nodes.length ≤ 256
 root : (nodeD t.nodes 1).kind = 1
 self : ∀ n ∈ t.nodes, 0 ≤ n.owner ∧ n.owner ≤ 999 ∧ L.aclOk n.acl = true ∧ 0 ≤ n.ver
 dir : ∀ n ∈ t.nodes, n.kind = 1 → n.body = [] ∧ n.links = 1
 file : ∀ n ∈ t.nodes, n.kind = 2 → n.list = [] ∧ L.bodyOk n.body = true ∧ n.links = linksD t.nodes n.id
 names : ∀ n ∈ t.nodes, NSrt n.list ∧ ∀ e ∈ n.list, L.nameOk e.name = true
 tgt : ∀ n ∈ t.nodes, ∀ e ∈ n.list, e.id ≠ 1 ∧ (nodeD t.nodes e.id).kind ≠ 0
 once : ∀ id, (nodeD t.nodes id).kind = 1 → id ≠ 1 → linksD t.nodes id = 1
 rank : ∃ r : Int → Nat, r 1 = 0 ∧ ∀ n ∈ t.nodes, ∀ e ∈ n.list, r n.id + 1 ≤ 8 ∧ ((nodeD t.nodes e.id).kind = 1 → r e.id = r n.id + 1)
 lost : ∀ n ∈ t.nodes, n.kind = 2 → n.links = 0 → openedB t.opens n.id (-1) = true
 osrt : t.opens.Pairwise (fun a b => a.1 < b.1 ∨ (a.1 = b.1 ∧ a.2 < b.2))
 olen : t.opens.length ≤ 32
 oto : ∀ o ∈ t.opens, 0 ≤ o.2 ∧ o.2 ≤ 999 ∧ (nodeD t.nodes o.1).kind = 2
structure LowG (L : Low) : Prop where
 acl0 : L.aclOk [] = true
 body0 : L.bodyOk [] = true
 child : ∀ l b, L.aclOk l = true → L.aclOk (L.child l b) = true
 ruled : ∀ x l, L.aclOk x = true → x.any (·.given) = false → L.aclOk l = true → (x ++ l.filter (·.given)).length ≤ 16 → L.aclOk (x ++ l.filter (·.given)) = true
 put : ∀ b off id k, L.bodyOk b = true → (L.put b off id k).2 = 0 → L.bodyOk (L.put b off id k).1 = true
 cut : ∀ b k, L.bodyOk b = true → (L.cut b k).2 = 0 → L.bodyOk (L.cut b k).1 = true
 parts : ∀ p, (L.parts p).2 = 0 → (L.parts p).1.length ≤ 8 ∧ ∀ x ∈ (L.parts p).1, L.nameOk x = true
 below : ∀ p q, (L.parts p).2 = 0 → (L.parts q).2 = 0 → (L.below p q = true ↔ (L.parts q).1 <+: (L.parts p).1)
section
variable {L : Low} {t : Tr}
theorem Good.mem (G : Good L t) {id : Int} (h : (nodeD t.nodes id).kind ≠ 0) : nodeD t.nodes id ∈ t.nodes ∧ (nodeD t.nodes id).id = id := nodeD_kind h
theorem Good.at_ (G : Good L t) {n : Nd} (h : n ∈ t.nodes) : nodeD t.nodes n.id = n := nodeD_at G.srt h
theorem Good.has (G : Good L t) {n : Nd} (h : n ∈ t.nodes) : (nodeD t.nodes n.id).kind ≠ 0 := by
 rw [G.at_ h]; rcases G.kinds n h with e | e <;> rw [e] <;> decide
theorem Good.id0 (G : Good L t) {n : Nd} (h : n ∈ t.nodes) {e : En} (he : e ∈ n.list) : 1 ≤ e.id ∧ e.id < t.next := by
 have := G.mem (G.tgt n h e he).2
 have h2 := G.low _ this.1
 rwa [this.2] at h2
theorem Good.new (G : Good L t) : ∀ n ∈ t.nodes, n.id ≠ t.next := fun n hn => by have := (G.low n hn).2; omega
theorem Good.entry (G : Good L t) {n : Nd} (h : n ∈ t.nodes) (name : ByteArray) (h0 : entryI n.list name = 0) : ∀ e ∈ n.list, e.name.toList ≠ name.toList := by
 rcases entry_or n.list name with ⟨e, he, -, h1⟩ | ⟨-, h1⟩
 · have := (G.id0 h he).1; omega
 · exact h1
end
end Go.Proofs.YtemgejblnionlaaGreatDoor
namespace Go.Proofs.YtemgejblnionlaaGreatDoor
open Go.RowKit
set_option maxHeartbeats 8000000
set_option maxRecDepth 100000
theorem Th.ok.row {w : World} {T : Th} (k : T.ok w) {j : Nat} {h : Nh} (hh : T.hs[j]? = some h) : ∃ g o, T.A = some ⟨g, o, none⟩ ∧ g < w.heap.size ∧ w.rangeAt g (o + j * 8) h.enc := Sv.range Nh.enc_len (by decide) k.nodes hh
end Go.Proofs.YtemgejblnionlaaGreatDoor
namespace Go.Proofs.YtemgejblnionlaaGreatDoor
open Go.RowKit
set_option maxHeartbeats 8000000
set_option maxRecDepth 100000
def cmpI (x y : Int) : Int := if x < y then -1 else if y < x then 1 else 0
theorem nanInt_any (x : Int) (w : World) : Calls Tryz.prog 134 #[.int .i64 x] w fun e w' => e = .returned (.bool false) ∧ w' = w := by
 go_enter Tryz.func134, Tryz.ntmps134
 go_wp2
 go_ret
 exact ⟨ret_bool (by simp), rfl⟩
theorem cmpInt_any (x y : Int) (w : World) : Calls Tryz.prog 93 #[.int .i64 x, .int .i64 y] w fun e w' => e = .returned (.int .i64 (cmpI x y)) ∧ w' = w := by
 have CN := Lib.hid (fun x => nanInt_any x w)
 go_enter Tryz.func93, Tryz.ntmps93
 by_cases h1 : x < y
 · have E := Lib.hid (show cmpI x y = -1 from if_pos h1)
   go_wp2_with (go_at_call 134; (with_reducible refine (CN.out _).mono ?_); rintro e w1 ⟨rfl, rfl⟩)
   go_ret
   exact ⟨ret_int E.out.symm, rfl⟩
 · by_cases h2 : y < x
   · have E := Lib.hid (show cmpI x y = 1 from (if_neg h1).trans (if_pos h2))
     go_wp2_with (go_at_call 134; (with_reducible refine (CN.out _).mono ?_); rintro e w1 ⟨rfl, rfl⟩)
     go_ret
     exact ⟨ret_int E.out.symm, rfl⟩
   · have E := Lib.hid (show cmpI x y = 0 from (if_neg h1).trans (if_neg h2))
     go_wp2_with (go_at_call 134; (with_reducible refine (CN.out _).mono ?_); rintro e w1 ⟨rfl, rfl⟩)
     go_ret
     exact ⟨ret_int E.out.symm, rfl⟩
theorem findCmp_any (N : Nh) (id : Int) (w : World) : Calls Tryz.prog 294 #[N.val, .int .i64 id] w fun e w' => e = .returned (.int .i64 (cmpI N.d.id id)) ∧ Below w.heap.size w w' := by
 have kk0 := Bxs.nil w
 obtain ⟨x1, hwx1, hzx1, kx1⟩ := kk0.new rfl #[.int .i64 N.d.id, .int .i64 N.d.kind, .int .i64 N.d.owner, .slice N.aA N.an N.ac, .slice N.lA N.ln N.lc, .slice N.bA N.bn N.bc, .int .i64 N.d.links, .int .i64 N.d.ver] N.enc.toArray 65
 have HWx1 := Lib.hid hwx1
 have kk1 := Lib.hid kx1
 clear kk0 hwx1 hzx1 kx1
 go_enter Tryz.func294, Tryz.ntmps294
 go_upto_region 1 with fail
 rw [HWx1.out]
 have d0 : x1.cell? ⟨w.heap.size, 0, none⟩ = some (.int .i64 N.d.id) := kk1.out.cell 0 0 _ rfl
 go_wp2_with (go_at_call 93; (with_reducible refine (cmpInt_any _ _ _).mono ?_); rintro e w1 ⟨rfl, rfl⟩)
 go_ret
 exact ⟨rfl, kk1.out.low.out⟩
theorem cmpI_neg {x y : Int} : cmpI x y < 0 ↔ x < y := by unfold cmpI; split; simp_all; split <;> simp_all <;> omega
theorem cmpI_zero {x y : Int} : cmpI x y = 0 ↔ x = y := by unfold cmpI; split; omega; split <;> omega
theorem srt_le {T : Th} (h : Srt T.t.nodes) {i j : Nat} {a b : Nh} (ha : T.hs[i]? = some a) (hb : T.hs[j]? = some b) (hij : i ≤ j) : a.d.id ≤ b.d.id := by
 rcases Nat.lt_or_eq_of_le hij with h1 | h1
 · have h2 : (T.hs.map (·.d)).Pairwise (fun a b : Nd => a.id < b.id) := h
   have h3 := List.pairwise_iff_getElem.1 h2 i j (by simpa using (List.getElem?_eq_some_iff.1 ha).1) (by simpa using (List.getElem?_eq_some_iff.1 hb).1) h1
   rw [List.getElem_map, List.getElem_map, (List.getElem?_eq_some_iff.1 ha).2, (List.getElem?_eq_some_iff.1 hb).2] at h3
   omega
 · subst h1
   rw [ha] at hb
   injection hb with hb
   rw [hb]; exact Int.le_refl _
structure FoundN (T : Th) (id : Int) (i : Nat) (f : Bool) : Prop where
 le : i ≤ T.n
 yes : f = true → ∃ h, T.hs[i]? = some h ∧ h.d.id = id
 no : f = false → ∀ h ∈ T.hs, h.d.id ≠ id
theorem bsNode_any (T : Th) (id : Int) (w : World) (hT : T.ok w) (hs : Srt T.t.nodes) (hn : T.n ≤ 100000) (hpos : 0 < T.n) :
 Calls Tryz.prog 293 #[.slice T.A T.n T.c, .int .i64 id, .func (.func 294) #[] #[]] w fun e w' => Below w.heap.size w w' ∧ ∃ i f, FoundN T id i f ∧ e = .returned (.tuple #[.int .i64 (i : Nat), .bool f]) := by
 have HTT := Lib.hid hT
 have HSR := Lib.hid hs
 have HN := Lib.hid hn
 have HLN := Lib.hid (show T.hs.length = T.n from hT.len)
 obtain ⟨h0, hh0⟩ : ∃ h, T.hs[0]? = some h := ⟨_, List.getElem?_eq_getElem (by rw [HLN.out]; exact hpos)⟩
 obtain ⟨g, o, hA, -, -⟩ := hT.row hh0
 have HA := Lib.hid hA
 rw [hA]
 clear hT hs hn hh0 hA
 go_enter Tryz.func293, Tryz.ntmps293
 go_wp2
 go_loopw [9, 10] (fun i j wr => ∃ lo hi : Nat, lo ≤ hi ∧ hi ≤ T.n ∧ i = .int .i64 lo ∧ j = .int .i64 hi ∧ (∀ k h, T.hs[k]? = some h → k < lo → h.d.id < id) ∧ (∀ k h, T.hs[k]? = some h → hi ≤ k → id ≤ h.d.id) ∧ Below w.heap.size w wr) (fun i j _ => (intOf j).toNat - (intOf i).toNat)
 case atStart => exact ⟨0, T.n, Nat.zero_le _, Nat.le_refl _, rfl, rfl, fun _ _ _ h => absurd h (Nat.not_lt_zero _), fun k h hk hle => absurd (List.getElem?_eq_some_iff.1 hk).1 (by rw [HLN.out]; omega), Below.refl _ _⟩
 case round =>
  obtain ⟨lo, hi, hlh, hhn, rfl, rfl, h1, h2, hbw⟩ := hrel
  have H1 := Lib.hid h1
  have H2 := Lib.hid h2
  have HBW := Lib.hid hbw
  clear h1 h2 hbw
  have row : ∀ {m : Nat} {h : Nh}, T.hs[m]? = some h → wr.rangeAt g (o + m * 8) h.enc := fun {m h} hh => by
   obtain ⟨g1, o1, e1, -, e2⟩ := (HTT.out.below HBW.out).row hh
   rw [HA.out] at e1; injection e1 with e1; injection e1 with e3 e4; subst e3; subst e4
   exact e2
  by_cases hlt : lo < hi
  · have kn : (lo : Int) < (hi : Int) := Int.ofNat_lt.2 hlt
    obtain ⟨m, hm, hm1, hm2⟩ : ∃ m : Nat, wrap64 (IntKind.u64.wrap (wrap64 ((lo : Int) + (hi : Int))) / 2) = (m : Int) ∧ lo ≤ m ∧ m < hi := by
     have e1 : wrap64 ((lo : Int) + (hi : Int)) = (lo : Int) + (hi : Int) := (IntWalk.i64_left _).symm.trans (IntWalk.i64_in _ (by have := HN.out; omega))
     have e2 : IntKind.u64.wrap ((lo : Int) + (hi : Int)) = (lo : Int) + (hi : Int) := IntWalk.u64_in _ (by have := HN.out; omega)
     rw [e1, e2]
     refine ⟨(lo + hi) / 2, ?_, by omega, by omega⟩
     rw [show ((lo : Int) + (hi : Int)) / 2 = (((lo + hi) / 2 : Nat) : Int) by omega]
     exact (IntWalk.i64_left _).symm.trans (IntWalk.i64_in _ (by have := HN.out; omega))
    obtain ⟨h, hh⟩ : ∃ h, T.hs[m]? = some h := ⟨_, List.getElem?_eq_getElem (by rw [HLN.out]; omega)⟩
    have HM := Lib.hid hm
    have HM12 := Lib.hid (And.intro hm1 hm2)
    have HH := Lib.hid hh
    have HR := Lib.hid (row hh)
    clear hm hm1 hm2 hh row
    go_upto_region 5 with fail
    rw [HM.out]
    have m0 : (0 : Int) ≤ (m : Int) := Int.natCast_nonneg m
    have mn : (m : Int) < (T.n : Int) := by have := HM12.out.2; omega
    by_cases hbn : cmpI h.d.id id < 0
    · have HB := Lib.hid (cmpI_neg.1 hbn)
      have hwm : IntKind.i64.wrap ((m : Int) + 1) = (m : Int) + 1 := IntWalk.i64_in _ (by have := HN.out; omega)
      go_wp2_with (first | (with_reducible refine load_nd rfl _ rfl g (o + m * 8) rfl h HR.out ?_) | (go_at_call 294; (with_reducible refine (findCmp_any _ _ _).mono ?_); rintro e w2 ⟨rfl, hb⟩; have HB2 := Lib.hid hb; clear hb))
      go_roundw
      case rel => exact ⟨m + 1, hi, by have := HM12.out.2; omega, hhn, by go_num, rfl, fun k x hk hle => by have := srt_le HSR.out hk HH.out (by omega); have := HB.out; omega, H2.out, HBW.out.trans (HB2.out.mono HBW.out.size)⟩
      case measure => have := HM12.out; simp [intOf]; omega
    · have HB := Lib.hid (fun e => hbn (cmpI_neg.2 e) : ¬ h.d.id < id)
      go_wp2_with (first | (with_reducible refine load_nd rfl _ rfl g (o + m * 8) rfl h HR.out ?_) | (go_at_call 294; (with_reducible refine (findCmp_any _ _ _).mono ?_); rintro e w2 ⟨rfl, hb⟩; have HB2 := Lib.hid hb; clear hb))
      go_roundw
      case rel => exact ⟨lo, m, HM12.out.1, by have := HM12.out.2; omega, rfl, rfl, H1.out, fun k x hk hle => by have h5 := srt_le HSR.out HH.out hk hle; have h6 : ¬ h.d.id < id := HB.out; omega, HBW.out.trans (HB2.out.mono HBW.out.size)⟩
      case measure => have := HM12.out; simp [intOf]; omega
  · have hle : lo = hi := by omega
    subst hle
    have kn : ¬ (lo : Int) < (lo : Int) := Int.lt_irrefl _
    by_cases hn : lo < T.n
    · obtain ⟨h, hh⟩ : ∃ h, T.hs[lo]? = some h := ⟨_, List.getElem?_eq_getElem (by rw [HLN.out]; exact hn)⟩
      have kl : (lo : Int) < (T.n : Int) := Int.ofNat_lt.2 hn
      have l0 : (0 : Int) ≤ (lo : Int) := Int.natCast_nonneg lo
      have HR := Lib.hid (row hh)
      have HH := Lib.hid hh
      have HNL := Lib.hid hn
      clear hh hn row hlt
      go_wp2_with (first | (refine wpList_unguard (by rfl) ?_; (with_reducible refine load_nd rfl _ rfl g (o + lo * 8) rfl h HR.out ?_)) | (go_at_call 294; (with_reducible refine (findCmp_any _ _ _).mono ?_); rintro e w2 ⟨rfl, hb⟩; have HB2 := Lib.hid hb; clear hb))
      refine bodyPost_ret (results_tmp2 rfl _ _ _) rfl ?_
      refine ⟨HBW.out.trans (HB2.out.mono HBW.out.size), lo, (cmpI h.d.id id == 0), ⟨Nat.le_of_lt HNL.out, fun e => ⟨h, HH.out, cmpI_zero.1 (eq_of_beq e)⟩, fun e x hx e2 => ?_⟩, rfl⟩
      obtain ⟨k, hk⟩ := List.getElem?_of_mem hx
      rcases Nat.lt_or_ge k lo with h3 | h3
      · have := H1.out k x hk h3
        omega
      · have h4 := srt_le HSR.out HH.out hk h3
        have h5 := H2.out lo h HH.out (Nat.le_refl _)
        have h6 : cmpI h.d.id id = 0 := cmpI_zero.2 (by omega)
        rw [h6] at e
        cases e
    · have kl : ¬ (lo : Int) < (T.n : Int) := fun e => hn (Int.ofNat_lt.1 e)
      go_wp2
      refine bodyPost_ret (results_tmp2 rfl _ _ _) rfl ?_
      have hf : FoundN T id lo false := ⟨hhn, fun e => (by cases e), fun _ x hx e => by
       obtain ⟨k, hk⟩ := List.getElem?_of_mem hx
       have := H1.out k x hk (by have := (List.getElem?_eq_some_iff.1 hk).1; rw [HLN.out] at this; omega)
       omega⟩
      first | exact ⟨HBW.out, lo, false, hf, rfl⟩ | exact ⟨HBW.out, lo, .inl ⟨hf, rfl⟩⟩
def AtN (T : Th) (j : Nat) (v : Value) : Prop := ∃ g o, T.A = some ⟨g, o, none⟩ ∧ v = .pointer (some ⟨g, o + j * 8, none⟩)
theorem find_lands (T : Th) (id : Int) (w : World) (hT : T.ok w) (hs : Srt T.t.nodes) (hn : T.n ≤ 100000) (hpos : 0 < T.n) :
 Calls Tryz.prog 272 #[T.val, .int .i64 id] w fun e w' => Below w.heap.size w w' ∧ ((∃ j h v, T.hs[j]? = some h ∧ h.d.id = id ∧ AtN T j v ∧ e = .returned v) ∨ ((∀ h ∈ T.hs, h.d.id ≠ id) ∧ e = .returned (.pointer none))) := by
 have CB := Lib.hid (fun W (h : Below w.heap.size w W) => bsNode_any T id W (hT.below h) hs hn hpos)
 obtain ⟨h0, hh0⟩ : ∃ h, T.hs[0]? = some h := ⟨_, List.getElem?_eq_getElem (by rw [hT.len]; exact hpos)⟩
 obtain ⟨g, o, hA, -, -⟩ := hT.row hh0
 have HA := Lib.hid hA
 have HLN := Lib.hid (show T.hs.length = T.n from hT.len)
 clear hT hs hn hh0 hA
 have kk0 := Bxs.nil w
 obtain ⟨x1, hwx1, hzx1, kx1⟩ := kk0.new rfl T.cs (Th.enc T).toArray 31
 have HWx1 := Lib.hid hwx1
 have kk1 := Lib.hid kx1
 clear kk0 hwx1 hzx1 kx1
 go_enter Tryz.func272, Tryz.ntmps272
 go_upto_region 1 with fail
 rw [HWx1.out]
 have t0 : x1.cell? ⟨w.heap.size, 0, none⟩ = some (.slice T.A T.n T.c) := kk1.out.cell 0 0 _ rfl
 go_upto_region 2 with (go_at_call 293; (with_reducible refine (CB.out _ kk1.out.low.out).mono ?_); rintro e w2 ⟨hb, i, f, hf, rfl⟩; have HB2 := Lib.hid hb; have HF := Lib.hid hf; clear hb hf)
 clear t0
 have kk2 := Lib.hid (kk1.out.step (W' := w2) HB2.out)
 have t0 : w2.cell? ⟨w.heap.size, 0, none⟩ = some (.slice (some ⟨g, o, none⟩) T.n T.c) := by rw [← HA.out]; exact kk2.out.cell 0 0 _ rfl
 cases f
 · go_wp2
   go_ret
   exact ⟨kk2.out.low.out, .inr ⟨HF.out.no rfl, rfl⟩⟩
 · obtain ⟨h, hh, hi⟩ := HF.out.yes rfl
   have HH := Lib.hid hh
   have HI := Lib.hid hi
   have l0 : (0 : Int) ≤ (i : Int) := Int.natCast_nonneg i
   have kl : (i : Int) < (T.n : Int) := by have := (List.getElem?_eq_some_iff.1 hh).1; rw [HLN.out] at this; omega
   clear hh hi
   go_wp2
   go_ret
   exact ⟨kk2.out.low.out, .inl ⟨i, h, _, HH.out, HI.out, ⟨g, o, HA.out, rfl⟩, rfl⟩⟩
end Go.Proofs.YtemgejblnionlaaGreatDoor
namespace Go.Proofs.YtemgejblnionlaaGreatDoor
open Go.RowKit
set_option maxHeartbeats 8000000
set_option maxRecDepth 100000
theorem refuse_no (e : Int) (w : World) : Calls Tryz.prog 110 #[.bool false, .int .i64 e] w fun x w' => x = .returned (.tuple #[]) ∧ w' = w := by
 go_enter Tryz.func110, Tryz.ntmps110
 go_wp2
 go_end0
 exact ⟨rfl, rfl⟩
theorem refuse_yes (e : Int) (w : World) : Calls Tryz.prog 110 #[.bool true, .int .i64 e] w fun x w' => x = .panicked [{ v := .iface 45 (.int .i64 e), recovered := false }] ∧ w' = w := by
 go_enter Tryz.func110, Tryz.ntmps110
 go_wp2
 exact ⟨rfl, rfl, rfl⟩
end Go.Proofs.YtemgejblnionlaaGreatDoor
namespace Go.Proofs.YtemgejblnionlaaGreatDoor
open Go.RowKit
set_option maxHeartbeats 8000000
set_option maxRecDepth 100000
def cmpB (x y : ByteArray) : Int := if ltB x y = true then -1 else if ltB y x = true then 1 else 0
theorem cmpB_neg {x y : ByteArray} : cmpB x y < 0 ↔ ltB x y = true := by
 unfold cmpB
 split
 · simp_all
 · split <;> simp_all
theorem cmpB_zero {x y : ByteArray} : cmpB x y = 0 ↔ x.toList = y.toList := by
 unfold cmpB
 split
 · rename_i h
   refine ⟨fun e => (by cases e), fun e => ?_⟩
   have : ltB x y = ltB x x := by unfold ltB; rw [e]
   rw [this, ltB_irr] at h; cases h
 · split
   · rename_i h
     refine ⟨fun e => (by cases e), fun e => ?_⟩
     have : ltB y x = ltB x x := by unfold ltB; rw [e]
     rw [this, ltB_irr] at h; cases h
   · rename_i h1 h2
     refine ⟨fun _ => ?_, fun _ => rfl⟩
     rcases ltB_total x y with h | h | h
     · exact absurd h h1
     · exact h
     · exact absurd h h2
theorem nanStr_any (x : ByteArray) (w : World) : Calls Tryz.prog 303 #[.string x] w fun e w' => e = .returned (.bool false) ∧ w' = w := by
 go_enter Tryz.func303, Tryz.ntmps303
 go_wp2
 go_ret
 exact ⟨ret_bool (by simp), rfl⟩
theorem cmpStr_any (x y : ByteArray) (w : World) : Calls Tryz.prog 290 #[.string x, .string y] w fun e w' => e = .returned (.int .i64 (cmpB x y)) ∧ w' = w := by
 have CN := Lib.hid (fun x => nanStr_any x w)
 go_enter Tryz.func290, Tryz.ntmps290
 by_cases h1 : Op.bytesLess x.toList y.toList = true
 · have E := Lib.hid (show cmpB x y = -1 from if_pos h1)
   go_wp2_with (go_at_call 303; (with_reducible refine (CN.out _).mono ?_); rintro e w1 ⟨rfl, rfl⟩)
   go_ret
   exact ⟨ret_int E.out.symm, rfl⟩
 · have h1' : Op.bytesLess x.toList y.toList = false := by simpa using h1
   by_cases h2 : Op.bytesLess y.toList x.toList = true
   · have he : (x.toList == y.toList) = false := by
      simp only [beq_eq_false_iff_ne, ne_eq]; intro e; rw [e] at h1'; rw [e, h1'] at h2; cases h2
     have hg : ∀ W, (binOp BinOp.gtr 9 (Value.string x) (Value.string y)).run Tryz.prog W = .ok (.bool true) W := fun W => by
      show Result.ok (Value.bool (!(Op.bytesLess x.toList y.toList || x.toList == y.toList))) W = _
      rw [h1', he]; rfl
     have E := Lib.hid (show cmpB x y = 1 from (if_neg h1).trans (if_pos h2))
     go_wp2_with (go_at_call 303; (with_reducible refine (CN.out _).mono ?_); rintro e w1 ⟨rfl, rfl⟩)
     go_ret
     exact ⟨ret_int E.out.symm, rfl⟩
   · have he : (x.toList == y.toList) = true := by
      rcases ltB_total x y with h | h | h
      · exact absurd h h1
      · rw [h]; exact beq_self_eq_true _
      · exact absurd h h2
     have hg : ∀ W, (binOp BinOp.gtr 9 (Value.string x) (Value.string y)).run Tryz.prog W = .ok (.bool false) W := fun W => by
      show Result.ok (Value.bool (!(Op.bytesLess x.toList y.toList || x.toList == y.toList))) W = _
      rw [h1', he]; rfl
     have E := Lib.hid (show cmpB x y = 0 from (if_neg h1).trans (if_neg h2))
     have h2' : Op.bytesLess y.toList x.toList = false := by simpa using h2
     go_wp2_with (go_at_call 303; (with_reducible refine (CN.out _).mono ?_); rintro e w1 ⟨rfl, rfl⟩)
     go_ret
     exact ⟨ret_int E.out.symm, rfl⟩
theorem entryCmp_any (e : En) (x : ByteArray) (w : World) : Calls Tryz.prog 289 #[.agg #[.string e.name, .int .i64 e.id], .string x] w fun r w' => r = .returned (.int .i64 (cmpB e.name x)) ∧ Below w.heap.size w w' := by
 have kk0 := Bxs.nil w
 obtain ⟨x1, hwx1, hzx1, kx1⟩ := kk0.new rfl #[.string e.name, .int .i64 e.id] (encE e).toArray 174
 have HWx1 := Lib.hid hwx1
 have kk1 := Lib.hid kx1
 clear kk0 hwx1 hzx1 kx1
 go_enter Tryz.func289, Tryz.ntmps289
 go_upto_region 1 with fail
 rw [HWx1.out]
 have d0 : x1.cell? ⟨w.heap.size, 0, none⟩ = some (.string e.name) := kk1.out.cell 0 0 _ rfl
 go_wp2_with (go_at_call 290; (with_reducible refine (cmpStr_any _ _ _).mono ?_); rintro e w1 ⟨rfl, rfl⟩)
 go_ret
 exact ⟨rfl, kk1.out.low.out⟩
theorem load_ent {ops : Array Oper} {rest : List Oper} {o : Oper} {a : Act} {w : World} {Q : Exit → Act → World → Prop} (hgd : o.guard = none) (x : Operand) (ho : o.op = .load 174 x)
 (b n : Nat) (hx : a.eval x = .pointer (some ⟨b, n, none⟩)) (e : En) (hc : w.rangeAt b n (encE e)) (hr : wpList Tryz.prog ops Q rest (a.put o.dst (.agg #[.string e.name, .int .i64 e.id])) w) : wpList Tryz.prog ops Q (o :: rest) a w :=
 wpList_load_mid hgd 174 x ho b n hx (encE e) _ hc Tryz.underlying174 rfl (by kernel_rfl) hr
theorem nsrt_le {l : List En} (hs : NSrt l) {i j : Nat} {a b : En} (ha : l[i]? = some a) (hb : l[j]? = some b) (hij : i ≤ j) : a = b ∨ ltB a.name b.name = true := by
 rcases Nat.lt_or_eq_of_le hij with h1 | h1
 · have h3 := List.pairwise_iff_getElem.1 hs i j (List.getElem?_eq_some_iff.1 ha).1 (List.getElem?_eq_some_iff.1 hb).1 h1
   rw [(List.getElem?_eq_some_iff.1 ha).2, (List.getElem?_eq_some_iff.1 hb).2] at h3
   exact .inr h3
 · subst h1
   rw [ha] at hb
   injection hb with hb
   exact .inl hb
structure FoundE (l : List En) (x : ByteArray) (i : Nat) (f : Bool) : Prop where
 le : i ≤ l.length
 yes : f = true → ∃ h, l[i]? = some h ∧ h.name.toList = x.toList
 no : f = false → ∀ h ∈ l, h.name.toList ≠ x.toList
theorem bsEntry_any (A : Option Addr) (n c : Nat) (l : List En) (x : ByteArray) (w : World) (hT : Sv w A n c 2 (encs encE l)) (hs : NSrt l) (hn : n ≤ 100000) (hpos : 0 < n) :
 Calls Tryz.prog 288 #[.slice A n c, .string x, .func (.func 289) #[] #[]] w fun e w' => Below w.heap.size w w' ∧ ∃ i f, FoundE l x i f ∧ e = .returned (.tuple #[.int .i64 (i : Nat), .bool f]) := by
 have HTT := Lib.hid hT
 have HSR := Lib.hid hs
 have HN := Lib.hid hn
 have HLN := Lib.hid (show l.length = n from hT.plen encE_len (by decide))
 obtain ⟨h0, hh0⟩ : ∃ h, l[0]? = some h := ⟨_, List.getElem?_eq_getElem (by rw [HLN.out]; exact hpos)⟩
 obtain ⟨g, o, hA, -, -⟩ := Sv.range encE_len (by decide) hT hh0
 have HA := Lib.hid hA
 rw [hA]
 clear hT hs hn hh0 hA
 go_enter Tryz.func288, Tryz.ntmps288
 go_wp2
 go_loopw [9, 10] (fun i j wr => ∃ lo hi : Nat, lo ≤ hi ∧ hi ≤ n ∧ i = .int .i64 lo ∧ j = .int .i64 hi ∧ (∀ k h, l[k]? = some h → k < lo → ltB h.name x = true) ∧ (∀ k h, l[k]? = some h → hi ≤ k → ltB h.name x = false) ∧ Below w.heap.size w wr) (fun i j _ => (intOf j).toNat - (intOf i).toNat)
 case atStart => exact ⟨0, n, Nat.zero_le _, Nat.le_refl _, rfl, rfl, fun _ _ _ h => absurd h (Nat.not_lt_zero _), fun k h hk hle => absurd (List.getElem?_eq_some_iff.1 hk).1 (by rw [HLN.out]; omega), Below.refl _ _⟩
 case round =>
  obtain ⟨lo, hi, hlh, hhn, rfl, rfl, h1, h2, hbw⟩ := hrel
  have H1 := Lib.hid h1
  have H2 := Lib.hid h2
  have HBW := Lib.hid hbw
  clear h1 h2 hbw
  have row : ∀ {m : Nat} {h : En}, l[m]? = some h → wr.rangeAt g (o + m * 2) (encE h) := fun {m h} hh => by
   obtain ⟨g1, o1, e1, -, e2⟩ := Sv.range encE_len (by decide) (HTT.out.below HBW.out) hh
   rw [HA.out] at e1; injection e1 with e1; injection e1 with e3 e4; subst e3; subst e4
   exact e2
  by_cases hlt : lo < hi
  · have kn : (lo : Int) < (hi : Int) := Int.ofNat_lt.2 hlt
    obtain ⟨m, hm, hm1, hm2⟩ : ∃ m : Nat, wrap64 (IntKind.u64.wrap (wrap64 ((lo : Int) + (hi : Int))) / 2) = (m : Int) ∧ lo ≤ m ∧ m < hi := by
     have e1 : wrap64 ((lo : Int) + (hi : Int)) = (lo : Int) + (hi : Int) := (IntWalk.i64_left _).symm.trans (IntWalk.i64_in _ (by have := HN.out; omega))
     have e2 : IntKind.u64.wrap ((lo : Int) + (hi : Int)) = (lo : Int) + (hi : Int) := IntWalk.u64_in _ (by have := HN.out; omega)
     rw [e1, e2]
     refine ⟨(lo + hi) / 2, ?_, by omega, by omega⟩
     rw [show ((lo : Int) + (hi : Int)) / 2 = (((lo + hi) / 2 : Nat) : Int) by omega]
     exact (IntWalk.i64_left _).symm.trans (IntWalk.i64_in _ (by have := HN.out; omega))
    obtain ⟨h, hh⟩ : ∃ h, l[m]? = some h := ⟨_, List.getElem?_eq_getElem (by rw [HLN.out]; omega)⟩
    have HM := Lib.hid hm
    have HM12 := Lib.hid (And.intro hm1 hm2)
    have HH := Lib.hid hh
    have HR := Lib.hid (row hh)
    clear hm hm1 hm2 hh row
    go_upto_region 5 with fail
    rw [HM.out]
    have m0 : (0 : Int) ≤ (m : Int) := Int.natCast_nonneg m
    have mn : (m : Int) < (n : Int) := by have := HM12.out.2; omega
    by_cases hbn : cmpB h.name x < 0
    · have HB := Lib.hid (cmpB_neg.1 hbn)
      have hwm : IntKind.i64.wrap ((m : Int) + 1) = (m : Int) + 1 := IntWalk.i64_in _ (by have := HN.out; omega)
      go_wp2_with (first | (with_reducible refine load_ent rfl _ rfl g (o + m * 2) rfl h HR.out ?_) | (go_at_call 289; (with_reducible refine (entryCmp_any _ _ _).mono ?_); rintro e w2 ⟨rfl, hb⟩; have HB2 := Lib.hid hb; clear hb))
      go_roundw
      case rel => exact ⟨m + 1, hi, by have := HM12.out.2; omega, hhn, by go_num, rfl, fun k y hk hle => by rcases nsrt_le HSR.out hk HH.out (by omega) with h5 | h5; rw [h5]; exact HB.out; exact ltB_trans h5 HB.out, H2.out, HBW.out.trans (HB2.out.mono HBW.out.size)⟩
      case measure => have := HM12.out; simp [intOf]; omega
    · have HB := Lib.hid (show ltB h.name x = false by cases hb : ltB h.name x; rfl; exact absurd (cmpB_neg.2 hb) hbn)
      go_wp2_with (first | (with_reducible refine load_ent rfl _ rfl g (o + m * 2) rfl h HR.out ?_) | (go_at_call 289; (with_reducible refine (entryCmp_any _ _ _).mono ?_); rintro e w2 ⟨rfl, hb⟩; have HB2 := Lib.hid hb; clear hb))
      go_roundw
      case rel => exact ⟨lo, m, HM12.out.1, by have := HM12.out.2; omega, rfl, rfl, H1.out, fun k y hk hle => by rcases nsrt_le HSR.out HH.out hk hle with h5 | h5; rw [← h5]; exact HB.out; cases h6 : ltB y.name x; rfl; exact (ltB_trans h5 h6).symm.trans HB.out, HBW.out.trans (HB2.out.mono HBW.out.size)⟩
      case measure => have := HM12.out; simp [intOf]; omega
  · have hle : lo = hi := by omega
    subst hle
    have kn : ¬ (lo : Int) < (lo : Int) := Int.lt_irrefl _
    by_cases hn : lo < n
    · obtain ⟨h, hh⟩ : ∃ h, l[lo]? = some h := ⟨_, List.getElem?_eq_getElem (by rw [HLN.out]; exact hn)⟩
      have kl : (lo : Int) < (n : Int) := Int.ofNat_lt.2 hn
      have l0 : (0 : Int) ≤ (lo : Int) := Int.natCast_nonneg lo
      have HR := Lib.hid (row hh)
      have HH := Lib.hid hh
      have HNL := Lib.hid hn
      clear hh hn row hlt
      go_wp2_with (first | (refine wpList_unguard (by rfl) ?_; (with_reducible refine load_ent rfl _ rfl g (o + lo * 2) rfl h HR.out ?_)) | (go_at_call 289; (with_reducible refine (entryCmp_any _ _ _).mono ?_); rintro e w2 ⟨rfl, hb⟩; have HB2 := Lib.hid hb; clear hb))
      refine bodyPost_ret (results_tmp2 rfl _ _ _) rfl ?_
      have hf : FoundE l x lo (cmpB h.name x == 0) := ⟨by rw [HLN.out]; exact Nat.le_of_lt HNL.out, fun e => ⟨h, HH.out, cmpB_zero.1 (eq_of_beq e)⟩, fun e y hy e2 => by
       obtain ⟨k, hk⟩ := List.getElem?_of_mem hy
       have h7 : ∀ z, ltB y.name z = ltB x z := fun z => by unfold ltB; rw [e2]
       have h8 : ∀ z, ltB z y.name = ltB z x := fun z => by unfold ltB; rw [e2]
       rcases Nat.lt_or_ge k lo with h3 | h3
       · have := H1.out k y hk h3
         rw [h7, ltB_irr] at this; cases this
       · rcases nsrt_le HSR.out HH.out hk h3 with h4 | h4
         · have h6 : cmpB h.name x = 0 := cmpB_zero.2 (by rw [h4]; exact e2)
           rw [h6] at e; cases e
         · have h5 := H2.out lo h HH.out (Nat.le_refl _)
           rw [h8, h5] at h4; cases h4⟩
      exact ⟨HBW.out.trans (HB2.out.mono HBW.out.size), lo, _, hf, rfl⟩
    · have kl : ¬ (lo : Int) < (n : Int) := fun e => hn (Int.ofNat_lt.1 e)
      go_wp2
      refine bodyPost_ret (results_tmp2 rfl _ _ _) rfl ?_
      have hf : FoundE l x lo false := ⟨by rw [HLN.out]; exact hhn, fun e => (by cases e), fun _ y hy e => by
       obtain ⟨k, hk⟩ := List.getElem?_of_mem hy
       have h9 := H1.out k y hk (by have := (List.getElem?_eq_some_iff.1 hk).1; rw [HLN.out] at this; omega)
       have h7 : ltB y.name x = ltB x x := by unfold ltB; rw [e]
       rw [h7, ltB_irr] at h9; cases h9⟩
      first | exact ⟨HBW.out, lo, false, hf, rfl⟩ | exact ⟨HBW.out, lo, .inl ⟨hf, rfl⟩⟩
end Go.Proofs.YtemgejblnionlaaGreatDoor
namespace Go.Proofs.YtemgejblnionlaaGreatDoor
open Go.RowKit
set_option maxHeartbeats 8000000
set_option maxRecDepth 100000
structure LowT (L : Low) (Env : World → Prop) : Prop where
 env : ∀ w w', Env w → Below w.heap.size w w' → Env w'
 allows : ∀ (A : Option Addr) (n c : Nat) (l : List Ac) (who owner right : Int) (W : World), Env W → Sv W A n c 5 (encs encA l) → n ≤ 1000 → (Lit.int .i64 right).wf = true →
  Calls Tryz.prog 271 #[.slice A n c, .int .i64 who, .int .i64 owner, .int .i64 right] W fun e w' => e = .returned (.bool (L.allows l who owner right)) ∧ Below W.heap.size W w'
 parts : ∀ (p : ByteArray) (W : World), Env W → p.size < 4294967281 →
  Calls Tryz.prog 245 #[.string p] W fun e w' => ∃ A' m c', e = .returned (.tuple #[.slice A' m c', .int .i64 (L.parts p).2]) ∧ ((L.parts p).2 = 0 → Sv w' A' m c' 1 (encs encS (L.parts p).1)) ∧ m ≤ 100 ∧ Below W.heap.size W w'
 code : ∀ p, (L.parts p).2 = 0 ∨ (L.parts p).2 = 10
theorem bsEntry_none (A : Option Addr) (c : Nat) (x : ByteArray) (w : World) :
 Calls Tryz.prog 288 #[.slice A 0 c, .string x, .func (.func 289) #[] #[]] w fun e w' => w' = w ∧ e = .returned (.tuple #[.int .i64 0, .bool false]) := by
 go_enter Tryz.func288, Tryz.ntmps288
 go_wp2
 go_loopw [9, 10] (fun i j wr => i = .int .i64 0 ∧ j = .int .i64 0 ∧ wr = w) (fun i j _ => (intOf j).toNat - (intOf i).toNat)
 case atStart => exact ⟨rfl, rfl, rfl⟩
 case round =>
  obtain ⟨rfl, rfl, rfl⟩ := hrel
  go_wp2
  refine bodyPost_ret (results_tmp2 rfl _ _ _) rfl ?_
  exact ⟨rfl, rfl⟩
theorem entry_lands (A : Option Addr) (n c : Nat) (l : List En) (x : ByteArray) (w : World) (hT : Sv w A n c 2 (encs encE l)) (hs : NSrt l) (hn : n ≤ 100000) :
 Calls Tryz.prog 269 #[.slice A n c, .string x] w fun e w' => Below w.heap.size w w' ∧ ∃ i f, FoundE l x i f ∧ e = .returned (.tuple #[.int .i64 (i : Nat), .bool f]) := by
 have CB : Calls Tryz.prog 288 #[.slice A n c, .string x, .func (.func 289) #[] #[]] w fun e w' => Below w.heap.size w w' ∧ ∃ i f, FoundE l x i f ∧ e = .returned (.tuple #[.int .i64 (i : Nat), .bool f]) := by
  rcases Nat.eq_zero_or_pos n with h0 | h0
  · subst h0
    refine (bsEntry_none A c x w).mono ?_
    rintro e w' ⟨rfl, rfl⟩
    have hl : l = [] := List.eq_nil_of_length_eq_zero (hT.plen encE_len (by decide))
    exact ⟨Below.refl _ _, 0, false, ⟨Nat.zero_le _, fun e => (by cases e), fun _ y hy => by rw [hl] at hy; cases hy⟩, rfl⟩
  · exact bsEntry_any A n c l x w hT hs hn h0
 have HCB := Lib.hid CB
 clear CB hT hs hn
 go_enter Tryz.func269, Tryz.ntmps269
 go_wp2_with (go_at_call 288; (with_reducible refine HCB.out.mono ?_); rintro e w2 ⟨hb, i, f, hf, rfl⟩; have HB2 := Lib.hid hb; have HF := Lib.hid hf; clear hb hf)
 refine bodyPost_ret (results_tmp2 rfl _ _ _) rfl ?_
 first | exact ⟨HB2.out, i, f, HF.out, rfl⟩ | (cases f; exact ⟨HB2.out, i, .inl ⟨HF.out, rfl⟩⟩; exact ⟨HB2.out, i, .inr ⟨HF.out, rfl⟩⟩)
def Ptr (w : World) (T : Th) (h : Nh) (v : Value) : Prop := ∃ j g o, T.hs[j]? = some h ∧ T.A = some ⟨g, o, none⟩ ∧ v = .pointer (some ⟨g, o + j * 8, none⟩) ∧ ∀ W, Below w.heap.size w W → W.rangeAt g (o + j * 8) h.enc
theorem node_lands {L : Low} (T : Th) (id : Int) (w : World) (hT : T.ok w) (G : Good L T.t) (hk : (nodeD T.t.nodes id).kind ≠ 0) :
 Calls Tryz.prog 240 #[T.val, .int .i64 id] w fun e w' => Below w.heap.size w w' ∧ ∃ h v, h ∈ T.hs ∧ h.d = nodeD T.t.nodes id ∧ Ptr w T h v ∧ e = .returned v := by
 obtain ⟨hm, hid⟩ := nodeD_kind hk
 have hlen : T.n ≤ 256 := by have := G.len; rw [Th.t_len hT] at this; exact this
 have hpos : 0 < T.n := by rw [← Th.t_len hT]; exact List.length_pos_of_mem hm
 have CF := Lib.hid (fun W (h : Below w.heap.size w W) => find_lands T id W (hT.below h) G.srt (by omega) hpos)
 have CR := Lib.hid (fun W => refuse_no 98 W)
 have HTT := Lib.hid hT
 have HGG := Lib.hid G
 have HM := Lib.hid (And.intro hm hid)
 clear hT G hk hm hid hlen hpos
 have kk0 := Bxs.nil w
 obtain ⟨x1, hwx1, hzx1, kx1⟩ := kk0.new rfl T.cs (Th.enc T).toArray 31
 have HWx1 := Lib.hid hwx1
 have kk1 := Lib.hid kx1
 clear kk0 hwx1 hzx1 kx1
 go_enter Tryz.func240, Tryz.ntmps240
 go_upto_region 1 with fail
 rw [HWx1.out]
 go_upto_region 2 with (first | (with_reducible refine load_tr rfl _ rfl (w.heap.size) rfl T (box_range (kk1.out.at 0 rfl).out) ?_) | (go_at_call 272; (with_reducible refine (CF.out _ kk1.out.low.out).mono ?_); rintro e w2 ⟨hb, hf⟩; have HB2 := Lib.hid hb; have HF := Lib.hid hf; clear hb hf; rcases HF.out with ⟨j, h, v, hh, hi, ⟨g, o, hA, rfl⟩, rfl⟩ | ⟨hno, rfl⟩))
 · have kk2 := Lib.hid (kk1.out.step (W' := w2) HB2.out)
   have HJ := Lib.hid hh
   have HI := Lib.hid hi
   have HA := Lib.hid hA
   clear hh hi hA
   go_wp2_with (go_at_call 110; (with_reducible refine (CR.out _).mono ?_); rintro e w3 ⟨rfl, rfl⟩)
   go_ret
   refine ⟨kk2.out.low.out, h, _, List.mem_of_getElem? HJ.out, ?_, ⟨j, g, o, HJ.out, HA.out, rfl, fun W hb => ?_⟩, rfl⟩
   · have h1 : h.d ∈ T.t.nodes := List.mem_map.2 ⟨h, List.mem_of_getElem? HJ.out, rfl⟩
     rw [← HGG.out.at_ h1, HI.out]
   · obtain ⟨g1, o1, e1, -, e2⟩ := (HTT.out.below hb).row HJ.out
     rw [HA.out] at e1; injection e1 with e1; injection e1 with e3 e4; subst e3; subst e4
     exact e2
 · exfalso
   obtain ⟨h, hh, he⟩ := List.mem_map.1 HM.out.1
   exact hno h hh (by rw [he]; exact HM.out.2)
theorem may_lands {L : Low} {Env : World → Prop} (LT : LowT L Env) (T : Th) (h : Nh) (v : Value) (who right : Int) (hr0 : (Lit.int .i64 right).wf = true) (w : World) (hE : Env w) (hT : T.ok w) (hs' : T.t.small) (hp : Ptr w T h v) :
 Calls Tryz.prog 239 #[v, .int .i64 who, .int .i64 right] w fun e w' => e = .returned (.bool (L.allows h.d.acl who h.d.owner right)) ∧ Below w.heap.size w w' := by
 obtain ⟨j, g, o, hh, hA, rfl, hr⟩ := hp
 have hok := hT.each h (List.mem_of_getElem? hh)
 have hsm := (hs'.2.2 h.d (List.mem_map.2 ⟨h, List.mem_of_getElem? hh, rfl⟩)).1
 have CA := Lib.hid (LT.allows h.aA h.an h.ac h.d.acl who h.d.owner right w.drew (LT.env _ _ hE (below_drewN w 1)) (hok.acl.below (below_drewN w 1)) (by rw [← hok.alen]; exact hsm) hr0)
 clear hr0
 have HR := Lib.hid (hr w.drew (below_drewN w 1))
 clear hE hT hs' hh hA hr hok hsm
 go_enter Tryz.func239, Tryz.ntmps239
 go_upto_region 1 with fail
 refine wp_region_ord (fun w' => w'.cell? ⟨g, o + j * 8 + 3, none⟩ = some (.slice h.aA h.an h.ac) ∧ w'.cell? ⟨g, o + j * 8 + 2, none⟩ = some (.int .i64 h.d.owner)) [(0, true), (1, true), (2, true), (3, true), (4, true), (5, true), (6, true), (7, true), (8, true), (9, true), (10, false), (11, true)] (by kernel_rfl) (by kernel_rfl) (by kernel_rfl) ⟨HR.out 3 _ rfl, HR.out 2 _ rfl⟩ (fun d _ _ _ _ h => by cases d <;> exact h) ?_
 iterate 10 refine ord_pure ?_
 refine ord_eff (by rfl) (fun K hK => ?_)
 go_simp
 go_wp2_with (go_at_call 271; (with_reducible refine CA.out.mono ?_); rintro e2 w5 ⟨rfl, hb⟩; have HB5 := Lib.hid hb; clear hb)
 refine hK.out _ _ ⟨(HB5.out.cell (block_lt_of_cell (HR.out 3 _ rfl))).trans (HR.out 3 _ rfl), (HB5.out.cell (block_lt_of_cell (HR.out 2 _ rfl))).trans (HR.out 2 _ rfl)⟩ ?_
 clear hK K
 try simp only [Act.put, puts]
 refine ord_pure ?_
 refine ord_nil ?_
 go_wp2
 go_ret
 exact ⟨rfl, (below_drewN w 1).trans (HB5.out.mono (Nat.le_refl _))⟩
end Go.Proofs.YtemgejblnionlaaGreatDoor
namespace Go.Proofs.YtemgejblnionlaaGreatDoor
open Go.RowKit
set_option maxHeartbeats 16000000
set_option maxRecDepth 100000
abbrev panics (c : Int) : Ending := .panicked [{ v := .iface 45 (.int .i64 c), recovered := false }]
theorem Ptr.below {w w' : World} {T : Th} {h : Nh} {v : Value} (k : Ptr w T h v) (hb : Below w.heap.size w w') : Ptr w' T h v := by
 obtain ⟨j, g, o, h1, h2, h3, h4⟩ := k
 exact ⟨j, g, o, h1, h2, h3, fun W hW => h4 W (hb.trans (hW.mono hb.size))⟩
theorem enter_lands {L : Low} {Env : World → Prop} (LT : LowT L Env) (T : Th) (h : Nh) (v : Value) (who : Int) (w : World) (hE : Env w) (hT : T.ok w) (hs' : T.t.small) (hp : Ptr w T h v) :
 Calls Tryz.prog 268 #[v, .int .i64 who] w fun e w' => Below w.heap.size w w' ∧ e = (if h.d.kind = 1 then if L.allows h.d.acl who h.d.owner 4 = true then .returned (.tuple #[]) else panics 95 else panics 92) := by
 have CM := Lib.hid (may_lands LT T h v who 4 (by decide) w hE hT hs' hp)
 obtain ⟨j, g, o, hh, hA, rfl, hr⟩ := hp
 have CN := Lib.hid (fun e W => refuse_no e W)
 have CY := Lib.hid (fun e W => refuse_yes e W)
 have q1 : w.cell? ⟨g, o + j * 8 + 1, none⟩ = some (.int .i64 h.d.kind) := hr w (Below.refl _ _) 1 _ rfl
 clear hE hT hs' hh hA hr
 go_enter Tryz.func268, Tryz.ntmps268
 by_cases hk : h.d.kind = 1
 · have hb : (h.d.kind != 1) = false := by simp [hk]
   rw [if_pos hk]
   clear hk
   obtain ⟨al, hal⟩ : ∃ b, L.allows h.d.acl who h.d.owner 4 = b := ⟨_, rfl⟩
   rw [hal] at CM ⊢
   clear hal
   cases al
   · go_wp2_with (first | (go_at_call 110; (with_reducible refine (CN.out _ _).mono ?_); rintro e w3 ⟨rfl, rfl⟩) | (go_at_call 110; (with_reducible refine (CY.out _ _).mono ?_); rintro e w3 ⟨rfl, rfl⟩) | (go_at_call 239; (with_reducible refine CM.out.mono ?_); rintro e w4 ⟨rfl, hb4⟩; have HB4 := Lib.hid hb4; clear hb4))
     exact ⟨rfl, HB4.out, rfl⟩
   · go_wp2_with (first | (go_at_call 110; (with_reducible refine (CN.out _ _).mono ?_); rintro e w3 ⟨rfl, rfl⟩) | (go_at_call 239; (with_reducible refine CM.out.mono ?_); rintro e w4 ⟨rfl, hb4⟩; have HB4 := Lib.hid hb4; clear hb4))
     go_end0
     exact ⟨HB4.out, rfl⟩
 · have hb : (h.d.kind != 1) = true := by simp [hk]
   rw [if_neg hk]
   clear hk
   go_wp2_with (first | (go_at_call 110; (with_reducible refine (CY.out _ _).mono ?_); rintro e w3 ⟨rfl, rfl⟩))
   exact ⟨rfl, Below.refl _ _, rfl⟩
theorem found_yes {L : Low} {t : Tr} (G : Good L t) {n : Nd} (hn : n ∈ t.nodes) {x : ByteArray} {i : Nat} (F : FoundE n.list x i true) : ∃ e, n.list[i]? = some e ∧ e ∈ n.list ∧ entryI n.list x = e.id := by
 obtain ⟨e, he, hx⟩ := F.yes rfl
 have hm := List.mem_of_getElem? he
 refine ⟨e, he, hm, ?_⟩
 rcases entry_or n.list x with ⟨e2, h2, h3, h4⟩ | ⟨-, h3⟩
 · rw [h4, NSrt.inj (G.names n hn).1 h2 hm (h3.trans hx.symm)]
 · exact absurd hx (h3 e hm)
theorem found_no {l : List En} {x : ByteArray} {i : Nat} (F : FoundE l x i false) : entryI l x = 0 := by
 rcases entry_or l x with ⟨e2, h2, h3, -⟩ | ⟨h3, -⟩
 · exact absurd h3 (F.no rfl e2 h2)
 · exact h3
theorem Ptr.any {w w' : World} {T : Th} {h : Nh} {v : Value} (k : Ptr w T h v) (hT : T.ok w') : Ptr w' T h v := by
 obtain ⟨j, g, o, h1, h2, h3, -⟩ := k
 refine ⟨j, g, o, h1, h2, h3, fun W hb => ?_⟩
 obtain ⟨g1, o1, e1, -, e2⟩ := (hT.below hb).row h1
 rw [h2] at e1; injection e1 with e1; injection e1 with e3 e4; subst e3; subst e4
 exact e2
def WayRes (w : World) (T : Th) (p : Int × Int) (e : Ending) : Prop := if p.2 = 0 then ∃ h v, h ∈ T.hs ∧ h.d.id = p.1 ∧ Ptr w T h v ∧ e = .returned v else e = panics p.2
theorem way_lands {L : Low} {Env : World → Prop} (LT : LowT L Env) (T : Th) (who : Int) (path : ByteArray) (w : World) (hE : Env w) (hT : T.ok w) (hs' : T.t.small) (G : Good L T.t) (hp : path.size < 4294967281) :
 Calls Tryz.prog 237 #[T.val, .int .i64 who, .string path] w fun e w' => Below w.heap.size w w' ∧ WayRes w T (wayP L T.t.nodes who path) e := by
 have CP := Lib.hid (fun W (h : Below w.heap.size w W) => LT.parts path W (LT.env _ _ hE h) hp)
 have CD := Lib.hid (fun id W (h : Below w.heap.size w W) (hk : (nodeD T.t.nodes id).kind ≠ 0) => node_lands T id W (hT.below h) G hk)
 have CE := Lib.hid (fun h v W (hb : Below w.heap.size w W) (hp : Ptr W T h v) => enter_lands LT T h v who W (LT.env _ _ hE hb) (hT.below hb) hs' hp)
 have CN := Lib.hid (fun e W => refuse_no e W)
 have CY := Lib.hid (fun e W => refuse_yes e W)
 have HTT := Lib.hid hT
 have HGG := Lib.hid G
 have HSM := Lib.hid hs'
 have HCO := Lib.hid (LT.code path)
 clear hE hT hs' G
 have kk0 := Bxs.nil w
 obtain ⟨x1, hwx1, hzx1, kx1⟩ := kk0.new rfl T.cs (Th.enc T).toArray 31
 have HWx1 := Lib.hid hwx1
 have kk1 := Lib.hid kx1
 clear kk0 hwx1 hzx1 kx1
 obtain ⟨ec, hec⟩ : ∃ c, (L.parts path).2 = c := ⟨_, rfl⟩
 obtain ⟨ns, hns⟩ : ∃ c, (L.parts path).1 = c := ⟨_, rfl⟩
 have HW0 : wayP L T.t.nodes who path = if ec = 0 then wayL L T.t.nodes who 1 ns else (0, 10) := by unfold wayP; rw [hec, hns]
 rw [hec] at HCO CP
 rw [hns] at CP
 have HWP := Lib.hid HW0
 clear hec hns HW0
 go_enter Tryz.func237, Tryz.ntmps237
 go_upto_region 1 with fail
 rw [HWx1.out]
 go_upto_region 2 with (go_at_call 245; (with_reducible refine (CP.out _ kk1.out.low.out).mono ?_); rintro e w2 ⟨NA, m, nc, rfl, hsv, hm, hb⟩; have HB2 := Lib.hid hb; have HSV := Lib.hid hsv; have HM := Lib.hid hm; clear hb hsv hm)
 have kk2 := Lib.hid (kk1.out.step (W' := w2) HB2.out)
 by_cases he : ec = 0
 · have HE0 := Lib.hid he
   have hb : (ec != 0) = false := by simp [he]
   have HNS := Lib.hid (HSV.out he)
   have HNL := Lib.hid (show ns.length = m from (HSV.out he).plen encS_len (by decide))
   have HW1 := Lib.hid (show wayP L T.t.nodes who path = wayL L T.t.nodes who 1 ns by rw [HWP.out, if_pos he])
   clear he
   have CD1 := Lib.hid (CD.out 1 w2 kk2.out.low.out (by rw [HGG.out.root]; decide))
   go_upto_region 4 with (first | (go_at_call 110; (with_reducible refine (CN.out _ _).mono ?_); rintro e w3 ⟨rfl, hw⟩; have hw2 := hw.symm; subst hw2) | (with_reducible refine load_tr rfl _ rfl (w.heap.size) rfl T (box_range (kk2.out.at 0 rfl).out) ?_) | (go_at_call 240; (with_reducible refine CD1.out.mono ?_); rintro e w3 ⟨hb3, h, v, hh, hd, hpt, rfl⟩; have HB3 := Lib.hid hb3; have HH := Lib.hid (And.intro hh (And.intro hd hpt)); clear hb3 hh hd hpt))
   clear hb
   have kk3 := Lib.hid (kk2.out.step (W' := w3) HB3.out)
   have HN3 := Lib.hid (HNS.out.below HB3.out)
   have HID := Lib.hid (show h.d.id = 1 by rw [HH.out.2.1]; exact (nodeD_kind (l := T.t.nodes) (id := 1) (by rw [HGG.out.root]; decide)).2)
   go_wp2
   go_loopw [9, 27] (fun n i wr => ∃ (k : Nat) (h : Nh) (v : Value), k ≤ m ∧ n = v ∧ i = .int .i64 k ∧ h ∈ T.hs ∧ Ptr w2 T h v ∧ wayL L T.t.nodes who 1 ns = wayL L T.t.nodes who h.d.id (ns.drop k) ∧ Below w2.heap.size w2 wr ∧ Bxs w [(w.heap.size, (Th.enc T).toArray, 31)] wr) (fun _ i _ => m - (intOf i).toNat)
   case atStart => exact ⟨0, h, v, Nat.zero_le _, rfl, rfl, HH.out.1, HH.out.2.2, by rw [HID.out]; rfl, HB3.out, kk3.out⟩
   case round =>
    clear kk3 HH HID CD1 HB3 HN3
    obtain ⟨k, h, n, hk, rfl, rfl, hm, hpt, hway, hbw, hbx⟩ := hrel
    have kr := Lib.hid hbx
    have HBW := Lib.hid hbw
    have HWY := Lib.hid (HW1.out.trans hway)
    have HMM := Lib.hid hm
    have HND := Lib.hid (show h.d ∈ T.t.nodes from List.mem_map.2 ⟨h, hm, rfl⟩)
    have HAT := Lib.hid (HGG.out.at_ HND.out)
    clear hbx hbw hway hm
    by_cases hlt : k < m
    · obtain ⟨x, hx⟩ : ∃ x, ns[k]? = some x := ⟨_, List.getElem?_eq_getElem (by rw [HNL.out]; exact hlt)⟩
      have hdr : ns.drop k = x :: ns.drop (k + 1) := by obtain ⟨hl, he⟩ := List.getElem?_eq_some_iff.1 hx; rw [List.drop_eq_getElem_cons hl, he]
      have kn : (k : Int) < (m : Int) := Int.ofNat_lt.2 hlt
      have k0 : (0 : Int) ≤ (k : Int) := Int.natCast_nonneg k
      have hwj : IntKind.i64.wrap ((k : Int) + 1) = (k : Int) + 1 := IntWalk.i64_in _ (by have := HM.out; omega)
      obtain ⟨gs, os, hA, hgs, hcs⟩ := Sv.range encS_len (by decide) (HNS.out.below HBW.out) hx
      have q0 : wr.cell? ⟨gs, os + k, none⟩ = some (.string x) := by have := hcs 0 _ rfl; simpa using this
      have HDR := Lib.hid hdr
      have HLT := Lib.hid hlt
      have HPT := Lib.hid hpt
      have CEx := CE.out h _ wr kr.out.low.out (hpt.below HBW.out)
      subst hA
      clear hdr hx hlt hcs hgs
      have HWS := Lib.hid (show wayP L T.t.nodes who path = if h.d.kind = 1 then if L.allows h.d.acl who h.d.owner 4 = true then if entryI h.d.list x = 0 then (0, 90) else wayL L T.t.nodes who (entryI h.d.list x) (ns.drop (k + 1)) else (0, 95) else (0, 92) by rw [HWY.out, HDR.out, wayL, HAT.out])
      by_cases hk1 : h.d.kind = 1
      · rw [if_pos hk1] at CEx
        obtain ⟨al, hal⟩ : ∃ b, L.allows h.d.acl who h.d.owner 4 = b := ⟨_, rfl⟩
        have HWT := Lib.hid (HWS.out.trans (if_pos hk1))
        rw [hal] at CEx
        have HAL := Lib.hid hal
        clear hal hk1
        cases al
        · rw [if_neg (by decide)] at CEx
          have HCE := Lib.hid CEx
          have HWU := Lib.hid (HWT.out.trans (if_neg (by rw [HAL.out]; decide)))
          clear CEx
          go_wp2_with (go_at_call 268; (with_reducible refine HCE.out.mono ?_); rintro e w3 ⟨hb3, rfl⟩; have HB3 := Lib.hid hb3; clear hb3)
          refine ⟨rfl, kr.out.low.out.trans (HB3.out.mono kr.out.low.out.size), ?_⟩
          rw [HWU.out]
          exact rfl
        · rw [if_pos rfl] at CEx
          have HCE := Lib.hid CEx
          have HWU := Lib.hid (HWT.out.trans (if_pos HAL.out))
          obtain ⟨j, gp, op, hj, hAp, rfl, hrp⟩ := hpt
          have HRP := Lib.hid hrp
          have HOK := Lib.hid (HTT.out.each h (List.mem_of_getElem? hj))
          have HLL := Lib.hid (show h.ln ≤ 1000 by rw [← HOK.out.llen]; exact (HSM.out.2.2 h.d HND.out).2.1)
          have CEN := Lib.hid (fun W (hb : Below w.heap.size w W) => entry_lands h.lA h.ln h.lc h.d.list x W (HOK.out.list.below hb) (HGG.out.names _ HND.out).1 (by have := HLL.out; omega))
          clear CEx hj hAp hrp
          go_upto_region 8 with (go_at_call 268; (with_reducible refine HCE.out.mono ?_); rintro e w3 ⟨hb3, rfl⟩; have HB3 := Lib.hid hb3; clear hb3)
          have k3 := Lib.hid (kr.out.step (W' := w3) HB3.out)
          have HB23 := Lib.hid (HBW.out.trans (HB3.out.mono HBW.out.size))
          have n4 : w3.cell? ⟨gp, op + j * 8 + 4, none⟩ = some (.slice h.lA h.ln h.lc) := HRP.out w3 HB23.out 4 _ rfl
          clear q0
          go_upto_region 9 with (go_at_call 269; (with_reducible refine (CEN.out _ k3.out.low.out).mono ?_); rintro e w4 ⟨hb4, i, f, hf, rfl⟩; have HB4 := Lib.hid hb4; have HF := Lib.hid hf; clear hb4 hf)
          clear n4
          have k4 := Lib.hid (k3.out.step (W' := w4) HB4.out)
          have HB24 := Lib.hid (HB23.out.trans (HB4.out.mono HB23.out.size))
          cases f
          · have HWV := Lib.hid (HWU.out.trans (if_pos (found_no HF.out)))
            go_wp2_with (go_at_call 110; (with_reducible refine (CY.out _ _).mono ?_); rintro e w5 ⟨rfl, hw⟩; have hw2 := hw.symm; subst hw2)
            refine ⟨rfl, k4.out.low.out, ?_⟩
            rw [HWV.out]
            exact rfl
          · obtain ⟨e, he, hem, hen⟩ := found_yes HGG.out HND.out HF.out
            have HI0 := HGG.out.id0 HND.out hem
            have HTG := Lib.hid (HGG.out.tgt _ HND.out e hem)
            have HWV := Lib.hid (show wayP L T.t.nodes who path = wayL L T.t.nodes who e.id (ns.drop (k + 1)) by rw [HWU.out, if_neg (by rw [hen]; omega), hen])
            have i0 : (0 : Int) ≤ (i : Int) := Int.natCast_nonneg i
            have hin : (i : Int) < (h.ln : Int) := by have := (List.getElem?_eq_some_iff.1 he).1; rw [HOK.out.llen] at this; omega
            obtain ⟨ge, oe, hA, hge, hce⟩ := Sv.range encE_len (by decide) (HOK.out.list.below k4.out.low.out) he
            have HRG := Lib.hid (fun W (hb : Below w4.heap.size w4 W) => (show W.cell? ⟨ge, oe + i * 2 + 1, none⟩ = some (.int .i64 e.id) from range_below hce hge hb 1 _ rfl))
            have HL4 := Lib.hid (fun W (hb : Below w2.heap.size w2 W) => (show W.cell? ⟨gp, op + j * 8 + 4, none⟩ = some (.slice (some ⟨ge, oe, none⟩) h.ln h.lc) from by rw [← hA]; exact HRP.out W hb 4 _ rfl))
            clear he hem hen HI0 hA hge hce
            go_upto_region 10 with (go_at_call 110; (with_reducible refine (CN.out _ _).mono ?_); rintro e2 w5 ⟨rfl, hw⟩; have hw2 := hw.symm; subst hw2)
            have kd := Lib.hid (k4.out.step (W' := w4.drew) (below_drewN w4 1))
            have HBD := Lib.hid (show Below w2.heap.size w2 w4.drew from HB24.out.trans ((below_drewN w4 1).mono HB24.out.size))
            have CD2 := Lib.hid (CD.out e.id w4.drew kd.out.low.out HTG.out.2)
            refine wp_region_ord (fun w' => w'.heap[w.heap.size]? = some (.cells (Th.enc T).toArray 31 (0, 0)) ∧ w'.cell? ⟨gp, op + j * 8 + 4, none⟩ = some (.slice (some ⟨ge, oe, none⟩) h.ln h.lc) ∧ w'.cell? ⟨ge, oe + i * 2 + 1, none⟩ = some (.int .i64 e.id)) [(0, true), (1, true), (2, true), (3, true), (4, true), (5, true), (6, true), (7, true), (8, true), (9, false), (10, true)] (by kernel_rfl) (by kernel_rfl) (by kernel_rfl) ⟨(kd.out.at 0 rfl).out, HL4.out _ HBD.out, HRG.out _ (below_drewN w4 1)⟩ (fun d _ _ _ _ h => by cases d <;> exact h) ?_
            refine ord_pure (v := T.val) (hy := yieldsIf_load_mid (by rfl) 31 _ rfl (w.heap.size) 0 rfl (Th.enc T) _ (fun w h => box_range h.1) Tryz.underlying31 rfl (by kernel_rfl)) ?_
            iterate 8 refine ord_pure ?_
            refine ord_eff (by rfl) (fun K hK => ?_)
            go_simp
            go_wp2_with (go_at_call 240; (with_reducible refine CD2.out.mono ?_); rintro e2 w6 ⟨hb6, h', v', hh', hd', hp', rfl⟩; have HB6 := Lib.hid hb6; have HH6 := Lib.hid (And.intro hh' (And.intro hd' hp')); clear hb6 hh' hd' hp')
            have k6 := Lib.hid (kd.out.step (W' := w6) HB6.out)
            have HB26 := Lib.hid (HBD.out.trans (HB6.out.mono HBD.out.size))
            refine hK.out _ _ ⟨(k6.out.at 0 rfl).out, HL4.out _ HB26.out, HRG.out _ ((below_drewN w4 1).trans (HB6.out.mono (Nat.le_refl _)))⟩ ?_
            clear hK K
            try simp only [Act.put, puts]
            refine ord_pure ?_
            refine ord_nil ?_
            have HID := Lib.hid (show h'.d.id = e.id by rw [HH6.out.2.1]; exact (nodeD_kind HTG.out.2).2)
            go_wp2
            go_roundw
            case rel => exact ⟨k + 1, h', v', HLT.out, rfl, by go_num, HH6.out.1, HH6.out.2.2.any (HTT.out.below kk2.out.low.out), by rw [HID.out]; exact HW1.out.symm.trans HWV.out, HB26.out, k6.out⟩
            case measure => have := HLT.out; simp [intOf]; omega
      · rw [if_neg hk1] at CEx
        have HCE := Lib.hid CEx
        have HWU := Lib.hid (HWS.out.trans (if_neg hk1))
        clear CEx hk1
        go_wp2_with (go_at_call 268; (with_reducible refine HCE.out.mono ?_); rintro e w3 ⟨hb3, rfl⟩; have HB3 := Lib.hid hb3; clear hb3)
        refine ⟨rfl, kr.out.low.out.trans (HB3.out.mono kr.out.low.out.size), ?_⟩
        rw [HWU.out]
        exact rfl
    · have kn : ¬ (k : Int) < (m : Int) := fun e => hlt (Int.ofNat_lt.1 e)
      have HWE := Lib.hid (show wayP L T.t.nodes who path = (h.d.id, 0) by rw [HWY.out, List.drop_eq_nil_of_le (by rw [HNL.out]; omega)]; rfl)
      have HPT := Lib.hid (hpt.any HTT.out)
      clear hlt hpt
      go_wp2
      go_ret
      refine ⟨kr.out.low.out, ?_⟩
      rw [HWE.out]
      exact ⟨h, _, HMM.out, rfl, HPT.out, rfl⟩
 · have HE0 := Lib.hid he
   have hb : (ec != 0) = true := by simp [he]
   have h10 : ec = 10 := by rcases HCO.out with h | h; exact absurd h he; exact h
   have HW1 := Lib.hid (show wayP L T.t.nodes who path = (0, 10) by rw [HWP.out, if_neg he])
   clear he
   go_wp2_with (go_at_call 110; (with_reducible refine (CY.out _ _).mono ?_); rintro e w3 ⟨rfl, hw⟩; have hw2 := hw.symm; subst hw2)
   refine ⟨rfl, kk2.out.low.out, ?_⟩
   rw [HW1.out]
   exact rfl
end Go.Proofs.YtemgejblnionlaaGreatDoor
namespace Go.Proofs.YtemgejblnionlaaGreatDoor
open Go.RowKit
set_option maxHeartbeats 8000000
set_option maxRecDepth 100000
@[go_sem] theorem assert_errno (v : Value) (xT : TypeId) (w : World) : (Instr.typeAssert (.iface 45 v) xT 45 true).run Tryz.prog w = .ok (.tuple #[v, .bool true]) w := by kernel_rfl
theorem caught_yes (p : Addr) (c x : Int) (older : List PanicEntry) (w : World) (hc : w.cell? p = some (.int .i64 x)) (hz : w.frozen? p = false) :
 CallsD Tryz.prog 109 #[.pointer (some p)] (.panicking ({ v := .iface 45 (.int .i64 c), recovered := false } :: older)) w fun e u' w' =>
  e = .returned (.tuple #[]) ∧ u' = .panicking ({ v := .iface 45 (.int .i64 c), recovered := true } :: older) ∧ w' = w.setCell p (.int .i64 c) := by
 refine callsD_of_wpS Tryz.func109 rfl fun c₀ cs hu => ?_
 apply wpS_seq
 apply wpS_region
 simp [wpOpsS, go_sem, recoverD, hu, Tryz.ntmps109, Exit.thenS]
 refine wpS_of_wp ?_
 go_wp2
 simp [bodyPostS, results, Tryz.results109]
theorem caught_no (p : Addr) (w : World) :
 CallsD Tryz.prog 109 #[.pointer (some p)] .returning w fun e u' w' => e = .returned (.tuple #[]) ∧ u' = .returning ∧ w' = w := by
 refine callsD_of_wpS Tryz.func109 rfl fun c₀ cs hu => ?_
 apply wpS_seq
 apply wpS_region
 simp [wpOpsS, go_sem, recoverD, hu, Tryz.ntmps109, Exit.thenS]
 refine wpS_of_wp ?_
 go_wp2
 cases c₀
 simp_all [bodyPostS, results, Tryz.results109]
abbrev eBox (w : World) (c : Int) (W : World) : Prop := W.heap[w.heap.size]? = some (.cells #[.int .i64 c] 45 (0, 0))
end Go.Proofs.YtemgejblnionlaaGreatDoor
namespace Go.Proofs.YtemgejblnionlaaGreatDoor
open Go.RowKit
set_option maxHeartbeats 8000000
set_option maxRecDepth 100000
theorem info_ac : (Tryz.prog.info? 137).map (fun i => (i.zero, i.size, i.bytes)) = some (some (.agg #[.int .i64 0, .bool false, .int .i64 0, .int .i64 0, .bool false]), 5, 40) := by kernel_rfl
def Nh.own (N : Nh) (k ver : Int) : Nh := ⟨{ N.d with owner := k, ver := ver }, N.aA, N.an, N.ac, N.lA, N.ln, N.lc, N.bA, N.bn, N.bc⟩
end Go.Proofs.YtemgejblnionlaaGreatDoor
namespace Go.Proofs.YtemgejblnionlaaGreatDoor
open Go.RowKit
set_option maxHeartbeats 8000000
set_option maxRecDepth 100000
theorem info_op : (Tryz.prog.info? 166).map (fun i => (i.zero, i.size, i.bytes)) = some (some (.agg zG), 2, 16) := by kernel_rfl
end Go.Proofs.YtemgejblnionlaaGreatDoor
