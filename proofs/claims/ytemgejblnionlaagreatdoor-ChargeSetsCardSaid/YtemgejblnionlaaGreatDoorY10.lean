/-
  Texts Ts Tt Gv Tu Tv Tr, put together by program.
-/
import Derived.Test.YtemgejblnionlaaGreatDoorY0
import Derived.Test.YtemgejblnionlaaGreatDoorY5
import Derived.Test.YtemgejblnionlaaGreatDoorY6
import Derived.Test.YtemgejblnionlaaGreatDoorY9
import Derived.Conc.MuLone
import Derived.Maps.OwnOps
import Derived.Maps.OwnSet
import Derived.Maps.Views
import Derived.DeepKeys4
import Derived.WalkArith
namespace Go.Proofs.YtemgejblnionlaaGreatDoor
open Go.RowKit
set_option maxHeartbeats 16000000
set_option maxRecDepth 100000
theorem encs_mid {α : Type} {f : α → List Value} {s : Nat} (hf : ∀ a, (f a).length = s) {l : List α} {j : Nat} {a : α} (hj : l[j]? = some a) : ∃ P Q, P.length = j * s ∧ encs f l = P ++ (f a ++ Q) ∧ ∀ b, encs f (l.set j b) = P ++ (f b ++ Q) := by
 obtain ⟨hlt, he⟩ := List.getElem?_eq_some_iff.1 hj
 refine ⟨encs f (l.take j), encs f (l.drop (j + 1)), by rw [encs_len hf, List.length_take]; congr 1; omega, ?_, fun b => ?_⟩
 · unfold encs
   conv => lhs; rw [← List.take_append_drop j l, List.drop_eq_getElem_cons hlt, he]
   simp
 · unfold encs
   rw [List.set_eq_take_append_cons_drop, if_pos hlt]
   simp
theorem withD_at {l : List Nd} (hs : Srt l) {j : Nat} {n n' : Nd} (hj : l[j]? = some n) (hid : n'.id = n.id) : withD l n' = l.set j n' := by
 obtain ⟨hlt, he⟩ := List.getElem?_eq_some_iff.1 hj
 have : l.findIdx? (fun x => x.id == n'.id) = some j := by
  rw [List.findIdx?_eq_some_iff_getElem]
  refine ⟨hlt, by rw [he, hid]; simp, fun i hi => ?_⟩
  have := List.pairwise_iff_getElem.1 hs i j (by omega) hlt hi
  rw [he] at this
  rw [hid]
  simp
  omega
 unfold withD
 rw [this]
def MRes (u : World) (b : Nat) (T : Th) (x : Xh) (ver : Int) (d : Tr × Rp) (W : World) (e : Ending) (w' : World) : Prop :=
 (d.2.e = 0 → ∃ T' R', e = .returned (.tuple #[]) ∧ Wrk u b T' x ver R' w' ∧ T'.t = d.1 ∧ R'.r = d.2 ∧ Rest b T W w') ∧ (d.2.e ≠ 0 → e = panics d.2.e ∧ Below W.heap.size W w' ∧ d = (T.t, .num d.2.e 0))
section
variable {L : Low} {Env : World → Prop} {u W : World} {b : Nat} {T : Th} {x : Xh} {ver : Int} {R : Rh}
theorem wsetBody_no (v s : Value) (c : Int) (hc : c ≠ 0) (W : World) : Calls Tryz.prog 195 #[.pointer (some ⟨b, 0, none⟩), v, s, .int .i64 c] W fun e w' => e = panics c ∧ w' = W := by
 have CY := Lib.hid (fun e W => refuse_yes e W)
 have h0 : (c != 0) = true := by simp [hc]
 clear hc
 go_enter Tryz.func195, Tryz.ntmps195
 go_wp2_with (go_at_call 110; (with_reducible refine (CY.out _ _).mono ?_); rintro e w3 ⟨rfl, rfl⟩)
 exact ⟨rfl, rfl, rfl⟩
theorem Wrk.body (K : Wrk u b T x ver R W) {j g : Nat} {h : Nh} (hj : T.hs[j]? = some h) (hA : T.A = some ⟨g, 0, none⟩) {A' : Option Addr} {m c' : Nat} {l : List Pc} (hl : Sv W A' m c' 3 (encs encP l)) (hpl : plc (Far u b T) A' m) :
 (∃ v, W.cell? ⟨g, j * 8 + 5, none⟩ = some v) ∧ W.frozen? ⟨g, j * 8 + 5, none⟩ = false ∧ (∃ v, (W.setCell ⟨g, j * 8 + 5, none⟩ (.slice A' m c')).cell? ⟨g, j * 8 + 7, none⟩ = some v) ∧ (W.setCell ⟨g, j * 8 + 5, none⟩ (.slice A' m c')).frozen? ⟨g, j * 8 + 7, none⟩ = false ∧
 Wrk u b { T with hs := T.hs.set j (h.bdy l A' m c' ver) } x ver R ((W.setCell ⟨g, j * 8 + 5, none⟩ (.slice A' m c')).setCell ⟨g, j * 8 + 7, none⟩ (.int .i64 ver)) ∧ Rest b T W ((W.setCell ⟨g, j * 8 + 5, none⟩ (.slice A' m c')).setCell ⟨g, j * 8 + 7, none⟩ (.int .i64 ver)) ∧
 (∀ k, Mut b { T with hs := T.hs.set j (h.bdy l A' m c' ver) } k → Mut b T k) := by
 have hrow := K.row
 simp only [nsl, hA] at hrow
 obtain ⟨P, Q, hP, he, hs⟩ := encs_mid Nh.enc_len hj
 have hm := List.mem_of_getElem? hj
 have hg := (hrow.lt g rfl).1
 rw [he] at hrow
 have r1 := own_store hrow (j * 8 + 5) (.slice A' m c')
 have r2 := own_store r1 (j * 8 + 7) (.int .i64 ver)
 have e1 : (P ++ (h.enc ++ Q)).set (j * 8 + 5) (.slice A' m c') = P ++ ([.int .i64 h.d.id, .int .i64 h.d.kind, .int .i64 h.d.owner, .slice h.aA h.an h.ac, .slice h.lA h.ln h.lc, .slice A' m c', .int .i64 h.d.links, .int .i64 h.d.ver] ++ Q) := by
  rw [List.set_append_right _ _ (by omega), hP, Nat.add_sub_cancel_left]
  rfl
 rw [e1] at r1 r2
 have e2 : (P ++ ([Value.int .i64 h.d.id, .int .i64 h.d.kind, .int .i64 h.d.owner, .slice h.aA h.an h.ac, .slice h.lA h.ln h.lc, .slice A' m c', .int .i64 h.d.links, .int .i64 h.d.ver] ++ Q)).set (j * 8 + 7) (.int .i64 ver) = P ++ ((h.bdy l A' m c' ver).enc ++ Q) := by
  rw [List.set_append_right _ _ (by omega), hP, Nat.add_sub_cancel_left]
  rfl
 rw [e2, ← hs] at r2
 have c5 := own_at hrow (j := j * 8 + 5) (u := .slice h.bA h.bn h.bc) (by rw [List.getElem?_append_right (by omega), hP, Nat.add_sub_cancel_left]; rfl)
 have c7 := own_at r1 (j := j * 8 + 7) (u := .int .i64 h.d.ver) (by rw [List.getElem?_append_right (by omega), hP, Nat.add_sub_cancel_left]; rfl)
 refine ⟨⟨_, c5.1⟩, c5.2, ⟨_, c7.1⟩, c7.2, ?_⟩
 refine K.node hj hA (by simp only [nsl, hA]; exact r2) (fun i hi => ?_) (by simp [World.setCell]) ?_ ⟨rfl, rfl, rfl⟩ (K.acls h hm) ⟨hl, hpl⟩
 · rw [heap_setCell_other _ ⟨g, _, none⟩ i _ hi, heap_setCell_other _ ⟨g, _, none⟩ i _ hi]
 · have := below_setCells (g := g) hg [.slice A' m c'] (j * 8 + 5) K.low
   exact below_setCells (g := g) hg [.int .i64 ver] (j * 8 + 7) this
theorem box_cel {W : World} {b k : Nat} {c : Array Value} {t : TypeId} (h : W.heap[b]? = some (.cells c t (0, 0))) (v : Value) (c' : Array Value) (hc : c.setIfInBounds k v = c' := by rfl) : (W.setCell ⟨b, k, none⟩ v).heap[b]? = some (.cells c' t (0, 0)) := by
 rw [setCell_eq_setRow W b k c t (0, 0) v h, hc]
 exact setRow_heap _ _ _ _ _ _ h
theorem Wrk.num (K : Wrk u b T x ver R W) (n : Int) : Wrk u b T x ver { R with n := n } (W.setCell ⟨b, 13, none⟩ (.int .i64 n)) ∧ Rest b T W (W.setCell ⟨b, 13, none⟩ (.int .i64 n)) :=
 K.reply (box_cel K.box _ _ rfl) (fun i hi => heap_setCell_other _ ⟨b, _, none⟩ i _ hi) (by simp [World.setCell]) (below_setCells (g := b) K.ge [.int .i64 n] 13 K.low) ⟨⟨K.rep.1.names, K.rep.1.body, K.rep.1.node⟩, ⟨K.rep.2.names, K.rep.2.body, K.rep.2.node⟩⟩
theorem wsetBody_yes (LW : LowW L Env) (K : Wrk u b T x ver R W) {j g : Nat} {h : Nh} (hj : T.hs[j]? = some h) (hA : T.A = some ⟨g, 0, none⟩) {A' : Option Addr} {m c' : Nat} {l : List Pc} (hl : Sv W A' m c' 3 (encs encP l)) (hpl : plc (Far u b T) A' m) (hE : Env u) (hok : L.bodyOk l = true) :
 Calls Tryz.prog 195 #[.pointer (some ⟨b, 0, none⟩), .pointer (some ⟨g, j * 8, none⟩), .slice A' m c', .int .i64 0] W fun e w' => e = .returned (.tuple #[]) ∧ Wrk u b { T with hs := T.hs.set j (h.bdy l A' m c' ver) } x ver { R with n := L.size l } w' ∧ Rest b T W w' := by
 obtain ⟨⟨v5, c5⟩, f5, ⟨v7, c7⟩, f7, K2, hr2, hm2⟩ := K.body hj hA hl hpl
 have CN := Lib.hid (fun e W => refuse_no e W)
 have c11 := K.cell 11 (.int .i64 ver)
 have HK2 := Lib.hid K2
 have HR2 := Lib.hid hr2
 have HM2 := Lib.hid hm2
 have HL := Lib.hid (K2.bodies (h.bdy l A' m c' ver) (List.mem_of_getElem? (List.getElem?_set_self (List.getElem?_eq_some_iff.1 hj).1))).1
 have CS := Lib.hid (LW.size A' m c' l _ (LW.env _ _ hE K2.low) HL.out hok)
 clear K hj hA hl hpl hE hok K2 hr2 hm2 LW
 go_enter Tryz.func195, Tryz.ntmps195
 go_upto_region 2 with (go_at_call 110; (with_reducible refine (CN.out _ _).mono ?_); rintro e w3 ⟨rfl, hw⟩; have hw2 := hw.symm; subst hw2)
 generalize (W.setCell ⟨g, j * 8 + 5, none⟩ (.slice A' m c')).setCell ⟨g, j * 8 + 7, none⟩ (.int .i64 ver) = W2 at *
 clear c5 f5 c7 f7 c11
 go_wp2_with (go_at_call 52; (with_reducible refine CS.out.mono ?_); rintro e w3 ⟨rfl, hb3⟩; have HB3 := Lib.hid hb3; have c13 := (HK2.out.step hb3).cell 13 (.int .i64 R.n); have f13 := (HK2.out.step hb3).thaw 13; clear hb3)
 go_end0
 have K3 := (HK2.out.step HB3.out).num (L.size l)
 exact ⟨rfl, K3.1, (HR2.out.step HB3.out).then_ K3.2 fun k _ hk => HM2.out k hk⟩
end
end Go.Proofs.YtemgejblnionlaaGreatDoor
namespace Go.Proofs.YtemgejblnionlaaGreatDoor
open Go.RowKit
set_option maxHeartbeats 16000000
set_option maxRecDepth 100000
section
variable {L : Low} {Env : World → Prop} {u W : World} {b : Nat} {T : Th} {x : Xh} {ver : Int} {R : Rh}
theorem MRes.no {d : Tr × Rp} {e : Ending} {w' : World} {c : Int} (hc : c ≠ 0) (hd : d = (T.t, .num c 0)) (he : e = panics c) (hb : Below W.heap.size W w') : MRes u b T x ver d W e w' := by
 subst hd he
 exact ⟨fun h => absurd h hc, fun _ => ⟨rfl, hb, rfl⟩⟩
theorem Wrk.ptr (K : Wrk u b T x ver R W) {h : Nh} {v : Value} (hp : Ptr W T h v) : ∃ j g, T.hs[j]? = some h ∧ T.A = some ⟨g, 0, none⟩ ∧ v = .pointer (some ⟨g, j * 8, none⟩) := by
 obtain ⟨j, g, o, h1, h2, h3, -⟩ := hp
 rcases K.row with ⟨-, ⟨h4, -⟩ | ⟨g', cap, cur, h4, -⟩⟩
 · rw [nsl, h2] at h4; cases h4
 · rw [nsl, h2] at h4
   injection h4 with h4
   injection h4 with h4
   injection h4 with h5 h6
   subst h5 h6
   exact ⟨j, g, h1, h2, by rw [h3, Nat.zero_add]⟩
theorem Wrk.nrange (K : Wrk u b T x ver R W) {h : Nh} {j g : Nat} (hj : T.hs[j]? = some h) (hA : T.A = some ⟨g, 0, none⟩) : W.rangeAt g (j * 8) h.enc := by
 obtain ⟨g', o, h1, -, h2⟩ := Sv.range Nh.enc_len (by decide) (Sv.own K.row (encs_cells Nh.enc_one _)) hj
 rw [hA] at h1
 injection h1 with h1
 injection h1 with h3 h4
 subst h3 h4
 rwa [Nat.zero_add] at h2
theorem MRes.body (G : Good L T.t) {h : Nh} {j : Nat} (hj : T.hs[j]? = some h) {l : List Pc} {A' : Option Addr} {m c' : Nat} {k : Int} {w' : World} (hK : Wrk u b { T with hs := T.hs.set j (h.bdy l A' m c' ver) } x ver { Rh.num 0 0 with n := k } w') (hR : Rest b T W w') {d : Tr × Rp} (hd : d = (T.t.withN { h.d with body := l, ver := ver }, .num 0 k)) : MRes u b T x ver d W (.returned (.tuple #[])) w' := by
 subst hd
 refine ⟨fun _ => ⟨_, _, rfl, hK, ?_, rfl, hR⟩, fun h => absurd rfl h⟩
 have e : (T.hs.map (·.d))[j]? = some h.d := by rw [List.getElem?_map, hj]; rfl
 have := withD_at (l := T.t.nodes) G.srt (n' := { h.d with body := l, ver := ver }) e rfl
 unfold Tr.withN
 rw [this]
 show (⟨(T.hs.set j (h.bdy l A' m c' ver)).map (·.d), T.next, T.opens⟩ : Tr) = _
 rw [List.map_set]
 rfl
theorem wwrite_lands (LW : LowW L Env) (LG : LowG L) (K : Wrk u b T x ver (Rh.num 0 0) W) (hE : Env u) (hs' : T.t.small) (G : Good L T.t) (hp : x.path.size < 4294967281) (hw1 : (Lit.int .i64 x.off).wf = true) (hw2 : (Lit.int .i64 x.id).wf = true) (hw3 : (Lit.int .i64 x.n).wf = true) :
 Calls Tryz.prog 146 #[.pointer (some ⟨b, 0, none⟩)] W fun e w' => MRes u b T x ver (wroteD L T.t 3 x.who x.path x.off x.id x.n ver) W e w' := by
 have CF := Lib.hid (wfile_lands LW.toLowT K 2 (by decide) (LW.env _ _ hE K.low) hs' G hp)
 have HK := Lib.hid K
 have HG := Lib.hid G
 have HLW := Lib.hid LW
 have HLG := Lib.hid LG
 have HE := Lib.hid hE
 have HWF := Lib.hid (And.intro hw1 (And.intro hw2 hw3))
 clear K G LW LG hE hs' hp hw1 hw2 hw3
 unfold FileRes at CF
 obtain ⟨d, hd⟩ : ∃ d, wroteD L T.t 3 x.who x.path x.off x.id x.n ver = d := ⟨_, rfl⟩
 rw [hd]
 have HDD := Lib.hid hd
 clear hd
 obtain ⟨p, hpp⟩ : ∃ p, wayP L T.t.nodes x.who x.path = p := ⟨_, rfl⟩
 rw [hpp] at CF
 have HPP := Lib.hid hpp
 clear hpp
 obtain ⟨nd, hnd⟩ : ∃ n, nodeD T.t.nodes p.1 = n := ⟨_, rfl⟩
 rw [hnd] at CF
 have HND := Lib.hid hnd
 clear hnd
 go_enter Tryz.func146, Tryz.ntmps146
 by_cases hp0 : p.2 = 0
 · by_cases hk : nd.kind = 2
   · by_cases ha : L.allows nd.acl x.who nd.owner 2 = true
     · go_upto_region 1 with (go_at_call 193; (with_reducible refine CF.out.mono ?_); rintro e w5 ⟨hb, hr⟩; rw [if_pos hp0, if_pos hk, if_pos ha] at hr; obtain ⟨h, v, hm, hid, hpt, rfl⟩ := hr; have HB5 := Lib.hid hb; have HR := Lib.hid (And.intro hm (And.intro hid hpt)); clear hb hm hid hpt)
       have HCO := Lib.hid (And.intro hp0 (And.intro hk ha))
       obtain ⟨j, g, hj, hA, rfl⟩ := HK.out.ptr HR.out.2.2
       have HB := Lib.hid (HB5.out.trans ((below_drewN w5 1).mono HB5.out.size))
       have K5 := Lib.hid (HK.out.step HB.out)
       have HJ := Lib.hid hj
       have HA := Lib.hid hA
       have HID := Lib.hid HR.out.2.1
       have hbok := (HG.out.file nd (by rw [← HR.out.2.1]; exact List.mem_map.2 ⟨h, HR.out.1, rfl⟩) hk).2.1
       obtain ⟨r, hr⟩ : ∃ r, L.put nd.body x.off x.id x.n = r := ⟨_, rfl⟩
       have CP := Lib.hid (HLW.out.put h.bA h.bn h.bc h.d.body x.off x.id x.n w5.drew (HLW.out.env _ _ HE.out K5.out.low) (K5.out.bodies h HR.out.1).1 (by rw [HR.out.2.1]; exact hbok) HWF.out.1 HWF.out.2.1 HWF.out.2.2)
       rw [HR.out.2.1, hr] at CP
       have HPG := Lib.hid (HLG.out.put nd.body x.off x.id x.n hbok)
       rw [hr] at HPG
       obtain ⟨l, c⟩ := r
       have HPR := Lib.hid hr
       clear hr hbok hj hA hp0 hk ha
       dsimp only at CP HPG
       have nr := K5.out.nrange HJ.out HA.out
       have HC5 := Lib.hid (show w5.drew.cell? ⟨g, j * 8 + 5, none⟩ = some (.slice h.bA h.bn h.bc) from nr 5 _ rfl)
       clear nr
       refine wp_region_ord (fun w' => w'.cell? ⟨g, j * 8 + 5, none⟩ = some (.slice h.bA h.bn h.bc) ∧ w'.cell? ⟨b, 7, none⟩ = some (.int .i64 x.off) ∧ w'.cell? ⟨b, 9, none⟩ = some (.int .i64 x.id) ∧ w'.cell? ⟨b, 8, none⟩ = some (.int .i64 x.n)) [(0, true), (1, true), (2, true), (3, true), (4, true), (5, true), (6, true), (7, true), (8, true), (9, true), (10, true), (11, true), (12, true), (13, true), (14, true), (15, true), (16, true), (17, true), (18, true), (19, false), (20, true), (21, true), (22, true), (23, true), (24, true)] (by kernel_rfl) (by kernel_rfl) (by kernel_rfl) ⟨HC5.out, K5.out.cell 7 _, K5.out.cell 9 _, K5.out.cell 8 _⟩ (fun d _ _ _ _ h => by cases d <;> exact h) ?_
       iterate 19 refine ord_pure ?_
       refine ord_eff (by rfl) (fun K hK => ?_)
       go_simp
       go_wp2_with (go_at_call 194; (with_reducible refine CP.out.mono ?_); rintro e w6 ⟨A', m, c', rfl, hres, hb6⟩; have HB6 := Lib.hid hb6; have HRES := Lib.hid hres; clear hb6 hres)
       have K6 := Lib.hid (K5.out.step HB6.out)
       refine hK.out _ _ ⟨(HB6.out.cell (block_lt_of_cell HC5.out)).trans HC5.out, K6.out.cell 7 _, K6.out.cell 9 _, K6.out.cell 8 _⟩ ?_
       clear hK K
       try simp only [Act.put, puts]
       iterate 5 refine ord_pure ?_
       refine ord_nil ?_
       have HBW := Lib.hid (HB.out.trans (HB6.out.mono HB.out.size))
       have HD2 := Lib.hid (show d = if c = 0 then (T.t.withN { nd with body := l, ver := ver }, .num 0 (L.size l)) else (T.t, .num c 0) by
        rw [← HDD.out]; unfold wroteD
        simp only [HPP.out, HND.out, HPR.out, if_pos HCO.out.1, if_pos HCO.out.2.1, if_pos HCO.out.2.2, show ¬ ((3 : Int) = 5) by decide, show ¬ ((3 : Int) = 4) by decide, if_false])
       by_cases hc : c = 0
       · subst hc
         obtain ⟨r1, r2⟩ := HRES.out rfl
         have CY := Lib.hid (wsetBody_yes HLW.out K6.out HJ.out HA.out r1 (r2.mono fun k hk => ⟨Nat.le_trans K5.out.low.size hk, fun hm => Nat.lt_irrefl _ (Nat.lt_of_lt_of_le (K5.out.mut_lt hm) hk)⟩) HE.out (HPG.out rfl))
         clear r1 r2
         go_wp2_with (go_at_call 195; (with_reducible refine CY.out.mono ?_); rintro e w7 ⟨rfl, hk7, hr7⟩; have H7 := Lib.hid (And.intro hk7 hr7); clear hk7 hr7)
         go_end0
         exact MRes.body HG.out HJ.out H7.out.1 ((Rest.of_below HBW.out).then_ H7.out.2 fun _ _ h => h) (by rw [HD2.out, if_pos trivial, ← HID.out])
       · have CX := Lib.hid (fun s W => wsetBody_no (b := b) (.pointer (some ⟨g, j * 8, none⟩)) s c hc W)
         have HC := Lib.hid hc
         clear hc
         go_wp2_with (go_at_call 195; (with_reducible refine (CX.out _ _).mono ?_); rintro e w7 ⟨rfl, rfl⟩)
         exact ⟨rfl, MRes.no HC.out (by rw [HD2.out, if_neg HC.out]) rfl HBW.out⟩
     · go_wp2_with (go_at_call 193; (with_reducible refine CF.out.mono ?_); rintro e w5 ⟨hb, hr⟩; rw [if_pos hp0, if_pos hk, if_neg ha] at hr; subst hr; have HB5 := Lib.hid hb; clear hb)
       exact ⟨rfl, MRes.no (by decide) (by rw [← HDD.out]; unfold wroteD; simp only [HPP.out, HND.out, if_pos hp0, if_pos hk, if_neg ha]) rfl HB5.out⟩
   · go_wp2_with (go_at_call 193; (with_reducible refine CF.out.mono ?_); rintro e w5 ⟨hb, hr⟩; rw [if_pos hp0, if_neg hk] at hr; subst hr; have HB5 := Lib.hid hb; clear hb)
     exact ⟨rfl, MRes.no (by decide) (by rw [← HDD.out]; unfold wroteD; simp only [HPP.out, HND.out, if_pos hp0, if_neg hk]) rfl HB5.out⟩
 · go_wp2_with (go_at_call 193; (with_reducible refine CF.out.mono ?_); rintro e w5 ⟨hb, hr⟩; rw [if_neg hp0] at hr; subst hr; have HB5 := Lib.hid hb; clear hb)
   exact ⟨rfl, MRes.no hp0 (by rw [← HDD.out]; unfold wroteD; simp only [HPP.out, if_neg hp0]) rfl HB5.out⟩
end
end Go.Proofs.YtemgejblnionlaaGreatDoor
namespace Go.Proofs.YtemgejblnionlaaGreatDoor
open Go.RowKit
set_option maxHeartbeats 80000000
set_option maxRecDepth 100000
def Xh.enc (x : Xh) : List Value := [.int .i64 x.kind, .int .i64 x.who, .string x.path, .string x.dst, .int .i64 x.off, .int .i64 x.n, .int .i64 x.id, .slice x.A x.m x.c]
theorem load_op {ops : Array Oper} {rest : List Oper} {o : Oper} {a : Act} {w : World} {Q : Exit → Act → World → Prop} (hgd : o.guard = none) (x : Operand) (ho : o.op = .load 25 x)
 (b : Nat) (hx : a.eval x = .pointer (some ⟨b, 0, none⟩)) (h : Xh) (hc : w.rangeAt b 0 h.enc) (hr : wpList Tryz.prog ops Q rest (a.put o.dst h.val) w) : wpList Tryz.prog ops Q (o :: rest) a w :=
 wpList_load_mid hgd 25 x ho b 0 hx h.enc _ hc Tryz.underlying25 rfl (by kernel_rfl) hr
theorem store_rp {ops : Array Oper} {rest : List Oper} {o : Oper} {a : Act} {w : World} {Q : Exit → Act → World → Prop} (hgd : o.guard = none) (x y : Operand) (ho : o.op = .store 71 x y)
 (g : Nat) (hx : a.eval x = .pointer (some ⟨g, 0, none⟩)) (h : Rh) (hy : a.eval y = h.val) (old : Array Value) (hg : w.heap[g]? = some (.cells old 71 (0, 0))) (hold : old.size = 12)
 (hr : wpList Tryz.prog ops Q rest (a.put o.dst undef) (w.setRow g h.enc.toArray)) : wpList Tryz.prog ops Q (o :: rest) a w :=
 wpList_store_row hgd 71 x y ho g h.enc.toArray hx hy 71 old hg (by kernel_rfl) hold (by simp [Rh.enc, Value.oneCell']) hr
theorem Rh.In.mono {P Q : Nat → Prop} {R : Rh} (k : R.In P) (hpq : ∀ g, P g → Q g) : R.In Q := ⟨k.names.mono hpq, k.body.mono hpq, k.node.mono hpq⟩
theorem Rh.ok.setRow {W : World} {R : Rh} {b : Nat} (k : R.ok W) (h : R.In (fun g => g ≠ b)) (cs : Array Value) : R.ok (W.setRow b cs) :=
 ⟨k.names.agree h.names (fun g hg => setRow_other W b g cs hg) (by simp), k.body.agree h.body (fun g hg => setRow_other W b g cs hg) (by simp), k.node.setRow h.node cs⟩
end Go.Proofs.YtemgejblnionlaaGreatDoor
namespace Go.Proofs.YtemgejblnionlaaGreatDoor
open Go.RowKit
set_option maxHeartbeats 16000000
set_option maxRecDepth 100000
theorem errorOfW_no (g : Nat) (p : Value) (w : World) (S : World → Prop) (hin : ∀ args W, (callFunc g args).run Tryz.prog W = .ok (.enter g args) W)
 (hc : Calls Tryz.prog g #[p] (w.alloc (.cells #[.int .i64 0] 45)) fun e w' => e = .returned (.tuple #[]) ∧ S w' ∧ eBox w 0 w') :
 Calls Tryz.prog 69 #[.func (.func g) #[p] #[]] w fun e w' => e = .returned (.int .i64 0) ∧ ∃ w1, S w1 ∧ eBox w 0 w1 ∧ w' = w1.setCell ⟨w.heap.size, 0, none⟩ (.int .i64 0) := by
 have hmf : ∀ (fn : Fn) (first cap : Array Value) (w : World), (Instr.makeFunc fn first cap).run Tryz.prog w = .ok (.func fn first cap) w := fun _ _ _ _ => rfl
 have HC := Lib.hid hc
 clear hc
 go_enter_defers Tryz.func69, Tryz.ntmps69
 go_wp2_with ((with_reducible refine HC.out.mono ?_); rintro e w2 ⟨rfl, hs, hx⟩; have HS := Lib.hid hs; have HX := Lib.hid hx; have c1 := (cell_of_row _ _ 0 _ _ _ hx : w2.cell? ⟨w.heap.size, 0, none⟩ = some (.int .i64 0)); have c2 := (frozen_of_row _ _ 0 _ _ hx : w2.frozen? ⟨w.heap.size, 0, none⟩ = false); clear hs hx)
 refine leaves_cons (f := 109) (args := #[.pointer (some ⟨w.heap.size, 0, none⟩)]) (by simp) (by simp [go_sem]) ?_
 refine (caught_no ⟨w.heap.size, 0, none⟩ _).mono ?_
 rintro e u' w3 ⟨rfl, rfl, rfl⟩
 simp [Leaves, settle, results, Tryz.results69, go_sem]
 rw [show (w2.setCell ⟨w.heap.size, 0, none⟩ (.int .i64 0)).cell? ⟨w.heap.size, 0, none⟩ = some (.int .i64 0) from by rw [setCell_eq_setRow w2 _ 0 _ _ (0, 0) _ HX.out]; exact cell_of_row _ _ 0 _ _ _ (setRow_heap _ _ _ _ _ _ HX.out)]
 exact ⟨_, rfl, rfl, w2, HS.out, HX.out, rfl⟩
theorem errorOfW_yes (g : Nat) (p : Value) (c : Int) (w : World) (S : World → Prop) (hin : ∀ args W, (callFunc g args).run Tryz.prog W = .ok (.enter g args) W)
 (hc : Calls Tryz.prog g #[p] (w.alloc (.cells #[.int .i64 0] 45)) fun e w' => e = panics c ∧ S w' ∧ eBox w 0 w') :
 Calls Tryz.prog 69 #[.func (.func g) #[p] #[]] w fun e w' => e = .returned (.int .i64 c) ∧ ∃ w1, S w1 ∧ eBox w 0 w1 ∧ w' = w1.setCell ⟨w.heap.size, 0, none⟩ (.int .i64 c) := by
 have hmf : ∀ (fn : Fn) (first cap : Array Value) (w : World), (Instr.makeFunc fn first cap).run Tryz.prog w = .ok (.func fn first cap) w := fun _ _ _ _ => rfl
 have HC := Lib.hid hc
 clear hc
 go_enter_defers Tryz.func69, Tryz.ntmps69
 go_wp2_with ((with_reducible refine HC.out.mono ?_); rintro e w2 ⟨rfl, hs, hx⟩; have HS := Lib.hid hs; have HX := Lib.hid hx; have c1 := (cell_of_row _ _ 0 _ _ _ hx : w2.cell? ⟨w.heap.size, 0, none⟩ = some (.int .i64 0)); have c2 := (frozen_of_row _ _ 0 _ _ hx : w2.frozen? ⟨w.heap.size, 0, none⟩ = false); clear hs hx)
 refine leaves_cons (f := 109) (args := #[.pointer (some ⟨w.heap.size, 0, none⟩)]) (by simp) (by simp [go_sem]) ?_
 refine (caught_yes ⟨w.heap.size, 0, none⟩ c 0 [] _ c1 c2).mono ?_
 rintro e u' w3 ⟨rfl, rfl, rfl⟩
 simp [Leaves, settle, results, Tryz.results69, go_sem]
 rw [show (w2.setCell ⟨w.heap.size, 0, none⟩ (.int .i64 c)).cell? ⟨w.heap.size, 0, none⟩ = some (.int .i64 c) from by rw [setCell_eq_setRow w2 _ 0 _ _ (0, 0) _ HX.out]; exact cell_of_row _ _ 0 _ _ _ (setRow_heap _ _ _ _ _ _ HX.out)]
 exact ⟨_, rfl, rfl, w2, HS.out, HX.out, rfl⟩
theorem setCell_held {W : World} {b k : Nat} {cs : Array Value} {t : TypeId} {v : Value} (h : W.heap[b]? = some (.cells cs t (0, 0))) (hk : cs[k]? = some v) : W.setCell ⟨b, k, none⟩ v = W := by
 rw [setCell_eq_setRow W b k cs t (0, 0) v h]
 have hlt := (Array.getElem?_eq_some_iff.1 hk).1
 have e : cs.setIfInBounds k v = cs := by
  apply Array.ext_getElem?
  intro i
  by_cases hi : i = k
  · subst hi; rw [Array.getElem?_setIfInBounds_self_of_lt hlt, hk]
  · rw [Array.getElem?_setIfInBounds_ne (fun e => hi e.symm)]
 rw [e]
 unfold World.setRow
 have e2 : (W.heap.modify b fun | .cells _ elem frozen => .cells cs elem frozen | o => o) = W.heap := by
  apply Array.ext_getElem?
  intro i
  rw [Array.getElem?_modify]
  split
  · rename_i hb
    subst hb
    rw [h]
    rfl
  · rfl
 exact congrArg (fun h => ({ W with heap := h } : World)) e2
theorem TOwn.own {base : Nat} {T T' : Th} {W : World} (hO : TOwn base T T' W) {h : Nh} (hm : h ∈ T'.hs) : ∃ j b2, T'.hs[j]? = some h ∧ j < T'.n ∧ base ≤ b2 ∧ NOwn b2 h W := by
 obtain ⟨hN, -, u0, hu0, -, -, hC⟩ := hO
 obtain ⟨-, -, -, us, h0, -, hmn, ho⟩ := hC
 obtain ⟨j, hj, e⟩ := List.getElem_of_mem hm
 have hl : T'.hs.length = T'.n := own_plen Nh.enc_len hN (by decide)
 have hj2 : T'.hs[j]? = some h := List.getElem?_eq_some_iff.2 ⟨hj, e⟩
 exact ⟨j, us j, hj2, by omega, Nat.le_trans hu0 (h0 ▸ hmn 0 j (Nat.zero_le _)), (ho j h (by omega) hj2).1⟩
theorem TOwn.tok {base : Nat} {T T' : Th} {W : World} (hO : TOwn base T T' W) : T'.ok W :=
 ⟨Sv.own hO.nodes (encs_cells Nh.enc_one _), fun h hm => by
  obtain ⟨j, b2, -, -, -, a, ⟨u, -, l, -⟩, v, -, d, -⟩ := hO.own hm
  exact ⟨Sv.own a (encs_cells encA_one _), Sv.own l (encs_cells encE_one _), Sv.own d (encs_cells (f := encP) (fun _ => oneC rfl) _)⟩, by
  obtain ⟨u, -, h, -⟩ := hO.opens
  exact Sv.own h (encs_cells encO_one _)⟩
theorem TOwn.inn {base : Nat} {T T' : Th} {W : World} (hO : TOwn base T T' W) : T'.In (base ≤ ·) :=
 ⟨plc_own hO.nodes, fun h hm => by
  obtain ⟨j, b2, -, -, hb, a, ⟨u, hu, l, -⟩, v, hv, d, -⟩ := hO.own hm
  exact ⟨(plc_own a).mono fun g hg => Nat.le_trans hb hg, (plc_own l).mono fun g hg => Nat.le_trans (Nat.le_trans hb hu) hg, (plc_own d).mono fun g hg => Nat.le_trans (Nat.le_trans hb hv) hg⟩, by
  obtain ⟨u, hu, h, -⟩ := hO.opens
  exact (plc_own h).mono fun g hg => Nat.le_trans hu hg⟩
theorem TOwn.t {base : Nat} {T : Th} {W : World} {A2 A5 : Option Addr} {c2 c5 : Nat} {hs2 : List Nh} (hO : TOwn base T ⟨A2, T.n, c2, hs2, T.next, A5, T.on, c5, T.opens⟩ W) : (⟨A2, T.n, c2, hs2, T.next, A5, T.on, c5, T.opens⟩ : Th).t = T.t := by
 obtain ⟨-, -, u0, -, -, -, hC⟩ := hO
 show (⟨hs2.map (·.d), T.next, T.opens⟩ : Tr) = ⟨T.hs.map (·.d), T.next, T.opens⟩
 rw [hC.d]
theorem Wrk.start {u W : World} {T T' : Th} {x : Xh} {ver : Int} (hlow : Below u.heap.size u W) (hO : TOwn u.heap.size T T' W) (hx : x.ok u) : Wrk u W.heap.size T' x ver (Rh.num 0 0) (W.alloc (.cells (wcs T' x ver (Rh.num 0 0)) 131)) := by
 have hb : Below W.heap.size W (W.alloc (.cells (wcs T' x ver (Rh.num 0 0)) 131)) := (Below.refl _ W).alloc (Nat.le_refl _) _
 have hown : ∀ h ∈ T'.hs, ∃ b2, u.heap.size ≤ b2 ∧ NOwn b2 h W := fun h hm => by
  obtain ⟨j, b2, -, -, h1, h2⟩ := hO.own hm
  exact ⟨b2, h1, h2⟩
 have hlist : ∀ h ∈ T'.hs, W.ownsRow u.heap.size 174 2 (lsl h) h.ln (encs encE h.d.list) := fun h hm => by
  obtain ⟨b2, h1, a, ⟨v, hv, l, -⟩, -⟩ := hown h hm
  exact own_base l (Nat.le_trans h1 hv)
 have hopen : W.ownsRow u.heap.size 166 2 (osl T') T'.on (encs encO T'.opens) := by
  obtain ⟨v, hv, h, -⟩ := hO.opens
  exact own_base h hv
 have hge : ∀ g, Mut W.heap.size T' g → u.heap.size ≤ g := fun g hg => by
  rcases hg with rfl | h | h | ⟨n, hn, h⟩
  · exact hlow.size
  · exact (hO.nodes.lt g h).1
  · exact (hopen.lt g h).1
  · exact ((hlist n hn).lt g h).1
 have hfar : ∀ {b2 : Nat} {e : TypeId} {s : Nat} {A : Option Addr} {n c : Nat} {xs : List Value}, W.ownsRow b2 e s (.slice A n c) n xs → u.heap.size ≤ b2 → 65 ≠ e → 166 ≠ e → 174 ≠ e → plc (Far u W.heap.size T') A n := fun {b2 e s A n c xs} h h0 h1 h2 h3 hn g o sp eA => by
  have hg : (Value.slice A n c).ownBlock = some g := by rw [eA]; rfl
  obtain ⟨hlo, hhi⟩ := h.lt g hg
  refine ⟨Nat.le_trans h0 hlo, fun hm => ?_⟩
  rcases hm with e1 | k | k | ⟨m, hm, k⟩
  · omega
  · obtain ⟨cs, fz, k2⟩ := Lib.ownsRow_kind hO.nodes g k
    exact own_not h k2 h1 hg
  · obtain ⟨cs, fz, k2⟩ := Lib.ownsRow_kind hopen g k
    exact own_not h k2 h2 hg
  · obtain ⟨cs, fz, k2⟩ := Lib.ownsRow_kind (hlist m hm) g k
    exact own_not h k2 h3 hg
 refine ⟨hlow.trans (hb.mono hlow.size), hlow.size, heap_alloc_new W _, own_keep hO.nodes hb, own_keep hopen hb, fun h hm => own_keep (hlist h hm) hb, fun i j h h' hi hj hij k hk hk' => ?_, fun h hm => ?_, fun h hm => ?_, ⟨⟨(hx.acl.below hlow).below hb, hx.path, hx.dst⟩, fun hn g o sp e hm => ?_⟩, Rh.num_ok _ _ _, Rh.num_in _ _ _⟩
 · obtain ⟨hN, -, u0, hu0, -, -, hC⟩ := hO
   obtain ⟨-, -, -, us, h0, -, hmn, ho⟩ := hC
   have hl : T'.hs.length = T'.n := own_plen Nh.enc_len hN (by decide)
   have hi2 := (List.getElem?_eq_some_iff.1 hi).1
   have hj2 := (List.getElem?_eq_some_iff.1 hj).1
   have k1 := (ho i h (by omega) hi).2.list k hk
   obtain ⟨v, hv, l, -⟩ := (ho j h' (by omega) hj).1.list
   have k2 := (l.lt k hk').1
   have k3 := hmn (i + 1) j (by omega)
   omega
 · obtain ⟨b2, h1, a, -⟩ := hown h hm
   exact ⟨(Sv.own a (encs_cells encA_one _)).below hb, hfar a h1 (by decide) (by decide) (by decide)⟩
 · obtain ⟨b2, h1, -, -, v, hv, d, -⟩ := hown h hm
   exact ⟨(Sv.own d (encs_cells (f := encP) (fun _ => oneC rfl) _)).below hb, hfar d (Nat.le_trans h1 hv) (by decide) (by decide) (by decide)⟩
 · have h1 := hx.acl.inside (P := fun _ => True) (by decide) (fun _ _ _ _ _ => trivial) hn g o sp e
   have := hge g hm
   omega
abbrev zR : Array Value := #[.int .i64 0, .int .i64 0, .slice none 0 0, .slice none 0 0, .int .i64 0, .int .i64 0, .int .i64 0, .slice none 0 0, .slice none 0 0, .slice none 0 0, .int .i64 0, .int .i64 0]
def DoRes (w : World) (d : Tr × Rp) (e : Ending) (w' : World) : Prop := ∃ (T' : Th) (R : Rh), e = .returned (.tuple #[T'.val, R.val]) ∧ T'.ok w' ∧ R.ok w' ∧ T'.t = d.1 ∧ R.r = d.2 ∧ Below w.heap.size w w'
end Go.Proofs.YtemgejblnionlaaGreatDoor
namespace Go.Proofs.YtemgejblnionlaaGreatDoor
open Go.RowKit
set_option maxHeartbeats 16000000
set_option maxRecDepth 100000
abbrev xl (x : Xh) : List Value := [.int .i64 x.kind, .int .i64 x.who, .string x.path, .string x.dst, .int .i64 x.off, .int .i64 x.n, .int .i64 x.id, .slice x.A x.m x.c]
def Ran (w u : World) (b : Nat) (x : Xh) (ver : Int) (d : Tr × Rp) (l : List (Nat × Array Value × TypeId)) (e : Ending) (w' : World) : Prop :=
 e = .returned (.int .i64 d.2.e) ∧ Bxs w l w' ∧ (d.2.e = 0 → ∃ T2 R2, Wrk u b T2 x ver R2 w' ∧ T2.t = d.1 ∧ R2.r = d.2)
theorem ran_any {w u W : World} {b : Nat} {T' : Th} {x : Xh} {ver : Int} {d : Tr × Rp} {x1 x2 x3 x4 : Nat} {c1 c2 c3 c4 : Array Value} (K : Wrk u b T' x ver (Rh.num 0 0) W) (B : Bxs w [(x4, c4, 71), (x3, c3, 31), (x2, c2, 25), (x1, c1, 31)] W) (hwu : Below w.heap.size w u)
 (CM : ∀ W, Wrk u b T' x ver (Rh.num 0 0) W → Calls Tryz.prog 70 #[.pointer (some ⟨b, 0, none⟩)] W fun e w' => MRes u b T' x ver d W e w') :
 Calls Tryz.prog 69 #[.func (.func 70) #[.pointer (some ⟨b, 0, none⟩)] #[]] W fun e w' => Ran w u b x ver d [(x4, c4, 71), (x3, c3, 31), (x2, c2, 25), (x1, c1, 31)] e w' := by
 have hin : ∀ args W, (callFunc 70 args).run Tryz.prog W = .ok (.enter 70 args) W := fun args W => Go.MuLone.run_callFunc_enter Tryz.func70 (by kernel_rfl) rfl args W
 have ha : Below W.heap.size W (W.alloc (.cells #[.int .i64 0] 45)) := (Below.refl _ W).alloc (Nat.le_refl _) _
 have K4 := K.step ha
 have B4 := B.step ha
 have hE := heap_alloc_new W (.cells #[.int .i64 0] 45)
 by_cases h0 : d.2.e = 0
 · refine (errorOfW_no 70 _ W (fun w' => Bxs w [(x4, c4, 71), (x3, c3, 31), (x2, c2, 25), (x1, c1, 31)] w' ∧ ∃ T2 R2, Wrk u b T2 x ver R2 w' ∧ T2.t = d.1 ∧ R2.r = d.2) hin ((CM _ K4).mono fun e w' h => ?_)).mono ?_
   · obtain ⟨T2, R2, rfl, hk, ht, hr, hrest⟩ := h.1 h0
     refine ⟨rfl, ⟨B4.keep (hwu.trans (hk.low.mono hwu.size)) fun y hy => ?_, T2, R2, hk, ht, hr⟩, ?_⟩
     · refine hrest.2 _ (B4.lts y hy) ?_
       have h2 := (B4.all y hy).1
       simp only [List.mem_cons, List.not_mem_nil, or_false] at hy
       rcases hy with rfl | rfl | rfl | rfl <;> exact K4.not_mut h2 (by dsimp only; decide) (by dsimp only; decide) (by dsimp only; decide) (by dsimp only; decide)
     · exact (hrest.2 _ (Array.getElem?_eq_some_iff.1 hE).1 (K4.not_mut hE (by decide) (by decide) (by decide) (by decide))).trans hE
   · rintro e w' ⟨rfl, w1, ⟨hB, hk⟩, hx, rfl⟩
     rw [setCell_held hx rfl]
     exact ⟨by rw [h0], hB, fun _ => hk⟩
 · refine (errorOfW_yes 70 _ d.2.e W (fun w' => Bxs w [(x4, c4, 71), (x3, c3, 31), (x2, c2, 25), (x1, c1, 31)] w') hin ((CM _ K4).mono fun e w' h => ?_)).mono ?_
   · obtain ⟨rfl, hb, -⟩ := h.2 h0
     exact ⟨rfl, B4.step hb, (hb.block _ (Array.getElem?_eq_some_iff.1 hE).1).trans hE⟩
   · rintro e w' ⟨rfl, w1, hB, hx, rfl⟩
     have k5 : Bxs w ((W.heap.size, #[.int .i64 0], 45) :: [(x4, c4, 71), (x3, c3, 31), (x2, c2, 25), (x1, c1, 31)]) w1 := ⟨hB.low_, fun y hy => by
      rcases List.mem_cons.1 hy with rfl | hy
      · exact ⟨hx, B.low_.size⟩
      · exact hB.all y hy, List.pairwise_cons.2 ⟨fun y hy => B.lts y hy, hB.nd⟩⟩
     exact ⟨rfl, (k5.cel 0 rfl 0 (.int .i64 d.2.e) _ rfl).drop 1, fun h => absurd h h0⟩
theorem ret_td {fn : Func} {p q : Tmp} (h : fn.results = #[.cell p 31, .cell q 71]) (tmps : Array Value) (w : World) (g1 g2 : Nat) (T : Th) (R : Rh) (hp : tmps.getD p undef = .pointer (some ⟨g1, 0, none⟩)) (hq : tmps.getD q undef = .pointer (some ⟨g2, 0, none⟩))
 (h1 : w.heap[g1]? = some (.cells (Th.enc T).toArray 31 (0, 0))) (h2 : w.heap[g2]? = some (.cells (Rh.enc R).toArray 71 (0, 0))) : (results fn tmps).run Tryz.prog w = .ok (.tuple #[T.val, R.val]) w := by
 have hp' : tmps[p]?.getD undef = .pointer (some ⟨g1, 0, none⟩) := by simpa using hp
 have hq' : tmps[q]?.getD undef = .pointer (some ⟨g2, 0, none⟩) := by simpa using hq
 have r1 := run_loadVar_row (P := Tryz.prog) w g1 31 31 (Th.enc T).toArray (0, 0) _ h1 Tryz.underlying31 rfl (by kernel_rfl)
 have r2 := run_loadVar_row (P := Tryz.prog) w g2 71 71 (Rh.enc R).toArray (0, 0) _ h2 Tryz.underlying71 rfl (by kernel_rfl)
 simp [results, h, hp', hq', asAddr, r1, r2]
 exact ⟨rfl, rfl⟩
theorem two_rows {W : World} {m a b : Nat} (ha : a < m) (hb : b < m) (x y : Array Value) (g : Nat) (hg : m ≤ g) : ((W.setRow a x).setRow b y).heap[g]? = W.heap[g]? :=
 (setRow_other _ b g y (by omega)).trans (setRow_other _ a g x (by omega))
theorem Do_lands {d : Tr × Rp} (T : Th) (x : Xh) (ver : Int) (w : World) (hT : T.ok w) (hs' : T.t.small) (hx : x.ok w) (hd : d.2.e ≠ 0 → d = (T.t, .num d.2.e 0))
 (CM : ∀ (T' : Th) (u W : World) (b : Nat), Below w.heap.size w u → T'.t = T.t → Wrk u b T' x (max ver 0) (Rh.num 0 0) W → Calls Tryz.prog 70 #[.pointer (some ⟨b, 0, none⟩)] W fun e w' => MRes u b T' x (max ver 0) d W e w') :
 Calls Tryz.prog 36 #[T.val, x.val, .int .i64 ver] w fun e w' => DoRes w d e w' := by
 have CL := Lib.hid (fun W (hb : Below w.heap.size w W) => clone_lands T W (hT.below hb) hs')
 have CMH := Lib.hid CM
 have HX := Lib.hid hx
 have HD := Lib.hid hd
 have hmf : ∀ (fn : Fn) (first cap : Array Value) (w : World), (Instr.makeFunc fn first cap).run Tryz.prog w = .ok (.func fn first cap) w := fun _ _ _ _ => rfl
 clear hT hs' hx CM hd
 have kk0 := Bxs.nil w
 obtain ⟨x1, hwx1, hzx1, kx1⟩ := kk0.new rfl T.cs (Th.enc T).toArray 31
 obtain ⟨x2, hwx2, hzx2, kx2⟩ := kx1.new hzx1 x.cs x.cs 25
 obtain ⟨x3, hwx3, hzx3, kx3⟩ := kx2.new hzx2 zT zT 31
 obtain ⟨x4, hwx4, hzx4, kx4⟩ := kx3.new hzx3 zR zR 71
 have HW1 := Lib.hid hwx1
 have HW2 := Lib.hid hwx2
 have HW3 := Lib.hid hwx3
 have HW4 := Lib.hid hwx4
 have HZ4 := Lib.hid hzx4
 have K4 := Lib.hid kx4
 have KD := Lib.hid (kx4.step (W' := x4.drew) (below_drewN x4 1))
 clear kk0 hwx1 hwx2 hwx3 hwx4 hzx1 hzx2 hzx3 hzx4 kx1 kx2 kx3 kx4
 obtain ⟨mv, hmv⟩ : ∃ m, max ver 0 = m := ⟨_, rfl⟩
 rw [hmv] at CMH
 have HMV := Lib.hid hmv
 clear hmv
 go_enter Tryz.func36, Tryz.ntmps36
 go_upto_region 1 with fail
 rw [HW1.out, HW2.out, HW3.out, HW4.out]
 refine wp_region_ord (fun w' => w'.heap[w.heap.size]? = some (.cells (Th.enc T).toArray 31 (0, 0)) ∧ w'.heap[w.heap.size + 1]? = some (.cells x.cs 25 (0, 0))) [(0, true), (2, true), (3, true), (4, true), (1, false), (5, true), (6, false), (7, true)] (by kernel_rfl) (by kernel_rfl) (by kernel_rfl) ⟨(KD.out.at 3 rfl).out, (KD.out.at 2 rfl).out⟩ (fun d _ _ _ _ h => by cases d <;> exact h) ?_
 refine ord_pure (v := T.val) (hy := yieldsIf_load_mid (by rfl) 31 _ rfl w.heap.size 0 rfl (Th.enc T) _ (fun w h => box_range h.1) Tryz.underlying31 rfl (by kernel_rfl)) ?_
 refine ord_pure (v := x.val) (hy := yieldsIf_load_mid (by rfl) 25 _ rfl (w.heap.size + 1) 0 rfl (xl x) _ (fun w h => mid_range h.2 0 (xl x) rfl) Tryz.underlying25 rfl (by kernel_rfl)) ?_
 refine ord_pure ?_
 refine ord_pure (v := .int .i64 mv) (hy := .inl ⟨by rfl, fun w' _ => by go_simp; rw [← HMV.out]; split <;> omega⟩) ?_
 refine ord_eff (by rfl) (fun K hK => ?_)
 go_simp
 have CLa := Lib.hid (CL.out _ KD.out.low.out)
 go_wp2_with (go_at_call 68; (with_reducible refine CLa.out.mono ?_); rintro e w5 ⟨hb5, A2, c2, A5, c5, hs2, rfl, hO⟩; have HB5 := Lib.hid hb5; have HO := Lib.hid hO; clear hb5 hO)
 have K5 := Lib.hid (KD.out.step (W' := w5) HB5.out)
 refine hK.out _ _ ⟨(K5.out.at 3 rfl).out, (K5.out.at 2 rfl).out⟩ ?_
 clear hK K CLa
 try simp only [Act.put, puts]
 obtain ⟨T', hT'⟩ : ∃ T' : Th, T' = ⟨A2, T.n, c2, hs2, T.next, A5, T.on, c5, T.opens⟩ := ⟨_, rfl⟩
 refine ord_pure (v := .agg (wcs ⟨A2, T.n, c2, hs2, T.next, A5, T.on, c5, T.opens⟩ x mv (Rh.num 0 0))) ?_
 refine ord_eff (by rfl) (fun K hK => ?_)
 go_simp
 have HU := Lib.hid (KD.out.low.out)
 have KW := Lib.hid (Wrk.start (x := x) (ver := mv) HB5.out HO.out (⟨HX.out.acl.below HU.out, HX.out.path, HX.out.dst⟩))
 have K6 := Lib.hid (K5.out.step (W' := w5.alloc (.cells (wcs ⟨A2, T.n, c2, hs2, T.next, A5, T.on, c5, T.opens⟩ x mv (Rh.num 0 0)) 131)) ((Below.refl _ w5).alloc (Nat.le_refl _) _))
 refine hK.out _ _ ⟨(K6.out.at 3 rfl).out, (K6.out.at 2 rfl).out⟩ ?_
 clear hK K
 try simp only [Act.put, puts]
 refine ord_pure ?_
 refine ord_nil ?_
 have CR := Lib.hid (ran_any KW.out K6.out HU.out (fun W hW => CMH.out _ _ _ _ HU.out HO.out.t hW))
 clear hT' T' CMH
 by_cases h0 : d.2.e = 0
 · have hb0 : (d.2.e != 0) = false := by simp [h0]
   have H0 := Lib.hid h0
   clear h0
   go_upto_region 3 with (go_at_call 69; (with_reducible refine CR.out.mono ?_); rintro e w7 ⟨rfl, hB, hk⟩; have K7 := Lib.hid hB; have HK7 := Lib.hid hk; clear hB hk)
   obtain ⟨T2, R2, hk, ht, hr⟩ := HK7.out H0.out
   have KW7 := Lib.hid hk
   have HTR := Lib.hid (And.intro ht hr)
   clear hk ht hr HK7
   go_upto_region 5 with fail
   have hz : x4.drew.heap.size = w.heap.size + 1 + 1 + 1 + 1 := HZ4.out
   have KWd := Lib.hid (KW7.out.step (W' := w7.drew) (below_drewN w7 1))
   have K7d := Lib.hid (K7.out.step (W' := w7.drew) (below_drewN w7 1))
   refine wp_region_ord (fun w' => w'.heap[w5.heap.size]? = some (.cells (wcs T2 x mv R2) 131 (0, 0))) [(0, true), (1, true), (2, true), (3, true), (4, true), (5, true), (6, true), (7, true), (8, false), (9, false)] (by kernel_rfl) (by kernel_rfl) (by kernel_rfl) KWd.out.box (fun d _ _ _ _ h => by cases d <;> exact h) ?_
   iterate 3 refine ord_pure ?_
   refine ord_pure (v := T2.val) (hy := yieldsIf_load_mid (by rfl) 31 _ rfl w5.heap.size 0 rfl (Th.enc T2) _ (fun w h => mid_range h 0 _ rfl) Tryz.underlying31 rfl (by kernel_rfl)) ?_
   iterate 3 refine ord_pure ?_
   refine ord_pure (v := R2.val) (hy := yieldsIf_load_mid (by rfl) 71 _ rfl w5.heap.size 12 rfl (Rh.enc R2) _ (fun w h => mid_range h 12 _ rfl) Tryz.underlying71 rfl (by kernel_rfl)) ?_
   have ne1 : w5.heap.size ≠ w.heap.size + 1 + 1 := by have := HB5.out.size; omega
   have ne2 : w5.heap.size ≠ w.heap.size + 1 + 1 + 1 := by have := HB5.out.size; omega
   have HN := Lib.hid (And.intro ne1 ne2)
   have HZ := Lib.hid hz
   clear ne1 ne2 hz
   refine ord_eff (by rfl) (fun K hK => ?_)
   refine wp_store_row 31 _ _ rfl (w.heap.size + 1 + 1) (Th.enc T2).toArray rfl rfl 31 zT (K7d.out.at 1 rfl).out (by kernel_rfl) rfl (by simp [Th.enc, Value.oneCell']) ?_
   refine hK.out _ _ ((setRow_other _ _ _ _ HN.out.1).trans KWd.out.box) ?_
   clear hK K
   have K8 := Lib.hid (K7d.out.row 1 rfl (Th.enc T2).toArray)
   refine ord_eff (by rfl) (fun K hK => ?_)
   refine wp_store_row 71 _ _ rfl (w.heap.size + 1 + 1 + 1) (Rh.enc R2).toArray rfl rfl 71 zR (K8.out.at 0 rfl).out (by kernel_rfl) rfl (by simp [Rh.enc, Value.oneCell']) ?_
   refine hK.out _ _ ((setRow_other _ _ _ _ HN.out.2).trans ((setRow_other _ _ _ _ HN.out.1).trans KWd.out.box)) ?_
   clear hK K
   have K9 := Lib.hid (K8.out.row 0 rfl (Rh.enc R2).toArray)
   refine ord_nil ?_
   have hs := two_rows (W := w7.drew) (m := x4.drew.heap.size) (a := w.heap.size + 1 + 1) (b := w.heap.size + 1 + 1 + 1) (by have := HZ.out; omega) (by have := HZ.out; omega) (Th.enc T2).toArray (Rh.enc R2).toArray
   have hsz : w7.drew.heap.size ≤ ((w7.drew.setRow (w.heap.size + 1 + 1) (Th.enc T2).toArray).setRow (w.heap.size + 1 + 1 + 1) (Rh.enc R2).toArray).heap.size := by simp
   have HT9 := Lib.hid (KWd.out.tok.agree KWd.out.inn hs hsz)
   have HR9 := Lib.hid (show R2.ok ((w7.drew.setRow (w.heap.size + 1 + 1) (Th.enc T2).toArray).setRow (w.heap.size + 1 + 1 + 1) (Rh.enc R2).toArray) from
    ⟨KWd.out.rep.1.names.agree (KWd.out.rep.2.names.mono fun _ k => k.1) hs hsz, KWd.out.rep.1.body.agree (KWd.out.rep.2.body.mono fun _ k => k.1) hs hsz, KWd.out.rep.1.node.agree (KWd.out.rep.2.node.mono fun _ k => k.1) hs hsz⟩)
   clear hs hsz
   generalize (w7.drew.setRow (w.heap.size + 1 + 1) (Th.enc T2).toArray).setRow (w.heap.size + 1 + 1 + 1) (Rh.enc R2).toArray = w9 at *
   go_wp2
   refine bodyPost_ret (ret_td rfl _ _ (w.heap.size + 1 + 1) (w.heap.size + 1 + 1 + 1) T2 R2 rfl rfl (K9.out.at 1 rfl).out (K9.out.at 0 rfl).out) rfl ?_
   exact ⟨T2, R2, rfl, HT9.out, HR9.out, HTR.out.1, HTR.out.2, K9.out.low.out⟩
 · have hb0 : (d.2.e != 0) = true := by simp [h0]
   have H0 := Lib.hid h0
   clear h0
   go_upto_region 3 with (go_at_call 69; (with_reducible refine CR.out.mono ?_); rintro e w7 ⟨rfl, hB, hk⟩; have K7 := Lib.hid hB; clear hB hk)
   have CLb := Lib.hid (CL.out _ K7.out.low.out)
   go_wp2_with (first | (with_reducible refine load_tr rfl _ rfl (w.heap.size) rfl T (box_range (K7.out.at 3 rfl).out) ?_) | (go_at_call 68; (with_reducible refine CLb.out.mono ?_); rintro e w8 ⟨hb8, A3, c3, A6, c6, hs3, rfl, hO⟩; have HB8 := Lib.hid hb8; have HO8 := Lib.hid hO; clear hb8 hO; have K8 := Lib.hid (K7.out.step HB8.out)) | (with_reducible refine store_tr rfl _ _ rfl (w.heap.size + 1 + 1) rfl ⟨A3, T.n, c3, hs3, T.next, A6, T.on, c6, T.opens⟩ rfl zT (K8.out.at 1 rfl).out rfl ?_) | (with_reducible refine store_rp rfl _ _ rfl (w.heap.size + 1 + 1 + 1) rfl (Rh.num d.2.e 0) rfl zR ((K8.out.row 1 rfl _).at 0 rfl).out rfl ?_))
   have K9 := Lib.hid ((K8.out.row 1 rfl (Th.enc ⟨A3, T.n, c3, hs3, T.next, A6, T.on, c6, T.opens⟩).toArray).row 0 rfl (Rh.enc (Rh.num d.2.e 0)).toArray)
   have hs := two_rows (W := w8) (m := w7.heap.size) (a := w.heap.size + 1 + 1) (b := w.heap.size + 1 + 1 + 1) (K7.out.lt 1 rfl) (K7.out.lt 0 rfl) (Th.enc ⟨A3, T.n, c3, hs3, T.next, A6, T.on, c6, T.opens⟩).toArray (Rh.enc (Rh.num d.2.e 0)).toArray
   have HT9 := Lib.hid (HO8.out.tok.agree HO8.out.inn hs (by simp))
   clear hs
   refine bodyPost_ret (ret_td rfl _ _ (w.heap.size + 1 + 1) (w.heap.size + 1 + 1 + 1) ⟨A3, T.n, c3, hs3, T.next, A6, T.on, c6, T.opens⟩ (Rh.num d.2.e 0) rfl rfl (K9.out.at 1 rfl).out (K9.out.at 0 rfl).out) rfl ?_
   refine ⟨_, _, rfl, HT9.out, Rh.num_ok _ _ _, ?_, ?_, K9.out.low.out⟩
   · rw [HO8.out.t, HD.out H0.out]
   · rw [HD.out H0.out]
     rfl
end Go.Proofs.YtemgejblnionlaaGreatDoor
namespace Go.Proofs.YtemgejblnionlaaGreatDoor
open Go.RowKit Go.Maps
set_option maxHeartbeats 16000000
set_option maxRecDepth 100000
theorem keyedW : Keyed Tryz.prog 3 := int_keyed Tryz.underlying3
abbrev heldF (v : Value) : Option (DataW Value × List MemPlace) := some (.held v, [])
theorem zeroFn (w : World) : (zeroValue 169).run Tryz.prog w = .ok (.nilFunc) w := by kernel_rfl
theorem key_w {x : Int} (h : (Lit.int .i64 x).wf = true) : keyOf Tryz.prog 3 (.int .i64 x) = some (.int .i64 x) := by
 simp [keyOf, mapKey, Tryz.underlying3, h]
def FnM (w : World) (g n : Nat) (F : Int → Option Value) : Prop :=
 ∃ D : DataW Value, w.ownsMap Tryz.prog 3 heldF g n D ∧ IsMap D ∧ ∀ x : Int, (Lit.int .i64 x).wf = true → D.atKey (.int .i64 x) (.held (.nilFunc)) = .held ((F x).getD (.nilFunc)) ∧ Maps.has D (.int .i64 x) = (F x).isSome
section
variable {w w' : World} {g n : Nat} {F : Int → Option Value}
theorem FnM.made (w : World) : FnM (w.alloc (.map #[] 0)) w.heap.size 0 (fun _ => none) := ⟨.map [], World.ownsMap_made _ _ _ _, isMap_empty, fun _ _ => ⟨rfl, rfl⟩⟩
theorem FnM.look_ok (h : FnM w g n F) {x : Int} (h0 : (Lit.int .i64 x).wf = true) : (Instr.lookup 171 (.map (some g)) (.int .i64 x) true).run Tryz.prog w = .ok (.tuple #[(F x).getD (.nilFunc), .bool (F x).isSome]) w := by
 obtain ⟨D, hm, h2, h3⟩ := h
 obtain ⟨v, ps, hrun, hv⟩ := hm.look_ok keyedW Tryz.underlying171 (zeroFn w) (zd := .held (.nilFunc)) (zp := []) rfl (key_w h0)
 rw [(h3 x h0).1] at hv
 injection hv with hv
 injection hv with hv _
 injection hv with hv
 rw [hrun, hv, (h3 x h0).2]
theorem FnM.update (h : FnM w g n F) (hn : n < maxLen) {x : Int} (h0 : (Lit.int .i64 x).wf = true) (v : Value) :
 ∃ w', (Instr.mapUpdate 171 (.map (some g)) (.int .i64 x) v).run Tryz.prog w = .ok () w' ∧ FnM w' g (n + 1) (fun y => if y = x then some v else F y) ∧ w.grownBy w' (some g) := by
 obtain ⟨D, hm, h2, h3⟩ := h
 obtain ⟨w', hrun, hown, hg⟩ := hm.update keyedW Tryz.underlying171 hn (key_w h0) (val := v) (d := .held v) (ps := []) rfl
 refine ⟨w', hrun, ⟨_, hown, h2.put _ _, fun y y0 => ?_⟩, hg⟩
 by_cases e : y = x
 · subst e
   rw [atKey_put_same h2 (show WideAt.IsKeyLit (.int .i64 y) from trivial), has_put_same h2 (show WideAt.IsKeyLit (.int .i64 y) from trivial)]; simp
 · have hne : (Lit.int .i64 y) ≠ .int .i64 x := fun e' => e (by injection e')
   rw [atKey_put_other hne, has_put_other hne, (h3 y y0).1, (h3 y y0).2]; simp [e]
end
def methF : Int → Option Value := fun y => if y = 16 then some (.func (.func 159) #[] #[]) else if y = 15 then some (.func (.func 158) #[] #[]) else if y = 14 then some (.func (.func 157) #[] #[]) else if y = 13 then some (.func (.func 156) #[] #[]) else if y = 12 then some (.func (.func 155) #[] #[]) else if y = 11 then some (.func (.func 154) #[] #[]) else if y = 10 then some (.func (.func 153) #[] #[]) else if y = 9 then some (.func (.func 152) #[] #[]) else if y = 8 then some (.func (.func 151) #[] #[]) else if y = 7 then some (.func (.func 150) #[] #[]) else if y = 6 then some (.func (.func 149) #[] #[]) else if y = 5 then some (.func (.func 148) #[] #[]) else if y = 4 then some (.func (.func 147) #[] #[]) else if y = 3 then some (.func (.func 146) #[] #[]) else if y = 2 then some (.func (.func 145) #[] #[]) else if y = 1 then some (.func (.func 144) #[] #[]) else none
theorem methods_any (w : World) : Calls Tryz.prog 112 #[] w fun e w' => ∃ g, e = .returned (.map (some g)) ∧ FnM w' g 16 methF ∧ Below w.heap.size w w' := by
 have M0 := FnM.made w
 have hb0 : Below w.heap.size w (w.alloc (.map #[] 0)) := (Below.refl _ w).alloc (Nat.le_refl _) _
 obtain ⟨y1, r1, M1, q1⟩ := M0.update (x := 1) (by decide +kernel) (by decide +kernel) (.func (.func 144) #[] #[])
 have hb1 := hb0.grown q1 (Below.size hb0) (fun k e => by cases e; exact Nat.le_refl _)
 obtain ⟨y2, r2, M2, q2⟩ := M1.update (x := 2) (by decide +kernel) (by decide +kernel) (.func (.func 145) #[] #[])
 have hb2 := hb1.grown q2 (Below.size hb1) (fun k e => by cases e; exact Nat.le_refl _)
 obtain ⟨y3, r3, M3, q3⟩ := M2.update (x := 3) (by decide +kernel) (by decide +kernel) (.func (.func 146) #[] #[])
 have hb3 := hb2.grown q3 (Below.size hb2) (fun k e => by cases e; exact Nat.le_refl _)
 obtain ⟨y4, r4, M4, q4⟩ := M3.update (x := 4) (by decide +kernel) (by decide +kernel) (.func (.func 147) #[] #[])
 have hb4 := hb3.grown q4 (Below.size hb3) (fun k e => by cases e; exact Nat.le_refl _)
 obtain ⟨y5, r5, M5, q5⟩ := M4.update (x := 5) (by decide +kernel) (by decide +kernel) (.func (.func 148) #[] #[])
 have hb5 := hb4.grown q5 (Below.size hb4) (fun k e => by cases e; exact Nat.le_refl _)
 obtain ⟨y6, r6, M6, q6⟩ := M5.update (x := 6) (by decide +kernel) (by decide +kernel) (.func (.func 149) #[] #[])
 have hb6 := hb5.grown q6 (Below.size hb5) (fun k e => by cases e; exact Nat.le_refl _)
 obtain ⟨y7, r7, M7, q7⟩ := M6.update (x := 7) (by decide +kernel) (by decide +kernel) (.func (.func 150) #[] #[])
 have hb7 := hb6.grown q7 (Below.size hb6) (fun k e => by cases e; exact Nat.le_refl _)
 obtain ⟨y8, r8, M8, q8⟩ := M7.update (x := 8) (by decide +kernel) (by decide +kernel) (.func (.func 151) #[] #[])
 have hb8 := hb7.grown q8 (Below.size hb7) (fun k e => by cases e; exact Nat.le_refl _)
 obtain ⟨y9, r9, M9, q9⟩ := M8.update (x := 9) (by decide +kernel) (by decide +kernel) (.func (.func 152) #[] #[])
 have hb9 := hb8.grown q9 (Below.size hb8) (fun k e => by cases e; exact Nat.le_refl _)
 obtain ⟨y10, r10, M10, q10⟩ := M9.update (x := 10) (by decide +kernel) (by decide +kernel) (.func (.func 153) #[] #[])
 have hb10 := hb9.grown q10 (Below.size hb9) (fun k e => by cases e; exact Nat.le_refl _)
 obtain ⟨y11, r11, M11, q11⟩ := M10.update (x := 11) (by decide +kernel) (by decide +kernel) (.func (.func 154) #[] #[])
 have hb11 := hb10.grown q11 (Below.size hb10) (fun k e => by cases e; exact Nat.le_refl _)
 obtain ⟨y12, r12, M12, q12⟩ := M11.update (x := 12) (by decide +kernel) (by decide +kernel) (.func (.func 155) #[] #[])
 have hb12 := hb11.grown q12 (Below.size hb11) (fun k e => by cases e; exact Nat.le_refl _)
 obtain ⟨y13, r13, M13, q13⟩ := M12.update (x := 13) (by decide +kernel) (by decide +kernel) (.func (.func 156) #[] #[])
 have hb13 := hb12.grown q13 (Below.size hb12) (fun k e => by cases e; exact Nat.le_refl _)
 obtain ⟨y14, r14, M14, q14⟩ := M13.update (x := 14) (by decide +kernel) (by decide +kernel) (.func (.func 157) #[] #[])
 have hb14 := hb13.grown q14 (Below.size hb13) (fun k e => by cases e; exact Nat.le_refl _)
 obtain ⟨y15, r15, M15, q15⟩ := M14.update (x := 15) (by decide +kernel) (by decide +kernel) (.func (.func 158) #[] #[])
 have hb15 := hb14.grown q15 (Below.size hb14) (fun k e => by cases e; exact Nat.le_refl _)
 obtain ⟨y16, r16, M16, q16⟩ := M15.update (x := 16) (by decide +kernel) (by decide +kernel) (.func (.func 159) #[] #[])
 have hb16 := hb15.grown q16 (Below.size hb15) (fun k e => by cases e; exact Nat.le_refl _)
 have HM := Lib.hid M16
 have HB := Lib.hid hb16
 clear M0 M1 M2 M3 M4 M5 M6 M7 M8 M9 M10 M11 M12 M13 M14 M15 M16 hb1 q1 hb2 q2 hb3 q3 hb4 q4 hb5 q5 hb6 q6 hb7 q7 hb8 q8 hb9 q9 hb10 q10 hb11 q11 hb12 q12 hb13 q13 hb14 q14 hb15 q15 hb16 q16 hb0
 have hmm := @run_makeMap Tryz.prog
 go_enter Tryz.func112, Tryz.ntmps112
 go_wp2
 go_ret
 exact ⟨_, rfl, HM.out, HB.out⟩
end Go.Proofs.YtemgejblnionlaaGreatDoor
