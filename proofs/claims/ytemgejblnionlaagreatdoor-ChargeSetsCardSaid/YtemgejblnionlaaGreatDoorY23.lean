/-
  Texts QeFh QeFi QeFj QeFk QeFm, put together by program.
-/
import Derived.Test.YtemgejblnionlaaGreatDoorY22
import Derived.Sort.LoopGhostIn
namespace Go.Proofs.YtemgejblnionlaaGreatDoor.Ext
open Go.RowKit Go.Shelf Ex
attribute [local go_sem] Oper.semAt_some
set_option maxHeartbeats 400000
set_option maxRecDepth 100000
def BigN (k : Int) (q : Pc) : Prop := (1 ≤ q.id → q.id < 4096) ∧ 0 ≤ q.fr ∧ q.fr ≤ 1048576 ∧ 1 ≤ q.n ∧ q.n ≤ k * 1048576
theorem addP_big {k : Int} {out : List Pc} {p : Pc} (hk : 0 ≤ k) (h : ∀ q ∈ out, BigN k q) (hp : rightB p = true) : ∀ q ∈ addP out p, BigN (k + 1) q := by
 have hr := right_iff.1 hp
 have up : ∀ q, BigN k q → BigN (k + 1) q := fun q ⟨h1, h2, h3, h4, h5⟩ => ⟨h1, h2, h3, h4, by omega⟩
 have hpB : BigN (k + 1) p := ⟨by omega, by omega, by omega, by omega, by omega⟩
 intro q hq
 unfold addP at hq
 rw [if_neg (by omega)] at hq
 cases hl : out.getLast? with
 | none =>
   rw [hl] at hq
   rcases List.mem_append.1 hq with h1 | h1
   · exact up q (h q h1)
   · rw [List.mem_singleton.1 h1]; exact hpB
 | some r =>
   rw [hl] at hq
   simp only [] at hq
   have hsp := last_split hl
   by_cases ho : oneB r p = true
   · rw [if_pos ho] at hq
     rcases List.mem_append.1 hq with h1 | h1
     · exact up q (h q (by rw [hsp]; exact List.mem_append_left _ h1))
     · rw [List.mem_singleton.1 h1]
       obtain ⟨h1, h2, h3, h4, h5⟩ := h r (by rw [hsp]; simp)
       exact ⟨h1, h2, h3, by simp only []; omega, by simp only []; omega⟩
   · rw [if_neg ho] at hq
     rcases List.mem_append.1 hq with h1 | h1
     · exact up q (h q h1)
     · rw [List.mem_singleton.1 h1]; exact hpB
theorem norm_bigN : ∀ (l out : List Pc) (k : Int), 0 ≤ k → (∀ q ∈ out, BigN k q) → (∀ p ∈ l, rightB p = true) → ∀ q ∈ l.foldl addP out, BigN (k + l.length) q
 | [], out, k, _, h, _ => by simpa using h
 | p :: l, out, k, hk, h, hp => by
   have := norm_bigN l (addP out p) (k + 1) (by omega) (addP_big hk h (hp p (by simp))) (fun q hq => hp q (by simp [hq]))
   intro q hq
   have h2 := this q hq
   rwa [show k + 1 + (l.length : Int) = k + ((p :: l).length : Int) by simp; omega] at h2
theorem norm_big {l : List Pc} (hp : ∀ p ∈ l, rightB p = true) (hl : l.length ≤ 4294967295) : ∀ q ∈ normL l, Big q := fun q hq => by
 obtain ⟨h1, h2, h3, h4, h5⟩ := norm_bigN l [] 0 (Int.le_refl _) (fun _ h => by cases h) hp q hq
 exact ⟨h1, h2, h3, h4, by omega⟩
abbrev markOf (D : Nat) : Deferred := { target := .collected D, args := #[] }
def Marked (base : Nat) (W : World) (Ds : List Nat) : Prop := Ds.Nodup ∧ ∀ D ∈ Ds, base ≤ D ∧ W.heap[D]? = some (.deferred (some []))
theorem Marked.nil (base : Nat) (W : World) : Marked base W [] := ⟨List.nodup_nil, fun _ h => by cases h⟩
theorem Marked.keeps {base : Nat} {W W' : World} {Ds : List Nat} (h : Marked base W Ds) (hk : KeepsOthers W W') : Marked base W' Ds := ⟨h.1, fun D hD => ⟨(h.2 D hD).1, hk.same D _ (h.2 D hD).2 rfl⟩⟩
theorem Marked.lt {base : Nat} {W : World} {Ds : List Nat} (h : Marked base W Ds) : ∀ D ∈ Ds, D < W.heap.size := fun D hD => (Array.getElem?_eq_some_iff.1 (h.2 D hD).2).1
theorem Marked.cons {base B : Nat} {W : World} {Ds : List Nat} {D : Nat} (h : Marked base W Ds) (hlt : ∀ D ∈ Ds, D < B) (hD : B ≤ D) (hb : base ≤ B) (hk : W.heap[D]? = some (.deferred (some []))) : Marked base W (D :: Ds) :=
 ⟨List.nodup_cons.2 ⟨fun hm => by have := hlt D hm; omega, h.1⟩, fun E hE => by
  rcases List.mem_cons.1 hE with rfl | hE
  · exact ⟨Nat.le_trans hb hD, hk⟩
  · exact h.2 E hE⟩
theorem marked_own {β : Type} {base B : Nat} {Ds : List Nat} (hlt : ∀ D ∈ Ds, D < B) : OwnFrom B (fun (_ : β) W => Marked base W Ds) := fun _ W W' row hs hg hr =>
 ⟨hs.1, fun D hD => ⟨(hs.2 D hD).1, (hg.block D (hs.lt D hD) (fun e => by have := (hr D e.symm).1; have := hlt D hD; omega)).trans (hs.2 D hD).2⟩⟩
theorem leaves_marked {F : Fence} {n : Nat} {P : Program} {fn : Func} {tmps : Array Value} {R : Ending → World → Prop} {base : Nat} (Q : World → Prop)
 (hQ : ∀ W D, Q W → base ≤ D → W.heap[D]? = some (.deferred (some [])) → Q (W.putObj D (.deferred none))) (hend : ∀ W, Q W → LeavesInM F n P fn tmps R [] .returning W) :
 ∀ (Ds : List Nat) (W : World), Marked base W Ds → Q W → LeavesInM F n P fn tmps R (Ds.map markOf) .returning W
 | [], W, _, hq => hend W hq
 | D :: Ds, W, hm, hq => by
   obtain ⟨hb, hk⟩ := hm.2 D (by simp)
   have hn := List.nodup_cons.1 hm.1
   refine ⟨by simp, .inl ⟨D, _, rfl, run_takeDeferred hk, leaves_marked Q hQ hend Ds _ ⟨hn.2, fun E hE => ?_⟩ (hQ W D hq hb hk)⟩⟩
   obtain ⟨h1, h2⟩ := hm.2 E (by simp [hE])
   exact ⟨h1, (World.putObj_heap_other (fun e => hn.1 (by rw [← e]; exact hE))).trans h2⟩
theorem holds_own {β : Type} (n₀ B : Nat) (t e : TypeId) (size : Nat) (f : β → List Value) : Own (fun s W => ∃ A m c, Boxed W B t (.slice A m c) ∧ W.ownsRow n₀ e size (.slice A m c) m (f s)) := by
 rintro s X Y row ⟨A, m, c, hv, hr⟩ hg hrow
 refine ⟨A, m, c, hv.kept hg (fun e' => ?_), hr.kept hg ?_⟩
 · obtain ⟨o, ho, hc⟩ := hrow B e'.symm
   rw [show X.heap[B]? = _ from hv] at ho; cases ho; cases hc
 · rcases hr.2 with ⟨h0, _⟩ | ⟨g, cap, cur, h0, _, hgb, _⟩
   · rw [h0]; exact .inl rfl
   · refine .inr fun e' => ?_
     rw [h0] at e'
     obtain ⟨o, ho, hc⟩ := hrow g (by simpa [Value.ownBlock] using e'.symm)
     rw [hgb] at ho; cases ho; cases hc
def Vals (w : World) (A : Option Addr) (vs : List Value) : Prop := ∀ (j : Nat) (v : Value), vs[j]? = some v → ∃ g o, A = some ⟨g, o, none⟩ ∧ w.cell? ⟨g, o + j, none⟩ = some v
theorem Vals.below {w w' : World} {A : Option Addr} {vs : List Value} (h : Vals w A vs) (hb : Below w.heap.size w w') : Vals w' A vs := fun j v hj => by
 obtain ⟨g, o, hA, hc⟩ := h j v hj
 exact ⟨g, o, hA, (hb.cell (block_lt_of_cell hc)).trans hc⟩
theorem join_c (base : Nat) (A : Option Addr) (m c : Nat) (O : List Pc) (x : Rp) (hO : ∀ q ∈ O, Big q) (hm : m ≤ 1099511627776) (w : World) (hbs : base ≤ w.heap.size)
 (hown : w.ownsRow base 126 3 (.slice A m c) m (ints (flat3 O))) :
 Calls Tryz.prog 264 #[.slice A m c, .agg #[.int .i64 x.1.id, .int .i64 x.1.fr, .int .i64 x.1.n]] w fun e w' => ∃ A' m' c', e = .returned (.slice A' m' c') ∧ w'.ownsRow base 126 3 (.slice A' m' c') m' (ints (flat3 (addP O x.1))) ∧ Below base w w' ∧ KeepsOthers w w' ∧ w.grownBy w' (Value.slice A m c).ownBlock :=
 join_any base A m c O x.1 x.2 hO hm w hbs hown
def flatR (rs : List (Value × List Pc)) : List Pc := (rs.map (·.2)).flatten
theorem flatR_take {rs : List (Value × List Pc)} {j : Nat} {v : Value} {ps : List Pc} (h : rs[j]? = some (v, ps)) : flatR (rs.take (j + 1)) = flatR (rs.take j) ++ ps := by
 obtain ⟨hj, he⟩ := List.getElem?_eq_some_iff.1 h
 unfold flatR
 rw [List.take_succ_eq_append_getElem hj, he]
 simp
theorem flatR_len (rs : List (Value × List Pc)) (j : Nat) : (flatR (rs.take j)).length ≤ (flatR rs).length := by
 have : flatR rs = flatR (rs.take j) ++ flatR (rs.drop j) := by
  unfold flatR
  rw [← List.flatten_append, ← List.map_append, List.take_append_drop]
 rw [this, List.length_append]
 omega
set_option maxHeartbeats 8000000 in
theorem fold_any (w : World) (A : Option Addr) (k0 c : Nat) (rs : List (Value × List Pc)) (hlen : rs.length = k0) (hk0 : k0 ≤ 100) (hV : Vals w A (rs.map (·.1))) (hG : ∀ r ∈ rs, Gives w r.1 r.2) (hN : (flatR rs).length ≤ 4294967295) :
 Calls Tryz.prog 263 #[.slice none 0 0, .func (.func 264) #[] #[], .slice A k0 c] w fun e w' => ∃ A' m c', e = .returned (.slice A' m c') ∧ w'.ownsRow w.heap.size 126 3 (.slice A' m c') m (ints (flat3 (normL (flatR rs)))) ∧ Below w.heap.size w w' := by
 have HV := Lib.hid hV
 have HG := Lib.hid hG
 clear hV hG
 refine (callsIn_wide (n := 9)).1 ?_
 have h53 : Fence.wide.fn 263 := trivial
 refine callsIn_of_wp_marks Tryz.func263 rfl h53 ?_ rfl
 simp only [Tryz.ntmps263, List.size_toArray, List.length_cons, List.length_nil, Nat.reduceAdd, Nat.reduceSub, Array.replicate_succ, Array.replicate_zero, List.push_toArray, List.append_toArray, List.nil_append, List.cons_append]
 gi_wp2
 have bM := (Boxed.new w 63 (.slice none 0 0)).alloc (.cells #[.func (.func 264) #[] #[]] 302)
 have bF := Boxed.new (w.alloc (.cells #[.slice none 0 0] 63)) 302 (.func (.func 264) #[] #[])
 simp only [World.size_alloc] at bF
 have hB0 : Below w.heap.size w ((w.alloc (.cells #[.slice none 0 0] 63)).alloc (.cells #[.func (.func 264) #[] #[]] 302)) := ((Below.refl _ w).alloc (Nat.le_refl _) _).alloc (by simp) _
 obtain ⟨W0, hW0⟩ : ∃ X, (w.alloc (.cells #[.slice none 0 0] 63)).alloc (.cells #[.func (.func 264) #[] #[]] 302) = X := ⟨_, rfl⟩
 rw [hW0] at bM bF hB0 ⊢
 clear hW0
 refine wpIn_loop_ghost_k (fun gk a W => ∃ (j : Nat) (Ds : List Nat) (u8 u13 u14 u15 u16 u22 : Value), gk + j = k0 + 1 ∧ j ≤ k0 ∧
  a = { tmps := #[.slice none 0 0, .func (.func 264) #[] #[], .slice A k0 c, .pointer (some ⟨w.heap.size, 0, none⟩), .pointer (some ⟨w.heap.size + 1, 0, none⟩), undef, .slice none 0 0, undef, u8, undef, .slice A k0 c, .int .i64 k0, .int .i64 j, u13, u14, u15, u16, undef, undef, undef, undef, undef, u22, undef], defers := Ds.map markOf } ∧
  Boxed W (w.heap.size + 1) 302 (.func (.func 264) #[] #[]) ∧ (∃ A' m c', Boxed W w.heap.size 63 (.slice A' m c') ∧ W.ownsRow w.heap.size 126 3 (.slice A' m c') m (ints (flat3 (normL (flatR (rs.take j)))))) ∧ Below w.heap.size w W ∧ Marked w.heap.size W Ds) (k0 + 1) ?start ?round
 case start => exact ⟨0, [], undef, undef, undef, undef, undef, undef, rfl, Nat.zero_le _, rfl, bF, ⟨none, 0, 0, bM, World.ownsRow_nil _ _ _ _⟩, hB0, Marked.nil _ _⟩
 case round =>
  rintro gk a W ⟨j, Ds, u8, u13, u14, u15, u16, u22, hgk, hj, rfl, bF1, ⟨A', m, c', bM1, hown⟩, hB1, hM⟩ J K hJ hK
  have HJ := Lib.hid hJ
  have HK := Lib.hid hK
  clear hJ hK
  by_cases hlt : j < k0
  · have hjl : j < rs.length := by rw [hlen]; exact hlt
    have hg : rs[j]? = some rs[j] := List.getElem?_eq_getElem hjl
    obtain ⟨⟨v, ps⟩, hr⟩ : ∃ r, rs[j] = r := ⟨_, rfl⟩
    rw [hr] at hg
    obtain ⟨gf, lb, ys, hv, heg, hys, hseq⟩ := HG.out _ (List.mem_of_getElem? hg)
    simp only [] at hv hys
    obtain ⟨g, o, hA, hcell⟩ := HV.out j v (by rw [List.getElem?_map, hg]; rfl)
    subst hv
    subst hA
    have hcj := (hB1.cell (block_lt_of_cell hcell)).trans hcell
    have hft := flatR_take hg
    have hle := flatR_len rs (j + 1)
    rw [hft, List.length_append] at hle
    have jn : (j : Int) < (k0 : Int) := Int.ofNat_lt.2 hlt
    have j0 : (0 : Int) ≤ (j : Int) := Int.natCast_nonneg j
    have hlen2 : (flatR (rs.take j)).length + ys.length ≤ 4294967295 := by rw [← vals_len ys, hys]; omega
    obtain ⟨done, hdone⟩ : ∃ d, flatR (rs.take j) = d := ⟨_, rfl⟩
    rw [hdone] at hown hft hlen2
    have HFT := Lib.hid hft
    have HYS := Lib.hid hys
    have hrd : ∀ p ∈ done, rightB p = true := by
     rw [← hdone]
     intro p hp
     unfold flatR at hp
     obtain ⟨l, hl, hpl⟩ := List.mem_flatten.1 hp
     obtain ⟨r, hr', rfl⟩ := List.mem_map.1 hl
     obtain ⟨_, _, zs, _, _, hzs, _⟩ := HG.out r (List.mem_of_mem_take hr')
     rw [← hzs] at hpl
     obtain ⟨y, _, rfl⟩ := List.mem_map.1 hpl
     exact y.2
    have HBIG := Lib.hid (fun (pre : List Rp) (h : pre.length < ys.length) => norm_big (l := done ++ vals pre) (fun p hp => by
     rcases List.mem_append.1 hp with h1 | h1
     · exact hrd p h1
     · obtain ⟨y, _, rfl⟩ := List.mem_map.1 h1
       exact y.2) (by rw [List.length_append, vals_len]; omega))
    have HMB := Lib.hid (fun (pre : List Rp) (h : pre.length < ys.length) => show (normL (done ++ vals pre)).length ≤ 1099511627776 from Nat.le_trans (normL_len _) (by rw [List.length_append, vals_len]; omega))
    have HNS := Lib.hid (fun (pre : List Rp) (x : Rp) => show addP (normL (done ++ vals pre)) x.1 = normL (done ++ vals (pre ++ [x])) from by rw [vals_snoc, ← List.append_assoc, normL_snoc])
    have hsz := hB1.size
    have hsz1 : w.heap.size + 1 < W.heap.size := bF1.lt
    have HML := Lib.hid hM.lt
    have HSEQ := Lib.hid (hseq W 8 (by decide) hB1)
    have HEG := Lib.hid heg
    clear hr hg hcell hft hys hdone hrd hle hseq heg hlen2
    gi_wp2
    refine wpIn_rangeFunc_ownH rfl (by decide) (gf := gf) (lb := lb) rfl trivial HEG.out HSEQ.out belowK_t (belowK_b hsz) (Below.refl _ _) (fun _ => rfl)
     (fun pre W' => ((Boxed W' (w.heap.size + 1) 302 (.func (.func 264) #[] #[]) ∧ (∃ A' m c', Boxed W' w.heap.size 63 (.slice A' m c') ∧ W'.ownsRow w.heap.size 126 3 (.slice A' m c') m (ints (flat3 (normL (done ++ vals pre)))))) ∧ Below w.heap.size w W') ∧ Marked w.heap.size W' Ds)
     (fun _ _ _ => False)
     (OwnFrom.and (OwnFrom.and (OwnFrom.and (Own.from (boxed_own _ _ _) _) (Own.from (holds_own _ _ _ _ _ _) _)) (ownFrom_below (Nat.le_refl _) hsz)) (marked_own HML.out))
     (fun _ _ _ _ _ hs _ _ => hs)
     ⟨⟨⟨bF1, ⟨A', m, c', bM1, by simpa [vals] using hown⟩⟩, hB1⟩, hM⟩
     (fun x a' W' => ∃ Bx, w.heap.size + 1 < Bx ∧ W'.heap[Bx]? = some (.cells #[.int .i64 x.1.id, .int .i64 x.1.fr, .int .i64 x.1.n] 126 (0, 0)) ∧ a' = { tmps := #[.slice none 0 0, .func (.func 264) #[] #[], .slice (some ⟨g, o, none⟩) k0 c, .pointer (some ⟨w.heap.size, 0, none⟩), .pointer (some ⟨w.heap.size + 1, 0, none⟩), undef, .slice none 0 0, undef, .func (.func gf) #[] lb, .pointer (some ⟨Bx, 0, none⟩), .slice (some ⟨g, o, none⟩) k0 c, .int .i64 k0, .int .i64 j, .bool true, .pointer (some ⟨g, o + j, none⟩), .func (.func gf) #[] lb, .func (.func gf) #[] lb, .agg #[.int .i64 x.1.id, .int .i64 x.1.fr, .int .i64 x.1.n], undef, undef, undef, undef, u22, undef], defers := [] })
     (fun x a' _ X Y row hs hg hr => by
      obtain ⟨Bx, h1, h2, h3⟩ := hs
      refine ⟨Bx, h1, (hg.block Bx (Array.getElem?_eq_some_iff.1 h2).1 (fun e => ?_)).trans h2, h3⟩
      obtain ⟨_, o', ho, hc⟩ := hr Bx e.symm
      rw [h2] at ho; cases ho; cases hc)
     ?assign ?body ?done ?stop
    case assign =>
     rintro l pre x W' K' ⟨⟨⟨bF2, ⟨A2, m2, c2, bM2, hown2⟩⟩, hB2⟩, hM2⟩ hK'
     have HK' := Lib.hid hK'
     clear hK'
     gi_wp2
     exact HK'.out _ _ ((KeepsOthers.alloc _ _).from _) ((Below.refl _ W').alloc hB2.size _) ⟨⟨⟨bF2.alloc _, ⟨A2, m2, c2, bM2.alloc _, hown2.alloc _⟩⟩, hB2.alloc hB2.size _⟩, hM2.keeps (KeepsOthers.alloc _ _)⟩ ⟨W'.heap.size, bF2.lt, World.alloc_heap_new W' _, rfl⟩
    case body =>
     rintro l pre x a' W' hl ⟨r, hr⟩ ⟨⟨⟨bF2, ⟨A2, m2, c2, bM2, hown2⟩⟩, hB2⟩, hM2⟩ ⟨Bx, hBx, bX, rfl⟩ hpl
     have cF := bF2.cell
     have cM := bM2.cell
     have fM := bM2.frozen
     have x0 := cell_of_row W' Bx 0 _ _ _ bX
     have x1 := cell_of_row W' Bx 1 _ _ _ bX
     have x2 := cell_of_row W' Bx 2 _ _ _ bX
     replace x0 : W'.cell? ⟨Bx, 0, none⟩ = some (.int .i64 x.1.id) := x0
     replace x1 : W'.cell? ⟨Bx, 1, none⟩ = some (.int .i64 x.1.fr) := x1
     replace x2 : W'.cell? ⟨Bx, 2, none⟩ = some (.int .i64 x.1.n) := x2
     have hml := own_plen hown2
     have hmb := HMB.out pre hpl
     have CJ := Lib.hid (join_c w.heap.size A2 m2 c2 _ x (HBIG.out pre hpl) (by omega) W' hB2.size hown2)
     have HO2 := Lib.hid hown2
     have HB2 := Lib.hid hB2
     have HM2 := Lib.hid hM2
     have HM := Lib.hid (fun (w1 : World) (hg : W'.grownBy w1 (Value.slice A2 m2 c2).ownBlock) => show Boxed w1 w.heap.size 63 (.slice A2 m2 c2) ∧ Boxed w1 (w.heap.size + 1) 302 (.func (.func 264) #[] #[]) from ⟨bM2.kept hg (bM2.not_row (by decide) hown2), bF2.kept hg (bF2.not_row (by decide) hown2)⟩)
     have hbw2 := hB2.size
     clear hown2 hB2 hM2 hml hmb bX
     gi_wp2_with ((refine ⟨trivial, ?_⟩); gi_at_call 264; refine (CallsIn.inRound l (callsIn_wide.2 CJ.out)).mono ?_; rintro e w1 ⟨A3, m3, c3, rfl, hown3, hb3, hk3, hg3⟩; obtain ⟨hbm, hbf⟩ := HM.out w1 hg3; have cM1 := hbm.cell; have fM1 := hbm.frozen; clear cM fM)
     refine ⟨(hk3.trans (KeepsOthers.setCell _ _ _)).from _, hb3.setCell (p := ⟨w.heap.size, 0, none⟩) (Nat.le_refl _) _, ⟨⟨hbf.other (by omega) _, ⟨A3, m3, c3, hbm.set _, ?_⟩⟩, (HB2.out.trans hb3).setCell (p := ⟨w.heap.size, 0, none⟩) (Nat.le_refl _) _⟩, HM2.out.keeps (hk3.trans (KeepsOthers.setCell _ _ _))⟩
     rw [HNS.out] at hown3
     exact hown3.kept (grownBy_setCell' w1 w.heap.size _) (.inr (hbm.not_row (by decide) hown3).symm)
    case done =>
     rintro D xs W' hD rfl ⟨⟨⟨bF2, ⟨A2, m2, c2, bM2, hown2⟩⟩, hB2⟩, hM2⟩ hKD
     have HD := Lib.hid hD
     have HKD := Lib.hid hKD
     have HO2 := Lib.hid hown2
     have HB2 := Lib.hid hB2
     have HM2 := Lib.hid hM2
     clear hD hKD hown2 hB2 hM2
     gi_wp2
     exact HK.out _ _ (Handed.intro (gk - 1) (by omega) (HJ.out _ _ _ ⟨j + 1, D :: Ds, _, _, _, _, _, _, by omega, by omega, rfl, bF2, ⟨A2, m2, c2, bM2, by rw [HFT.out, ← HYS.out]; exact HO2.out⟩, HB2.out, HM2.out.cons HML.out HD.out hsz HKD.out⟩))
    case stop =>
     rintro D c pre W' _ _ h _
     exact h.elim
  · obtain rfl : j = k0 := by omega
    have hfull : rs.take j = rs := List.take_of_length_le (by omega)
    rw [hfull] at hown
    have HO := Lib.hid hown
    have HM := Lib.hid hM
    have HB := Lib.hid hB1
    have cM := bM1.cell
    clear hown hM hB1 hfull
    gi_wp2
    refine leaves_marked (base := w.heap.size) (fun X => X.ownsRow w.heap.size 126 3 (.slice A' m c') m (ints (flat3 (normL (flatR rs)))) ∧ Below w.heap.size w X)
     (fun X D hX hb hk => ⟨ownsRow_putObj hX.1 _ hk rfl, hX.2.trans (belowK_b (w := w) (Nat.le_refl _) X D _ _ hb hk rfl rfl)⟩)
     (fun X hX => ⟨_, results_tmp rfl _ _ _, _, _, _, rfl, hX.1, hX.2⟩) Ds W HM.out ⟨HO.out, HB.out⟩
theorem joined_any (w : World) (A : Option Addr) (k0 c : Nat) (rs : List (Value × List Pc)) (hlen : rs.length = k0) (hk0 : k0 ≤ 100) (hV : Vals w A (rs.map (·.1))) (hG : ∀ r ∈ rs, Gives w r.1 r.2) (hN : (flatR rs).length ≤ 4294967295) :
 Calls Tryz.prog 233 #[.slice A k0 c] w fun e w' => ∃ A' m c', e = .returned (.slice A' m c') ∧ w'.ownsRow w.heap.size 126 3 (.slice A' m c') m (ints (flat3 (normL (flatR rs)))) ∧ Below w.heap.size w w' := by
 have C := Lib.hid (fold_any w A k0 c rs hlen hk0 hV hG hN)
 clear hV hG hN
 go_enter Tryz.func233, Tryz.ntmps233
 go_wp2_with (go_at_call 263; refine C.out.mono ?_; rintro e w1 ⟨A', m, c', rfl, ho, hb⟩; have HO := Lib.hid ho; clear ho)
 go_ret
 exact ⟨_, _, _, rfl, HO.out, hb⟩
end Go.Proofs.YtemgejblnionlaaGreatDoor.Ext
namespace Go.Proofs.YtemgejblnionlaaGreatDoor.Ext
open Go.RowKit Go.Shelf Ex
attribute [local go_sem] Oper.semAt_some
set_option maxHeartbeats 400000
set_option maxRecDepth 100000
theorem size1_any (n : Int) (p : Pc) (hs : -9223372036854775808 ≤ n + p.n ∧ n + p.n ≤ 9223372036854775807) (w : World) :
 Calls Tryz.prog 96 #[.int .i64 n, .agg #[.int .i64 p.id, .int .i64 p.fr, .int .i64 p.n]] w fun e w' => e = .returned (.int .i64 (n + p.n)) ∧ Below w.heap.size w w' := by
 have hw : IntKind.i64.wrap (n + p.n) = n + p.n := IntWalk.i64_in _ hs
 go_enter Tryz.func96, Tryz.ntmps96
 go_wp2
 go_ret
 exact ⟨rfl, by go_grown⟩
theorem size1_c (n r : Int) (x : Rp) (hr : n + x.1.n = r) (hs : -9223372036854775808 ≤ r ∧ r ≤ 9223372036854775807) (w : World) :
 Calls Tryz.prog 96 #[.int .i64 n, .agg #[.int .i64 x.1.id, .int .i64 x.1.fr, .int .i64 x.1.n]] w fun e w' => e = .returned (.int .i64 r) ∧ Below w.heap.size w w' := by
 subst hr
 exact size1_any n x.1 hs w
theorem sizeL_lim : ∀ {l : List Pc}, (∀ p ∈ l, rightB p = true) → 0 ≤ sizeL l ∧ sizeL l ≤ l.length * 1048576
 | [], _ => by simp [sizeL]
 | p :: l, h => by
   have h1 := sizeL_lim (l := l) (fun q hq => h q (by simp [hq]))
   have h2 := right_iff.1 (h p (by simp))
   simp only [sizeL, List.length_cons]
   push_cast
   omega
set_option maxHeartbeats 8000000 in
theorem foldI_any (w : World) (A : Option Addr) (k0 c : Nat) (rs : List (Value × List Pc)) (hlen : rs.length = k0) (hk0 : k0 ≤ 100) (hV : Vals w A (rs.map (·.1))) (hG : ∀ r ∈ rs, Gives w r.1 r.2) (hN : (flatR rs).length ≤ 4294967295) :
 Calls Tryz.prog 95 #[.int .i64 0, .func (.func 96) #[] #[], .slice A k0 c] w fun e w' => e = .returned (.int .i64 (sizeL (flatR rs))) ∧ Below w.heap.size w w' := by
 have HV := Lib.hid hV
 have HG := Lib.hid hG
 clear hV hG
 refine (callsIn_wide (n := 9)).1 ?_
 have h53 : Fence.wide.fn 95 := trivial
 refine callsIn_of_wp_marks Tryz.func95 rfl h53 ?_ rfl
 simp only [Tryz.ntmps95, List.size_toArray, List.length_cons, List.length_nil, Nat.reduceAdd, Nat.reduceSub, Array.replicate_succ, Array.replicate_zero, List.push_toArray, List.append_toArray, List.nil_append, List.cons_append]
 gi_wp2
 have bM := (Boxed.new w 3 (.int .i64 0)).alloc (.cells #[.func (.func 96) #[] #[]] 148)
 have bF := Boxed.new (w.alloc (.cells #[.int .i64 0] 3)) 148 (.func (.func 96) #[] #[])
 simp only [World.size_alloc] at bF
 have hB0 : Below w.heap.size w ((w.alloc (.cells #[.int .i64 0] 3)).alloc (.cells #[.func (.func 96) #[] #[]] 148)) := ((Below.refl _ w).alloc (Nat.le_refl _) _).alloc (by simp) _
 obtain ⟨W0, hW0⟩ : ∃ X, (w.alloc (.cells #[.int .i64 0] 3)).alloc (.cells #[.func (.func 96) #[] #[]] 148) = X := ⟨_, rfl⟩
 rw [hW0] at bM bF hB0 ⊢
 clear hW0
 refine wpIn_loop_ghost_k (fun gk a W => ∃ (j : Nat) (Ds : List Nat) (u8 u13 u14 u15 u16 u22 : Value), gk + j = k0 + 1 ∧ j ≤ k0 ∧
  a = { tmps := #[.int .i64 0, .func (.func 96) #[] #[], .slice A k0 c, .pointer (some ⟨w.heap.size, 0, none⟩), .pointer (some ⟨w.heap.size + 1, 0, none⟩), undef, .int .i64 0, undef, u8, undef, .slice A k0 c, .int .i64 k0, .int .i64 j, u13, u14, u15, u16, undef, undef, undef, undef, undef, u22, undef], defers := Ds.map markOf } ∧
  Boxed W (w.heap.size + 1) 148 (.func (.func 96) #[] #[]) ∧ Boxed W w.heap.size 3 (.int .i64 (sizeL (flatR (rs.take j)))) ∧ Below w.heap.size w W ∧ Marked w.heap.size W Ds) (k0 + 1) ?start ?round
 case start => exact ⟨0, [], undef, undef, undef, undef, undef, undef, rfl, Nat.zero_le _, rfl, bF, bM, hB0, Marked.nil _ _⟩
 case round =>
  rintro gk a W ⟨j, Ds, u8, u13, u14, u15, u16, u22, hgk, hj, rfl, bF1, bM1, hB1, hM⟩ J K hJ hK
  have HJ := Lib.hid hJ
  have HK := Lib.hid hK
  clear hJ hK
  by_cases hlt : j < k0
  · have hjl : j < rs.length := by rw [hlen]; exact hlt
    have hg : rs[j]? = some rs[j] := List.getElem?_eq_getElem hjl
    obtain ⟨⟨v, ps⟩, hr⟩ : ∃ r, rs[j] = r := ⟨_, rfl⟩
    rw [hr] at hg
    obtain ⟨gf, lb, ys, hv, heg, hys, hseq⟩ := HG.out _ (List.mem_of_getElem? hg)
    simp only [] at hv hys
    obtain ⟨g, o, hA, hcell⟩ := HV.out j v (by rw [List.getElem?_map, hg]; rfl)
    subst hv
    subst hA
    have hcj := (hB1.cell (block_lt_of_cell hcell)).trans hcell
    have hft := flatR_take hg
    have hle := flatR_len rs (j + 1)
    rw [hft, List.length_append] at hle
    have jn : (j : Int) < (k0 : Int) := Int.ofNat_lt.2 hlt
    have j0 : (0 : Int) ≤ (j : Int) := Int.natCast_nonneg j
    have hlen2 : (flatR (rs.take j)).length + ys.length ≤ 4294967295 := by rw [← vals_len ys, hys]; omega
    obtain ⟨done, hdone⟩ : ∃ d, flatR (rs.take j) = d := ⟨_, rfl⟩
    rw [hdone] at bM1 hft hlen2
    have HFT := Lib.hid hft
    have HYS := Lib.hid hys
    have hrd : ∀ p ∈ done, rightB p = true := by
     rw [← hdone]
     intro p hp
     unfold flatR at hp
     obtain ⟨l, hl, hpl⟩ := List.mem_flatten.1 hp
     obtain ⟨r, hr', rfl⟩ := List.mem_map.1 hl
     obtain ⟨_, _, zs, _, _, hzs, _⟩ := HG.out r (List.mem_of_mem_take hr')
     rw [← hzs] at hpl
     obtain ⟨y, _, rfl⟩ := List.mem_map.1 hpl
     exact y.2
    have HLIM := Lib.hid (fun (pre : List Rp) (h : pre.length < ys.length) (x : Rp) => show -9223372036854775808 ≤ sizeL (done ++ vals (pre ++ [x])) ∧ sizeL (done ++ vals (pre ++ [x])) ≤ 9223372036854775807 from by
     have := sizeL_lim (l := done ++ vals (pre ++ [x])) (fun p hp => by
      rcases List.mem_append.1 hp with h1 | h1
      · exact hrd p h1
      · obtain ⟨y, _, rfl⟩ := List.mem_map.1 h1
        exact y.2)
     rw [List.length_append, vals_len, List.length_append] at this
     simp only [List.length_cons, List.length_nil] at this
     omega)
    have HNS := Lib.hid (fun (pre : List Rp) (x : Rp) => show sizeL (done ++ vals pre) + x.1.n = sizeL (done ++ vals (pre ++ [x])) from by
     rw [vals_snoc, ← List.append_assoc, sizeL_append (done ++ vals pre)]
     simp [sizeL])
    have hsz := hB1.size
    have hsz1 : w.heap.size + 1 < W.heap.size := bF1.lt
    have HML := Lib.hid hM.lt
    have HSEQ := Lib.hid (hseq W 8 (by decide) hB1)
    have HEG := Lib.hid heg
    clear hr hg hcell hft hys hdone hrd hle hseq heg hlen2
    gi_wp2
    refine wpIn_rangeFunc_ownH rfl (by decide) (gf := gf) (lb := lb) rfl trivial HEG.out HSEQ.out belowK_t (belowK_b hsz) (Below.refl _ _) (fun _ => rfl)
     (fun pre W' => ((Boxed W' (w.heap.size + 1) 148 (.func (.func 96) #[] #[]) ∧ Boxed W' w.heap.size 3 (.int .i64 (sizeL (done ++ vals pre)))) ∧ Below w.heap.size w W') ∧ Marked w.heap.size W' Ds)
     (fun _ _ _ => False)
     (OwnFrom.and (OwnFrom.and (OwnFrom.and (Own.from (boxed_own _ _ _) _) (Own.from (boxed_own _ _ _) _)) (ownFrom_below (Nat.le_refl _) hsz)) (marked_own HML.out))
     (fun _ _ _ _ _ hs _ _ => hs)
     ⟨⟨⟨bF1, by simpa [vals] using bM1⟩, hB1⟩, hM⟩
     (fun x a' W' => ∃ Bx, w.heap.size + 1 < Bx ∧ W'.heap[Bx]? = some (.cells #[.int .i64 x.1.id, .int .i64 x.1.fr, .int .i64 x.1.n] 126 (0, 0)) ∧ a' = { tmps := #[.int .i64 0, .func (.func 96) #[] #[], .slice (some ⟨g, o, none⟩) k0 c, .pointer (some ⟨w.heap.size, 0, none⟩), .pointer (some ⟨w.heap.size + 1, 0, none⟩), undef, .int .i64 0, undef, .func (.func gf) #[] lb, .pointer (some ⟨Bx, 0, none⟩), .slice (some ⟨g, o, none⟩) k0 c, .int .i64 k0, .int .i64 j, .bool true, .pointer (some ⟨g, o + j, none⟩), .func (.func gf) #[] lb, .func (.func gf) #[] lb, .agg #[.int .i64 x.1.id, .int .i64 x.1.fr, .int .i64 x.1.n], undef, undef, undef, undef, u22, undef], defers := [] })
     (fun x a' _ X Y row hs hg hr => by
      obtain ⟨Bx, h1, h2, h3⟩ := hs
      refine ⟨Bx, h1, (hg.block Bx (Array.getElem?_eq_some_iff.1 h2).1 (fun e => ?_)).trans h2, h3⟩
      obtain ⟨_, o', ho, hc⟩ := hr Bx e.symm
      rw [h2] at ho; cases ho; cases hc)
     ?assign ?body ?done ?stop
    case assign =>
     rintro l pre x W' K' ⟨⟨⟨bF2, bM2⟩, hB2⟩, hM2⟩ hK'
     have HK' := Lib.hid hK'
     clear hK'
     gi_wp2
     exact HK'.out _ _ ((KeepsOthers.alloc _ _).from _) ((Below.refl _ W').alloc hB2.size _) ⟨⟨⟨bF2.alloc _, bM2.alloc _⟩, hB2.alloc hB2.size _⟩, hM2.keeps (KeepsOthers.alloc _ _)⟩ ⟨W'.heap.size, bF2.lt, World.alloc_heap_new W' _, rfl⟩
    case body =>
     rintro l pre x a' W' hl ⟨r, hr⟩ ⟨⟨⟨bF2, bM2⟩, hB2⟩, hM2⟩ ⟨Bx, hBx, bX, rfl⟩ hpl
     have cF := bF2.cell
     have cM := bM2.cell
     have fM := bM2.frozen
     have x0 := cell_of_row W' Bx 0 _ _ _ bX
     have x1 := cell_of_row W' Bx 1 _ _ _ bX
     have x2 := cell_of_row W' Bx 2 _ _ _ bX
     replace x0 : W'.cell? ⟨Bx, 0, none⟩ = some (.int .i64 x.1.id) := x0
     replace x1 : W'.cell? ⟨Bx, 1, none⟩ = some (.int .i64 x.1.fr) := x1
     replace x2 : W'.cell? ⟨Bx, 2, none⟩ = some (.int .i64 x.1.n) := x2
     have CJ := Lib.hid (size1_c _ _ x (HNS.out pre x) (HLIM.out pre hpl x) W')
     have HB2 := Lib.hid hB2
     have HM2 := Lib.hid hM2
     have HM := Lib.hid (fun (w1 : World) (hb : Below W'.heap.size W' w1) => show Boxed w1 w.heap.size 3 (.int .i64 (sizeL (done ++ vals pre))) ∧ Boxed w1 (w.heap.size + 1) 148 (.func (.func 96) #[] #[]) from ⟨bM2.kept (grown_below hb none) (by simp), bF2.kept (grown_below hb none) (by simp)⟩)
     have hbw2 := hB2.size
     clear hB2 hM2 bX
     gi_wp2_with ((refine ⟨trivial, ?_⟩); gi_at_call 96; refine (CallsIn.inRound l (callsIn_wide.2 CJ.out)).mono ?_; rintro e w1 ⟨rfl, hb3⟩; obtain ⟨hbm, hbf⟩ := HM.out w1 hb3; have cM1 := hbm.cell; have fM1 := hbm.frozen; clear cM fM)
     have hk3 := ko_below hb3
     replace hb3 := hb3.mono hbw2
     exact ⟨(hk3.trans (KeepsOthers.setCell _ _ _)).from _, hb3.setCell (p := ⟨w.heap.size, 0, none⟩) (Nat.le_refl _) _, ⟨⟨hbf.other (by omega) _, hbm.set _⟩, (HB2.out.trans hb3).setCell (p := ⟨w.heap.size, 0, none⟩) (Nat.le_refl _) _⟩, HM2.out.keeps (hk3.trans (KeepsOthers.setCell _ _ _))⟩
    case done =>
     rintro D xs W' hD rfl ⟨⟨⟨bF2, bM2⟩, hB2⟩, hM2⟩ hKD
     have HD := Lib.hid hD
     have HKD := Lib.hid hKD
     have HB2 := Lib.hid hB2
     have HM2 := Lib.hid hM2
     clear hD hKD hB2 hM2
     gi_wp2
     exact HK.out _ _ (Handed.intro (gk - 1) (by omega) (HJ.out _ _ _ ⟨j + 1, D :: Ds, _, _, _, _, _, _, by omega, by omega, rfl, bF2, by rw [HFT.out, ← HYS.out]; exact bM2, HB2.out, HM2.out.cons HML.out HD.out hsz HKD.out⟩))
    case stop =>
     rintro D c pre W' _ _ h _
     exact h.elim
  · obtain rfl : j = k0 := by omega
    have hfull : rs.take j = rs := List.take_of_length_le (by omega)
    rw [hfull] at bM1
    have HM := Lib.hid hM
    have HB := Lib.hid hB1
    have cM := bM1.cell
    clear hM hB1 hfull
    gi_wp2
    refine leaves_marked (base := w.heap.size) (fun X => Below w.heap.size w X)
     (fun X D hX hb hk => hX.trans (belowK_b (w := w) (Nat.le_refl _) X D _ _ hb hk rfl rfl))
     (fun X hX => ⟨_, results_tmp rfl _ _ _, rfl, hX⟩) Ds W HM.out HB.out
theorem cells_new1 (w : World) (v : Value) (t : TypeId) : Vals (w.alloc (.cells #[v] t)) (some ⟨w.heap.size, 0, none⟩) [v] := fun j u hj => by
 refine ⟨_, _, rfl, ?_⟩
 rw [cell_of_row _ _ (0 + j) _ _ _ (heap_alloc_new w _)]
 cases j with
 | zero => simpa using hj
 | succ j => simp at hj
theorem exSize_any (A : Option Addr) (n c : Nat) (l : List Pc) (hn : l.length = n) (hl : n ≤ 4294967295) (hr : ∀ p ∈ l, rightB p = true) (w : World) (hA : Pcs w A l) :
 Calls Tryz.prog 52 #[.slice A n c] w fun e w' => e = .returned (.int .i64 (sizeL l)) ∧ Below w.heap.size w w' := by
 have hV : Calls Tryz.prog 97 #[.slice A n c] w fun e w' => e = .returned (.func (.func 137) #[] #[.pointer (some ⟨w.heap.size, 0, none⟩)]) ∧ w' = w.alloc (.cells #[.slice A n c] 63) := by
  go_enter Tryz.func97, Tryz.ntmps97
  go_wp2
  go_ret
  exact ⟨rfl, rfl⟩
 have CV := Lib.hid hV
 have hB := (Below.refl w.heap.size w).alloc (Nat.le_refl _) (.cells #[.slice A n c] 63)
 have hg := values_gives (w.alloc (.cells #[.slice A n c] 63)) w.heap.size A n c l hr hn (by omega) (cell_of_row _ _ 0 _ _ _ (heap_alloc_new w _)) (Pcs.below hA hB)
 obtain ⟨W1, hW1⟩ : ∃ W, w.alloc (.cells #[.slice A n c] 63) = W := ⟨_, rfl⟩
 rw [hW1] at hg
 rw [hW1] at hB
 have hB2 : Below W1.heap.size W1 (W1.alloc (.cells #[.func (.func 137) #[] #[.pointer (some ⟨w.heap.size, 0, none⟩)]] 150)) := (Below.refl _ W1).alloc (Nat.le_refl _) _
 have C := Lib.hid (foldI_any (W1.alloc (.cells #[.func (.func 137) #[] #[.pointer (some ⟨w.heap.size, 0, none⟩)]] 150)) (some ⟨W1.heap.size, 0, none⟩) 1 1 [(.func (.func 137) #[] #[.pointer (some ⟨w.heap.size, 0, none⟩)], l)] rfl (by decide) (cells_new1 W1 _ _)
  (fun r hr => by rw [List.mem_singleton.1 hr]; exact hg.below hB2) (by simp [flatR]; omega))
 have HB := Lib.hid hB
 have HB2 := Lib.hid hB2
 have HW1 := Lib.hid hW1
 clear hV hA hB hB2 hg hW1 hr hn
 go_enter Tryz.func52, Tryz.ntmps52
 go_wp2_with (first | (go_at_call 97; refine CV.out.mono ?_; rintro e w1 ⟨rfl, rfl⟩; rw [HW1.out]) | (go_at_call 95; refine C.out.mono ?_; rintro e w2 ⟨rfl, hb⟩))
 go_ret
 refine ⟨by simp [flatR], HB.out.trans ((HB2.out.trans (hb.mono HB2.out.size)).mono HB.out.size)⟩
end Go.Proofs.YtemgejblnionlaaGreatDoor.Ext
namespace Go.Proofs.YtemgejblnionlaaGreatDoor.Ext
open Go.RowKit Go.Shelf Ex
attribute [local go_sem] Oper.semAt_some
set_option maxHeartbeats 400000
set_option maxRecDepth 100000
theorem clip_each {lo hi s : Int} {p : Pc} (hr : rightB p = true) : eachL (clip lo hi s p) = ((eachP p).take (hi - s).toNat).drop (lo - s).toNat := by
 have h := right_iff.1 hr
 unfold clip
 split
 · rename_i hle
   have : ((eachP p).take (hi - s).toNat).length ≤ (lo - s).toNat := by rw [List.length_take, eachP_len]; omega
   rw [List.drop_of_length_le this]
   rfl
 · rename_i hlt
   rw [eachL_one]
   refine List.ext_getElem? fun i => ?_
   rw [List.getElem?_drop, List.getElem?_take]
   by_cases hk : i < (min (hi - s) p.n - max (lo - s) 0).toNat
   · rw [eachP_get hk, if_pos (show (lo - s).toNat + i < (hi - s).toNat by omega), eachP_get (show (lo - s).toNat + i < p.n.toNat by omega)]
     simp only []
     cases hc : chunkB p.id
     · have := chunk_not.1 hc
       rw [if_neg (show ¬ 0 < p.id by omega), if_neg (show ¬ 0 < p.id by omega)]
     · have := chunk_iff.1 hc
       rw [if_pos (show 0 < p.id by omega), if_pos (show 0 < p.id by omega), if_pos rfl]
       congr 2
       push_cast
       omega
   · rw [List.getElem?_eq_none (by rw [eachP_len]; simp only []; omega)]
     split
     · rw [List.getElem?_eq_none (by rw [eachP_len]; omega)]
     · rfl
theorem within_each {lo hi : Int} : ∀ {l : List Pc} {s : Int}, (∀ p ∈ l, rightB p = true) → eachL (withinL lo hi s l) = ((eachL l).take (hi - s).toNat).drop (lo - s).toNat
 | [], _, _ => by simp [withinL, eachL]
 | p :: l, s, h => by
   have hp := right_iff.1 (h p (by simp))
   show eachL (clip lo hi s p ++ withinL lo hi (s + p.n) l) = _
   rw [eachL_append, clip_each (h p (by simp)), within_each (fun q hq => h q (by simp [hq])), eachL_cons, List.take_append, List.drop_append, List.length_take, eachP_len, show (hi - (s + p.n)).toNat = (hi - s).toNat - p.n.toNat by omega]
   congr 1
   by_cases hc : p.n.toNat ≤ (hi - s).toNat
   · rw [show (lo - (s + p.n)).toNat = (lo - s).toNat - min (hi - s).toNat p.n.toNat by omega]
   · rw [show (hi - s).toNat - p.n.toNat = 0 by omega]
     simp
theorem within_each0 {lo hi : Int} {l : List Pc} (h : ∀ p ∈ l, rightB p = true) : eachL (withinL lo hi 0 l) = ((eachL l).take hi.toNat).drop lo.toNat := by
 have := within_each (lo := lo) (hi := hi) (s := 0) h
 rwa [show hi - 0 = hi by omega, show lo - 0 = lo by omega] at this
def holeL (k : Int) : List Pc := if k ≤ 0 then [] else [⟨0, 0, k⟩]
theorem hole_each (k : Int) : eachL (holeL k) = List.replicate k.toNat (0, 0) := by
 unfold holeL
 split
 · rw [show k.toNat = 0 by omega]; rfl
 · rw [eachL_one]
   unfold eachP
   simp [List.map_const']
theorem hole_right {k : Int} (hk : k ≤ 1048576) : ∀ q ∈ holeL k, rightB q = true := by
 intro q hq
 unfold holeL at hq
 split at hq
 · cases hq
 · rw [List.mem_singleton.1 hq, right_iff]
   exact ⟨by simp only []; omega, hk, Int.le_refl _, .inl ⟨.inl rfl, rfl⟩⟩
theorem put_each {b : List Pc} (h : ∀ p ∈ b, rightB p = true) {off id k : Int} (hid : 1 ≤ id) (h0 : 0 ≤ off) (hk : 1 ≤ k) :
 eachL (withinL 0 off 0 b ++ (holeL (off - sizeL b) ++ ([⟨id, 0, k⟩] ++ withinL (off + k) (sizeL b) 0 b))) = putB (eachL b) off id k := by
 have hl := eachL_len (l := b) (fun p hp => by have := (right_iff.1 (h p hp)).1; omega)
 rw [eachL_append, eachL_append, eachL_append, within_each0 h, within_each0 h, hole_each, eachL_one, List.take_of_length_le (i := (sizeL b).toNat) (by omega)]
 obtain ⟨o, rfl⟩ : ∃ o : Nat, off = o := ⟨off.toNat, by omega⟩
 obtain ⟨m, rfl⟩ : ∃ m : Nat, k = m := ⟨k.toNat, by omega⟩
 obtain ⟨bs, hbs⟩ : ∃ bs, eachL b = bs := ⟨_, rfl⟩
 rw [hbs] at hl ⊢
 rw [← hl, show ((o : Int) + (m : Int)).toNat = o + m by omega, show ((o : Int) - (bs.length : Int)).toNat = o - bs.length by omega]
 unfold putB
 simp only [Int.toNat_natCast, Int.toNat_zero, List.drop_zero]
 refine List.ext_getElem? fun i => ?_
 rw [List.getElem?_append, List.getElem?_append, List.getElem?_append, List.length_take, List.length_replicate, eachP_len, List.getElem?_drop, List.getElem?_take, List.getElem?_map]
 simp only [Int.toNat_natCast]
 by_cases h1 : i < min o bs.length
 · rw [if_pos h1, if_pos (by omega), List.getElem?_range (by omega)]
   simp only [Option.map_some]
   rw [if_neg (by omega), List.getElem?_eq_getElem (by omega)]
   rfl
 · rw [if_neg h1]
   by_cases h2 : i - min o bs.length < o - bs.length
   · rw [if_pos h2, List.getElem?_replicate, if_pos h2, List.getElem?_range (by omega)]
     simp only [Option.map_some]
     rw [if_neg (by omega), List.getElem?_eq_none (by omega)]
     rfl
   · rw [if_neg h2]
     by_cases h3 : i - min o bs.length - (o - bs.length) < m
     · rw [if_pos h3, eachP_get (by simp only [Int.toNat_natCast]; exact h3), List.getElem?_range (by omega)]
       simp only [Option.map_some]
       rw [if_pos (by omega), if_pos (by omega), show i - min o bs.length - (o - bs.length) = i - o by omega]
       simp
     · rw [if_neg h3, show o + m + (i - min o bs.length - (o - bs.length) - m) = i by omega]
       by_cases h4 : i < bs.length
       · rw [List.getElem?_eq_getElem h4, List.getElem?_range (by omega)]
         simp only [Option.map_some]
         rw [if_neg (by omega), List.getElem?_eq_getElem h4]
         rfl
       · rw [List.getElem?_eq_none (by omega), List.getElem?_eq_none (by rw [List.length_range]; omega)]
         rfl
theorem cut_each {b : List Pc} (h : ∀ p ∈ b, rightB p = true) {k : Int} (hk : 0 ≤ k) :
 eachL (withinL 0 k 0 b ++ holeL (k - sizeL b)) = cutB (eachL b) k := by
 have hl := eachL_len (l := b) (fun p hp => by have := (right_iff.1 (h p hp)).1; omega)
 rw [eachL_append, within_each0 h, hole_each]
 obtain ⟨m, rfl⟩ : ∃ m : Nat, k = m := ⟨k.toNat, by omega⟩
 obtain ⟨bs, hbs⟩ : ∃ bs, eachL b = bs := ⟨_, rfl⟩
 rw [hbs] at hl ⊢
 rw [← hl, show ((m : Int) - (bs.length : Int)).toNat = m - bs.length by omega]
 unfold cutB
 simp only [Int.toNat_natCast, Int.toNat_zero, List.drop_zero]
 refine List.ext_getElem? fun i => ?_
 rw [List.getElem?_append, List.length_take, List.getElem?_take, List.getElem?_replicate, List.getElem?_map]
 by_cases h1 : i < min m bs.length
 · rw [if_pos h1, if_pos (by omega), List.getElem?_range (by omega)]
   simp only [Option.map_some]
   rw [List.getElem?_eq_getElem (by omega)]
   rfl
 · rw [if_neg h1]
   by_cases h2 : i < m
   · rw [if_pos (by omega), List.getElem?_range h2]
     simp only [Option.map_some]
     rw [List.getElem?_eq_none (by omega)]
     rfl
   · rw [if_neg (by omega), List.getElem?_eq_none (by rw [List.length_range]; omega)]
     rfl
theorem norm_body {l : List Pc} (hp : ∀ p ∈ l, rightB p = true) (hs : (eachL l).length ≤ 1048576) : validL (normL l) = true ∧ eachL (normL l) = eachL l := by
 have h := norm_form (fun p hq => .inr (hp p hq)) hs
 refine ⟨valid_iff.2 ⟨h.1, ?_⟩, h.2⟩
 rw [← h.1.len, h.2]
 omega
end Go.Proofs.YtemgejblnionlaaGreatDoor.Ext
namespace Go.Proofs.YtemgejblnionlaaGreatDoor.Ext
open Go.RowKit Go.Shelf Ex
attribute [local go_sem] Oper.semAt_some
set_option maxHeartbeats 400000
set_option maxRecDepth 100000
theorem within_c (A : Option Addr) (n c : Nat) (b : List Pc) (lo hi : Int) (hlo : 0 ≤ lo) (hlo' : lo ≤ 9223372036854775807) (hhi : 0 ≤ hi) (hhi' : hi ≤ 9223372036854775807)
 (hr : ∀ p ∈ b, rightB p = true) (hs : sizeL b ≤ 1048576) (hlen : b.length = n) (hn : n ≤ 9223372036854775807) (w : World) (hA : Pcs w A b) :
 Calls Tryz.prog 234 #[.slice A n c, .int .i64 lo, .int .i64 hi] w fun e w' => ∃ gf lb, e = .returned (.func (.func gf) #[] lb) ∧ Gives w' (.func (.func gf) #[] lb) (withinL lo hi 0 b) ∧ Below w.heap.size w w' := by
 have B1 := ((Boxed.new w 63 (.slice A n c)).alloc (.cells #[.int .i64 lo] 3)).alloc (.cells #[.int .i64 hi] 3)
 have B2 := (Boxed.new (w.alloc (.cells #[.slice A n c] 63)) 3 (.int .i64 lo)).alloc (.cells #[.int .i64 hi] 3)
 have B3 := Boxed.new ((w.alloc (.cells #[.slice A n c] 63)).alloc (.cells #[.int .i64 lo] 3)) 3 (.int .i64 hi)
 have hb : Below w.heap.size w (((w.alloc (.cells #[.slice A n c] 63)).alloc (.cells #[.int .i64 lo] 3)).alloc (.cells #[.int .i64 hi] 3)) := (((Below.refl _ w).alloc (Nat.le_refl _) _).alloc (by simp) _).alloc (by simp; omega) _
 have hG := within_gives _ _ _ _ A n c b lo hi hlo hlo' hhi hhi' hr hs hlen hn B1.cell B2.cell B3.cell (hA.below hb)
 simp only [World.size_alloc] at hG
 have HG := Lib.hid hG
 have HB := Lib.hid hb
 clear B1 B2 B3 hb hG hA hr hs hlen
 go_enter Tryz.func234, Tryz.ntmps234
 go_wp2
 go_ret
 exact ⟨_, _, rfl, HG.out, HB.out⟩
theorem oneSeq_c (p : Pc) (hr : rightB p = true) (w : World) :
 Calls Tryz.prog 236 #[.agg #[.int .i64 p.id, .int .i64 p.fr, .int .i64 p.n]] w fun e w' => ∃ gf lb, e = .returned (.func (.func gf) #[] lb) ∧ Gives w' (.func (.func gf) #[] lb) [p] ∧ Below w.heap.size w w' := by
 have hG := one_gives (w.alloc (.cells #[.int .i64 p.id, .int .i64 p.fr, .int .i64 p.n] 126)) w.heap.size p hr (box_tri w p)
 have HG := Lib.hid hG
 clear hG hr
 go_enter Tryz.func236, Tryz.ntmps236
 go_wp2
 go_ret
 exact ⟨_, _, rfl, HG.out, by go_grown⟩
theorem hole_c (k : Int) (hk : k ≤ 1048576) (w : World) :
 Calls Tryz.prog 235 #[.int .i64 k] w fun e w' => ∃ gf lb, e = .returned (.func (.func gf) #[] lb) ∧ Gives w' (.func (.func gf) #[] lb) (holeL k) ∧ Below w.heap.size w w' := by
 by_cases h0 : k ≤ 0
 · have HG := Lib.hid (show Gives w (.func (.func 266) #[] #[]) (holeL k) from by unfold holeL; rw [if_pos h0]; exact hole_gives w)
   go_enter Tryz.func235, Tryz.ntmps235
   go_wp2
   go_ret
   exact ⟨_, _, rfl, HG.out, Below.refl _ _⟩
 · have hl : holeL k = [⟨0, 0, k⟩] := by unfold holeL; rw [if_neg h0]
   have C := Lib.hid (oneSeq_c ⟨0, 0, k⟩ (hole_right hk ⟨0, 0, k⟩ (by rw [hl]; exact List.mem_singleton.2 rfl)) w)
   have HL := Lib.hid hl
   clear hl
   go_enter Tryz.func235, Tryz.ntmps235
   go_wp2_with (go_at_call 236; refine C.out.mono ?_; rintro e w1 ⟨gf, lb, rfl, hg, hb⟩; have HG := Lib.hid hg; have HB := Lib.hid hb; clear hg hb)
   go_ret
   exact ⟨_, _, rfl, by rw [HL.out]; exact HG.out, HB.out⟩
theorem sizeL_ge : ∀ {l : List Pc}, (∀ p ∈ l, rightB p = true) → (l.length : Int) ≤ sizeL l
 | [], _ => by simp [sizeL]
 | p :: l, h => by
   have h1 := sizeL_ge (l := l) (fun q hq => h q (by simp [hq]))
   have h2 := right_iff.1 (h p (by simp))
   simp only [sizeL, List.length_cons]
   push_cast
   omega
theorem wf_i64 {n : Int} (h1 : -9223372036854775808 ≤ n) (h2 : n ≤ 9223372036854775807) : (Lit.int .i64 n).wf = true := by
 simpa [Lit.wf] using (show IntKind.i64.min ≤ n ∧ n ≤ IntKind.i64.max from ⟨h1, h2⟩)
theorem right_ok {p : Pc} (h : rightB p = true) : Pc.ok p := by
 have h2 := right_iff.1 h
 exact ⟨wf_i64 (by omega) (by omega), wf_i64 (by omega) (by omega), wf_i64 (by omega) (by omega)⟩
structure Bod (l : List Pc) (n : Nat) : Prop where
 len : l.length = n
 right : ∀ p ∈ l, rightB p = true
 size : sizeL l ≤ 1048576
 size0 : 0 ≤ sizeL l
 max : n ≤ 1048576
 valid : validL l = true
theorem bod {l : List Pc} {n : Nat} (hn : l.length = n) (hv : validL l = true) : Bod l n := by
 have h := valid_iff.1 hv
 have h1 := sizeL_ge h.1.right
 exact ⟨hn, h.1.right, h.2, by omega, by omega, hv⟩
section
variable {l : List Pc} {n : Nat} (h : Bod l n) (A : Option Addr) (c : Nat) {w : World} (hA : Pcs w A l) (W : World) (hW : Below w.heap.size w W)
include h hA hW
theorem Bod.validC : Calls Tryz.prog 231 #[.slice A n c] W fun e w' => e = .returned (.bool true) ∧ Below W.heap.size W w' := by
 have := exValid_yes A n c l h.len (by have := h.max; omega) (fun p hp => right_ok (h.right p hp)) h.valid W (hA.below hW)
 rwa [h.valid] at this
theorem Bod.sizeC : Calls Tryz.prog 52 #[.slice A n c] W fun e w' => e = .returned (.int .i64 (sizeL l)) ∧ Below W.heap.size W w' :=
 exSize_any A n c l h.len (by have := h.max; omega) h.right W (hA.below hW)
theorem Bod.withinC (lo hi : Int) (hlo : 0 ≤ lo) (hlo' : lo ≤ 9223372036854775807) (hhi : 0 ≤ hi) (hhi' : hi ≤ 9223372036854775807) :
 Calls Tryz.prog 234 #[.slice A n c, .int .i64 lo, .int .i64 hi] W fun e w' => ∃ gf lb, e = .returned (.func (.func gf) #[] lb) ∧ Gives w' (.func (.func gf) #[] lb) (withinL lo hi 0 l) ∧ Below W.heap.size W w' :=
 within_c A n c l lo hi hlo hlo' hhi hhi' h.right h.size h.len (by have := h.max; omega) W (hA.below hW)
end
theorem vals_cells (w : World) (vs : List Value) (t : TypeId) : Vals (w.alloc (.cells vs.toArray t)) (some ⟨w.heap.size, 0, none⟩) vs := fun j u hj => by
 refine ⟨_, _, rfl, ?_⟩
 rw [cell_of_row _ _ (0 + j) _ _ _ (heap_alloc_new w _), Nat.zero_add]
 simpa using hj
theorem joined_c (rs : List (Value × List Pc)) (hr : rs.length ≤ 100) (W : World) (hG : ∀ r ∈ rs, Gives W r.1 r.2) (hR : ∀ p ∈ flatR rs, rightB p = true) (hS : (eachL (flatR rs)).length ≤ 1048576) (ps : List Pc) (hps : flatR rs = ps) (vs : List Value) (hvs : rs.map (·.1) = vs) (k : Nat) (hk : rs.length = k) :
 Calls Tryz.prog 233 #[.slice (some ⟨W.heap.size, 0, none⟩) k k] (W.alloc (.cells vs.toArray 150)) fun e w' => ∃ A' m c', e = .returned (.slice A' m c') ∧ Sp W.heap.size w' A' m c' (normL ps) ∧ validL (normL ps) = true ∧ eachL (normL ps) = eachL ps ∧ Below W.heap.size W w' := by
 subst hvs hps
 have hb : Below W.heap.size W (W.alloc (.cells (rs.map (·.1)).toArray 150)) := (Below.refl _ W).alloc (Nat.le_refl _) _
 have hl := sizeL_ge hR
 rw [← eachL_len (l := flatR rs) (fun p hp => by have := (right_iff.1 (hR p hp)).1; omega)] at hl
 have hn := norm_body hR hS
 refine (joined_any _ (some ⟨W.heap.size, 0, none⟩) k k rs hk (by omega) (vals_cells W _ _) (fun r hr' => (hG r hr').below hb) (by omega)).mono ?_
 rintro e w' ⟨A', m, c', rfl, ho, hb2⟩
 exact ⟨A', m, c', rfl, (Si.own ho).mono hb.size, hn.1, hn.2, hb.trans (hb2.mono hb.size)⟩
end Go.Proofs.YtemgejblnionlaaGreatDoor.Ext
namespace Go.Proofs.YtemgejblnionlaaGreatDoor.Ext
open Go.RowKit Go.Shelf Ex
attribute [local go_sem] Oper.semAt_some
set_option maxHeartbeats 400000
set_option maxRecDepth 100000
section
variable (A : Option Addr) (n c : Nat) (b : List Pc) (h : Bod b n) (w : World) (hA : Pcs w A b)
include h hA
theorem exPutArg_any (off id k : Int) (hno : ¬ (1 ≤ id ∧ id < 4096 ∧ 0 ≤ off ∧ 1 ≤ k)) :
 Calls Tryz.prog 194 #[.slice A n c, .int .i64 off, .int .i64 id, .int .i64 k] w fun e w' => ∃ A' c', e = .returned (.tuple #[.slice A' 0 c', .int .i64 1]) ∧ Below w.heap.size w w' := by
 have CV := Lib.hid (h.validC A c hA w (Below.refl _ _))
 obtain ⟨r, hr⟩ : ∃ r, chunkB id = r := ⟨_, rfl⟩
 have CC := Lib.hid (chunk_c hr)
 clear h hA
 cases r
 · clear hr hno
   go_enter Tryz.func194, Tryz.ntmps194
   go_wp2_with (first | (go_at_call 231; refine CV.out.mono ?_; rintro e w1 ⟨rfl, hb1⟩; have HB1 := Lib.hid hb1; clear hb1) | (go_at_call 232; refine (CC.out _).mono ?_; rintro e w2 ⟨rfl, rfl⟩))
   refine bodyPost_ret (results_tmp2 rfl _ _ _) rfl ?_
   exact ⟨_, _, rfl, HB1.out⟩
 · have hc := chunk_iff.1 hr
   clear hr
   by_cases h0 : off < 0
   · clear hno
     go_enter Tryz.func194, Tryz.ntmps194
     go_wp2_with (first | (go_at_call 231; refine CV.out.mono ?_; rintro e w1 ⟨rfl, hb1⟩; have HB1 := Lib.hid hb1; clear hb1) | (go_at_call 232; refine (CC.out _).mono ?_; rintro e w2 ⟨rfl, rfl⟩))
     refine bodyPost_ret (results_tmp2 rfl _ _ _) rfl ?_
     exact ⟨_, _, rfl, HB1.out⟩
   · have h1 : k < 1 := by omega
     clear hno
     go_enter Tryz.func194, Tryz.ntmps194
     go_wp2_with (first | (go_at_call 231; refine CV.out.mono ?_; rintro e w1 ⟨rfl, hb1⟩; have HB1 := Lib.hid hb1; clear hb1) | (go_at_call 232; refine (CC.out _).mono ?_; rintro e w2 ⟨rfl, rfl⟩))
     refine bodyPost_ret (results_tmp2 rfl _ _ _) rfl ?_
     exact ⟨_, _, rfl, HB1.out⟩
theorem exPutBig_any (off id k : Int) (hid : 1 ≤ id) (hid' : id < 4096) (h0 : 0 ≤ off) (h1 : 1 ≤ k) (h2 : 1048576 < off + k) (hk : k ≤ 9223372036854775807) :
 Calls Tryz.prog 194 #[.slice A n c, .int .i64 off, .int .i64 id, .int .i64 k] w fun e w' => ∃ A' c', e = .returned (.tuple #[.slice A' 0 c', .int .i64 2]) ∧ Below w.heap.size w w' := by
 have CV := Lib.hid (h.validC A c hA w (Below.refl _ _))
 have CC := Lib.hid (chunk_c (chunk_iff.2 ⟨hid, hid'⟩))
 have e0 : ¬ off < 0 := by omega
 have e1 : ¬ k < 1 := by omega
 have hw : IntKind.i64.wrap (1048576 - k) = 1048576 - k := IntWalk.i64_in _ (by omega)
 have e2 : off > 1048576 - k := by omega
 clear h hA
 go_enter Tryz.func194, Tryz.ntmps194
 go_wp2_with (first | (go_at_call 231; refine CV.out.mono ?_; rintro e w1 ⟨rfl, hb1⟩; have HB1 := Lib.hid hb1; clear hb1) | (go_at_call 232; refine (CC.out _).mono ?_; rintro e w2 ⟨rfl, rfl⟩))
 refine bodyPost_ret (results_tmp2 rfl _ _ _) rfl ?_
 exact ⟨_, _, rfl, HB1.out⟩
set_option maxHeartbeats 2000000 in
theorem exPutYes_any (off id k : Int) (hid : 1 ≤ id) (hid' : id < 4096) (h0 : 0 ≤ off) (h1 : 1 ≤ k) (h2 : off + k ≤ 1048576) :
 Calls Tryz.prog 194 #[.slice A n c, .int .i64 off, .int .i64 id, .int .i64 k] w fun e w' => ∃ A' m c' r, e = .returned (.tuple #[.slice A' m c', .int .i64 0]) ∧ Sp w.heap.size w' A' m c' r ∧ validL r = true ∧ eachL r = putB (eachL b) off id k ∧ Below w.heap.size w w' := by
 have CV := Lib.hid (h.validC A c hA w (Below.refl _ _))
 have CC := Lib.hid (chunk_c (chunk_iff.2 ⟨hid, hid'⟩))
 have CS := Lib.hid (fun W hW => h.sizeC A c hA W hW)
 have e0 : ¬ off < 0 := by omega
 have e1 : ¬ k < 1 := by omega
 have hw : IntKind.i64.wrap (1048576 - k) = 1048576 - k := IntWalk.i64_in _ (by omega)
 have e2 : ¬ off > 1048576 - k := by omega
 have s0 := h.size0
 have s1 := h.size
 have hpr : rightB ⟨id, 0, k⟩ = true := right_iff.2 ⟨h1, by simp only []; omega, Int.le_refl _, .inr ⟨hid, hid', by simp only []; omega⟩⟩
 have hE := put_each h.right hid h0 h1
 have hlen : ((eachL b).length : Int) = sizeL b := eachL_len fun p hp => by have := (right_iff.1 (h.right p hp)).1; omega
 obtain ⟨s, hs⟩ : ∃ s, sizeL b = s := ⟨_, rfl⟩
 rw [hs] at s0 s1 CS hE hlen
 have CW1 := Lib.hid (fun W hW => h.withinC A c hA W hW 0 off (by omega) (by omega) (by omega) (by omega))
 have CW2 := Lib.hid (fun W hW => h.withinC A c hA W hW (off + k) s (by omega) (by omega) (by omega) (by omega))
 have CH := Lib.hid (fun W => hole_c (off - s) (by omega) W)
 have CO := Lib.hid (fun W => oneSeq_c ⟨id, 0, k⟩ hpr W)
 have hR : ∀ p ∈ withinL 0 off 0 b ++ (holeL (off - s) ++ ([⟨id, 0, k⟩] ++ withinL (off + k) s 0 b)), rightB p = true := fun p hp => by
  rcases List.mem_append.1 hp with hp | hp
  · exact within_right h.right p hp
  rcases List.mem_append.1 hp with hp | hp
  · exact hole_right (by omega) p hp
  rcases List.mem_append.1 hp with hp | hp
  · rw [List.mem_singleton.1 hp]; exact hpr
  · exact within_right h.right p hp
 have hL : (putB (eachL b) off id k).length ≤ 1048576 := by
  unfold putB
  rw [List.length_map, List.length_range]
  omega
 have CJ := Lib.hid (fun (W : World) (v1 v2 v3 v4 : Value) (g1 : Gives W v1 (withinL 0 off 0 b)) (g2 : Gives W v2 (holeL (off - s))) (g3 : Gives W v3 [⟨id, 0, k⟩]) (g4 : Gives W v4 (withinL (off + k) s 0 b)) =>
  joined_c [(v1, withinL 0 off 0 b), (v2, holeL (off - s)), (v3, [⟨id, 0, k⟩]), (v4, withinL (off + k) s 0 b)] (by simp) W (fun r hr => by
   simp only [List.mem_cons, List.not_mem_nil, or_false] at hr
   rcases hr with rfl | rfl | rfl | rfl
   · exact g1
   · exact g2
   · exact g3
   · exact g4) (by simpa [flatR] using hR) (by
     have : flatR [(v1, withinL 0 off 0 b), (v2, holeL (off - s)), (v3, [⟨id, 0, k⟩]), (v4, withinL (off + k) s 0 b)] = withinL 0 off 0 b ++ (holeL (off - s) ++ ([⟨id, 0, k⟩] ++ withinL (off + k) s 0 b)) := by simp [flatR]
     rw [this, hE]; exact hL) (withinL 0 off 0 b ++ (holeL (off - s) ++ ([⟨id, 0, k⟩] ++ withinL (off + k) s 0 b))) (by simp [flatR]) [v1, v2, v3, v4] rfl 4 rfl)
 have HE := Lib.hid hE
 clear h hA hE hR hL hlen hpr hs
 go_enter Tryz.func194, Tryz.ntmps194
 go_wp2_with (first | (go_at_call 233; refine (CJ.out _ _ _ _ _ HG4.out HG5.out HG6.out HG7.out).mono ?_; rintro e w8 ⟨A', m, c', rfl, hr1, hr2, hr3, hr4⟩; have HX := Lib.hid (And.intro hr1 (And.intro hr2 (And.intro hr3 hr4))); clear hr1 hr2 hr3 hr4) | (go_at_call 231; refine CV.out.mono ?_; rintro e w1 ⟨rfl, hb1⟩; have HB1 := Lib.hid hb1; clear hb1) | (go_at_call 232; refine (CC.out _).mono ?_; rintro e w2 ⟨rfl, rfl⟩) | (go_at_call 52; refine (CS.out _ HB1.out).mono ?_; rintro e w3 ⟨rfl, hb3⟩; have HB3 := Lib.hid (HB1.out.trans (hb3.mono HB1.out.size)); clear hb3) | (go_at_call 234; (with_reducible refine (CW1.out _ HB3.out).mono ?_); rintro e w4 ⟨gf4, lb4, rfl, hg4, hb4⟩; have HB4 := Lib.hid (HB3.out.trans (hb4.mono HB3.out.size)); have HG4 := Lib.hid hg4; clear hb4 hg4) | (go_at_call 235; refine (CH.out _).mono ?_; rintro e w5 ⟨gf5, lb5, rfl, hg5, hb5⟩; have HB5 := Lib.hid (HB4.out.trans (hb5.mono HB4.out.size)); have HG5 := Lib.hid hg5; replace HG4 := Lib.hid (HG4.out.below hb5); clear hb5 hg5) | (go_at_call 236; refine (CO.out _).mono ?_; rintro e w6 ⟨gf6, lb6, rfl, hg6, hb6⟩; have HB6 := Lib.hid (HB5.out.trans (hb6.mono HB5.out.size)); have HG6 := Lib.hid hg6; replace HG4 := Lib.hid (HG4.out.below hb6); replace HG5 := Lib.hid (HG5.out.below hb6); clear hb6 hg6) | (go_at_call 234; (with_reducible refine (CW2.out _ HB6.out).mono ?_); rintro e w7 ⟨gf7, lb7, rfl, hg7, hb7⟩; have HB7 := Lib.hid (HB6.out.trans (hb7.mono HB6.out.size)); have HG7 := Lib.hid hg7; replace HG4 := Lib.hid (HG4.out.below hb7); replace HG5 := Lib.hid (HG5.out.below hb7); replace HG6 := Lib.hid (HG6.out.below hb7); clear hb7 hg7))
 refine bodyPost_ret (results_tmp2 rfl _ _ _) rfl ?_
 obtain ⟨x1, x2, x3, x4⟩ := HX.out
 exact ⟨_, _, _, _, rfl, x1.mono HB7.out.size, x2, x3.trans HE.out, HB7.out.trans (x4.mono HB7.out.size)⟩
theorem exCutArg_any (k : Int) (hk : k < 0) :
 Calls Tryz.prog 196 #[.slice A n c, .int .i64 k] w fun e w' => ∃ A' c', e = .returned (.tuple #[.slice A' 0 c', .int .i64 1]) ∧ Below w.heap.size w w' := by
 have CV := Lib.hid (h.validC A c hA w (Below.refl _ _))
 clear h hA
 go_enter Tryz.func196, Tryz.ntmps196
 go_wp2_with (go_at_call 231; refine CV.out.mono ?_; rintro e w1 ⟨rfl, hb1⟩; have HB1 := Lib.hid hb1; clear hb1)
 refine bodyPost_ret (results_tmp2 rfl _ _ _) rfl ?_
 exact ⟨_, _, rfl, HB1.out⟩
theorem exCutBig_any (k : Int) (hk : 1048576 < k) :
 Calls Tryz.prog 196 #[.slice A n c, .int .i64 k] w fun e w' => ∃ A' c', e = .returned (.tuple #[.slice A' 0 c', .int .i64 2]) ∧ Below w.heap.size w w' := by
 have CV := Lib.hid (h.validC A c hA w (Below.refl _ _))
 have e0 : ¬ k < 0 := by omega
 clear h hA
 go_enter Tryz.func196, Tryz.ntmps196
 go_wp2_with (go_at_call 231; refine CV.out.mono ?_; rintro e w1 ⟨rfl, hb1⟩; have HB1 := Lib.hid hb1; clear hb1)
 refine bodyPost_ret (results_tmp2 rfl _ _ _) rfl ?_
 exact ⟨_, _, rfl, HB1.out⟩
set_option maxHeartbeats 2000000 in
theorem exCutYes_any (k : Int) (h0 : 0 ≤ k) (h1 : k ≤ 1048576) :
 Calls Tryz.prog 196 #[.slice A n c, .int .i64 k] w fun e w' => ∃ A' m c' r, e = .returned (.tuple #[.slice A' m c', .int .i64 0]) ∧ Sp w.heap.size w' A' m c' r ∧ validL r = true ∧ eachL r = cutB (eachL b) k ∧ Below w.heap.size w w' := by
 have CV := Lib.hid (h.validC A c hA w (Below.refl _ _))
 have CS := Lib.hid (fun W hW => h.sizeC A c hA W hW)
 have e0 : ¬ k < 0 := by omega
 have e1 : ¬ k > 1048576 := by omega
 have s0 := h.size0
 have s1 := h.size
 have hE := cut_each h.right h0
 obtain ⟨s, hs⟩ : ∃ s, sizeL b = s := ⟨_, rfl⟩
 rw [hs] at s0 s1 CS hE
 have CW1 := Lib.hid (fun W hW => h.withinC A c hA W hW 0 k (by omega) (by omega) (by omega) (by omega))
 have CH := Lib.hid (fun W => hole_c (k - s) (by omega) W)
 have hR : ∀ p ∈ withinL 0 k 0 b ++ holeL (k - s), rightB p = true := fun p hp => by
  rcases List.mem_append.1 hp with hp | hp
  · exact within_right h.right p hp
  · exact hole_right (by omega) p hp
 have hL : (cutB (eachL b) k).length ≤ 1048576 := by
  unfold cutB
  rw [List.length_map, List.length_range]
  omega
 have CJ := Lib.hid (fun (W : World) (v1 v2 : Value) (g1 : Gives W v1 (withinL 0 k 0 b)) (g2 : Gives W v2 (holeL (k - s))) =>
  joined_c [(v1, withinL 0 k 0 b), (v2, holeL (k - s))] (by simp) W (fun r hr => by
   simp only [List.mem_cons, List.not_mem_nil, or_false] at hr
   rcases hr with rfl | rfl
   · exact g1
   · exact g2) (by simpa [flatR] using hR) (by
     have : flatR [(v1, withinL 0 k 0 b), (v2, holeL (k - s))] = withinL 0 k 0 b ++ holeL (k - s) := by simp [flatR]
     rw [this, hE]; exact hL) (withinL 0 k 0 b ++ holeL (k - s)) (by simp [flatR]) [v1, v2] rfl 2 rfl)
 have HE := Lib.hid hE
 clear h hA hE hR hL hs
 go_enter Tryz.func196, Tryz.ntmps196
 go_wp2_with (first | (go_at_call 233; refine (CJ.out _ _ _ HG4.out HG5.out).mono ?_; rintro e w8 ⟨A', m, c', rfl, hr1, hr2, hr3, hr4⟩; have HX := Lib.hid (And.intro hr1 (And.intro hr2 (And.intro hr3 hr4))); clear hr1 hr2 hr3 hr4) | (go_at_call 231; refine CV.out.mono ?_; rintro e w1 ⟨rfl, hb1⟩; have HB1 := Lib.hid hb1; clear hb1) | (go_at_call 234; refine (CW1.out _ HB1.out).mono ?_; rintro e w4 ⟨gf4, lb4, rfl, hg4, hb4⟩; have HB4 := Lib.hid (HB1.out.trans (hb4.mono HB1.out.size)); have HG4 := Lib.hid hg4; clear hb4 hg4) | (go_at_call 52; refine (CS.out _ HB4.out).mono ?_; rintro e w3 ⟨rfl, hb3⟩; have HB3 := Lib.hid (HB4.out.trans (hb3.mono HB4.out.size)); replace HG4 := Lib.hid (HG4.out.below hb3); clear hb3) | (go_at_call 235; refine (CH.out _).mono ?_; rintro e w5 ⟨gf5, lb5, rfl, hg5, hb5⟩; have HB5 := Lib.hid (HB3.out.trans (hb5.mono HB3.out.size)); have HG5 := Lib.hid hg5; replace HG4 := Lib.hid (HG4.out.below hb5); clear hb5 hg5))
 refine bodyPost_ret (results_tmp2 rfl _ _ _) rfl ?_
 obtain ⟨x1, x2, x3, x4⟩ := HX.out
 exact ⟨_, _, _, _, rfl, x1.mono HB5.out.size, x2, x3.trans HE.out, HB5.out.trans (x4.mono HB5.out.size)⟩
end
end Go.Proofs.YtemgejblnionlaaGreatDoor.Ext
