/-
  Contracts of the landed package: the fold over runs of pieces (an iterator in each round of a loop), joined.
-/
import Derived.Test.YtggnklcjhbahhaaFg
import Derived.Sort.LoopGhostIn
namespace Go.Proofs.Ytggnklcjhbahhaa
open Go.RowKit Go.Shelf Ex
attribute [local go_sem] Oper.semAt_some
set_option maxHeartbeats 400000
set_option maxRecDepth 100000

/-! ### Plain -/
def BigN (k : Int) (q : Pc) : Prop := (1 ≤ q.id → q.id < 4096) ∧ 0 ≤ q.fr ∧ q.fr ≤ 1048576 ∧ 1 ≤ q.n ∧ q.n ≤ k * 1048576
theorem addP_big {k : Int} {out : List Pc} {p : Pc} (hk : 0 ≤ k) (h : ∀ q ∈ out, BigN k q) (hp : rightB p = true) : ∀ q ∈ addP out p, BigN (k + 1) q := by
  have hr := right_iff.1 hp
  have up : ∀ q, BigN k q → BigN (k + 1) q := fun q ⟨h1, h2, h3, h4, h5⟩ => ⟨h1, h2, h3, h4, by omega⟩
  have hpB : BigN (k + 1) p := ⟨by omega, by omega, by omega, by omega, by omega⟩
  intro q hq
  unfold addP at hq
  rw [if_neg (by omega)] at hq
  cases hl : out.getLast? with
  | none =>
    rw [hl] at hq
    rcases List.mem_append.1 hq with h1 | h1
    · exact up q (h q h1)
    · rw [List.mem_singleton.1 h1]; exact hpB
  | some r =>
    rw [hl] at hq
    simp only [] at hq
    have hsp := last_split hl
    by_cases ho : oneB r p = true
    · rw [if_pos ho] at hq
      rcases List.mem_append.1 hq with h1 | h1
      · exact up q (h q (by rw [hsp]; exact List.mem_append_left _ h1))
      · rw [List.mem_singleton.1 h1]
        obtain ⟨h1, h2, h3, h4, h5⟩ := h r (by rw [hsp]; simp)
        exact ⟨h1, h2, h3, by simp only []; omega, by simp only []; omega⟩
    · rw [if_neg ho] at hq
      rcases List.mem_append.1 hq with h1 | h1
      · exact up q (h q h1)
      · rw [List.mem_singleton.1 h1]; exact hpB
theorem norm_bigN : ∀ (l out : List Pc) (k : Int), 0 ≤ k → (∀ q ∈ out, BigN k q) → (∀ p ∈ l, rightB p = true) → ∀ q ∈ l.foldl addP out, BigN (k + l.length) q
  | [], out, k, _, h, _ => by simpa using h
  | p :: l, out, k, hk, h, hp => by
    have := norm_bigN l (addP out p) (k + 1) (by omega) (addP_big hk h (hp p (by simp))) (fun q hq => hp q (by simp [hq]))
    intro q hq
    have h2 := this q hq
    rwa [show k + 1 + (l.length : Int) = k + ((p :: l).length : Int) by simp; omega] at h2
theorem norm_big {l : List Pc} (hp : ∀ p ∈ l, rightB p = true) (hl : l.length ≤ 4294967295) : ∀ q ∈ normL l, Big q := fun q hq => by
  obtain ⟨h1, h2, h3, h4, h5⟩ := norm_bigN l [] 0 (Int.le_refl _) (fun _ h => by cases h) hp q hq
  exact ⟨h1, h2, h3, h4, by omega⟩

/-! ### The marks of the loops that are over -/
abbrev markOf (D : Nat) : Deferred := { target := .collected D, args := #[] }
def Marked (base : Nat) (W : World) (Ds : List Nat) : Prop := Ds.Nodup ∧ ∀ D ∈ Ds, base ≤ D ∧ W.heap[D]? = some (.deferred (some []))
theorem Marked.nil (base : Nat) (W : World) : Marked base W [] := ⟨List.nodup_nil, fun _ h => by cases h⟩
theorem Marked.keeps {base : Nat} {W W' : World} {Ds : List Nat} (h : Marked base W Ds) (hk : KeepsOthers W W') : Marked base W' Ds := ⟨h.1, fun D hD => ⟨(h.2 D hD).1, hk.same D _ (h.2 D hD).2 rfl⟩⟩
theorem Marked.lt {base : Nat} {W : World} {Ds : List Nat} (h : Marked base W Ds) : ∀ D ∈ Ds, D < W.heap.size := fun D hD => (Array.getElem?_eq_some_iff.1 (h.2 D hD).2).1
theorem Marked.cons {base B : Nat} {W : World} {Ds : List Nat} {D : Nat} (h : Marked base W Ds) (hlt : ∀ D ∈ Ds, D < B) (hD : B ≤ D) (hb : base ≤ B) (hk : W.heap[D]? = some (.deferred (some []))) : Marked base W (D :: Ds) :=
  ⟨List.nodup_cons.2 ⟨fun hm => by have := hlt D hm; omega, h.1⟩, fun E hE => by
    rcases List.mem_cons.1 hE with rfl | hE
    · exact ⟨Nat.le_trans hb hD, hk⟩
    · exact h.2 E hE⟩
theorem marked_own {β : Type} {base B : Nat} {Ds : List Nat} (hlt : ∀ D ∈ Ds, D < B) : OwnFrom B (fun (_ : β) W => Marked base W Ds) := fun _ W W' row hs hg hr =>
  ⟨hs.1, fun D hD => ⟨(hs.2 D hD).1, (hg.block D (hs.lt D hD) (fun e => by have := (hr D e.symm).1; have := hlt D hD; omega)).trans (hs.2 D hD).2⟩⟩
theorem leaves_marked {F : Fence} {n : Nat} {P : Program} {fn : Func} {tmps : Array Value} {R : Ending → World → Prop} {base : Nat} (Q : World → Prop)
    (hQ : ∀ W D, Q W → base ≤ D → W.heap[D]? = some (.deferred (some [])) → Q (W.putObj D (.deferred none))) (hend : ∀ W, Q W → LeavesInM F n P fn tmps R [] .returning W) :
    ∀ (Ds : List Nat) (W : World), Marked base W Ds → Q W → LeavesInM F n P fn tmps R (Ds.map markOf) .returning W
  | [], W, _, hq => hend W hq
  | D :: Ds, W, hm, hq => by
    obtain ⟨hb, hk⟩ := hm.2 D (by simp)
    have hn := List.nodup_cons.1 hm.1
    refine ⟨by simp, .inl ⟨D, _, rfl, run_takeDeferred hk, leaves_marked Q hQ hend Ds _ ⟨hn.2, fun E hE => ?_⟩ (hQ W D hq hb hk)⟩⟩
    obtain ⟨h1, h2⟩ := hm.2 E (by simp [hE])
    exact ⟨h1, (World.putObj_heap_other (fun e => hn.1 (by rw [← e]; exact hE))).trans h2⟩
theorem holds_own {β : Type} (n₀ B : Nat) (t e : TypeId) (size : Nat) (f : β → List Value) : Own (fun s W => ∃ A m c, Boxed W B t (.slice A m c) ∧ W.ownsRow n₀ e size (.slice A m c) m (f s)) := by
  rintro s X Y row ⟨A, m, c, hv, hr⟩ hg hrow
  refine ⟨A, m, c, hv.kept hg (fun e' => ?_), hr.kept hg ?_⟩
  · obtain ⟨o, ho, hc⟩ := hrow B e'.symm
    rw [show X.heap[B]? = _ from hv] at ho; cases ho; cases hc
  · rcases hr.2 with ⟨h0, _⟩ | ⟨g, cap, cur, h0, _, hgb, _⟩
    · rw [h0]; exact .inl rfl
    · refine .inr fun e' => ?_
      rw [h0] at e'
      obtain ⟨o, ho, hc⟩ := hrow g (by simpa [Value.ownBlock] using e'.symm)
      rw [hgb] at ho; cases ho; cases hc
/-- The cells from A on hold these values. -/
def Vals (w : World) (A : Option Addr) (vs : List Value) : Prop := ∀ (j : Nat) (v : Value), vs[j]? = some v → ∃ g o, A = some ⟨g, o, none⟩ ∧ w.cell? ⟨g, o + j, none⟩ = some v
theorem Vals.below {w w' : World} {A : Option Addr} {vs : List Value} (h : Vals w A vs) (hb : Below w.heap.size w w') : Vals w' A vs := fun j v hj => by
  obtain ⟨g, o, hA, hc⟩ := h j v hj
  exact ⟨g, o, hA, (hb.cell (block_lt_of_cell hc)).trans hc⟩

theorem join_c (base : Nat) (A : Option Addr) (m c : Nat) (O : List Pc) (x : Rp) (hO : ∀ q ∈ O, Big q) (hm : m ≤ 1099511627776) (w : World) (hbs : base ≤ w.heap.size)
    (hown : w.ownsRow base 66 3 (.slice A m c) m (ints (flat3 O))) :
    Calls Try.prog 50 #[.slice A m c, .agg #[.int .i64 x.1.id, .int .i64 x.1.fr, .int .i64 x.1.n]] w fun e w' => ∃ A' m' c', e = .returned (.slice A' m' c') ∧ w'.ownsRow base 66 3 (.slice A' m' c') m' (ints (flat3 (addP O x.1))) ∧ Below base w w' ∧ KeepsOthers w w' ∧ w.grownBy w' (Value.slice A m c).ownBlock :=
  join_any base A m c O x.1 x.2 hO hm w hbs hown

def flatR (rs : List (Value × List Pc)) : List Pc := (rs.map (·.2)).flatten
theorem flatR_take {rs : List (Value × List Pc)} {j : Nat} {v : Value} {ps : List Pc} (h : rs[j]? = some (v, ps)) : flatR (rs.take (j + 1)) = flatR (rs.take j) ++ ps := by
  obtain ⟨hj, he⟩ := List.getElem?_eq_some_iff.1 h
  unfold flatR
  rw [List.take_succ_eq_append_getElem hj, he]
  simp
theorem flatR_len (rs : List (Value × List Pc)) (j : Nat) : (flatR (rs.take j)).length ≤ (flatR rs).length := by
  have : flatR rs = flatR (rs.take j) ++ flatR (rs.drop j) := by
    unfold flatR
    rw [← List.flatten_append, ← List.map_append, List.take_append_drop]
  rw [this, List.length_append]
  omega

set_option maxHeartbeats 8000000 in
theorem fold_any (w : World) (A : Option Addr) (k0 c : Nat) (rs : List (Value × List Pc)) (hlen : rs.length = k0) (hk0 : k0 ≤ 100) (hV : Vals w A (rs.map (·.1))) (hG : ∀ r ∈ rs, Gives w r.1 r.2) (hN : (flatR rs).length ≤ 4294967295) :
    Calls Try.prog 49 #[.slice none 0 0, .func (.func 50) #[] #[], .slice A k0 c] w fun e w' => ∃ A' m c', e = .returned (.slice A' m c') ∧ w'.ownsRow w.heap.size 66 3 (.slice A' m c') m (ints (flat3 (normL (flatR rs)))) ∧ Below w.heap.size w w' := by
  have HV := Lib.hid hV
  have HG := Lib.hid hG
  clear hV hG
  refine (callsIn_wide (n := 9)).1 ?_
  have h53 : Fence.wide.fn 49 := trivial
  refine callsIn_of_wp_marks Try.func49 rfl h53 ?_ rfl
  simp only [Try.ntmps49, List.size_toArray, List.length_cons, List.length_nil, Nat.reduceAdd, Nat.reduceSub, Array.replicate_succ, Array.replicate_zero, List.push_toArray, List.append_toArray, List.nil_append, List.cons_append]
  gi_wp2
  have bM := (Boxed.new w 24 (.slice none 0 0)).alloc (.cells #[.func (.func 50) #[] #[]] 90)
  have bF := Boxed.new (w.alloc (.cells #[.slice none 0 0] 24)) 90 (.func (.func 50) #[] #[])
  simp only [World.size_alloc] at bF
  have hB0 : Below w.heap.size w ((w.alloc (.cells #[.slice none 0 0] 24)).alloc (.cells #[.func (.func 50) #[] #[]] 90)) := ((Below.refl _ w).alloc (Nat.le_refl _) _).alloc (by simp) _
  obtain ⟨W0, hW0⟩ : ∃ X, (w.alloc (.cells #[.slice none 0 0] 24)).alloc (.cells #[.func (.func 50) #[] #[]] 90) = X := ⟨_, rfl⟩
  rw [hW0] at bM bF hB0 ⊢
  clear hW0
  refine wpIn_loop_ghost_k (fun gk a W => ∃ (j : Nat) (Ds : List Nat) (u8 u13 u14 u15 u16 u22 : Value), gk + j = k0 + 1 ∧ j ≤ k0 ∧
      a = { tmps := #[.slice none 0 0, .func (.func 50) #[] #[], .slice A k0 c, .pointer (some ⟨w.heap.size, 0, none⟩), .pointer (some ⟨w.heap.size + 1, 0, none⟩), undef, .slice none 0 0, undef, u8, undef, .slice A k0 c, .int .i64 k0, .int .i64 j, u13, u14, u15, u16, undef, undef, undef, undef, undef, u22, undef], defers := Ds.map markOf } ∧
      Boxed W (w.heap.size + 1) 90 (.func (.func 50) #[] #[]) ∧ (∃ A' m c', Boxed W w.heap.size 24 (.slice A' m c') ∧ W.ownsRow w.heap.size 66 3 (.slice A' m c') m (ints (flat3 (normL (flatR (rs.take j)))))) ∧ Below w.heap.size w W ∧ Marked w.heap.size W Ds) (k0 + 1) ?start ?round
  case start => exact ⟨0, [], undef, undef, undef, undef, undef, undef, rfl, Nat.zero_le _, rfl, bF, ⟨none, 0, 0, bM, World.ownsRow_nil _ _ _ _⟩, hB0, Marked.nil _ _⟩
  case round =>
    rintro gk a W ⟨j, Ds, u8, u13, u14, u15, u16, u22, hgk, hj, rfl, bF1, ⟨A', m, c', bM1, hown⟩, hB1, hM⟩ J K hJ hK
    have HJ := Lib.hid hJ
    have HK := Lib.hid hK
    clear hJ hK
    by_cases hlt : j < k0
    · have hjl : j < rs.length := by rw [hlen]; exact hlt
      have hg : rs[j]? = some rs[j] := List.getElem?_eq_getElem hjl
      obtain ⟨⟨v, ps⟩, hr⟩ : ∃ r, rs[j] = r := ⟨_, rfl⟩
      rw [hr] at hg
      obtain ⟨gf, lb, ys, hv, heg, hys, hseq⟩ := HG.out _ (List.mem_of_getElem? hg)
      simp only [] at hv hys
      obtain ⟨g, o, hA, hcell⟩ := HV.out j v (by rw [List.getElem?_map, hg]; rfl)
      subst hv
      subst hA
      have hcj := (hB1.cell (block_lt_of_cell hcell)).trans hcell
      have hft := flatR_take hg
      have hle := flatR_len rs (j + 1)
      rw [hft, List.length_append] at hle
      have jn : (j : Int) < (k0 : Int) := Int.ofNat_lt.2 hlt
      have j0 : (0 : Int) ≤ (j : Int) := Int.natCast_nonneg j
      have hlen2 : (flatR (rs.take j)).length + ys.length ≤ 4294967295 := by rw [← vals_len ys, hys]; omega
      obtain ⟨done, hdone⟩ : ∃ d, flatR (rs.take j) = d := ⟨_, rfl⟩
      rw [hdone] at hown hft hlen2
      have HFT := Lib.hid hft
      have HYS := Lib.hid hys
      have hrd : ∀ p ∈ done, rightB p = true := by
        rw [← hdone]
        intro p hp
        unfold flatR at hp
        obtain ⟨l, hl, hpl⟩ := List.mem_flatten.1 hp
        obtain ⟨r, hr', rfl⟩ := List.mem_map.1 hl
        obtain ⟨_, _, zs, _, _, hzs, _⟩ := HG.out r (List.mem_of_mem_take hr')
        rw [← hzs] at hpl
        obtain ⟨y, _, rfl⟩ := List.mem_map.1 hpl
        exact y.2
      have HBIG := Lib.hid (fun (pre : List Rp) (h : pre.length < ys.length) => norm_big (l := done ++ vals pre) (fun p hp => by
        rcases List.mem_append.1 hp with h1 | h1
        · exact hrd p h1
        · obtain ⟨y, _, rfl⟩ := List.mem_map.1 h1
          exact y.2) (by rw [List.length_append, vals_len]; omega))
      have HMB := Lib.hid (fun (pre : List Rp) (h : pre.length < ys.length) => show (normL (done ++ vals pre)).length ≤ 1099511627776 from Nat.le_trans (normL_len _) (by rw [List.length_append, vals_len]; omega))
      have HNS := Lib.hid (fun (pre : List Rp) (x : Rp) => show addP (normL (done ++ vals pre)) x.1 = normL (done ++ vals (pre ++ [x])) from by rw [vals_snoc, ← List.append_assoc, normL_snoc])
      have hsz := hB1.size
      have hsz1 : w.heap.size + 1 < W.heap.size := bF1.lt
      have HML := Lib.hid hM.lt
      have HSEQ := Lib.hid (hseq W 8 (by decide) hB1)
      have HEG := Lib.hid heg
      clear hr hg hcell hft hys hdone hrd hle hseq heg hlen2
      gi_wp2
      refine wpIn_rangeFunc_ownH rfl (by decide) (gf := gf) (lb := lb) rfl trivial HEG.out HSEQ.out belowK_t (belowK_b hsz) (Below.refl _ _) (fun _ => rfl)
        (fun pre W' => ((Boxed W' (w.heap.size + 1) 90 (.func (.func 50) #[] #[]) ∧ (∃ A' m c', Boxed W' w.heap.size 24 (.slice A' m c') ∧ W'.ownsRow w.heap.size 66 3 (.slice A' m c') m (ints (flat3 (normL (done ++ vals pre)))))) ∧ Below w.heap.size w W') ∧ Marked w.heap.size W' Ds)
        (fun _ _ _ => False)
        (OwnFrom.and (OwnFrom.and (OwnFrom.and (Own.from (boxed_own _ _ _) _) (Own.from (holds_own _ _ _ _ _ _) _)) (ownFrom_below (Nat.le_refl _) hsz)) (marked_own HML.out))
        (fun _ _ _ _ _ hs _ _ => hs)
        ⟨⟨⟨bF1, ⟨A', m, c', bM1, by simpa [vals] using hown⟩⟩, hB1⟩, hM⟩
        (fun x a' W' => ∃ Bx, w.heap.size + 1 < Bx ∧ W'.heap[Bx]? = some (.cells #[.int .i64 x.1.id, .int .i64 x.1.fr, .int .i64 x.1.n] 66 (0, 0)) ∧ a' = { tmps := #[.slice none 0 0, .func (.func 50) #[] #[], .slice (some ⟨g, o, none⟩) k0 c, .pointer (some ⟨w.heap.size, 0, none⟩), .pointer (some ⟨w.heap.size + 1, 0, none⟩), undef, .slice none 0 0, undef, .func (.func gf) #[] lb, .pointer (some ⟨Bx, 0, none⟩), .slice (some ⟨g, o, none⟩) k0 c, .int .i64 k0, .int .i64 j, .bool true, .pointer (some ⟨g, o + j, none⟩), .func (.func gf) #[] lb, .func (.func gf) #[] lb, .agg #[.int .i64 x.1.id, .int .i64 x.1.fr, .int .i64 x.1.n], undef, undef, undef, undef, u22, undef], defers := [] })
        (fun x a' _ X Y row hs hg hr => by
          obtain ⟨Bx, h1, h2, h3⟩ := hs
          refine ⟨Bx, h1, (hg.block Bx (Array.getElem?_eq_some_iff.1 h2).1 (fun e => ?_)).trans h2, h3⟩
          obtain ⟨_, o', ho, hc⟩ := hr Bx e.symm
          rw [h2] at ho; cases ho; cases hc)
        ?assign ?body ?done ?stop
      case assign =>
        rintro l pre x W' K' ⟨⟨⟨bF2, ⟨A2, m2, c2, bM2, hown2⟩⟩, hB2⟩, hM2⟩ hK'
        have HK' := Lib.hid hK'
        clear hK'
        gi_wp2
        exact HK'.out _ _ ((KeepsOthers.alloc _ _).from _) ((Below.refl _ W').alloc hB2.size _) ⟨⟨⟨bF2.alloc _, ⟨A2, m2, c2, bM2.alloc _, hown2.alloc _⟩⟩, hB2.alloc hB2.size _⟩, hM2.keeps (KeepsOthers.alloc _ _)⟩ ⟨W'.heap.size, bF2.lt, World.alloc_heap_new W' _, rfl⟩
      case body =>
        rintro l pre x a' W' hl ⟨r, hr⟩ ⟨⟨⟨bF2, ⟨A2, m2, c2, bM2, hown2⟩⟩, hB2⟩, hM2⟩ ⟨Bx, hBx, bX, rfl⟩ hpl
        have cF := bF2.cell
        have cM := bM2.cell
        have fM := bM2.frozen
        have x0 := cell_of_row W' Bx 0 _ _ _ bX
        have x1 := cell_of_row W' Bx 1 _ _ _ bX
        have x2 := cell_of_row W' Bx 2 _ _ _ bX
        replace x0 : W'.cell? ⟨Bx, 0, none⟩ = some (.int .i64 x.1.id) := x0
        replace x1 : W'.cell? ⟨Bx, 1, none⟩ = some (.int .i64 x.1.fr) := x1
        replace x2 : W'.cell? ⟨Bx, 2, none⟩ = some (.int .i64 x.1.n) := x2
        have hml := own_plen hown2
        have hmb := HMB.out pre hpl
        have CJ := Lib.hid (join_c w.heap.size A2 m2 c2 _ x (HBIG.out pre hpl) (by omega) W' hB2.size hown2)
        have HO2 := Lib.hid hown2
        have HB2 := Lib.hid hB2
        have HM2 := Lib.hid hM2
        have HM := Lib.hid (fun (w1 : World) (hg : W'.grownBy w1 (Value.slice A2 m2 c2).ownBlock) => show Boxed w1 w.heap.size 24 (.slice A2 m2 c2) ∧ Boxed w1 (w.heap.size + 1) 90 (.func (.func 50) #[] #[]) from ⟨bM2.kept hg (bM2.not_row (by decide) hown2), bF2.kept hg (bF2.not_row (by decide) hown2)⟩)
        have hbw2 := hB2.size
        clear hown2 hB2 hM2 hml hmb bX
        gi_wp2_with ((refine ⟨trivial, ?_⟩); gi_at_call 50; refine (CallsIn.inRound l (callsIn_wide.2 CJ.out)).mono ?_; rintro e w1 ⟨A3, m3, c3, rfl, hown3, hb3, hk3, hg3⟩; obtain ⟨hbm, hbf⟩ := HM.out w1 hg3; have cM1 := hbm.cell; have fM1 := hbm.frozen; clear cM fM)
        refine ⟨(hk3.trans (KeepsOthers.setCell _ _ _)).from _, hb3.setCell (p := ⟨w.heap.size, 0, none⟩) (Nat.le_refl _) _, ⟨⟨hbf.other (by omega) _, ⟨A3, m3, c3, hbm.set _, ?_⟩⟩, (HB2.out.trans hb3).setCell (p := ⟨w.heap.size, 0, none⟩) (Nat.le_refl _) _⟩, HM2.out.keeps (hk3.trans (KeepsOthers.setCell _ _ _))⟩
        rw [HNS.out] at hown3
        exact hown3.kept (grownBy_setCell' w1 w.heap.size _) (.inr (hbm.not_row (by decide) hown3).symm)
      case done =>
        rintro D xs W' hD rfl ⟨⟨⟨bF2, ⟨A2, m2, c2, bM2, hown2⟩⟩, hB2⟩, hM2⟩ hKD
        have HD := Lib.hid hD
        have HKD := Lib.hid hKD
        have HO2 := Lib.hid hown2
        have HB2 := Lib.hid hB2
        have HM2 := Lib.hid hM2
        clear hD hKD hown2 hB2 hM2
        gi_wp2
        exact HK.out _ _ (Handed.intro (gk - 1) (by omega) (HJ.out _ _ _ ⟨j + 1, D :: Ds, _, _, _, _, _, _, by omega, by omega, rfl, bF2, ⟨A2, m2, c2, bM2, by rw [HFT.out, ← HYS.out]; exact HO2.out⟩, HB2.out, HM2.out.cons HML.out HD.out hsz HKD.out⟩))
      case stop =>
        rintro D c pre W' _ _ h _
        exact h.elim
    · obtain rfl : j = k0 := by omega
      have hfull : rs.take j = rs := List.take_of_length_le (by omega)
      rw [hfull] at hown
      have HO := Lib.hid hown
      have HM := Lib.hid hM
      have HB := Lib.hid hB1
      have cM := bM1.cell
      clear hown hM hB1 hfull
      gi_wp2
      refine leaves_marked (base := w.heap.size) (fun X => X.ownsRow w.heap.size 66 3 (.slice A' m c') m (ints (flat3 (normL (flatR rs)))) ∧ Below w.heap.size w X)
        (fun X D hX hb hk => ⟨ownsRow_putObj hX.1 _ hk rfl, hX.2.trans (belowK_b (w := w) (Nat.le_refl _) X D _ _ hb hk rfl rfl)⟩)
        (fun X hX => ⟨_, results_tmp rfl _ _ _, _, _, _, rfl, hX.1, hX.2⟩) Ds W HM.out ⟨HO.out, HB.out⟩
theorem joined_any (w : World) (A : Option Addr) (k0 c : Nat) (rs : List (Value × List Pc)) (hlen : rs.length = k0) (hk0 : k0 ≤ 100) (hV : Vals w A (rs.map (·.1))) (hG : ∀ r ∈ rs, Gives w r.1 r.2) (hN : (flatR rs).length ≤ 4294967295) :
    Calls Try.prog 32 #[.slice A k0 c] w fun e w' => ∃ A' m c', e = .returned (.slice A' m c') ∧ w'.ownsRow w.heap.size 66 3 (.slice A' m c') m (ints (flat3 (normL (flatR rs)))) ∧ Below w.heap.size w w' := by
  have C := Lib.hid (fold_any w A k0 c rs hlen hk0 hV hG hN)
  clear hV hG hN
  go_enter Try.func32, Try.ntmps32
  go_wp2_with (go_at_call 49; refine C.out.mono ?_; rintro e w1 ⟨A', m, c', rfl, ho, hb⟩; have HO := Lib.hid ho; clear ho)
  go_ret
  exact ⟨_, _, _, rfl, HO.out, hb⟩
end Go.Proofs.Ytggnklcjhbahhaa
