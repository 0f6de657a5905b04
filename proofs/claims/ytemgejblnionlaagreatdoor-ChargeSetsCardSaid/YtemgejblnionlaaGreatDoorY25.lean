/-
  Texts Cs Cv Cw Da Ct, put together by program.
-/
import Derived.Test.YtemgejblnionlaaGreatDoorY15
import Derived.Test.YtemgejblnionlaaGreatDoorY24
namespace Go.Proofs.YtemgejblnionlaaGreatDoor
open Go.RowKit Go.Maps
set_option maxHeartbeats 16000000
set_option maxRecDepth 100000
def goOver : Rn → List Rn → List Rn × Rn
 | r, [] => ([], r)
 | r, o :: os => if r.2 ≤ o.1 then ([], r) else ((if r.1 < o.1 then [(r.1, o.1)] else []) ++ (goOver (o.2, r.2) os).1, (goOver (o.2, r.2) os).2)
def dropB (lo : Int) (os : List Rn) : List Rn := os.dropWhile (fun o => o.2 ≤ lo)
def cutStep (s : List Rn × List Rn) (r : Rn) : List Rn × List Rn :=
 (s.1 ++ (goOver r (dropB r.1 s.2)).1 ++ (if (goOver r (dropB r.1 s.2)).2.1 < (goOver r (dropB r.1 s.2)).2.2 then [(goOver r (dropB r.1 s.2)).2] else []), dropB r.1 s.2)
def cutS (l O : List Rn) : List Rn × List Rn := l.foldl cutStep ([], O)
theorem cutS_snoc (l O : List Rn) (r : Rn) : cutS (l ++ [r]) O = cutStep (cutS l O) r := by unfold cutS; rw [List.foldl_append]; rfl
def cutF (l O : List Rn) : List Rn := (cutS l O).1
theorem slice1 (A : Option Addr) (m c : Nat) (h : 1 ≤ m) : ∃ SA, (∀ W, (Instr.slice 117 (.slice A m c) (some (.int .i64 1)) none none).run Tryz.prog W = .ok (.slice SA (m - 1) (c - 1)) W) ∧ (1 < c → SA = A.map (·.add 2)) := by
 refine ⟨if c = 1 then A else A.map (·.add 2), fun W => ?_, fun h => by rw [if_neg (by omega)]⟩
 have h0 : (0 : Int) ≤ 1 := by omega
 have h1 : (1 : Int) ≤ (m : Int) := by omega
 rw [run_slice_l _ _ _ _ _ Tryz.underlying117 _ _ h0 h1]
 simp [go_sem, sliced]
theorem Sv.tail2 {w : World} {A SA : Option Addr} {n c : Nat} {o : Rn} {os : List Rn} (h : Sv w A n c 2 (encs encR (o :: os))) (hs : 1 < c → SA = A.map (·.add 2)) : Sv w SA (n - 1) (c - 1) 2 (encs encR os) := by
 have hl : (encs encR (o :: os)).length = (os.length + 1) * 2 := encs_len encR_len _
 have hl2 : (encs encR os).length = os.length * 2 := encs_len encR_len _
 have hn : n = os.length + 1 := by have := h.len; omega
 have hcap := h.cap
 refine ⟨by omega, by omega, by have := h.max; omega, fun e => ?_, encs_cells encR_one _, fun hne => ?_⟩
 · rcases Nat.lt_or_ge 1 c with h1 | h1
   · rw [hs h1] at e
     have := h.nil (by simpa using e)
     omega
   · omega
 · have hos : 0 < os.length := by
    rcases Nat.eq_zero_or_pos os.length with e | e
    · exact absurd (by rw [List.eq_nil_of_length_eq_zero e]; rfl) hne
    · exact e
   obtain ⟨g, a, rfl, h2, h3⟩ := h.cells (by intro e; rw [e] at hl; simp at hl)
   refine ⟨g, a + 2, by rw [hs (by omega)]; simp [addo], h2, fun j x hx => ?_⟩
   have := h3 (j + 2) x (by rw [show encs encR (o :: os) = encR o ++ encs encR os from rfl, List.getElem?_append_right (by simp [encR])]; simpa [encR] using hx)
   rw [show a + 2 + j = a + (j + 2) by omega]
   exact this
structure LeftR (w W : World) (bx : Nat) (B : Option Addr) (m d : Nat) (L : List Rn) (lo hi : Int) : Prop where
 own : W.ownsRow w.heap.size 124 2 (.slice B m d) m (encs encR L)
 ne : (Value.slice B m d).ownBlock ≠ some bx
 box : W.heap[bx]? = some (.cells #[.int .i64 lo, .int .i64 hi] 124 (0, 0))
 ge : w.heap.size ≤ bx
 low : Below w.heap.size w W
section
variable {w W W' : World} {bx : Nat} {B : Option Addr} {m d : Nat} {L : List Rn} {lo hi : Int}
theorem LeftR.step (h : LeftR w W bx B m d L lo hi) (hb : Below W.heap.size W W') : LeftR w W' bx B m d L lo hi :=
 ⟨own_keep h.own hb, h.ne, (hb.block _ (Array.getElem?_eq_some_iff.1 h.box).1).trans h.box, h.ge, h.low.trans (hb.mono h.low.size)⟩
theorem LeftR.lt (h : LeftR w W bx B m d L lo hi) : bx < W.heap.size := (Array.getElem?_eq_some_iff.1 h.box).1
theorem LeftR.c0 (h : LeftR w W bx B m d L lo hi) : W.cell? ⟨bx, 0, none⟩ = some (.int .i64 lo) := cell_of_row _ _ 0 _ _ _ h.box
theorem LeftR.c1 (h : LeftR w W bx B m d L lo hi) : W.cell? ⟨bx, 1, none⟩ = some (.int .i64 hi) := cell_of_row _ _ 1 _ _ _ h.box
theorem LeftR.fz (h : LeftR w W bx B m d L lo hi) : W.frozen? ⟨bx, 0, none⟩ = false := frozen_of_row _ _ 0 _ _ h.box
theorem LeftR.put (h : LeftR w W bx B m d L lo hi) (v : Int) : LeftR w (W.setCell ⟨bx, 0, none⟩ (.int .i64 v)) bx B m d L v hi := by
 refine ⟨?_, h.ne, ?_, h.ge, h.low.setCell (p := ⟨bx, 0, none⟩) h.ge _⟩
 · rcases h.own with ⟨h1, ⟨h2, h3⟩ | ⟨g, cap, cur, h2, h3, h4, h5⟩⟩
   · exact ⟨h1, .inl ⟨h2, h3⟩⟩
   · refine ⟨h1, .inr ⟨g, cap, cur, h2, h3, (heap_setCell_other W ⟨bx, 0, none⟩ g _ (fun e => ?_)).trans h4, h5⟩⟩
     have := h.ne
     rw [h2] at this
     exact this (by rw [show (⟨bx, 0, none⟩ : Addr).block = bx from rfl] at e; first | (rw [e]; rfl) | (rw [← e]; rfl))
 · show (W.heap.modify bx _)[bx]? = _
   rw [Array.getElem?_modify, if_pos rfl, h.box]
   rfl
theorem LeftR.app (h : LeftR w W bx B m d L lo hi) {v' : Value} {x : Rn} (ho : W'.ownsRow w.heap.size 124 2 v' (m + 1) (encs encR L ++ encR x)) (hg : W.grownBy W' (Value.slice B m d).ownBlock) (ha : v'.ownBlock = (Value.slice B m d).ownBlock ∨ v'.ownBlock = some W.heap.size) :
 ∃ B' d', v' = .slice B' (m + 1) d' ∧ LeftR w W' bx B' (m + 1) d' (L ++ [x]) lo hi := by
 obtain ⟨B', d', rfl⟩ := own_form ho
 refine ⟨B', d', rfl, ⟨by rw [encs_append, encs_one]; exact ho, fun e => ?_, ?_, h.ge, h.low.grown hg h.low.size (fun k e => (h.own.lt k e).1)⟩⟩
 · rcases ha with ha | ha
   · exact h.ne (ha.symm.trans e)
   · rw [ha] at e
     injection e with e
     have := h.lt
     omega
 · refine (hg.block bx h.lt ?_).trans h.box
   intro e
   first | exact h.ne e | exact h.ne e.symm
end
theorem wpList_append_at {P : Program} {W : World} {ops : Array Oper} {rest : List Oper} {o : Oper} {a : Act} {Q : Exit → Act → World → Prop} (hgd : o.guard = none) (s x : Operand) (t : TypeId)
 (ho : o.op = .call { callee := .builtin .append, args := #[s, x], argTypes := #[t, t] })
 (base : Nat) (e : TypeId) (i : TypeInfo) (z : Value) (size bytes : Nat) (ht : P.underlying t = some (.slice e)) (hi : P.info? e = some i) (hz : i.zero = some z)
 (hsize : i.size = size) (hby : i.bytes = bytes) (hzs : z.cells.size = size) (hsz : 0 < size)
 (v : Value) (n : Nat) (xs : List Value) (hs : a.eval s = v) (hown : W.ownsRow base e size v n xs)
 (ad : Addr) (m c : Nat) (news : List Value) (hx : a.eval x = .slice (some ad) m c) (hl : news.length = m * size) (hnews : ∀ j u, news[j]? = some u → W.cell? (ad.add j) = some u) (h1 : ∀ u ∈ news, u.oneCell' = true)
 (h63 : n + m ≤ maxLen) (hbytes : (n + m) * bytes ≤ 140737488355328) (hbase : base ≤ W.heap.size)
 (h : ∀ v' w', w'.ownsRow base e size v' (n + m) (xs ++ news) → W.grownBy w' v.ownBlock → (v'.ownBlock = v.ownBlock ∨ v'.ownBlock = some W.heap.size) → wpList P ops Q rest (a.put o.dst v') w') : wpList P ops Q (o :: rest) a W := by
 refine wpList_plain hgd fun K hK => ?_
 obtain ⟨v', w', hr, h2, h3, _, h4⟩ := run_append_own_at (P := P) W base t o.type e i z size bytes ht hi hz hsize hby hzs hsz v n xs hown ad m c news hl hnews h1 h63 hbytes hbase
 unfold Oper.wp execOp
 simp only [ho, resolve, invoke, builtin, Sem.run_bind, Sem.run_pure, Result.andThen_ok, List.map_toArray, List.map_cons, List.map_nil, hs, hx, hr]
 exact hK _ _ (h _ _ h2 h3 h4)
abbrev CutRes (l O : List Rn) (w : World) (e : Ending) (w' : World) : Prop :=
 ∃ B m d, e = .returned (.slice B m d) ∧ w'.ownsRow w.heap.size 124 2 (.slice B m d) m (encs encR (cutF l O)) ∧ Below w.heap.size w w'
def slLen : Value → Nat
 | .slice _ n _ => n
 | _ => 0
theorem cut_lands (A : Option Addr) (n c : Nat) (A2 : Option Addr) (n2 c2 : Nat) (l O : List Rn) (w : World) (hA : Sv w A n c 2 (encs encR l)) (hO : Sv w A2 n2 c2 2 (encs encR O)) (hn : n ≤ 1000000) (hn2 : n2 ≤ 1000000) :
 Calls Tryz.prog 62 #[.slice A n c, .slice A2 n2 c2] w fun e w' => CutRes l O w e w' := by
 obtain ⟨i2, hj, hj0, hj1, hj2⟩ := info_parts info_rn
 have HA := Lib.hid hA
 have HOT := Lib.hid hO
 have HN := Lib.hid (And.intro hn hn2)
 have HL := Lib.hid (show l.length = n from hA.plen encR_len (by decide))
 clear hA hO hn hn2
 go_enter Tryz.func62, Tryz.ntmps62
 go_wp2
 go_loopw [1, 5, 12] (fun ot lf i wr => ∃ (k : Nat) (A' : Option Addr) (n' c' : Nat) (B : Option Addr) (m d : Nat), k ≤ n ∧ i = .int .i64 k ∧ ot = .slice A' n' c' ∧ Sv w A' n' c' 2 (encs encR (cutS (l.take k) O).2) ∧ n' ≤ n2 ∧ lf = .slice B m d ∧ wr.ownsRow w.heap.size 124 2 (.slice B m d) m (encs encR (cutS (l.take k) O).1) ∧ m ≤ k * 1000001 ∧ Below w.heap.size w wr) (fun _ _ i _ => n - (intOf i).toNat)
 case atStart => exact ⟨0, A2, n2, c2, none, 0, 0, Nat.zero_le _, rfl, rfl, HOT.out, Nat.le_refl _, rfl, World.ownsRow_nil _ _ _ _, Nat.zero_le _, Below.refl _ _⟩
 case round =>
  obtain ⟨k, A', n', c', B, m, d, hk, rfl, rfl, hsv, hn', rfl, hown, hm, hbw⟩ := hrel
  have HBW := Lib.hid hbw
  have HSV := Lib.hid hsv
  have HOW := Lib.hid hown
  have HM := Lib.hid (And.intro hn' hm)
  clear hbw hsv hown hm hn'
  by_cases hlt : k < n
  · obtain ⟨x, hx⟩ : ∃ x, l[k]? = some x := ⟨_, List.getElem?_eq_getElem (by rw [HL.out]; exact hlt)⟩
    have kn : (k : Int) < (n : Int) := Int.ofNat_lt.2 hlt
    have k0 : (0 : Int) ≤ (k : Int) := Int.natCast_nonneg k
    have hwj : IntKind.i64.wrap ((k : Int) + 1) = (k : Int) + 1 := IntWalk.i64_in _ (by have := HN.out; omega)
    obtain ⟨g, ad, rfl, hg, hc⟩ := Sv.range encR_len (by decide) (HA.out.below HBW.out) hx
    have HC := Lib.hid hc
    have HT := Lib.hid (show cutS (l.take (k + 1)) O = cutStep (cutS (l.take k) O) x by rw [takeU_snoc hx, cutS_snoc])
    have HLT := Lib.hid hlt
    obtain ⟨S, hS⟩ : ∃ S, cutS (l.take k) O = S := ⟨_, rfl⟩
    rw [hS] at HT HOW HSV
    clear hc hx hlt hk hS
    have kk0 : Bxs w [] wr := ⟨HBW.out, fun _ h => by simp at h, List.Pairwise.nil⟩
    obtain ⟨y1, hwy1, hzy1, ky1⟩ := kk0.new rfl z2 z2 124
    have HY1 := Lib.hid hwy1
    have KY1 := Lib.hid ky1
    have KY2 := Lib.hid (ky1.row 0 rfl (encR x).toArray)
    have hby : Below wr.heap.size wr (y1.setRow wr.heap.size (encR x).toArray) := below_setRow (by rw [← hwy1]; exact (Below.refl _ wr).alloc (Nat.le_refl _) _) (Nat.le_refl _) _
    have HBY := Lib.hid hby
    clear kk0 hwy1 hzy1 ky1 hby
    go_wp2_with (first | rw [HY1.out] | (with_reducible refine load_rn rfl _ rfl g (ad + k * 2) rfl x HC.out ?_) | (with_reducible refine store_rn rfl _ _ rfl wr.heap.size rfl x rfl z2 (KY1.out.at 0 rfl).out rfl ?_))
    generalize y1.setRow wr.heap.size (encR x).toArray = y2 at *
    have LR0 : LeftR w y2 wr.heap.size B m d S.1 x.1 x.2 := ⟨own_keep HOW.out HBY.out, fun e => by have := HOW.out.lt _ e; omega, (KY2.out.at 0 rfl).out, HBW.out.size, KY2.out.low.out⟩
    have LR := Lib.hid LR0
    obtain ⟨bx, hbx⟩ : ∃ bx, wr.heap.size = bx := ⟨_, rfl⟩
    rw [hbx] at LR ⊢
    clear LR0 HY1 KY1 KY2 HBY HOW hbx
    obtain ⟨wo, hwo⟩ : ∃ q, q = wr := ⟨_, rfl⟩
    subst hwo
    obtain ⟨ku, hku⟩ : ∃ q, q = k := ⟨_, rfl⟩
    subst hku
    obtain ⟨M0, hM0⟩ : ∃ M0, ku * 1000001 = M0 := ⟨_, rfl⟩
    have HM1 := Lib.hid (show m ≤ M0 by rw [← hM0]; exact HM.out.2)
    have HM0 := Lib.hid hM0
    clear hM0
    dsimp only [Act.put]
    go_loopw [1] (fun ot wr => ∃ (A' : Option Addr) (n' c' : Nat) (os : List Rn), ot = .slice A' n' c' ∧ Sv w A' n' c' 2 (encs encR os) ∧ dropB x.1 os = dropB x.1 S.2 ∧ n' ≤ n2 ∧ Below y2.heap.size y2 wr) (fun ot _ => slLen ot)
    case atStart => exact ⟨A', n', c', S.2, rfl, HSV.out, rfl, HM.out.1, Below.refl _ _⟩
    case round =>
     clear HSV
     obtain ⟨A', n', c', os, rfl, hsv, hdr, hle, hb⟩ := hrel
     have HB := Lib.hid hb
     have HSV := Lib.hid hsv
     have HDR := Lib.hid hdr
     have HLE := Lib.hid hle
     have LRW := Lib.hid (LR.out.step hb)
     have HOL := Lib.hid (show os.length = n' from hsv.plen encR_len (by decide))
     clear hb hsv hdr hle
     have hd : Below wr.heap.size wr wr.drew := below_drewN wr 1
     have HD := Lib.hid hd
     have LRD := Lib.hid (LRW.out.step hd)
     have HBD := Lib.hid (HB.out.trans (hd.mono HB.out.size))
     clear hd
     rcases os with _ | ⟨o, os⟩
     · have hn0 : ¬ 0 < n' := by have := HOL.out; simp at this; omega
       have hn1 : ¬ (0 : Int) < (n' : Int) := by omega
       go_upto_region 5 with fail
       refine wp_region_ord (fun _ => True) [(0, true), (1, true), (2, true), (3, true), (4, true), (5, true), (6, true), (7, true), (8, true), (9, true), (10, true), (11, true)] (by kernel_rfl) (by kernel_rfl) (by kernel_rfl) trivial (fun d _ _ _ _ h => by cases d <;> exact h) ?_
       iterate 2 refine ord_pure ?_
       refine ord_pure (v := .bool false) ?_
       iterate 9 refine ord_pure ?_
       refine ord_nil ?_
       obtain ⟨yd, hyd⟩ : ∃ q, q = wr.drew := ⟨_, rfl⟩
       rw [← hyd] at HD LRD HBD ⊢
       clear hyd hn0 hn1
       have HOS := Lib.hid (show dropB x.1 S.2 = [] from HDR.out.symm)
       obtain ⟨OS, hos⟩ : ∃ OS : List Rn, [] = OS := ⟨_, rfl⟩
       rw [hos] at HOS HSV HOL
       clear hos HB HDR LRW HD HBD
       go_wp2
       (try clear hox)
       obtain ⟨wu, hwu⟩ : ∃ q, q = wr := ⟨_, rfl⟩
       subst hwu
       go_loopw [5, 32] (fun lf i wr => ∃ (q : Nat) (B' : Option Addr) (m' d' : Nat) (L : List Rn) (lo : Int), q ≤ n' ∧ i = .int .i64 q ∧ lf = .slice B' m' d' ∧ LeftR w wr bx B' m' d' L lo x.2 ∧ (L ++ (goOver (lo, x.2) (OS.drop q)).1 = S.1 ++ (goOver x OS).1 ∧ (goOver (lo, x.2) (OS.drop q)).2 = (goOver x OS).2) ∧ m' ≤ M0 + q) (fun _ i _ => n' - (intOf i).toNat)
       case atStart => exact ⟨0, B, m, d, S.1, x.1, Nat.zero_le _, rfl, rfl, LRD.out, (by rw [List.drop_zero]; exact ⟨rfl, rfl⟩), HM1.out⟩
       case round =>
        obtain ⟨q, B', m', d', L, lo, hq, rfl, rfl, hlr, he, hmb⟩ := hrel
        have LR3 := Lib.hid hlr
        have HE0 := Lib.hid he
        have HMB := Lib.hid hmb
        clear hlr he hmb
        by_cases hqn : q < n'
        · obtain ⟨o3, ho3⟩ : ∃ o3, OS[q]? = some o3 := ⟨_, List.getElem?_eq_getElem (by rw [HOL.out]; exact hqn)⟩
          have qn : (q : Int) < (n' : Int) := Int.ofNat_lt.2 hqn
          have q0 : (0 : Int) ≤ (q : Int) := Int.natCast_nonneg q
          have hwq : IntKind.i64.wrap ((q : Int) + 1) = (q : Int) + 1 := IntWalk.i64_in _ (by have := HN.out; have := HLE.out; omega)
          obtain ⟨g3, a3, hA3, hg3, hc3⟩ := Sv.range encR_len (by decide) (HSV.out.below LR3.out.low) ho3
          have HC3 := Lib.hid hc3
          have HA3 := Lib.hid hA3
          have HD3 := Lib.hid (show OS.drop q = o3 :: OS.drop (q + 1) by rw [← (List.getElem?_eq_some_iff.1 ho3).2]; exact List.drop_eq_getElem_cons _)
          have HQ := Lib.hid hqn
          rw [hA3]
          clear hc3 hA3 hqn hq
          have kk0 := Bxs.nil wr
          obtain ⟨y1, hwy1, hzy1, ky1⟩ := kk0.new rfl z2 z2 124
          have HY1 := Lib.hid hwy1
          have KY1 := Lib.hid ky1
          have KY2 := Lib.hid (ky1.row 0 rfl (encR o3).toArray)
          clear kk0 hwy1 hzy1 ky1
          go_upto_region 10 with (first | rw [HY1.out] | (with_reducible refine load_rn rfl _ rfl g3 (a3 + q * 2) rfl o3 HC3.out ?_) | (with_reducible refine store_rn rfl _ _ rfl wr.heap.size rfl o3 rfl z2 (KY1.out.at 0 rfl).out rfl ?_))
          generalize y1.setRow wr.heap.size (encR o3).toArray = W4 at *
          have LR4 := Lib.hid (LR3.out.step KY2.out.low.out)
          have b0 : W4.cell? ⟨wr.heap.size, 0, none⟩ = some (.int .i64 o3.1) := KY2.out.cell 0 0 _ rfl
          have b1 : W4.cell? ⟨wr.heap.size, 1, none⟩ = some (.int .i64 o3.2) := KY2.out.cell 0 1 _ rfl
          have e1 := LR4.out.c1
          have e0 := LR4.out.c0
          have HROW := Lib.hid (show (Value.slice B' m' d').ownBlock ≠ some wr.heap.size from fun e => by have := (LR3.out.own.lt _ e).2; omega)
          clear HY1 KY1
          by_cases hxo : x.2 ≤ o3.1
          · have HE := Lib.hid (show L = S.1 ++ (goOver x OS).1 ∧ (lo, x.2) = (goOver x OS).2 by
             have h := HE0.out
             rw [HD3.out] at h
             simp only [goOver, if_pos hxo, List.append_nil] at h
             exact h)
            rw [← HA3.out]
            go_upto_region 15 with fail
            clear b0 b1 e0 e1 hxo
            have d0 := LR4.out.c0
            have d1 := LR4.out.c1
            by_cases hlh : lo < x.2
            · have HLH := Lib.hid hlh
              go_wp2_with (first | (with_reducible refine load_rn rfl _ rfl bx 0 rfl (lo, x.2) (box_range LR4.out.box) ?_; simp only [encR]) | (at_builtin; refine wpList_append_at rfl _ _ 117 rfl w.heap.size 124 i2 _ 2 16 Tryz.underlying117 hj hj0 hj1 hj2 rfl (by decide) _ _ _ rfl (own_keep LR4.out.own ((Below.refl _ W4).alloc (Nat.le_refl _) _)) ⟨W4.heap.size, 0, none⟩ 1 1 (encR (lo, x.2)) rfl rfl (new_row W4 _ _) (encR_one _) (by unfold maxLen; have := HLT.out; have := HN.out; have := HMB.out; have := HM0.out; have := HLE.out; omega) (by have := HLT.out; have := HN.out; have := HMB.out; have := HM0.out; have := HLE.out; omega) (by have := LR4.out.low.size; simp; omega) ?_; intro v' w6 hown6 hg6 ha6; obtain ⟨B6, d6, rfl, hl6⟩ := (LR4.out.step ((Below.refl _ W4).alloc (Nat.le_refl _) _)).app hown6 hg6 ha6; have LR6 := Lib.hid hl6; have HG6 := Lib.hid hg6; clear hown6 hg6 ha6 hl6))
              go_roundw
              case rel => exact ⟨ku + 1, A', n', c', B6, m' + 1, d6, by have := HLT.out; omega, by go_num, rfl, by rw [HT.out]; show Sv w A' n' c' 2 (encs encR (dropB x.1 S.2)); rw [HOS.out]; exact HSV.out, HLE.out, rfl, by rw [HT.out]; rw [show (cutStep S x).1 = L ++ [(lo, x.2)] by unfold cutStep; rw [HOS.out, ← HE.out.2, ← HE.out.1]; rw [if_pos HLH.out]]; exact LR6.out.own, by have := HMB.out; have := HM0.out; have := HLE.out; have := HN.out; omega, LR6.out.low⟩
              case measure => have := HLT.out; simp [intOf]; omega
            · have HLH := Lib.hid hlh
              go_wp2
              go_roundw
              case rel => exact ⟨ku + 1, A', n', c', B', m', d', by have := HLT.out; omega, by go_num, rfl, by rw [HT.out]; show Sv w A' n' c' 2 (encs encR (dropB x.1 S.2)); rw [HOS.out]; exact HSV.out, HLE.out, rfl, by rw [HT.out]; rw [show (cutStep S x).1 = L by unfold cutStep; rw [HOS.out, ← HE.out.2, ← HE.out.1]; rw [if_neg HLH.out, List.append_nil]]; exact LR4.out.own, by have := HMB.out; have := HM0.out; have := HLE.out; have := HN.out; omega, LR4.out.low⟩
              case measure => have := HLT.out; simp [intOf]; omega
          · have HXO := Lib.hid hxo
            have ef := LR4.out.fz
            by_cases hlo : lo < o3.1
            · have HLO := Lib.hid hlo
              go_upto_region 13 with (at_builtin; refine wpList_append_at rfl _ _ 117 rfl w.heap.size 124 i2 _ 2 16 Tryz.underlying117 hj hj0 hj1 hj2 rfl (by decide) _ _ _ rfl (own_keep LR4.out.own ((Below.refl _ W4).alloc (Nat.le_refl _) _)) ⟨W4.heap.size, 0, none⟩ 1 1 (encR (lo, o3.1)) rfl rfl (new_row W4 _ _) (encR_one _) (by unfold maxLen; have := HLT.out; have := HN.out; have := HMB.out; have := HM0.out; have := HLE.out; omega) (by have := HLT.out; have := HN.out; have := HMB.out; have := HM0.out; have := HLE.out; omega) (by have := LR4.out.low.size; simp; omega) ?_; intro v' w6 hown6 hg6 ha6; obtain ⟨B6, d6, rfl, hl6⟩ := (LR4.out.step ((Below.refl _ W4).alloc (Nat.le_refl _) _)).app hown6 hg6 ha6; have LR6 := Lib.hid hl6; have HG6 := Lib.hid hg6; clear hown6 hg6 ha6 hl6)
              have f1 : w6.cell? ⟨wr.heap.size, 1, none⟩ = some (.int .i64 o3.2) := by
               have h1 : (W4.alloc (.cells (encR (lo, o3.1)).toArray 124)).heap[wr.heap.size]? = W4.heap[wr.heap.size]? := ((Below.refl _ W4).alloc (Nat.le_refl _) _).block _ (KY2.out.lt 0 rfl)
               have h2 := KY2.out.lt 0 rfl
               exact cell_of_row _ _ 1 _ _ _ ((HG6.out.block wr.heap.size (by simp; omega) (by intro e; first | exact HROW.out e | exact HROW.out e.symm)).trans (h1.trans (KY2.out.at 0 rfl).out))
              have f2 := LR6.out.fz
              have f0 := LR6.out.c0
              clear b0 b1 e0 e1 ef hxo hlo
              go_wp2
              go_roundw
              case rel => exact ⟨q + 1, B6, m' + 1, d6, L ++ [(lo, o3.1)], o3.2, HQ.out, by go_num, rfl, LR6.out.put o3.2, (by
               have h := HE0.out
               rw [HD3.out] at h
               simp only [goOver, if_neg HXO.out, if_pos HLO.out] at h
               rw [List.append_assoc]
               exact h), by have := HMB.out; omega⟩
              case measure => have := HQ.out; simp [intOf]; omega
            · have HLO := Lib.hid hlo
              go_wp2
              go_roundw
              case rel => exact ⟨q + 1, B', m', d', L, o3.2, HQ.out, by go_num, rfl, LR4.out.put o3.2, (by
               have h := HE0.out
               rw [HD3.out] at h
               simp only [goOver, if_neg HXO.out, if_neg HLO.out, List.nil_append] at h
               exact h), by have := HMB.out; omega⟩
              case measure => have := HQ.out; simp [intOf]; omega
        · have hqe : q = n' := by omega
          have qn : ¬ (q : Int) < (n' : Int) := by omega
          have HE := Lib.hid (show L = S.1 ++ (goOver x OS).1 ∧ (lo, x.2) = (goOver x OS).2 by
           have h := HE0.out
           rw [List.drop_eq_nil_of_le (by rw [HOL.out]; omega)] at h
           simp only [goOver, List.append_nil] at h
           exact h)
          have LR4 := LR3
          obtain ⟨W4, hW4⟩ : ∃ q, q = wr := ⟨_, rfl⟩
          subst hW4
          have HQ := Lib.hid hq
          go_upto_region 15 with fail
          clear hqe qn hqn
          have d0 := LR4.out.c0
          have d1 := LR4.out.c1
          by_cases hlh : lo < x.2
          · have HLH := Lib.hid hlh
            go_wp2_with (first | (with_reducible refine load_rn rfl _ rfl bx 0 rfl (lo, x.2) (box_range LR4.out.box) ?_; simp only [encR]) | (at_builtin; refine wpList_append_at rfl _ _ 117 rfl w.heap.size 124 i2 _ 2 16 Tryz.underlying117 hj hj0 hj1 hj2 rfl (by decide) _ _ _ rfl (own_keep LR4.out.own ((Below.refl _ W4).alloc (Nat.le_refl _) _)) ⟨W4.heap.size, 0, none⟩ 1 1 (encR (lo, x.2)) rfl rfl (new_row W4 _ _) (encR_one _) (by unfold maxLen; have := HLT.out; have := HN.out; have := HMB.out; have := HM0.out; have := HLE.out; omega) (by have := HLT.out; have := HN.out; have := HMB.out; have := HM0.out; have := HLE.out; omega) (by have := LR4.out.low.size; simp; omega) ?_; intro v' w6 hown6 hg6 ha6; obtain ⟨B6, d6, rfl, hl6⟩ := (LR4.out.step ((Below.refl _ W4).alloc (Nat.le_refl _) _)).app hown6 hg6 ha6; have LR6 := Lib.hid hl6; have HG6 := Lib.hid hg6; clear hown6 hg6 ha6 hl6))
            go_roundw
            case rel => exact ⟨ku + 1, A', n', c', B6, m' + 1, d6, by have := HLT.out; omega, by go_num, rfl, by rw [HT.out]; show Sv w A' n' c' 2 (encs encR (dropB x.1 S.2)); rw [HOS.out]; exact HSV.out, HLE.out, rfl, by rw [HT.out]; rw [show (cutStep S x).1 = L ++ [(lo, x.2)] by unfold cutStep; rw [HOS.out, ← HE.out.2, ← HE.out.1]; rw [if_pos HLH.out]]; exact LR6.out.own, by have := HMB.out; have := HM0.out; have := HLE.out; have := HN.out; omega, LR6.out.low⟩
            case measure => have := HLT.out; simp [intOf]; omega
          · have HLH := Lib.hid hlh
            go_wp2
            go_roundw
            case rel => exact ⟨ku + 1, A', n', c', B', m', d', by have := HLT.out; omega, by go_num, rfl, by rw [HT.out]; show Sv w A' n' c' 2 (encs encR (dropB x.1 S.2)); rw [HOS.out]; exact HSV.out, HLE.out, rfl, by rw [HT.out]; rw [show (cutStep S x).1 = L by unfold cutStep; rw [HOS.out, ← HE.out.2, ← HE.out.1]; rw [if_neg HLH.out, List.append_nil]]; exact LR4.out.own, by have := HMB.out; have := HM0.out; have := HLE.out; have := HN.out; omega, LR4.out.low⟩
            case measure => have := HLT.out; simp [intOf]; omega
     · have hposN : 0 < n' := by have := HOL.out; simp at this; omega
       have hpos : (0 : Int) < (n' : Int) := by have := HOL.out; simp at this; omega
       obtain ⟨gq, aq, hAq, hgq, hcq⟩ := Sv.range encR_len (by decide) (HSV.out.below LRD.out.low) (show (o :: os)[0]? = some o from rfl)
       have q1 : wr.drew.cell? ⟨gq, aq + 1, none⟩ = some (.int .i64 o.2) := by have := hcq 1 (.int .i64 o.2) rfl; rw [show aq + 0 * 2 + 1 = aq + 1 by omega] at this; exact this
       have q0 := LRD.out.c0
       have HAQ := Lib.hid hAq
       rw [hAq]
       clear hcq hAq
       go_upto_region 5 with fail
       refine wp_region_ord (fun w' => w'.cell? ⟨bx, 0, none⟩ = some (.int .i64 x.1) ∧ w'.cell? ⟨gq, aq + 1, none⟩ = some (.int .i64 o.2)) [(0, true), (1, true), (2, true), (3, true), (4, true), (5, true), (6, true), (7, true), (8, true), (9, true), (10, true), (11, true)] (by kernel_rfl) (by kernel_rfl) (by kernel_rfl) ⟨q0, q1⟩ (fun d _ _ _ _ h => by cases d <;> exact h) ?_
       iterate 2 refine ord_pure ?_
       refine ord_pure (v := .bool true) ?_
       iterate 9 refine ord_pure ?_
       refine ord_nil ?_
       obtain ⟨yd, hyd⟩ : ∃ q, q = wr.drew := ⟨_, rfl⟩
       rw [← hyd] at HD LRD HBD ⊢
       clear hyd q0 q1
       by_cases hox : o.2 ≤ x.1
       · have HOX := Lib.hid hox
         obtain ⟨SA, hSA, hAd⟩ := slice1 (some ⟨gq, aq, none⟩) n' c' (by omega)
         have HAD := Lib.hid hAd
         go_wp2_with (simp only [hSA])
         go_roundw
         case rel => exact ⟨SA, n' - 1, c' - 1, os, rfl, Sv.tail2 (by rw [← HAQ.out]; exact HSV.out) HAD.out, by rw [← HDR.out]; simp [dropB, HOX.out], by have := HLE.out; omega, HBD.out⟩
         case measure => simp [slLen]; omega
       · have HOS := Lib.hid (show dropB x.1 S.2 = o :: os by rw [← HDR.out]; simp [dropB, hox])
         obtain ⟨OS, hos⟩ : ∃ OS : List Rn, o :: os = OS := ⟨_, rfl⟩
         rw [hos] at HOS HSV HOL
         rw [← HAQ.out]
         clear hos HB HDR LRW HD HBD hpos hposN HAQ
         go_wp2
         (try clear hox)
         obtain ⟨wu, hwu⟩ : ∃ q, q = wr := ⟨_, rfl⟩
         subst hwu
         go_loopw [5, 32] (fun lf i wr => ∃ (q : Nat) (B' : Option Addr) (m' d' : Nat) (L : List Rn) (lo : Int), q ≤ n' ∧ i = .int .i64 q ∧ lf = .slice B' m' d' ∧ LeftR w wr bx B' m' d' L lo x.2 ∧ (L ++ (goOver (lo, x.2) (OS.drop q)).1 = S.1 ++ (goOver x OS).1 ∧ (goOver (lo, x.2) (OS.drop q)).2 = (goOver x OS).2) ∧ m' ≤ M0 + q) (fun _ i _ => n' - (intOf i).toNat)
         case atStart => exact ⟨0, B, m, d, S.1, x.1, Nat.zero_le _, rfl, rfl, LRD.out, (by rw [List.drop_zero]; exact ⟨rfl, rfl⟩), HM1.out⟩
         case round =>
          obtain ⟨q, B', m', d', L, lo, hq, rfl, rfl, hlr, he, hmb⟩ := hrel
          have LR3 := Lib.hid hlr
          have HE0 := Lib.hid he
          have HMB := Lib.hid hmb
          clear hlr he hmb
          by_cases hqn : q < n'
          · obtain ⟨o3, ho3⟩ : ∃ o3, OS[q]? = some o3 := ⟨_, List.getElem?_eq_getElem (by rw [HOL.out]; exact hqn)⟩
            have qn : (q : Int) < (n' : Int) := Int.ofNat_lt.2 hqn
            have q0 : (0 : Int) ≤ (q : Int) := Int.natCast_nonneg q
            have hwq : IntKind.i64.wrap ((q : Int) + 1) = (q : Int) + 1 := IntWalk.i64_in _ (by have := HN.out; have := HLE.out; omega)
            obtain ⟨g3, a3, hA3, hg3, hc3⟩ := Sv.range encR_len (by decide) (HSV.out.below LR3.out.low) ho3
            have HC3 := Lib.hid hc3
            have HA3 := Lib.hid hA3
            have HD3 := Lib.hid (show OS.drop q = o3 :: OS.drop (q + 1) by rw [← (List.getElem?_eq_some_iff.1 ho3).2]; exact List.drop_eq_getElem_cons _)
            have HQ := Lib.hid hqn
            rw [hA3]
            clear hc3 hA3 hqn hq
            have kk0 := Bxs.nil wr
            obtain ⟨y1, hwy1, hzy1, ky1⟩ := kk0.new rfl z2 z2 124
            have HY1 := Lib.hid hwy1
            have KY1 := Lib.hid ky1
            have KY2 := Lib.hid (ky1.row 0 rfl (encR o3).toArray)
            clear kk0 hwy1 hzy1 ky1
            go_upto_region 10 with (first | rw [HY1.out] | (with_reducible refine load_rn rfl _ rfl g3 (a3 + q * 2) rfl o3 HC3.out ?_) | (with_reducible refine store_rn rfl _ _ rfl wr.heap.size rfl o3 rfl z2 (KY1.out.at 0 rfl).out rfl ?_))
            generalize y1.setRow wr.heap.size (encR o3).toArray = W4 at *
            have LR4 := Lib.hid (LR3.out.step KY2.out.low.out)
            have b0 : W4.cell? ⟨wr.heap.size, 0, none⟩ = some (.int .i64 o3.1) := KY2.out.cell 0 0 _ rfl
            have b1 : W4.cell? ⟨wr.heap.size, 1, none⟩ = some (.int .i64 o3.2) := KY2.out.cell 0 1 _ rfl
            have e1 := LR4.out.c1
            have e0 := LR4.out.c0
            have HROW := Lib.hid (show (Value.slice B' m' d').ownBlock ≠ some wr.heap.size from fun e => by have := (LR3.out.own.lt _ e).2; omega)
            clear HY1 KY1
            by_cases hxo : x.2 ≤ o3.1
            · have HE := Lib.hid (show L = S.1 ++ (goOver x OS).1 ∧ (lo, x.2) = (goOver x OS).2 by
               have h := HE0.out
               rw [HD3.out] at h
               simp only [goOver, if_pos hxo, List.append_nil] at h
               exact h)
              rw [← HA3.out]
              go_upto_region 15 with fail
              clear b0 b1 e0 e1 hxo
              have d0 := LR4.out.c0
              have d1 := LR4.out.c1
              by_cases hlh : lo < x.2
              · have HLH := Lib.hid hlh
                go_wp2_with (first | (with_reducible refine load_rn rfl _ rfl bx 0 rfl (lo, x.2) (box_range LR4.out.box) ?_; simp only [encR]) | (at_builtin; refine wpList_append_at rfl _ _ 117 rfl w.heap.size 124 i2 _ 2 16 Tryz.underlying117 hj hj0 hj1 hj2 rfl (by decide) _ _ _ rfl (own_keep LR4.out.own ((Below.refl _ W4).alloc (Nat.le_refl _) _)) ⟨W4.heap.size, 0, none⟩ 1 1 (encR (lo, x.2)) rfl rfl (new_row W4 _ _) (encR_one _) (by unfold maxLen; have := HLT.out; have := HN.out; have := HMB.out; have := HM0.out; have := HLE.out; omega) (by have := HLT.out; have := HN.out; have := HMB.out; have := HM0.out; have := HLE.out; omega) (by have := LR4.out.low.size; simp; omega) ?_; intro v' w6 hown6 hg6 ha6; obtain ⟨B6, d6, rfl, hl6⟩ := (LR4.out.step ((Below.refl _ W4).alloc (Nat.le_refl _) _)).app hown6 hg6 ha6; have LR6 := Lib.hid hl6; have HG6 := Lib.hid hg6; clear hown6 hg6 ha6 hl6))
                go_roundw
                case rel => exact ⟨ku + 1, A', n', c', B6, m' + 1, d6, by have := HLT.out; omega, by go_num, rfl, by rw [HT.out]; show Sv w A' n' c' 2 (encs encR (dropB x.1 S.2)); rw [HOS.out]; exact HSV.out, HLE.out, rfl, by rw [HT.out]; rw [show (cutStep S x).1 = L ++ [(lo, x.2)] by unfold cutStep; rw [HOS.out, ← HE.out.2, ← HE.out.1]; rw [if_pos HLH.out]]; exact LR6.out.own, by have := HMB.out; have := HM0.out; have := HLE.out; have := HN.out; omega, LR6.out.low⟩
                case measure => have := HLT.out; simp [intOf]; omega
              · have HLH := Lib.hid hlh
                go_wp2
                go_roundw
                case rel => exact ⟨ku + 1, A', n', c', B', m', d', by have := HLT.out; omega, by go_num, rfl, by rw [HT.out]; show Sv w A' n' c' 2 (encs encR (dropB x.1 S.2)); rw [HOS.out]; exact HSV.out, HLE.out, rfl, by rw [HT.out]; rw [show (cutStep S x).1 = L by unfold cutStep; rw [HOS.out, ← HE.out.2, ← HE.out.1]; rw [if_neg HLH.out, List.append_nil]]; exact LR4.out.own, by have := HMB.out; have := HM0.out; have := HLE.out; have := HN.out; omega, LR4.out.low⟩
                case measure => have := HLT.out; simp [intOf]; omega
            · have HXO := Lib.hid hxo
              have ef := LR4.out.fz
              by_cases hlo : lo < o3.1
              · have HLO := Lib.hid hlo
                go_upto_region 13 with (at_builtin; refine wpList_append_at rfl _ _ 117 rfl w.heap.size 124 i2 _ 2 16 Tryz.underlying117 hj hj0 hj1 hj2 rfl (by decide) _ _ _ rfl (own_keep LR4.out.own ((Below.refl _ W4).alloc (Nat.le_refl _) _)) ⟨W4.heap.size, 0, none⟩ 1 1 (encR (lo, o3.1)) rfl rfl (new_row W4 _ _) (encR_one _) (by unfold maxLen; have := HLT.out; have := HN.out; have := HMB.out; have := HM0.out; have := HLE.out; omega) (by have := HLT.out; have := HN.out; have := HMB.out; have := HM0.out; have := HLE.out; omega) (by have := LR4.out.low.size; simp; omega) ?_; intro v' w6 hown6 hg6 ha6; obtain ⟨B6, d6, rfl, hl6⟩ := (LR4.out.step ((Below.refl _ W4).alloc (Nat.le_refl _) _)).app hown6 hg6 ha6; have LR6 := Lib.hid hl6; have HG6 := Lib.hid hg6; clear hown6 hg6 ha6 hl6)
                have f1 : w6.cell? ⟨wr.heap.size, 1, none⟩ = some (.int .i64 o3.2) := by
                 have h1 : (W4.alloc (.cells (encR (lo, o3.1)).toArray 124)).heap[wr.heap.size]? = W4.heap[wr.heap.size]? := ((Below.refl _ W4).alloc (Nat.le_refl _) _).block _ (KY2.out.lt 0 rfl)
                 have h2 := KY2.out.lt 0 rfl
                 exact cell_of_row _ _ 1 _ _ _ ((HG6.out.block wr.heap.size (by simp; omega) (by intro e; first | exact HROW.out e | exact HROW.out e.symm)).trans (h1.trans (KY2.out.at 0 rfl).out))
                have f2 := LR6.out.fz
                have f0 := LR6.out.c0
                clear b0 b1 e0 e1 ef hxo hlo
                go_wp2
                go_roundw
                case rel => exact ⟨q + 1, B6, m' + 1, d6, L ++ [(lo, o3.1)], o3.2, HQ.out, by go_num, rfl, LR6.out.put o3.2, (by
                 have h := HE0.out
                 rw [HD3.out] at h
                 simp only [goOver, if_neg HXO.out, if_pos HLO.out] at h
                 rw [List.append_assoc]
                 exact h), by have := HMB.out; omega⟩
                case measure => have := HQ.out; simp [intOf]; omega
              · have HLO := Lib.hid hlo
                go_wp2
                go_roundw
                case rel => exact ⟨q + 1, B', m', d', L, o3.2, HQ.out, by go_num, rfl, LR4.out.put o3.2, (by
                 have h := HE0.out
                 rw [HD3.out] at h
                 simp only [goOver, if_neg HXO.out, if_neg HLO.out, List.nil_append] at h
                 exact h), by have := HMB.out; omega⟩
                case measure => have := HQ.out; simp [intOf]; omega
          · have hqe : q = n' := by omega
            have qn : ¬ (q : Int) < (n' : Int) := by omega
            have HE := Lib.hid (show L = S.1 ++ (goOver x OS).1 ∧ (lo, x.2) = (goOver x OS).2 by
             have h := HE0.out
             rw [List.drop_eq_nil_of_le (by rw [HOL.out]; omega)] at h
             simp only [goOver, List.append_nil] at h
             exact h)
            have LR4 := LR3
            obtain ⟨W4, hW4⟩ : ∃ q, q = wr := ⟨_, rfl⟩
            subst hW4
            have HQ := Lib.hid hq
            go_upto_region 15 with fail
            clear hqe qn hqn
            have d0 := LR4.out.c0
            have d1 := LR4.out.c1
            by_cases hlh : lo < x.2
            · have HLH := Lib.hid hlh
              go_wp2_with (first | (with_reducible refine load_rn rfl _ rfl bx 0 rfl (lo, x.2) (box_range LR4.out.box) ?_; simp only [encR]) | (at_builtin; refine wpList_append_at rfl _ _ 117 rfl w.heap.size 124 i2 _ 2 16 Tryz.underlying117 hj hj0 hj1 hj2 rfl (by decide) _ _ _ rfl (own_keep LR4.out.own ((Below.refl _ W4).alloc (Nat.le_refl _) _)) ⟨W4.heap.size, 0, none⟩ 1 1 (encR (lo, x.2)) rfl rfl (new_row W4 _ _) (encR_one _) (by unfold maxLen; have := HLT.out; have := HN.out; have := HMB.out; have := HM0.out; have := HLE.out; omega) (by have := HLT.out; have := HN.out; have := HMB.out; have := HM0.out; have := HLE.out; omega) (by have := LR4.out.low.size; simp; omega) ?_; intro v' w6 hown6 hg6 ha6; obtain ⟨B6, d6, rfl, hl6⟩ := (LR4.out.step ((Below.refl _ W4).alloc (Nat.le_refl _) _)).app hown6 hg6 ha6; have LR6 := Lib.hid hl6; have HG6 := Lib.hid hg6; clear hown6 hg6 ha6 hl6))
              go_roundw
              case rel => exact ⟨ku + 1, A', n', c', B6, m' + 1, d6, by have := HLT.out; omega, by go_num, rfl, by rw [HT.out]; show Sv w A' n' c' 2 (encs encR (dropB x.1 S.2)); rw [HOS.out]; exact HSV.out, HLE.out, rfl, by rw [HT.out]; rw [show (cutStep S x).1 = L ++ [(lo, x.2)] by unfold cutStep; rw [HOS.out, ← HE.out.2, ← HE.out.1]; rw [if_pos HLH.out]]; exact LR6.out.own, by have := HMB.out; have := HM0.out; have := HLE.out; have := HN.out; omega, LR6.out.low⟩
              case measure => have := HLT.out; simp [intOf]; omega
            · have HLH := Lib.hid hlh
              go_wp2
              go_roundw
              case rel => exact ⟨ku + 1, A', n', c', B', m', d', by have := HLT.out; omega, by go_num, rfl, by rw [HT.out]; show Sv w A' n' c' 2 (encs encR (dropB x.1 S.2)); rw [HOS.out]; exact HSV.out, HLE.out, rfl, by rw [HT.out]; rw [show (cutStep S x).1 = L by unfold cutStep; rw [HOS.out, ← HE.out.2, ← HE.out.1]; rw [if_neg HLH.out, List.append_nil]]; exact LR4.out.own, by have := HMB.out; have := HM0.out; have := HLE.out; have := HN.out; omega, LR4.out.low⟩
              case measure => have := HLT.out; simp [intOf]; omega
  · have he : k = n := by omega
    subst he
    have kn : ¬ (k : Int) < (k : Int) := Int.lt_irrefl _
    have HTT := Lib.hid (show l.take k = l by rw [← HL.out, List.take_length])
    rw [HTT.out] at HOW
    go_wp2
    go_ret
    exact ⟨B, m, d, rfl, HOW.out, HBW.out⟩
end Go.Proofs.YtemgejblnionlaaGreatDoor
namespace Go.Proofs.YtemgejblnionlaaGreatDoor
set_option maxHeartbeats 1000000
def inR (l : List Rn) (x : Int) : Prop := ∃ r ∈ l, r.1 ≤ x ∧ x < r.2
structure NormR (l : List Rn) : Prop where
 apart : l.Pairwise (fun a b => a.2 < b.1)
 pos : ∀ r ∈ l, r.1 < r.2
theorem inR_nil (x : Int) : ¬ inR [] x := fun ⟨_, h, _⟩ => by cases h
theorem inR_append (l m : List Rn) (x : Int) : inR (l ++ m) x ↔ inR l x ∨ inR m x := by
 constructor
 · rintro ⟨r, h, k⟩
   rcases List.mem_append.1 h with h | h
   · exact .inl ⟨r, h, k⟩
   · exact .inr ⟨r, h, k⟩
 · rintro (⟨r, h, k⟩ | ⟨r, h, k⟩)
   · exact ⟨r, List.mem_append_left _ h, k⟩
   · exact ⟨r, List.mem_append_right _ h, k⟩
theorem inR_one (r : Rn) (x : Int) : inR [r] x ↔ r.1 ≤ x ∧ x < r.2 := by
 constructor
 · rintro ⟨q, h, k⟩
   rw [List.mem_singleton.1 h] at k
   exact k
 · exact fun k => ⟨r, List.mem_singleton.2 rfl, k⟩
theorem joinStep_last (l : List Rn) (p r : Rn) : joinStep (l ++ [p]) r = if r.1 ≤ p.2 then l ++ [(p.1, max p.2 r.2)] else l ++ [p] ++ [r] := by
 unfold joinStep
 have h : (l ++ [p])[(l ++ [p]).length - 1]? = some p := by simp
 rw [h]
 simp only []
 split
 · rw [List.length_append, List.length_singleton, Nat.add_sub_cancel, List.set_append_right _ _ (Nat.le_refl _), Nat.sub_self, List.set_cons_zero]
 · rfl
theorem joinStep_norm {out : List Rn} {r : Rn} (h : NormR out) (hs : ∀ p ∈ out, p.1 ≤ r.1) (hr : r.1 < r.2) : NormR (joinStep out r) ∧ (∀ x, inR (joinStep out r) x ↔ inR out x ∨ (r.1 ≤ x ∧ x < r.2)) ∧ ∀ p ∈ joinStep out r, p.1 ≤ r.1 := by
 rcases List.eq_nil_or_concat out with rfl | ⟨l, p, rfl⟩
 · refine ⟨⟨List.pairwise_singleton _ _, fun q hq => ?_⟩, fun x => ?_, fun q hq => ?_⟩
   · rw [show joinStep [] r = [r] from rfl] at hq
     rw [List.mem_singleton.1 hq]; exact hr
   · rw [show joinStep [] r = [r] from rfl, inR_one]
     exact ⟨.inr, fun k => k.resolve_left (inR_nil x)⟩
   · rw [show joinStep [] r = [r] from rfl] at hq
     rw [List.mem_singleton.1 hq]; exact Int.le_refl _
 · rw [List.concat_eq_append] at h hs ⊢
   rw [joinStep_last]
   have hp := h.pos p (List.mem_append_right _ (List.mem_singleton.2 rfl))
   have hpr := hs p (List.mem_append_right _ (List.mem_singleton.2 rfl))
   obtain ⟨h1, h2, h3⟩ := List.pairwise_append.1 h.apart
   by_cases hle : r.1 ≤ p.2
   · rw [if_pos hle]
     have hmx : p.2 ≤ max p.2 r.2 ∧ r.2 ≤ max p.2 r.2 := ⟨Int.le_max_left _ _, Int.le_max_right _ _⟩
     have hmy : max p.2 r.2 = p.2 ∨ max p.2 r.2 = r.2 := by rw [Int.max_def]; split <;> simp
     refine ⟨⟨List.pairwise_append.2 ⟨h1, List.pairwise_singleton _ _, fun a ha b hb => ?_⟩, fun q hq => ?_⟩, fun x => ?_, fun q hq => ?_⟩
     · rw [List.mem_singleton.1 hb]
       exact h3 a ha p (List.mem_singleton.2 rfl)
     · rcases List.mem_append.1 hq with hq | hq
       · exact h.pos q (List.mem_append_left _ hq)
       · rw [List.mem_singleton.1 hq]; show p.1 < max p.2 r.2; omega
     · rw [inR_append, inR_append, inR_one, inR_one]
       show inR l x ∨ (p.1 ≤ x ∧ x < max p.2 r.2) ↔ _
       constructor
       · rintro (k | ⟨k1, k2⟩)
         · exact .inl (.inl k)
         · by_cases k3 : x < p.2
           · exact .inl (.inr ⟨k1, k3⟩)
           · exact .inr ⟨by omega, by omega⟩
       · rintro ((k | ⟨k1, k2⟩) | ⟨k1, k2⟩)
         · exact .inl k
         · exact .inr ⟨k1, by omega⟩
         · exact .inr ⟨by omega, by omega⟩
     · rcases List.mem_append.1 hq with hq | hq
       · exact hs q (List.mem_append_left _ hq)
       · rw [List.mem_singleton.1 hq]; exact hpr
   · rw [if_neg hle]
     refine ⟨⟨List.pairwise_append.2 ⟨h.apart, List.pairwise_singleton _ _, fun a ha b hb => ?_⟩, fun q hq => ?_⟩, fun x => ?_, fun q hq => ?_⟩
     · rw [List.mem_singleton.1 hb]
       rcases List.mem_append.1 ha with ha | ha
       · have := h3 a ha p (List.mem_singleton.2 rfl); omega
       · rw [List.mem_singleton.1 ha]; omega
     · rcases List.mem_append.1 hq with hq | hq
       · exact h.pos q hq
       · rw [List.mem_singleton.1 hq]; exact hr
     · rw [inR_append, inR_one]
     · rcases List.mem_append.1 hq with hq | hq
       · exact hs q hq
       · rw [List.mem_singleton.1 hq]; exact Int.le_refl _
theorem joinF_norm : ∀ (n : Nat) (l : List Rn), l.length = n → l.Pairwise (fun a b => a.1 ≤ b.1) → (∀ r ∈ l, r.1 < r.2) → NormR (joinF l) ∧ (∀ x, inR (joinF l) x ↔ inR l x) ∧ ∀ r, (∀ a ∈ l, a.1 ≤ r) → ∀ p ∈ joinF l, p.1 ≤ r
 | 0, l, hl, _, _ => by
   obtain rfl := List.eq_nil_of_length_eq_zero hl
   exact ⟨⟨List.Pairwise.nil, fun _ h => by cases h⟩, fun _ => Iff.rfl, fun _ _ _ h => by cases h⟩
 | n + 1, l, hl, hs, hp => by
   rcases List.eq_nil_or_concat l with rfl | ⟨m, a, rfl⟩
   · cases hl
   · rw [List.concat_eq_append] at hl hs hp ⊢
     obtain ⟨h1, _, h3⟩ := List.pairwise_append.1 hs
     obtain ⟨k1, k2, k3⟩ := joinF_norm n m (by simpa using hl) h1 (fun r hr => hp r (List.mem_append_left _ hr))
     have ha := k3 a.1 (fun b hb => h3 b hb a (List.mem_singleton.2 rfl))
     obtain ⟨j1, j2, j3⟩ := joinStep_norm k1 ha (hp a (List.mem_append_right _ (List.mem_singleton.2 rfl)))
     rw [joinF_snoc]
     refine ⟨j1, fun x => by rw [j2, k2, inR_append, inR_one], fun r hr p hpp => ?_⟩
     have h5 := j3 p hpp
     have h6 := hr a (List.mem_append_right _ (List.mem_singleton.2 rfl))
     omega
theorem inR_perm {l m : List Rn} (h : l.Perm m) (x : Int) : inR l x ↔ inR m x :=
 ⟨fun ⟨r, k1, k2⟩ => ⟨r, h.mem_iff.1 k1, k2⟩, fun ⟨r, k1, k2⟩ => ⟨r, h.mem_iff.2 k1, k2⟩⟩
end Go.Proofs.YtemgejblnionlaaGreatDoor
namespace Go.Proofs.YtemgejblnionlaaGreatDoor
set_option maxHeartbeats 1000000
theorem NormR.tail {o : Rn} {os : List Rn} (h : NormR (o :: os)) : NormR os ∧ o.1 < o.2 ∧ ∀ q ∈ os, o.2 < q.1 ∧ q.1 < q.2 :=
 ⟨⟨(List.pairwise_cons.1 h.apart).2, fun r hr => h.pos r (List.mem_cons_of_mem _ hr)⟩, h.pos o (List.mem_cons_self ..), fun q hq => ⟨(List.pairwise_cons.1 h.apart).1 q hq, h.pos q (List.mem_cons_of_mem _ hq)⟩⟩
theorem inR_cons (o : Rn) (os : List Rn) (x : Int) : inR (o :: os) x ↔ (o.1 ≤ x ∧ x < o.2) ∨ inR os x := by
 rw [show o :: os = [o] ++ os from rfl, inR_append, inR_one]
theorem NormR.nil : NormR [] := ⟨List.Pairwise.nil, fun _ h => by cases h⟩
def begins (r o : Rn) : Bool := decide (r.1 < o.1) && decide (o.1 < r.2)
structure Over (r : Rn) (os a : List Rn) (r' : Rn) : Prop where
 hi : r'.2 = r.2
 lo : r.1 ≤ r'.1
 set : ∀ x, (inR a x ∨ (r'.1 ≤ x ∧ x < r'.2)) ↔ (r.1 ≤ x ∧ x < r.2) ∧ ¬ inR os x
 norm : NormR a
 in_ : ∀ p ∈ a, r.1 ≤ p.1 ∧ p.2 < r'.1 ∧ p.2 ≤ r.2
 len : a.length ≤ os.countP (begins r)
theorem over_ok : ∀ (os : List Rn) (r : Rn), NormR os → (∀ o ∈ os, r.1 < o.2) → Over r os (goOver r os).1 (goOver r os).2
 | [], r, _, _ => ⟨rfl, Int.le_refl _, fun x => ⟨fun h => ⟨h.resolve_left (inR_nil x), inR_nil x⟩, fun h => .inr h.1⟩, .nil, (fun _ h => by cases h), Nat.zero_le _⟩
 | o :: os, r, h, hp => by
   obtain ⟨h1, h2, h3⟩ := h.tail
   have hro := hp o (List.mem_cons_self ..)
   have beyond : ∀ x, x ≤ o.2 → ¬ inR os x := fun x hx ⟨q, k1, k2, _⟩ => by have := (h3 q k1).1; omega
   unfold goOver
   by_cases hle : r.2 ≤ o.1
   · rw [if_pos hle]
     show Over r (o :: os) [] r
     refine ⟨rfl, Int.le_refl _, fun x => ⟨fun k => ?_, fun k => .inr k.1⟩, .nil, (fun _ h => by cases h), Nat.zero_le _⟩
     have k := k.resolve_left (inR_nil x)
     exact ⟨k, fun k2 => ((inR_cons o os x).1 k2).elim (fun k2 => by omega) (beyond x (by omega))⟩
   · rw [if_neg hle]
     obtain ⟨e1, e2, e3, e4, e5, e6⟩ := over_ok os (o.2, r.2) h1 (fun q hq => by have := h3 q hq; show o.2 < q.2; omega)
     generalize (goOver (o.2, r.2) os).1 = a at *
     generalize (goOver (o.2, r.2) os).2 = r' at *
     have e1 : r'.2 = r.2 := e1
     have e2 : o.2 ≤ r'.1 := e2
     have e3 : ∀ x, (inR a x ∨ (r'.1 ≤ x ∧ x < r'.2)) ↔ (o.2 ≤ x ∧ x < r.2) ∧ ¬ inR os x := e3
     have e5 : ∀ p ∈ a, o.2 ≤ p.1 ∧ p.2 < r'.1 ∧ p.2 ≤ r.2 := e5
     have hcnt : os.countP (begins (o.2, r.2)) ≤ os.countP (begins r) := List.countP_mono_left fun q _ k => by
      simp only [begins, Bool.and_eq_true, decide_eq_true_eq] at k ⊢; omega
     by_cases hlo : r.1 < o.1
     · simp only [if_pos hlo]
       refine ⟨e1, by omega, fun x => ?_, ⟨List.pairwise_append.2 ⟨List.pairwise_singleton _ _, e4.apart, fun p hp q hq => ?_⟩, fun p hp => ?_⟩, fun p hp => ?_, ?_⟩
       · rw [inR_append, inR_one, or_assoc, e3, inR_cons]
         show ((r.1 ≤ x ∧ x < o.1) ∨ _) ↔ _
         constructor
         · rintro (k | ⟨k1, k2⟩)
           · exact ⟨by omega, fun k3 => k3.elim (fun k3 => by omega) (beyond x (by omega))⟩
           · exact ⟨by omega, fun k3 => k3.elim (fun k3 => by omega) k2⟩
         · rintro ⟨k1, k2⟩
           by_cases k3 : x < o.1
           · exact .inl ⟨k1.1, k3⟩
           · refine .inr ⟨⟨?_, k1.2⟩, fun k4 => k2 (.inr k4)⟩
             by_cases k5 : x < o.2
             · exact absurd (.inl ⟨by omega, k5⟩) k2
             · omega
       · rw [List.mem_singleton.1 hp]
         have := (e5 q hq).1
         show o.1 < q.1
         omega
       · rcases List.mem_append.1 hp with hp | hp
         · rw [List.mem_singleton.1 hp]; exact hlo
         · exact e4.pos p hp
       · rcases List.mem_append.1 hp with hp | hp
         · rw [List.mem_singleton.1 hp]
           show r.1 ≤ r.1 ∧ o.1 < r'.1 ∧ o.1 ≤ r.2
           omega
         · have := e5 p hp; omega
       · rw [List.countP_cons_of_pos (by simp only [begins, Bool.and_eq_true, decide_eq_true_eq]; omega), List.length_append, List.length_singleton]
         omega
     · simp only [if_neg hlo, List.nil_append]
       refine ⟨e1, by omega, fun x => ?_, e4, fun p hp => by have := e5 p hp; omega, ?_⟩
       · rw [e3, inR_cons]
         constructor
         · rintro ⟨k1, k2⟩
           exact ⟨by omega, fun k3 => k3.elim (fun k3 => by omega) k2⟩
         · rintro ⟨k1, k2⟩
           refine ⟨⟨?_, k1.2⟩, fun k4 => k2 (.inr k4)⟩
           by_cases k5 : x < o.2
           · exact absurd (.inl ⟨by omega, k5⟩) k2
           · omega
       · have := List.countP_cons (p := begins r) (a := o) (l := os); omega
theorem dropB_ok (lo : Int) : ∀ (os : List Rn), NormR os → NormR (dropB lo os) ∧ (∀ o ∈ dropB lo os, lo < o.2) ∧ (∀ x, lo ≤ x → (inR (dropB lo os) x ↔ inR os x)) ∧ (dropB lo os).Sublist os
 | [], h => ⟨h, (fun _ k => by cases k), fun _ _ => Iff.rfl, List.Sublist.refl _⟩
 | o :: os, h => by
   obtain ⟨h1, h2, h3⟩ := h.tail
   unfold dropB
   by_cases k : o.2 ≤ lo
   · rw [List.dropWhile_cons_of_pos (by simpa using k)]
     obtain ⟨e1, e2, e3, e4⟩ := dropB_ok lo os h1
     refine ⟨e1, e2, fun x hx => ?_, e4.trans (List.sublist_cons_self _ _)⟩
     rw [inR_cons]
     exact (e3 x hx).trans ⟨.inr, fun k2 => k2.elim (fun k2 => by omega) id⟩
   · rw [List.dropWhile_cons_of_neg (by simpa using k)]
     exact ⟨h, fun q hq => (List.mem_cons.1 hq).elim (fun e => by rw [e]; omega) (fun hq => by have := h3 q hq; omega), fun _ _ => Iff.rfl, List.Sublist.refl _⟩
end Go.Proofs.YtemgejblnionlaaGreatDoor
namespace Go.Proofs.YtemgejblnionlaaGreatDoor
set_option maxHeartbeats 1000000
def cntO (O m : List Rn) : Nat := (m.map fun q => O.countP (begins q)).sum
structure CutI (O m left rest : List Rn) : Prop where
 sub : rest.Sublist O
 nrest : NormR rest
 same : ∀ x, (∀ q ∈ m, q.1 ≤ x) → (inR rest x ↔ inR O x)
 norm : NormR left
 hi : ∀ p ∈ left, ∃ q ∈ m, p.2 ≤ q.2
 set : ∀ x, inR left x ↔ inR m x ∧ ¬ inR O x
 len : left.length ≤ m.length + cntO O m
theorem norm_app {l m : List Rn} (h : NormR l) (k : NormR m) (hk : ∀ p ∈ l, ∀ q ∈ m, p.2 < q.1) : NormR (l ++ m) :=
 ⟨List.pairwise_append.2 ⟨h.apart, k.apart, hk⟩, fun r hr => (List.mem_append.1 hr).elim (h.pos r) (k.pos r)⟩
theorem norm_one {r : Rn} (h : r.1 < r.2) : NormR [r] := ⟨List.pairwise_singleton _ _, fun q hq => by rw [List.mem_singleton.1 hq]; exact h⟩
theorem cutS_ok (O : List Rn) (hO : NormR O) : ∀ (n : Nat) (l : List Rn), l.length = n → NormR l → CutI O l (cutS l O).1 (cutS l O).2
 | 0, l, hl, _ => by
   obtain rfl := List.eq_nil_of_length_eq_zero hl
   exact ⟨List.Sublist.refl _, hO, fun _ _ => Iff.rfl, .nil, (fun _ h => by cases h), fun x => ⟨fun h => absurd h (inR_nil x), fun h => absurd h.1 (inR_nil x)⟩, Nat.zero_le _⟩
 | n + 1, l, hl, hN => by
   rcases List.eq_nil_or_concat l with rfl | ⟨m, r, rfl⟩
   · cases hl
   · rw [List.concat_eq_append] at hl hN ⊢
     obtain ⟨a1, _, a3⟩ := List.pairwise_append.1 hN.apart
     have hm : NormR m := ⟨a1, fun q hq => hN.pos q (List.mem_append_left _ hq)⟩
     have hr : r.1 < r.2 := hN.pos r (List.mem_append_right _ (List.mem_singleton.2 rfl))
     have hmr : ∀ q ∈ m, q.2 < r.1 := fun q hq => a3 q hq r (List.mem_singleton.2 rfl)
     have I := cutS_ok O hO n m (by simpa using hl) hm
     rw [cutS_snoc]
     generalize cutS m O = s at *
     obtain ⟨d1, d2, d3, d4⟩ := dropB_ok r.1 s.2 I.nrest
     have V := over_ok (dropB r.1 s.2) r d1 d2
     unfold cutStep
     generalize (dropB r.1 s.2) = D at *
     generalize (goOver r D).1 = a at *
     generalize (goOver r D).2 = r' at *
     dsimp only
     obtain ⟨t, ht⟩ : ∃ t, (if r'.1 < r'.2 then [r'] else []) = t := ⟨_, rfl⟩
     have ht1 : ∀ x, inR t x ↔ r'.1 ≤ x ∧ x < r'.2 := fun x => by
      rw [← ht]
      split
      · exact inR_one r' x
      · exact ⟨fun k => absurd k (inR_nil x), fun k => by omega⟩
     have ht2 : NormR t := by
      rw [← ht]
      split
      · rename_i k; exact norm_one k
      · exact .nil
     have ht3 : ∀ p ∈ t, p = r' := fun p hp => by
      rw [← ht] at hp
      split at hp
      · exact List.mem_singleton.1 hp
      · cases hp
     have ht4 : t.length ≤ 1 := by
      rw [← ht]; split <;> simp
     rw [ht]
     have below : ∀ p ∈ s.1, p.2 < r.1 := fun p hp => by
      obtain ⟨q, k1, k2⟩ := I.hi p hp
      have := hmr q k1
      omega
     have hsame : ∀ x, r.1 ≤ x → (inR D x ↔ inR O x) := fun x hx => (d3 x hx).trans (I.same x fun q hq => by have := hmr q hq; have := hm.pos q hq; omega)
     have hlo := V.lo
     have hhi := V.hi
     refine ⟨d4.trans I.sub, d1, fun x hx => hsame x (hx r (List.mem_append_right _ (List.mem_singleton.2 rfl))), ?_, fun p hp => ?_, fun x => ?_, ?_⟩
     · refine norm_app (norm_app I.norm V.norm fun p hp q hq => ?_) ht2 fun p hp q hq => ?_
       · have := below p hp; have := V.in_ q hq; omega
       · rw [ht3 q hq]
         rcases List.mem_append.1 hp with hp | hp
         · have := below p hp; omega
         · exact (V.in_ p hp).2.1
     · rcases List.mem_append.1 hp with hp | hp
       · rcases List.mem_append.1 hp with hp | hp
         · obtain ⟨q, k1, k2⟩ := I.hi p hp
           exact ⟨q, List.mem_append_left _ k1, k2⟩
         · exact ⟨r, List.mem_append_right _ (List.mem_singleton.2 rfl), (V.in_ p hp).2.2⟩
       · exact ⟨r, List.mem_append_right _ (List.mem_singleton.2 rfl), by rw [ht3 p hp, hhi]; exact Int.le_refl _⟩
     · rw [inR_append, inR_append, or_assoc, ht1, V.set, I.set, inR_append, inR_one]
       constructor
       · rintro (⟨k1, k2⟩ | ⟨k1, k2⟩)
         · exact ⟨.inl k1, k2⟩
         · exact ⟨.inr k1, fun k3 => k2 ((hsame x k1.1).2 k3)⟩
       · rintro ⟨k1 | k1, k2⟩
         · exact .inl ⟨k1, k2⟩
         · exact .inr ⟨k1, fun k3 => k2 ((hsame x k1.1).1 k3)⟩
     · have h1 := I.len
       have h2 := V.len
       have h3 : D.countP (begins r) ≤ O.countP (begins r) := (d4.trans I.sub).countP_le
       have h4 : cntO O (m ++ [r]) = cntO O m + O.countP (begins r) := by simp [cntO]
       rw [h4, List.length_append, List.length_append, List.length_append, List.length_singleton]
       omega
theorem cnt_one (o : Rn) : ∀ (m : List Rn), NormR m → m.countP (fun q => begins q o) ≤ 1
 | [], _ => Nat.zero_le _
 | q :: m, h => by
   obtain ⟨h1, h2, h3⟩ := h.tail
   rw [List.countP_cons]
   by_cases k : begins q o = true
   · have : m.countP (fun q => begins q o) = 0 := List.countP_eq_zero.2 fun p hp hk => by
      have := h3 p hp
      simp only [begins, Bool.and_eq_true, decide_eq_true_eq] at k hk
      omega
     rw [if_pos k]; omega
   · rw [if_neg k]
     have := cnt_one o m h1
     omega
theorem cntO_cons (o : Rn) (O : List Rn) : ∀ (m : List Rn), cntO (o :: O) m = cntO O m + m.countP (fun q => begins q o)
 | [] => rfl
 | q :: m => by
   have h := cntO_cons o O m
   simp only [cntO, List.map_cons, List.sum_cons] at h ⊢
   rw [List.countP_cons (l := O), List.countP_cons (l := m), h]
   omega
theorem cntO_le (m : List Rn) (h : NormR m) : ∀ (O : List Rn), cntO O m ≤ O.length
 | [] => by
   have : ∀ m : List Rn, cntO [] m = 0 := fun m => by
    induction m with
    | nil => rfl
    | cons q m ih => simp only [cntO, List.map_cons, List.sum_cons, List.countP_nil] at ih ⊢; omega
   rw [this]; exact Nat.zero_le _
 | o :: O => by
   have h1 := cnt_one o m h
   have h2 := cntO_le m h O
   rw [cntO_cons, List.length_cons]
   omega
theorem cutF_ok {l O : List Rn} (hl : NormR l) (hO : NormR O) : NormR (cutF l O) ∧ (∀ x, inR (cutF l O) x ↔ inR l x ∧ ¬ inR O x) ∧ (cutF l O).length ≤ l.length + O.length := by
 have I := cutS_ok O hO l.length l rfl hl
 have := cntO_le l hl O
 exact ⟨I.norm, I.set, by have := I.len; show (cutS l O).1.length ≤ _; omega⟩
end Go.Proofs.YtemgejblnionlaaGreatDoor
namespace Go.Proofs.YtemgejblnionlaaGreatDoor
open Go.RowKit Go.Maps
set_option maxHeartbeats 16000000
set_option maxRecDepth 100000
abbrev pcFirst (p : Pc) : Int := wrap64 (wrap64 (p.id * 1048576) + p.fr)
def pcRun (p : Pc) : List Rn := if p.id = 0 ∨ p.id = -1 then [] else [(pcFirst p, wrap64 (pcFirst p + p.n))]
def rawP (l : List Pc) : List Rn := l.flatMap pcRun
def rawB (t : Tr) : List Rn := t.nodes.flatMap (fun n => rawP n.body)
theorem rawP_snoc (l : List Pc) (p : Pc) : rawP (l ++ [p]) = rawP l ++ pcRun p := by simp [rawP]
abbrev RawRes (T : Th) (w : World) (e : Ending) (w' : World) : Prop :=
 ∃ B m d, e = .returned (.slice B m d) ∧ w'.ownsRow w.heap.size 124 2 (.slice B m d) m (encs encR (rawB T.t)) ∧ Below w.heap.size w w'
theorem chunkBytes_lands (T : Th) (w : World) (hT : T.ok w) (hn : T.n ≤ 1000) (hb : ∀ h ∈ T.hs, h.bn ≤ 1000000) :
 Calls Tryz.prog 64 #[T.val] w fun e w' => RawRes T w e w' := by
 obtain ⟨i2, hj, hj0, hj1, hj2⟩ := info_parts info_rn
 have HT := Lib.hid hT
 have HN := Lib.hid hn
 have HBN := Lib.hid hb
 have HLN := Lib.hid (show T.hs.length = T.n from hT.len)
 clear hT hn hb
 have kk0 := Bxs.nil w
 obtain ⟨x1, hwx1, hzx1, kx1⟩ := kk0.new rfl T.cs (Th.enc T).toArray 31
 have HW1 := Lib.hid hwx1
 have K1 := Lib.hid kx1
 clear kk0 hwx1 hzx1 kx1
 go_enter Tryz.func64, Tryz.ntmps64
 go_upto_region 1 with fail
 rw [HW1.out]
 have q0 : x1.cell? ⟨w.heap.size, 0, none⟩ = some (.slice T.A T.n T.c) := K1.out.cell 0 0 _ rfl
 go_wp2
 clear q0
 go_loopw [3, 12] (fun lf i wr => ∃ (k : Nat) (B : Option Addr) (m d : Nat), k ≤ T.n ∧ i = .int .i64 k ∧ lf = .slice B m d ∧ wr.ownsRow w.heap.size 124 2 (.slice B m d) m (encs encR ((T.t.nodes.take k).flatMap (fun n => rawP n.body))) ∧ m ≤ k * 1000000 ∧ Below w.heap.size w wr) (fun _ i _ => T.n - (intOf i).toNat)
 case atStart => exact ⟨0, none, 0, 0, Nat.zero_le _, rfl, rfl, World.ownsRow_nil _ _ _ _, Nat.zero_le _, K1.out.low.out⟩
 case round =>
  clear K1
  obtain ⟨k, B, m, d, hk, rfl, rfl, hO, hm, hB⟩ := hrel
  have HB := Lib.hid hB
  have HO := Lib.hid hO
  obtain ⟨M0, hM0⟩ : ∃ M0, k * 1000000 = M0 := ⟨_, rfl⟩
  rw [hM0] at hm
  have HM := Lib.hid hm
  have HM0 := Lib.hid hM0
  clear hB hO hm hM0
  by_cases hlt : k < T.n
  · obtain ⟨h, hh⟩ : ∃ h, T.hs[k]? = some h := ⟨_, List.getElem?_eq_getElem (by rw [HLN.out]; exact hlt)⟩
    have kn : (k : Int) < (T.n : Int) := Int.ofNat_lt.2 hlt
    have k0 : (0 : Int) ≤ (k : Int) := Int.natCast_nonneg k
    have hwj : IntKind.i64.wrap ((k : Int) + 1) = (k : Int) + 1 := IntWalk.i64_in _ (by have := HN.out; omega)
    obtain ⟨g, ad, hA, hg, hc⟩ := Sv.range Nh.enc_len (by decide) ((HT.out.below HB.out).nodes) hh
    have HC := Lib.hid hc
    have hnk : T.t.nodes[k]? = some h.d := by show (T.hs.map (·.d))[k]? = _; rw [List.getElem?_map, hh]; rfl
    have HTK := Lib.hid (show (T.t.nodes.take (k + 1)).flatMap (fun n => rawP n.body) = (T.t.nodes.take k).flatMap (fun n => rawP n.body) ++ rawP h.d.body by
     rw [takeU_snoc hnk, List.flatMap_append]; simp)
    have HMEM := Lib.hid (List.mem_of_getElem? hh)
    have HLT := Lib.hid hlt
    have HAA := Lib.hid hA
    have HSZ := Lib.hid HB.out.size
    have HBB := Lib.hid (HBN.out h HMEM.out)
    clear hc hh hlt hk hnk
    obtain ⟨F, hF⟩ : ∃ F, (T.t.nodes.take k).flatMap (fun n => rawP n.body) = F := ⟨_, rfl⟩
    rw [hF] at HO HTK
    clear hF
    have kk0 := Bxs.nil wr
    obtain ⟨y1, hwy1, hzy1, ky1⟩ := kk0.new rfl zN zN 65
    have HY1 := Lib.hid hwy1
    have KY1 := Lib.hid ky1
    have KY2 := Lib.hid (ky1.row 0 rfl h.enc.toArray)
    clear kk0 hwy1 hzy1 ky1
    go_upto_region 5 with (first | rw [HY1.out] | (with_reducible refine load_nd rfl _ rfl g (ad + k * 8) rfl h HC.out ?_) | (with_reducible refine store_nd rfl _ _ rfl wr.heap.size rfl h rfl zN (KY1.out.at 0 rfl).out rfl ?_))
    clear hA
    rw [← HAA.out]
    generalize y1.setRow wr.heap.size h.enc.toArray = y2 at *
    have c0 : y2.cell? ⟨wr.heap.size, 5, none⟩ = some (.slice h.bA h.bn h.bc) := KY2.out.cell 0 5 _ rfl
    have HO2 := Lib.hid (own_keep HO.out KY2.out.low.out)
    have HB2 := Lib.hid (HB.out.trans (KY2.out.low.out.mono HSZ.out))
    have HSB := Lib.hid (show Sv w h.bA h.bn h.bc 3 (encs encP h.d.body) from (HT.out.each h HMEM.out).body)
    have HBL := Lib.hid (show h.d.body.length = h.bn from HSB.out.plen encP_len (by decide))
    clear KY1 HY1
    obtain ⟨wo, hwo⟩ : ∃ q, q = wr := ⟨_, rfl⟩
    subst hwo
    go_wp2
    clear c0
    go_loopw [3, 19] (fun lf i wr => ∃ (j : Nat) (B : Option Addr) (m d : Nat), j ≤ h.bn ∧ i = .int .i64 j ∧ lf = .slice B m d ∧ wr.ownsRow w.heap.size 124 2 (.slice B m d) m (encs encR (F ++ rawP (h.d.body.take j))) ∧ m ≤ M0 + j ∧ Below w.heap.size w wr) (fun _ i _ => h.bn - (intOf i).toNat)
    case atStart => exact ⟨0, B, m, d, Nat.zero_le _, rfl, rfl, by rw [show F ++ rawP (h.d.body.take 0) = F by simp [rawP]]; exact HO2.out, HM.out, HB2.out⟩
    case round =>
     clear HB2 HO2 KY2 HO HB HM HC
     obtain ⟨j, B, m, d, hjn, rfl, rfl, hO, hm, hB⟩ := hrel
     have HB := Lib.hid hB
     have HO := Lib.hid hO
     have HM := Lib.hid hm
     clear hB hO hm
     by_cases hjl : j < h.bn
     · obtain ⟨p, hp⟩ : ∃ p, h.d.body[j]? = some p := ⟨_, List.getElem?_eq_getElem (by rw [HBL.out]; exact hjl)⟩
       have jn : (j : Int) < (h.bn : Int) := Int.ofNat_lt.2 hjl
       have j0 : (0 : Int) ≤ (j : Int) := Int.natCast_nonneg j
       have hwj2 : IntKind.i64.wrap ((j : Int) + 1) = (j : Int) + 1 := IntWalk.i64_in _ (by have := HBB.out; omega)
       obtain ⟨g2, ad2, hA2, hg2, hc2⟩ := Sv.range encP_len (by decide) (HSB.out.below HB.out) hp
       have HC2 := Lib.hid (show wr.rangeAt g2 (ad2 + j * 3) [.int .i64 p.id, .int .i64 p.fr, .int .i64 p.n] from hc2)
       have HT2 := Lib.hid (show F ++ rawP (h.d.body.take (j + 1)) = F ++ rawP (h.d.body.take j) ++ pcRun p by rw [takeU_snoc hp, rawP_snoc, List.append_assoc])
       have HJ := Lib.hid hjl
       have HSZ2 := Lib.hid HB.out.size
       obtain ⟨G, hG⟩ : ∃ G, F ++ rawP (h.d.body.take j) = G := ⟨_, rfl⟩
       rw [hG] at HO HT2
       rw [hA2]
       clear hc2 hp hjl hjn hG hA2
       have kk0 := Bxs.nil wr
       obtain ⟨y1, hwy1, hzy1, ky1⟩ := kk0.new rfl zA zA 126
       have HY1 := Lib.hid hwy1
       have KY1 := Lib.hid ky1
       have KY2 := Lib.hid (ky1.row 0 rfl (encP p).toArray)
       clear kk0 hwy1 hzy1 ky1
       go_upto_region 8 with (first | rw [HY1.out] | (with_reducible refine Ext.load_pc rfl _ rfl g2 (ad2 + j * 3) rfl p.id p.fr p.n HC2.out ?_) | (with_reducible refine Ext.store_pc rfl _ _ rfl wr.heap.size rfl p.id p.fr p.n rfl zA (KY1.out.at 0 rfl).out rfl ?_))
       have HYY := Lib.hid (show y1.setRow wr.heap.size #[.int .i64 p.id, .int .i64 p.fr, .int .i64 p.n] = y1.setRow wr.heap.size (encP p).toArray from rfl)
       rw [HYY.out]
       clear HYY
       generalize y1.setRow wr.heap.size (encP p).toArray = y3 at *
       have c0 : y3.cell? ⟨wr.heap.size, 0, none⟩ = some (.int .i64 p.id) := KY2.out.cell 0 0 _ rfl
       have c1 : y3.cell? ⟨wr.heap.size, 1, none⟩ = some (.int .i64 p.fr) := KY2.out.cell 0 1 _ rfl
       have c2 : y3.cell? ⟨wr.heap.size, 2, none⟩ = some (.int .i64 p.n) := KY2.out.cell 0 2 _ rfl
       have HO3 := Lib.hid (own_keep HO.out KY2.out.low.out)
       have HS3 := Lib.hid (Nat.le_trans HSZ2.out KY2.out.low.out.size)
       have HB3 := Lib.hid (HB.out.trans (KY2.out.low.out.mono HSZ2.out))
       clear KY1 HY1
       by_cases h0 : p.id = 0 ∨ p.id = -1
       · have HP := Lib.hid (show pcRun p = [] from if_pos h0)
         have hq : (p.id != 0) = false ∨ ((p.id != 0) = true ∧ (p.id != -1) = false) := by
          rcases h0 with h0 | h0
          · exact .inl (by simp [h0])
          · exact .inr ⟨by simp [h0], by simp [h0]⟩
         clear h0
         rcases hq with hq1 | ⟨hq1, hq2⟩
         all_goals
          go_wp2
          go_roundw
          case rel => exact ⟨j + 1, B, m, d, HJ.out, by go_num, rfl, by rw [HT2.out, HP.out, List.append_nil]; exact HO3.out, by have := HM.out; omega, HB3.out⟩
          case measure => have := HJ.out; simp [intOf]; omega
       · have HP := Lib.hid (show pcRun p = [(pcFirst p, wrap64 (pcFirst p + p.n))] from if_neg h0)
         have hq1 : (p.id != 0) = true := by simp; omega
         have hq2 : (p.id != -1) = true := by simp; omega
         clear h0
         go_wp2_with (at_builtin; refine wpList_append_gr rfl _ _ 117 rfl w.heap.size 124 i2 _ 2 16 Tryz.underlying117 hj hj0 hj1 hj2 rfl (by decide) _ _ _ rfl (own_keep HO3.out ((Below.refl _ y3).alloc (Nat.le_refl _) _)) ⟨y3.heap.size, 0, none⟩ 1 1 (encR (pcFirst p, wrap64 (pcFirst p + p.n))) rfl rfl (new_row y3 _ _) (encR_one _) (by unfold maxLen; have := HM.out; have := HM0.out; have := HBB.out; have := HLT.out; have := HN.out; have := HJ.out; omega) (by have := HM.out; have := HM0.out; have := HBB.out; have := HLT.out; have := HN.out; have := HJ.out; omega) (by have := HS3.out; simp; omega) ?_; intro v' w5 hown5 hg5; obtain ⟨B5, c5, rfl⟩ := own_form hown5; have HO5 := Lib.hid hown5; have HG5 := Lib.hid hg5; clear hown5 hg5)
         have hra : Below y3.heap.size y3 (y3.alloc (.cells (encR (pcFirst p, wrap64 (pcFirst p + p.n))).toArray 124)) := (Below.refl _ y3).alloc (Nat.le_refl _) _
         have HB5 := Lib.hid ((HB3.out.trans (hra.mono HS3.out)).grown HG5.out (Nat.le_trans HS3.out hra.size) (fun k e => (HO3.out.lt k e).1))
         clear hra
         go_roundw
         case rel => exact ⟨j + 1, B5, m + 1, c5, HJ.out, by go_num, rfl, by have := HO5.out; rw [HT2.out, HP.out]; rw [encs_append, encs_one]; exact this, by have := HM.out; omega, HB5.out⟩
         case measure => have := HJ.out; simp [intOf]; omega
     · have jn : ¬ (j : Int) < (h.bn : Int) := fun e => hjl (Int.ofNat_lt.1 e)
       have HT2 := Lib.hid (show rawP (h.d.body.take j) = rawP h.d.body by rw [List.take_of_length_le (by rw [HBL.out]; omega)])
       rw [HT2.out, ← HTK.out] at HO
       have HJ := Lib.hid hjn
       go_wp2
       go_roundw
       case rel => exact ⟨k + 1, B, m, d, by have := HLT.out; omega, by go_num, rfl, HO.out, by have := HM.out; have := HM0.out; have := HBB.out; have := HJ.out; omega, HB.out⟩
       case measure => have := HLT.out; simp [intOf]; omega
  · have kn : ¬ (k : Int) < (T.n : Int) := fun e => hlt (Int.ofNat_lt.1 e)
    have hkn : k = T.n := by omega
    have hl : T.t.nodes.length = T.n := by show (T.hs.map (·.d)).length = _; rw [List.length_map, HLN.out]
    have HTT := Lib.hid (show (T.t.nodes.take k).flatMap (fun n => rawP n.body) = rawB T.t by rw [List.take_of_length_le (by rw [hl, hkn]; exact Nat.le_refl _)]; rfl)
    rw [HTT.out] at HO
    clear hl hkn hlt hk
    go_wp2
    go_ret
    exact ⟨B, m, d, rfl, HO.out, HB.out⟩
end Go.Proofs.YtemgejblnionlaaGreatDoor
