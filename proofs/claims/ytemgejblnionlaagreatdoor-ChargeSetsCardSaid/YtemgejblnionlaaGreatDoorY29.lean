/-
  Texts De Df Dg Ed Ee, put together by program.
-/
import Derived.Test.YtemgejblnionlaaGreatDoorY0
import Derived.Test.YtemgejblnionlaaGreatDoorY26
import Derived.Test.YtemgejblnionlaaGreatDoorY28
namespace Go.Proofs.YtemgejblnionlaaGreatDoor
open Go.RowKit Go.Maps
set_option maxHeartbeats 16000000
set_option maxRecDepth 100000
def rstep (x : Int × Us) (s : List (Int × Us) × Bool) (a : Int × Us) : List (Int × Us) × Bool :=
 if a.1 = x.1 then (if !s.2 then (s.1 ++ [x], true) else s)
 else (if !s.2 && decide (x.1 ≤ a.1) then (s.1 ++ [x] ++ [a], true) else (s.1 ++ [a], s.2))
def rS (l : List (Int × Us)) (x : Int × Us) : List (Int × Us) × Bool := l.foldl (rstep x) ([], false)
theorem rS_snoc (l : List (Int × Us)) (x a : Int × Us) : rS (l ++ [a]) x = rstep x (rS l x) a := by unfold rS; rw [List.foldl_append]; rfl
theorem rS_ok (x : Int × Us) : ∀ (n : Nat) (l : List (Int × Us)), l.length = n → SrtU l → ((rS l x).2 = false ∧ (rS l x).1 = l ∧ ∀ a ∈ l, a.1 < x.1) ∨ ((rS l x).2 = true ∧ (rS l x).1 = setU l x ∧ ∃ a ∈ l, x.1 ≤ a.1)
 | 0, l, h, _ => by obtain rfl := List.eq_nil_of_length_eq_zero h; exact .inl ⟨rfl, rfl, fun _ h => by cases h⟩
 | n + 1, l, h, hs => by
   rcases List.eq_nil_or_concat l with rfl | ⟨m, a, rfl⟩
   · cases h
   · rw [List.concat_eq_append] at h hs ⊢
     obtain ⟨h1, _, h3⟩ := List.pairwise_append.1 hs
     have hma : ∀ q ∈ m, q.1 < a.1 := fun q hq => h3 q hq a (List.mem_singleton.2 rfl)
     rw [rS_snoc]
     have flt : ∀ b : Int × Us, setU (m ++ [b]) x = (m.filter (fun a => a.1 < x.1) ++ [b].filter (fun a => a.1 < x.1)) ++ x :: (m.filter (fun a => x.1 < a.1) ++ [b].filter (fun a => x.1 < a.1)) := fun b => by
      unfold setU; rw [List.filter_append, List.filter_append]
     rcases rS_ok x n m (by simpa using h) h1 with ⟨e1, e2, e3⟩ | ⟨e1, e2, q, hq, e3⟩
     · have f1 : m.filter (fun a => a.1 < x.1) = m := List.filter_eq_self.2 fun b hb => by simpa using e3 b hb
       have f2 : m.filter (fun a => x.1 < a.1) = [] := List.filter_eq_nil_iff.2 fun b hb => by have := e3 b hb; simp; omega
       by_cases hax : a.1 = x.1
       · refine .inr ⟨?_, ?_, a, List.mem_append_right _ (List.mem_singleton.2 rfl), by omega⟩
         · unfold rstep; rw [if_pos hax, e1]; rfl
         · unfold rstep
           rw [if_pos hax, e1, flt, f1, f2]
           simp [e2, hax]
       · by_cases hle : x.1 ≤ a.1
         · refine .inr ⟨?_, ?_, a, List.mem_append_right _ (List.mem_singleton.2 rfl), hle⟩
           · unfold rstep; rw [if_neg hax, e1]; simp [hle]
           · unfold rstep
             rw [if_neg hax, e1, flt, f1, f2]
             have k1 : ¬ a.1 < x.1 := by omega
             have k2 : x.1 < a.1 := by omega
             simp [e2, hle, k1, k2]
         · refine .inl ⟨?_, ?_, fun b hb => ?_⟩
           · unfold rstep; rw [if_neg hax, e1]; simp [hle]
           · unfold rstep; rw [if_neg hax, e1]; simp [hle, e2]
           · rcases List.mem_append.1 hb with hb | hb
             · exact e3 b hb
             · rw [List.mem_singleton.1 hb]; omega
     · have hqa := hma q hq
       have k1 : ¬ a.1 < x.1 := by omega
       have k2 : x.1 < a.1 := by omega
       have hax : ¬ a.1 = x.1 := by omega
       refine .inr ⟨?_, ?_, q, List.mem_append_left _ hq, e3⟩
       · unfold rstep; rw [if_neg hax, e1]; simp
       · unfold rstep
         rw [if_neg hax, e1, flt]
         simp [e2, k1, k2, setU]
theorem rS_set {l : List (Int × Us)} (x : Int × Us) (hs : SrtU l) : (if (rS l x).2 then (rS l x).1 else (rS l x).1 ++ [x]) = setU l x := by
 rcases rS_ok x l.length l rfl hs with ⟨e1, e2, e3⟩ | ⟨e1, e2, -⟩
 · rw [e1, e2, if_neg (by decide)]
   unfold setU
   rw [List.filter_eq_self.2 fun b hb => by simpa using e3 b hb, List.filter_eq_nil_iff.2 fun b hb => by have := e3 b hb; simp; omega]
 · rw [e1, e2, if_pos rfl]
end Go.Proofs.YtemgejblnionlaaGreatDoor
namespace Go.Proofs.YtemgejblnionlaaGreatDoor
set_option maxHeartbeats 1000000
theorem setU_srt {l : List (Int × Us)} (x : Int × Us) (hs : SrtU l) : SrtU (setU l x) := by
 unfold setU
 refine List.pairwise_append.2 ⟨hs.sublist List.filter_sublist, List.pairwise_cons.2 ⟨fun b hb => ?_, hs.sublist List.filter_sublist⟩, fun a ha b hb => ?_⟩
 · have := (List.mem_filter.1 hb).2; simpa using this
 · have h1 := (List.mem_filter.1 ha).2
   simp only [decide_eq_true_eq] at h1
   rcases List.mem_cons.1 hb with rfl | hb
   · exact h1
   · have h2 := (List.mem_filter.1 hb).2
     simp only [decide_eq_true_eq] at h2
     omega
theorem filt_ne (o : Int) : ∀ (l : List (Int × Us)), SrtU l → l.filter (fun a => a.1 < o) ++ l.filter (fun a => o < a.1) = l.filter (fun a => a.1 != o)
 | [], _ => rfl
 | a :: l, hs => by
   obtain ⟨h1, h2⟩ := List.pairwise_cons.1 hs
   have ih := filt_ne o l h2
   have gt : o ≤ a.1 → l.filter (fun a => a.1 < o) = [] ∧ l.filter (fun a => o < a.1) = l ∧ l.filter (fun a => a.1 != o) = l := fun h => by
    refine ⟨List.filter_eq_nil_iff.2 fun b hb => ?_, List.filter_eq_self.2 fun b hb => ?_, List.filter_eq_self.2 fun b hb => ?_⟩
    · have := h1 b hb; simp; omega
    · have := h1 b hb; simp; omega
    · have := h1 b hb; simp; omega
   rcases Int.lt_trichotomy a.1 o with h | h | h
   · have k : ¬ o < a.1 := by omega
     have k2 : a.1 ≠ o := by omega
     simp only [List.filter_cons, h, k, decide_true, decide_false, if_true, List.cons_append]
     simp [k2]
     exact ih
   · obtain ⟨g1, g2, g3⟩ := gt (by omega)
     simp only [List.filter_cons, g1, g2, g3]
     simp [h]
   · obtain ⟨g1, g2, g3⟩ := gt (by omega)
     have k : ¬ a.1 < o := by omega
     have k2 : a.1 ≠ o := by omega
     simp only [List.filter_cons, g1, g2, g3, h, k]
     simp [k2]
theorem HasR.one {l : List (Int × Us)} {o v v' : Int} (h : HasR l o v) (k : HasR l o v') : v = v' := by
 rcases h with ⟨rfl, h⟩ | ⟨i, a, rfl, h1, h2, h3⟩
 · rcases k with ⟨rfl, -⟩ | ⟨j, b, rfl, k1, k2, -⟩
   · rfl
   · exact absurd k2 (h b (List.mem_of_getElem? k1))
 · rcases k with ⟨rfl, k⟩ | ⟨j, b, rfl, k1, k2, k3⟩
   · exact absurd h2 (k a (List.mem_of_getElem? h1))
   · rcases Nat.lt_trichotomy i j with h | h | h
     · exact absurd h2 (k3 i a h1 h)
     · rw [h]
     · exact absurd k2 (h3 j b k1 h)
theorem setU_at {l : List (Int × Us)} (x : Int × Us) : HasR (setU l x) x.1 ((l.filter (fun a => a.1 < x.1)).length : Nat) ∧ (setU l x)[(l.filter (fun a => a.1 < x.1)).length]? = some x := by
 have h1 : (setU l x)[(l.filter (fun a => a.1 < x.1)).length]? = some x := by unfold setU; rw [List.getElem?_append_right (Nat.le_refl _), Nat.sub_self]; rfl
 refine ⟨.inr ⟨_, x, rfl, h1, rfl, fun j b hj hlt => ?_⟩, h1⟩
 unfold setU at hj
 rw [List.getElem?_append_left hlt] at hj
 have := (List.mem_filter.1 (List.mem_of_getElem? hj)).2
 simp only [decide_eq_true_eq] at this
 omega
theorem setU_rest {l : List (Int × Us)} (x : Int × Us) (hs : SrtU l) : (setU l x).take (l.filter (fun a => a.1 < x.1)).length ++ (setU l x).drop ((l.filter (fun a => a.1 < x.1)).length + 1) = l.filter (fun a => a.1 != x.1) := by
 rw [← filt_ne x.1 l hs]
 unfold setU
 rw [List.take_left' rfl, ← List.drop_drop, List.drop_left' rfl]
 rfl
theorem hasU_iff {l : List (Int × Us)} {o : Int} : hasU l o = true ↔ ∃ a ∈ l, a.1 = o := by
 unfold hasU; rw [List.any_eq_true]; simp
theorem rest_old {l : List (Int × Us)} {o : Int} {k : Nat} {a : Int × Us} (hs : SrtU l) (h : l[k]? = some a) (ha : a.1 = o) : l.take k ++ l.drop (k + 1) = l.filter (fun a => a.1 != o) := by
 have hk := (List.getElem?_eq_some_iff.1 h).1
 have e : l = l.take k ++ a :: l.drop (k + 1) := by rw [← (List.getElem?_eq_some_iff.1 h).2, List.getElem_cons_drop, List.take_append_drop]
 have h1 : ∀ b ∈ l.take k, b.1 ≠ o := fun b hb => by
  obtain ⟨j, hj⟩ := List.getElem?_of_mem hb
  rw [List.getElem?_take] at hj
  split at hj
  · rename_i hjk
    have := List.pairwise_iff_getElem.1 hs j k (List.getElem?_eq_some_iff.1 hj).1 hk hjk
    rw [(List.getElem?_eq_some_iff.1 hj).2, (List.getElem?_eq_some_iff.1 h).2] at this
    omega
  · cases hj
 have h2 : ∀ b ∈ l.drop (k + 1), b.1 ≠ o := fun b hb => by
  obtain ⟨j, hj⟩ := List.getElem?_of_mem hb
  rw [List.getElem?_drop] at hj
  have := List.pairwise_iff_getElem.1 hs k (k + 1 + j) hk (List.getElem?_eq_some_iff.1 hj).1 (by omega)
  rw [(List.getElem?_eq_some_iff.1 hj).2, (List.getElem?_eq_some_iff.1 h).2] at this
  omega
 conv => rhs; rw [e]
 rw [List.filter_append, List.filter_cons, List.filter_eq_self.2 (fun b hb => by simpa using h1 b hb), List.filter_eq_self.2 (fun b hb => by simpa using h2 b hb)]
 simp [ha]
end Go.Proofs.YtemgejblnionlaaGreatDoor
namespace Go.Proofs.YtemgejblnionlaaGreatDoor
open Go.RowKit Go.Maps
set_option maxHeartbeats 16000000
set_option maxRecDepth 100000
abbrev RSetRes (A0 : Option Addr) (n0 : Nat) (l : List (Int × Us)) (x : Int × Us) (w : World) (e : Ending) (w' : World) : Prop :=
 ∃ A m c, e = .returned (.agg #[.slice A m c, .int .i64 (doSet l x).2]) ∧ Sv w' A m c 3 (encs encU (doSet l x).1) ∧ (∀ P, plc P A0 n0 → plc (Fresh P w) A m) ∧ Below w.heap.size w w'
theorem rSet_any (A : Option Addr) (n c : Nat) (l : List (Int × Us)) (x : Int × Us) (w : World) (hA : Sv w A n c 3 (encs encU l)) (hs : SrtU l) (hn : n ≤ 1000) :
 Calls Tryz.prog 16 #[.slice A n c, .agg (encU x).toArray] w fun e w' => RSetRes A n l x w e w' := by
 obtain ⟨i2, hj, hj0, hj1, hj2⟩ := info_parts info_li
 have SA := Lib.hid hA
 have HS := Lib.hid hs
 have HN := Lib.hid hn
 have HL := Lib.hid (show l.length = n from hA.plen encU_len (by decide))
 clear hA hs hn
 have kk0 := Bxs.nil w
 obtain ⟨x1, hwx1, hzx1, kx1⟩ := kk0.new rfl (encU x).toArray (encU x).toArray 44
 obtain ⟨x2, hwx2, hzx2, kx2⟩ := kx1.new hzx1 #[.slice none 0 0, .int .i64 0] #[.slice none 0 0, .int .i64 0] 47
 have HW1 := Lib.hid (show w.alloc (.cells #[.int .i64 x.1, .int .i64 x.2.1, .int .i64 x.2.2] 44) = x1 from hwx1)
 have HW2 := Lib.hid hwx2
 have HZ2 := Lib.hid (show x2.heap.size = w.heap.size + 2 from hzx2)
 have K2 := Lib.hid kx2
 have hz1 := hzx1
 clear kk0 hwx1 kx1 hwx2 hzx2 kx2 hzx1
 have CH := Lib.hid (fun W (hb : Below w.heap.size w W) => Has_any A n c l x.1 W (SA.out.below hb) (by have := HN.out; omega))
 show Calls Tryz.prog 16 #[.slice A n c, .agg #[.int .i64 x.1, .int .i64 x.2.1, .int .i64 x.2.2]] w _
 go_enter Tryz.func16, Tryz.ntmps16
 go_upto_region 1 with fail
 rw [HW1.out, HW2.out]
 clear hz1 HW1 HW2
 have d0 : x2.cell? ⟨w.heap.size, 0, none⟩ = some (.int .i64 x.1) := K2.out.cell 1 0 _ rfl
 have d1 : x2.cell? ⟨w.heap.size, 1, none⟩ = some (.int .i64 x.2.1) := K2.out.cell 1 1 _ rfl
 have d2 : x2.cell? ⟨w.heap.size, 2, none⟩ = some (.int .i64 x.2.2) := K2.out.cell 1 2 _ rfl
 have bad : badL x = true → Hid (doSet l x = (l, 1)) := fun h => Lib.hid (setU_bad h)
 have hbl : badL x = (decide (x.1 < -1) || decide (x.1 > 999) || decide (x.2.1 < 0) || decide (x.2.2 < 0)) := by
  unfold badL personB
  by_cases k1 : x.1 = -1 <;> by_cases k2 : x.1 < -1 <;> by_cases k3 : x.1 > 999 <;> by_cases k4 : 0 ≤ x.1 <;> by_cases k5 : x.1 ≤ 999 <;> simp [k1, k2, k3, k4, k5] <;> omega
 by_cases h1 : x.1 < -1
 · have HBAD := bad (by rw [hbl]; simp [h1])
   clear bad hbl
   go_wp2_with (with_reducible refine store_s1 rfl _ _ rfl (w.heap.size + 1) rfl A n c 1 rfl _ (K2.out.at 0 rfl).out rfl ?_)
   refine bodyPost_ret (ret_s1 rfl _ _ (w.heap.size + 1) A n c 1 rfl ((K2.out.row 0 rfl _).at 0 rfl).out) rfl ?_
   exact ⟨A, n, c, by rw [HBAD.out], by rw [HBAD.out]; exact SA.out.below (K2.out.row 0 rfl _).low.out, fun P h => h.mono fun g hg => .inl hg, (K2.out.row 0 rfl _).low.out⟩
 by_cases h2 : x.1 > 999
 · have HBAD := bad (by rw [hbl]; simp [h2])
   clear bad hbl
   go_wp2_with (with_reducible refine store_s1 rfl _ _ rfl (w.heap.size + 1) rfl A n c 1 rfl _ (K2.out.at 0 rfl).out rfl ?_)
   refine bodyPost_ret (ret_s1 rfl _ _ (w.heap.size + 1) A n c 1 rfl ((K2.out.row 0 rfl _).at 0 rfl).out) rfl ?_
   exact ⟨A, n, c, by rw [HBAD.out], by rw [HBAD.out]; exact SA.out.below (K2.out.row 0 rfl _).low.out, fun P h => h.mono fun g hg => .inl hg, (K2.out.row 0 rfl _).low.out⟩
 by_cases h3 : x.2.1 < 0
 · have HBAD := bad (by rw [hbl]; simp [h3])
   clear bad hbl
   go_wp2_with (with_reducible refine store_s1 rfl _ _ rfl (w.heap.size + 1) rfl A n c 1 rfl _ (K2.out.at 0 rfl).out rfl ?_)
   refine bodyPost_ret (ret_s1 rfl _ _ (w.heap.size + 1) A n c 1 rfl ((K2.out.row 0 rfl _).at 0 rfl).out) rfl ?_
   exact ⟨A, n, c, by rw [HBAD.out], by rw [HBAD.out]; exact SA.out.below (K2.out.row 0 rfl _).low.out, fun P h => h.mono fun g hg => .inl hg, (K2.out.row 0 rfl _).low.out⟩
 by_cases h4 : x.2.2 < 0
 · have HBAD := bad (by rw [hbl]; simp [h4])
   clear bad hbl
   go_wp2_with (with_reducible refine store_s1 rfl _ _ rfl (w.heap.size + 1) rfl A n c 1 rfl _ (K2.out.at 0 rfl).out rfl ?_)
   refine bodyPost_ret (ret_s1 rfl _ _ (w.heap.size + 1) A n c 1 rfl ((K2.out.row 0 rfl _).at 0 rfl).out) rfl ?_
   exact ⟨A, n, c, by rw [HBAD.out], by rw [HBAD.out]; exact SA.out.below (K2.out.row 0 rfl _).low.out, fun P h => h.mono fun g hg => .inl hg, (K2.out.row 0 rfl _).low.out⟩
 have HGOOD := Lib.hid (show badL x = false by rw [hbl]; simp [h3, h4]; omega)
 clear bad hbl
 go_upto_region 3 with fail
 clear h1 h2 h3 h4 d1 d2
 rename_i K hK K0 hK0
 have key : ∀ (u8 u9 u10 u11 u12 u13 u14 u15 u16 u17 u18 u19 u20 u21 u22 u23 u24 u25 u26 u27 u30 u31 u32 u33 u34 u35 u36 u37 u38 u39 : Value), doSet l x = (setU l x, 0) → K { tmps := #[.slice A n c, .agg #[.int .i64 x.1, .int .i64 x.2.1, .int .i64 x.2.2], undef, .pointer (some ⟨w.heap.size, 0, none⟩), .pointer (some ⟨w.heap.size + 1, 0, none⟩), undef, undef, undef, u8, u9, u10, u11, u12, u13, u14, u15, u16, u17, u18, u19, u20, u21, u22, u23, u24, u25, u26, u27, undef, undef, u30, u31, u32, u33, u34, u35, u36, u37, u38, u39, undef, undef, undef, undef, undef, undef, undef, undef, undef, undef, undef, undef, undef, undef, undef, undef, undef, undef, undef, undef, undef, undef, undef, undef, undef, undef, undef, undef, undef, undef, undef, undef, undef, undef, undef, undef, undef, undef, undef, undef, undef, undef, undef, undef, undef, undef, undef, undef], defers := [] } x2 := by
  intro u8 u9 u10 u11 u12 u13 u14 u15 u16 u17 u18 u19 u20 u21 u22 u23 u24 u25 u26 u27 u30 u31 u32 u33 u34 u35 u36 u37 u38 u39 hres
  refine hK _ _ ?_
  have HRES := Lib.hid hres
  clear hres hK hK0
  clear K0 K
  go_upto_region 6 with fail
  have HOE := Lib.hid (own_empty x2 44 3)
  have HZE := Lib.hid ((Below.refl _ x2).alloc (Nat.le_refl _) (.cells #[] 44))
  clear d0
  go_wp2
  go_loopw [5, 6, 7] (fun ov dv i wr => ∃ (k : Nat) (B : Option Addr) (m d : Nat), k ≤ n ∧ i = .int .i64 k ∧ ov = .slice B m d ∧ dv = .bool (rS (l.take k) x).2 ∧ wr.ownsRow x2.heap.size 44 3 (.slice B m d) m (encs encU (rS (l.take k) x).1) ∧ m ≤ 2 * k ∧ Below x2.heap.size x2 wr) (fun _ _ i _ => n - (intOf i).toNat)
  case atStart => exact ⟨0, _, 0, 0, Nat.zero_le _, rfl, rfl, rfl, HOE.out, Nat.le_refl _, HZE.out⟩
  case round =>
   clear HOE HZE
   obtain ⟨k, B, m, d, hk, rfl, rfl, rfl, hO, hm, hB⟩ := hrel
   have HO := Lib.hid hO
   have HM := Lib.hid hm
   have HB := Lib.hid hB
   clear hO hm hB
   by_cases hlt : k < n
   · obtain ⟨a, ha⟩ : ∃ a, l[k]? = some a := ⟨_, List.getElem?_eq_getElem (by rw [HL.out]; exact hlt)⟩
     have kn : (k : Int) < (n : Int) := Int.ofNat_lt.2 hlt
     have k0 : (0 : Int) ≤ (k : Int) := Int.natCast_nonneg k
     have hwj : IntKind.i64.wrap ((k : Int) + 1) = (k : Int) + 1 := IntWalk.i64_in _ (by have := HN.out; omega)
     obtain ⟨g, ad, hA, hg, hc⟩ := Sv.range encU_len (by decide) SA.out ha
     have HWR := Lib.hid (show ∀ W, Below x2.heap.size x2 W → W.rangeAt g (ad + k * 3) (encU a) from fun W hb => by
      have h2 : Below w.heap.size w W := K2.out.low.out.trans (hb.mono K2.out.low.out.size)
      exact range_below hc hg h2)
     have HXR := Lib.hid (show ∀ W, Below x2.heap.size x2 W → W.heap[w.heap.size]? = some (.cells (encU x).toArray 44 (0, 0)) from fun W hb => ((K2.out.step hb).at 1 rfl).out)
     have HT := Lib.hid (show rS (l.take (k + 1)) x = rstep x (rS (l.take k) x) a by rw [takeU_snoc ha, rS_snoc])
     have HLT := Lib.hid hlt
     obtain ⟨F, D, hFD⟩ : ∃ F D, rS (l.take k) x = (F, D) := ⟨_, _, rfl⟩
     rw [hFD] at HO HT ⊢
     dsimp only at HO
     rw [hA]
     have hd : Below wr.heap.size wr wr.drew := below_drewN wr 1
     have HO3 := Lib.hid (own_keep HO.out hd)
     have HZ3 := Lib.hid (HB.out.trans (hd.mono HB.out.size))
     clear hc ha hlt hk hA hFD hd
     cases D
     · have q0 : wr.drew.cell? ⟨g, ad + k * 3, none⟩ = some (.int .i64 a.1) := HWR.out _ HZ3.out 0 _ rfl
       have q1 : wr.drew.cell? ⟨w.heap.size, 0, none⟩ = some (.int .i64 x.1) := cell_of_row _ _ 0 _ _ _ (HXR.out _ HZ3.out)
       go_upto_region 9 with fail
       refine wp_region_ord (fun w' => w'.cell? ⟨g, ad + k * 3, none⟩ = some (.int .i64 a.1) ∧ w'.cell? ⟨w.heap.size, 0, none⟩ = some (.int .i64 x.1)) [(0, true), (1, true), (2, true), (3, true), (4, true), (5, true), (6, true), (7, true), (8, true), (9, true), (10, true), (11, true)] (by kernel_rfl) (by kernel_rfl) (by kernel_rfl) ⟨q0, q1⟩ (fun d _ _ _ _ h => by cases d <;> exact h) ?_
       iterate 12 refine ord_pure ?_
       refine ord_nil ?_
       obtain ⟨w3, hw3⟩ : ∃ q, q = wr.drew := ⟨_, rfl⟩
       rw [← hw3] at HO3 HZ3 ⊢
       clear hw3
       clear q0 q1
       by_cases hle : x.1 ≤ a.1
       · have HLE := Lib.hid hle
         go_upto_region 11 with (first | (with_reducible refine load_li rfl _ rfl w.heap.size 0 rfl x (box_range (HXR.out _ HZ3.out)) ?_; simp only [encU]) | (at_builtin; refine wpList_append_gr rfl _ _ 33 rfl x2.heap.size 44 i2 _ 3 24 Tryz.underlying33 hj hj0 hj1 hj2 rfl (by decide) _ _ _ rfl (own_keep HO3.out ((Below.refl _ w3).alloc (Nat.le_refl _) _)) ⟨w3.heap.size, 0, none⟩ 1 1 (encU x) rfl rfl (new_row w3 _ _) (encU_one _) (by unfold maxLen; have := HM.out; have := HN.out; have := HLT.out; omega) (by have := HM.out; have := HN.out; have := HLT.out; omega) (by have := HZ3.out.size; simp; omega) ?_; intro v' w4 hown hg; obtain ⟨Bw4, cw4, rfl⟩ := own_form hown; have HOw4 := Lib.hid (show w4.ownsRow x2.heap.size 44 3 (.slice Bw4 _ cw4) _ (encs encU (F ++ [x])) by rw [encs_append, encs_one]; exact hown); have HZw4 := Lib.hid ((HZ3.out.trans (((Below.refl _ w3).alloc (Nat.le_refl _) _).mono HZ3.out.size)).grown hg (by have := HZ3.out.size; simp; omega) (fun k e => (HO3.out.lt k e).1)); clear hown hg))
         clear hle
         have hd9 : Below w4.heap.size w4 w4.drew := below_drewN w4 1
         have HO9 := Lib.hid (own_keep HOw4.out hd9)
         have HZ9 := Lib.hid (HZw4.out.trans (hd9.mono HZw4.out.size))
         clear hd9
         go_upto_region 11 with fail
         refine wp_region_ord (fun w' => w'.cell? ⟨g, ad + k * 3, none⟩ = some (.int .i64 a.1) ∧ w'.cell? ⟨w.heap.size, 0, none⟩ = some (.int .i64 x.1)) [(0, true), (1, true), (2, true), (3, true), (4, true), (5, true), (6, true), (7, true)] (by kernel_rfl) (by kernel_rfl) (by kernel_rfl) ⟨HWR.out _ HZ9.out 0 _ rfl, cell_of_row _ _ 0 _ _ _ (HXR.out _ HZ9.out)⟩ (fun d _ _ _ _ h => by cases d <;> exact h) ?_
         iterate 8 refine ord_pure ?_
         refine ord_nil ?_
         obtain ⟨w9, hw9⟩ : ∃ q, q = w4.drew := ⟨_, rfl⟩
         rw [← hw9] at HO9 HZ9 ⊢
         clear hw9
         by_cases hax : a.1 = x.1
         · have HST := Lib.hid (show rstep x (F, false) a = (F ++ [x], true) by unfold rstep; have hle := HLE.out; simp [hax, hle])
           have e1 : (a.1 != x.1) = false := by simp [hax]
           clear hax
           go_wp2
           go_roundw
           case rel => exact ⟨k + 1, _, _, _, HLT.out, by go_num, rfl, by rw [HT.out, HST.out], by rw [HT.out, HST.out]; exact HO9.out, by have := HM.out; omega, HZ9.out⟩
           case measure => have := HLT.out; simp [intOf]; omega
         · have HST := Lib.hid (show rstep x (F, false) a = (F ++ [x] ++ [a], true) by unfold rstep; have hle := HLE.out; simp [hax, hle])
           have e1 : (a.1 != x.1) = true := by simp [hax]
           clear hax
           go_wp2_with (first | (with_reducible refine load_li rfl _ rfl g (ad + k * 3) rfl a (HWR.out _ HZ9.out) ?_; simp only [encU]) | (at_builtin; refine wpList_append_gr rfl _ _ 33 rfl x2.heap.size 44 i2 _ 3 24 Tryz.underlying33 hj hj0 hj1 hj2 rfl (by decide) _ _ _ rfl (own_keep HO9.out ((Below.refl _ w9).alloc (Nat.le_refl _) _)) ⟨w9.heap.size, 0, none⟩ 1 1 (encU a) rfl rfl (new_row w9 _ _) (encU_one _) (by unfold maxLen; have := HM.out; have := HN.out; have := HLT.out; omega) (by have := HM.out; have := HN.out; have := HLT.out; omega) (by have := HZ9.out.size; simp; omega) ?_; intro v' w5 hown hg; obtain ⟨Bw5, cw5, rfl⟩ := own_form hown; have HOw5 := Lib.hid (show w5.ownsRow x2.heap.size 44 3 (.slice Bw5 _ cw5) _ (encs encU ((F ++ [x]) ++ [a])) by rw [encs_append, encs_one]; exact hown); have HZw5 := Lib.hid ((HZ9.out.trans (((Below.refl _ w9).alloc (Nat.le_refl _) _).mono HZ9.out.size)).grown hg (by have := HZ9.out.size; simp; omega) (fun k e => (HO9.out.lt k e).1)); clear hown hg))
           go_roundw
           case rel => exact ⟨k + 1, _, _, _, HLT.out, by go_num, rfl, by rw [HT.out, HST.out], by rw [HT.out, HST.out]; exact HOw5.out, by have := HM.out; omega, HZw5.out⟩
           case measure => have := HLT.out; simp [intOf]; omega
       · have HLE := Lib.hid hle
         have hd9 : Below w3.heap.size w3 w3.drew := below_drewN w3 1
         have HO9 := Lib.hid (own_keep HO3.out hd9)
         have HZ9 := Lib.hid (HZ3.out.trans (hd9.mono HZ3.out.size))
         clear hd9
         go_upto_region 11 with fail
         refine wp_region_ord (fun w' => w'.cell? ⟨g, ad + k * 3, none⟩ = some (.int .i64 a.1) ∧ w'.cell? ⟨w.heap.size, 0, none⟩ = some (.int .i64 x.1)) [(0, true), (1, true), (2, true), (3, true), (4, true), (5, true), (6, true), (7, true)] (by kernel_rfl) (by kernel_rfl) (by kernel_rfl) ⟨HWR.out _ HZ9.out 0 _ rfl, cell_of_row _ _ 0 _ _ _ (HXR.out _ HZ9.out)⟩ (fun d _ _ _ _ h => by cases d <;> exact h) ?_
         iterate 8 refine ord_pure ?_
         refine ord_nil ?_
         obtain ⟨w9, hw9⟩ : ∃ q, q = w3.drew := ⟨_, rfl⟩
         rw [← hw9] at HO9 HZ9 ⊢
         clear hw9
         by_cases hax : a.1 = x.1
         · exact absurd (Int.le_of_eq hax.symm) HLE.out
         · have HST := Lib.hid (show rstep x (F, false) a = (F ++ [a], false) by unfold rstep; have hle := HLE.out; simp [hax, hle])
           have e1 : (a.1 != x.1) = true := by simp [hax]
           clear hax
           go_wp2_with (first | (with_reducible refine load_li rfl _ rfl g (ad + k * 3) rfl a (HWR.out _ HZ9.out) ?_; simp only [encU]) | (at_builtin; refine wpList_append_gr rfl _ _ 33 rfl x2.heap.size 44 i2 _ 3 24 Tryz.underlying33 hj hj0 hj1 hj2 rfl (by decide) _ _ _ rfl (own_keep HO9.out ((Below.refl _ w9).alloc (Nat.le_refl _) _)) ⟨w9.heap.size, 0, none⟩ 1 1 (encU a) rfl rfl (new_row w9 _ _) (encU_one _) (by unfold maxLen; have := HM.out; have := HN.out; have := HLT.out; omega) (by have := HM.out; have := HN.out; have := HLT.out; omega) (by have := HZ9.out.size; simp; omega) ?_; intro v' w5 hown hg; obtain ⟨Bw5, cw5, rfl⟩ := own_form hown; have HOw5 := Lib.hid (show w5.ownsRow x2.heap.size 44 3 (.slice Bw5 _ cw5) _ (encs encU ((F) ++ [a])) by rw [encs_append, encs_one]; exact hown); have HZw5 := Lib.hid ((HZ9.out.trans (((Below.refl _ w9).alloc (Nat.le_refl _) _).mono HZ9.out.size)).grown hg (by have := HZ9.out.size; simp; omega) (fun k e => (HO9.out.lt k e).1)); clear hown hg))
           go_roundw
           case rel => exact ⟨k + 1, _, _, _, HLT.out, by go_num, rfl, by rw [HT.out, HST.out], by rw [HT.out, HST.out]; exact HOw5.out, by have := HM.out; omega, HZw5.out⟩
           case measure => have := HLT.out; simp [intOf]; omega
     ·
      go_upto_region 9 with fail
      refine wp_region_ord (fun _ => True) [(0, true), (1, true), (2, true), (3, true), (4, true), (5, true), (6, true), (7, true), (8, true), (9, true), (10, true), (11, true)] (by kernel_rfl) (by kernel_rfl) (by kernel_rfl) trivial (fun d _ _ _ _ h => by cases d <;> exact h) ?_
      iterate 12 refine ord_pure ?_
      refine ord_nil ?_
      obtain ⟨w3, hw3⟩ : ∃ q, q = wr.drew := ⟨_, rfl⟩
      rw [← hw3] at HO3 HZ3 ⊢
      clear hw3
      have hd9 : Below w3.heap.size w3 w3.drew := below_drewN w3 1
      have HO9 := Lib.hid (own_keep HO3.out hd9)
      have HZ9 := Lib.hid (HZ3.out.trans (hd9.mono HZ3.out.size))
      clear hd9
      go_upto_region 11 with fail
      refine wp_region_ord (fun w' => w'.cell? ⟨g, ad + k * 3, none⟩ = some (.int .i64 a.1) ∧ w'.cell? ⟨w.heap.size, 0, none⟩ = some (.int .i64 x.1)) [(0, true), (1, true), (2, true), (3, true), (4, true), (5, true), (6, true), (7, true)] (by kernel_rfl) (by kernel_rfl) (by kernel_rfl) ⟨HWR.out _ HZ9.out 0 _ rfl, cell_of_row _ _ 0 _ _ _ (HXR.out _ HZ9.out)⟩ (fun d _ _ _ _ h => by cases d <;> exact h) ?_
      iterate 8 refine ord_pure ?_
      refine ord_nil ?_
      obtain ⟨w9, hw9⟩ : ∃ q, q = w3.drew := ⟨_, rfl⟩
      rw [← hw9] at HO9 HZ9 ⊢
      clear hw9
      by_cases hax : a.1 = x.1
      · have HST := Lib.hid (show rstep x (F, true) a = (F, true) by unfold rstep; simp [hax])
        have e1 : (a.1 != x.1) = false := by simp [hax]
        clear hax
        go_wp2
        go_roundw
        case rel => exact ⟨k + 1, _, _, _, HLT.out, by go_num, rfl, by rw [HT.out, HST.out], by rw [HT.out, HST.out]; exact HO9.out, by have := HM.out; omega, HZ9.out⟩
        case measure => have := HLT.out; simp [intOf]; omega
      · have HST := Lib.hid (show rstep x (F, true) a = (F ++ [a], true) by unfold rstep; simp [hax])
        have e1 : (a.1 != x.1) = true := by simp [hax]
        clear hax
        go_wp2_with (first | (with_reducible refine load_li rfl _ rfl g (ad + k * 3) rfl a (HWR.out _ HZ9.out) ?_; simp only [encU]) | (at_builtin; refine wpList_append_gr rfl _ _ 33 rfl x2.heap.size 44 i2 _ 3 24 Tryz.underlying33 hj hj0 hj1 hj2 rfl (by decide) _ _ _ rfl (own_keep HO9.out ((Below.refl _ w9).alloc (Nat.le_refl _) _)) ⟨w9.heap.size, 0, none⟩ 1 1 (encU a) rfl rfl (new_row w9 _ _) (encU_one _) (by unfold maxLen; have := HM.out; have := HN.out; have := HLT.out; omega) (by have := HM.out; have := HN.out; have := HLT.out; omega) (by have := HZ9.out.size; simp; omega) ?_; intro v' w5 hown hg; obtain ⟨Bw5, cw5, rfl⟩ := own_form hown; have HOw5 := Lib.hid (show w5.ownsRow x2.heap.size 44 3 (.slice Bw5 _ cw5) _ (encs encU ((F) ++ [a])) by rw [encs_append, encs_one]; exact hown); have HZw5 := Lib.hid ((HZ9.out.trans (((Below.refl _ w9).alloc (Nat.le_refl _) _).mono HZ9.out.size)).grown hg (by have := HZ9.out.size; simp; omega) (fun k e => (HO9.out.lt k e).1)); clear hown hg))
        go_roundw
        case rel => exact ⟨k + 1, _, _, _, HLT.out, by go_num, rfl, by rw [HT.out, HST.out], by rw [HT.out, HST.out]; exact HOw5.out, by have := HM.out; omega, HZw5.out⟩
        case measure => have := HLT.out; simp [intOf]; omega
   · have kn : ¬ (k : Int) < (n : Int) := fun e => hlt (Int.ofNat_lt.1 e)
     have ht : l.take k = l := List.take_of_length_le (by rw [HL.out]; omega)
     have HFIN := Lib.hid (rS_set x HS.out)
     rw [ht] at HO ⊢
     have hmn : m ≤ 2000 := by have := HM.out; have := HN.out; omega
     obtain ⟨F, D, hFD⟩ : ∃ F D, rS l x = (F, D) := ⟨_, _, rfl⟩
     rw [hFD] at HO HFIN ⊢
     dsimp only at HO
     have K4 := Lib.hid (K2.out.step HB.out)
     have HXR := Lib.hid (show ∀ W, Below x2.heap.size x2 W → W.heap[w.heap.size]? = some (.cells (encU x).toArray 44 (0, 0)) from fun W hb => ((K2.out.step hb).at 1 rfl).out)
     clear hFD ht hk hlt
     cases D
     · go_upto_region 15 with (first | (with_reducible refine load_li rfl _ rfl w.heap.size 0 rfl x (box_range (HXR.out _ HB.out)) ?_; simp only [encU]) | (at_builtin; refine wpList_append_gr rfl _ _ 33 rfl x2.heap.size 44 i2 _ 3 24 Tryz.underlying33 hj hj0 hj1 hj2 rfl (by decide) _ _ _ rfl (own_keep HO.out ((Below.refl _ wr).alloc (Nat.le_refl _) _)) ⟨wr.heap.size, 0, none⟩ 1 1 (encU x) rfl rfl (new_row wr _ _) (encU_one _) (by unfold maxLen; have := HM.out; have := HN.out; omega) (by have := HM.out; have := HN.out; omega) (by have := HB.out.size; simp; omega) ?_; intro v' w4 hown hg; obtain ⟨Bw4, cw4, rfl⟩ := own_form hown; have HOw4 := Lib.hid (show w4.ownsRow x2.heap.size 44 3 (.slice Bw4 _ cw4) _ (encs encU (F ++ [x])) by rw [encs_append, encs_one]; exact hown); have HZw4 := Lib.hid ((HB.out.trans (((Below.refl _ wr).alloc (Nat.le_refl _) _).mono HB.out.size)).grown hg (by have := HB.out.size; simp; omega) (fun k e => (HO.out.lt k e).1)); clear hown hg))
       have K5 := Lib.hid (K2.out.step HZw4.out)
       have HFN2 := Lib.hid (show F ++ [x] = setU l x from HFIN.out)
       go_wp2_with (with_reducible refine store_s1 rfl _ _ rfl (w.heap.size + 1) rfl Bw4 (m + 1) cw4 0 rfl _ (K5.out.at 0 rfl).out rfl ?_)
       have K6 := Lib.hid (K5.out.row 0 rfl #[.slice Bw4 ((m + 1)) cw4, .int .i64 0])
       have HO6 := Lib.hid (own_low_row HOw4.out (b := w.heap.size + 1) (by have := HZ2.out; omega) #[.slice Bw4 ((m + 1)) cw4, .int .i64 0])
       refine bodyPost_ret (ret_s1 rfl _ _ (w.heap.size + 1) Bw4 ((m + 1)) cw4 0 rfl (K6.out.at 0 rfl).out) rfl ?_
       exact ⟨Bw4, (m + 1), cw4, by rw [HRES.out], by rw [HRES.out, ← HFN2.out]; exact Sv.own HO6.out (encs_cells encU_one _), fun P _ => (plc_own HO6.out).mono fun g hg => .inr (by have := HZ2.out; omega), K6.out.low.out⟩
     · have HFN2 := Lib.hid (show F = setU l x from HFIN.out)
       go_wp2_with (with_reducible refine store_s1 rfl _ _ rfl (w.heap.size + 1) rfl B m d 0 rfl _ (K4.out.at 0 rfl).out rfl ?_)
       have K6 := Lib.hid (K4.out.row 0 rfl #[.slice B (m) d, .int .i64 0])
       have HO6 := Lib.hid (own_low_row HO.out (b := w.heap.size + 1) (by have := HZ2.out; omega) #[.slice B (m) d, .int .i64 0])
       refine bodyPost_ret (ret_s1 rfl _ _ (w.heap.size + 1) B (m) d 0 rfl (K6.out.at 0 rfl).out) rfl ?_
       exact ⟨B, m, d, by rw [HRES.out], by rw [HRES.out, ← HFN2.out]; exact Sv.own HO6.out (encs_cells encU_one _), fun P _ => (plc_own HO6.out).mono fun g hg => .inr (by have := HZ2.out; omega), K6.out.low.out⟩
 have KEY := Lib.hid key
 clear key hK
 by_cases h16 : n < 16
 · have HRES := setU_ok (l := l) HGOOD.out (.inr (by rw [HL.out]; exact h16))
   have k16 : ¬ (16 : Int) ≤ (n : Int) := by omega
   go_wp2
   exact KEY.out _ _ _ _ _ _ _ _ _ _ _ _ _ _ _ _ _ _ _ _ _ _ _ _ _ _ _ _ _ _ HRES
 have k16 : (16 : Int) ≤ (n : Int) := by omega
 clear h16
 by_cases hu : hasU l x.1 = true
 · have HRES := Lib.hid (setU_ok (l := l) HGOOD.out (.inl hu))
   have CU := Lib.hid (show Calls Tryz.prog 44 #[.slice A n c, .int .i64 x.1] x2 fun e w' => (∃ v : Int, e = .returned (.int .i64 v) ∧ 0 ≤ v) ∧ w' = x2 from (CH.out x2 K2.out.low.out).mono fun e w' ⟨⟨v, he, hv⟩, hw⟩ => ⟨⟨v, he, by
    obtain ⟨a, ha, hx⟩ := hasU_iff.1 hu
    obtain ⟨j, hj⟩ := List.getElem?_of_mem ha
    rcases hv with ⟨_, hv⟩ | ⟨k, hk, _⟩
    · exact absurd hx (hv a ha)
    · omega⟩, hw⟩)
   clear hu
   go_wp2_with (go_at_call 44; (with_reducible refine CU.out.mono ?_); rintro e wh ⟨⟨v, rfl, hv⟩, hwh⟩; rw [hwh]; clear hwh)
   exact KEY.out _ _ _ _ _ _ _ _ _ _ _ _ _ _ _ _ _ _ _ _ _ _ _ _ _ _ _ _ _ _ HRES.out
 · have hu' : hasU l x.1 = false := by simpa using hu
   have HRES := Lib.hid (setU_big (l := l) HGOOD.out hu' (by rw [HL.out]; omega))
   have CU := Lib.hid (show Calls Tryz.prog 44 #[.slice A n c, .int .i64 x.1] x2 fun e w' => e = .returned (.int .i64 (-1)) ∧ w' = x2 from (CH.out x2 K2.out.low.out).mono fun e w' ⟨⟨v, he, hv⟩, hw⟩ => ⟨by
    rcases hv with ⟨h1, _⟩ | ⟨k, hv⟩
    · rw [he, h1]
    · obtain ⟨a, _, ha, hx, _⟩ := hv
      exact absurd (hasU_iff.2 ⟨a, List.mem_of_getElem? ha, hx⟩) hu, hw⟩)
   clear hu hu'
   go_wp2_with (first | (go_at_call 44; (with_reducible refine CU.out.mono ?_); rintro e wh ⟨rfl, hwh⟩; rw [hwh]; clear hwh) | (with_reducible refine store_s1 rfl _ _ rfl (w.heap.size + 1) rfl A n c 2 rfl _ (K2.out.at 0 rfl).out rfl ?_))
   refine bodyPost_ret (ret_s1 rfl _ _ (w.heap.size + 1) A n c 2 rfl ((K2.out.row 0 rfl _).at 0 rfl).out) rfl ?_
   exact ⟨A, n, c, by rw [HRES.out], by rw [HRES.out]; exact SA.out.below (K2.out.row 0 rfl _).low.out, fun P h => h.mono fun g hg => .inl hg, (K2.out.row 0 rfl _).low.out⟩
end Go.Proofs.YtemgejblnionlaaGreatDoor
namespace Go.Proofs.YtemgejblnionlaaGreatDoor
open Go.RowKit Go.Maps
set_option maxHeartbeats 8000000
set_option maxRecDepth 100000
abbrev B3 := UInt8 × UInt8 × UInt8
def encB (t : B3) : List Value := [.int .u8 t.1.toNat, .int .u8 t.2.1.toNat, .int .u8 t.2.2.toNat]
theorem encB_len (t : B3) : (encB t).length = 3 := rfl
def LimR (a : Int × Us) : Prop := -1 ≤ a.1 ∧ a.1 ≤ 999 ∧ 0 ≤ a.2.1 ∧ a.2.1 ≤ 1000 ∧ 0 ≤ a.2.2 ∧ a.2.2 ≤ 1000
structure LimOk (L : List (Int × Us)) : Prop where
 srt : SrtU L
 len : L.length ≤ 16
 each : ∀ a ∈ L, LimR a
theorem LimOk.nil : LimOk [] := ⟨by simp [SrtU], by decide, fun _ h => by cases h⟩
theorem setU_mem {l : List (Int × Us)} {x a : Int × Us} (h : a ∈ setU l x) : a ∈ l ∨ a = x := by
 unfold setU at h
 rcases List.mem_append.1 h with h | h
 · exact .inl (List.mem_filter.1 h).1
 · rcases List.mem_cons.1 h with h | h
   · exact .inr h
   · exact .inl (List.mem_filter.1 h).1
theorem filt_len (o : Int) : ∀ (l : List (Int × Us)), (l.filter (fun a => a.1 < o)).length + (l.filter (fun a => o < a.1)).length + l.countP (fun a => a.1 == o) = l.length
 | [] => rfl
 | a :: l => by
   have h := filt_len o l
   rw [List.filter_cons, List.filter_cons, List.countP_cons, List.length_cons]
   rcases Int.lt_trichotomy a.1 o with h1 | h1 | h1
   · have h2 : ¬ o < a.1 := by omega
     have h3 : ¬ a.1 = o := by omega
     simp [h1, h2, h3]; omega
   · have h2 : ¬ o < a.1 := by omega
     have h3 : ¬ a.1 < o := by omega
     simp [h1]; omega
   · have h2 : ¬ a.1 < o := by omega
     have h3 : ¬ a.1 = o := by omega
     simp [h1, h2, h3]; omega
theorem setU_length {l : List (Int × Us)} {x : Int × Us} : (setU l x).length + l.countP (fun a => a.1 == x.1) = l.length + 1 := by
 have h := filt_len x.1 l
 unfold setU
 rw [List.length_append, List.length_cons]
 omega
theorem LimOk.set {L : List (Int × Us)} (h : LimOk L) {x : Int × Us} (hx : LimR x) : LimOk (doSet L x).1 := by
 have hb : badL x = false := by
  obtain ⟨h1, h2, h3, h4, h5, h6⟩ := hx
  unfold badL personB
  have e3 : ¬ x.2.1 < 0 := by omega
  have e5 : ¬ x.2.2 < 0 := by omega
  by_cases e : x.1 = -1
  · simp [e, e3, e5]
  · have e1 : 0 ≤ x.1 := by omega
    simp [e1, h2, e3, e5]
 by_cases h16 : hasU L x.1 = true ∨ L.length < 16
 · rw [setU_ok hb h16]
   refine ⟨setU_srt x h.srt, ?_, fun a ha => ?_⟩
   · have h1 := setU_length (l := L) (x := x)
     show (setU L x).length ≤ 16
     rcases h16 with h2 | h2
     · obtain ⟨a, ha, hax⟩ := hasU_iff.1 h2
       have : 0 < L.countP (fun a => a.1 == x.1) := List.countP_pos_iff.2 ⟨a, ha, by simp [hax]⟩
       have := h.len
       omega
     · omega
   · rcases setU_mem ha with ha | rfl
     · exact h.each a ha
     · exact hx
 · have h1 : hasU L x.1 = false := by
    cases e : hasU L x.1 with
    | false => rfl
    | true => exact absurd (.inl e) h16
   have h2 : 16 ≤ L.length := by
    rcases Nat.lt_or_ge L.length 16 with e | e
    · exact absurd (.inr e) h16
    · exact e
   rw [setU_big hb h1 h2]
   exact h
theorem remB (a : Int) (m : Nat) (hm : 0 < m ∧ m ≤ 255) (h : 0 ≤ a ∧ a < 256) : ∃ k : Nat, k < m ∧ (k : Int) ≤ 255 ∧ a.tmod (m : Int) = (k : Int) ∧ IntKind.u8.wrap (k : Int) = (k : Int) ∧ IntKind.i64.wrap (k : Int) = (k : Int) := by
 have h0 : a.tmod (m : Int) = a % (m : Int) := Int.tmod_eq_emod_of_nonneg h.1
 have h1 : 0 ≤ a % (m : Int) := Int.emod_nonneg _ (by omega)
 have h2 : a % (m : Int) < (m : Int) := Int.emod_lt_of_pos _ (by omega)
 obtain ⟨k, hk⟩ : ∃ k : Nat, a % (m : Int) = (k : Int) := ⟨(a % (m : Int)).toNat, by omega⟩
 rw [hk] at h0 h1 h2
 exact ⟨k, by omega, by omega, h0, IntWalk.u8_in _ (by omega), IntWalk.i64_in _ (by omega)⟩
abbrev tab4 : Array Value := #[.int .i64 (-1), .int .i64 0, .int .i64 5, .int .i64 7]
structure LIn (w : World) (J : Nat) (o p r : Int) (f : Nat → Value) (q : Nat → Bool) (W : World) : Prop where
 low : Below w.heap.size w W
 b0 : q 0 = true → ∃ b, f 0 = .slice (some ⟨b, 0, none⟩) 4 4 ∧ w.heap.size ≤ b ∧ W.heap[b]? = some (.cells tab4 3 (0, 0))
 b7 : q 7 = true → ∃ b, f 7 = .pointer (some ⟨b, J, none⟩) ∧ w.heap.size ≤ b ∧ W.heap[b]? = some (.cells tab4 3 (0, 0))
 b8 : q 8 = true → f 8 = .int .i64 o
 b24 : q 24 = true → f 24 = .agg #[.int .i64 o, .int .i64 p, .int .i64 r]
 b25 : q 25 = true → ∃ b c, f 25 = .pointer (some ⟨b, 0, none⟩) ∧ w.heap.size ≤ b ∧ W.heap[b]? = some (.cells c 44 (0, 0)) ∧ c.size = 3 ∧ (q 26 = true → c = #[.int .i64 o, .int .i64 p, .int .i64 r])
 o26 : q 26 = true → q 25 = true ∧ q 8 = true ∧ q 7 = true ∧ q 0 = true
theorem LIn.none_ {w W : World} (h : Below w.heap.size w W) (J : Nat) (o p r : Int) (f : Nat → Value) : LIn w J o p r f (fun _ => false) W :=
 ⟨h, (fun h => by cases h), (fun h => by cases h), (fun h => by cases h), (fun h => by cases h), (fun h => by cases h), (fun h => by cases h)⟩
theorem alloc_keep {W : World} {b : Nat} {o : Obj} (h : W.heap[b]? = some o) (x : Obj) : (W.alloc x).heap[b]? = some o :=
 (((Below.refl _ W).alloc (Nat.le_refl _) x).block _ (Array.getElem?_eq_some_iff.1 h).1).trans h
section
variable {w W : World} {J : Nat} {o p r : Int} {f : Nat → Value} {q : Nat → Bool}
theorem LIn.s0 (I : LIn w J o p r f q W) (hn : q 0 = false) : LIn w J o p r (upd f 0 (.slice (some ⟨W.heap.size, 0, none⟩) 4 4)) (updB q 0) (W.alloc (.cells tab4 3)) :=
 ⟨I.low.alloc I.low.size _, fun _ => ⟨W.heap.size, rfl, I.low.size, heap_alloc_new W _⟩,
  fun h => by obtain ⟨b, h1, h2, h3⟩ := I.b7 h; exact ⟨b, h1, h2, alloc_keep h3 _⟩, fun h => I.b8 h, fun h => I.b24 h,
  fun h => by
   obtain ⟨b, c, h1, h2, h3, h4, h5⟩ := I.b25 h
   exact ⟨b, c, h1, h2, alloc_keep h3 _, h4, h5⟩,
  fun h => absurd ((I.o26 h).2.2.2) (by rw [hn]; decide)⟩
theorem LIn.s25 (I : LIn w J o p r f q W) (hn : q 25 = false) : LIn w J o p r (upd f 25 (.pointer (some ⟨W.heap.size, 0, none⟩))) (updB q 25) (W.alloc (.cells zA 44)) :=
 ⟨I.low.alloc I.low.size _, fun h => by obtain ⟨b, h1, h2, h3⟩ := I.b0 h; exact ⟨b, h1, h2, alloc_keep h3 _⟩,
  fun h => by obtain ⟨b, h1, h2, h3⟩ := I.b7 h; exact ⟨b, h1, h2, alloc_keep h3 _⟩, fun h => I.b8 h, fun h => I.b24 h,
  fun _ => ⟨W.heap.size, zA, rfl, I.low.size, heap_alloc_new W _, rfl, fun h => absurd ((I.o26 h).1) (by rw [hn]; decide)⟩,
  fun h => absurd ((I.o26 h).1) (by rw [hn]; decide)⟩
theorem LIn.s7 (I : LIn w J o p r f q W) {b : Nat} (hb : w.heap.size ≤ b) (hw : W.heap[b]? = some (.cells tab4 3 (0, 0))) (hn : q 7 = false) : LIn w J o p r (upd f 7 (.pointer (some ⟨b, J, none⟩))) (updB q 7) W :=
 ⟨I.low, fun h => I.b0 h, fun _ => ⟨b, rfl, hb, hw⟩, fun h => I.b8 h, fun h => I.b24 h, fun h => I.b25 h, fun h => absurd ((I.o26 h).2.2.1) (by rw [hn]; decide)⟩
theorem LIn.s8 (I : LIn w J o p r f q W) (hn : q 8 = false) : LIn w J o p r (upd f 8 (.int .i64 o)) (updB q 8) W :=
 ⟨I.low, fun h => I.b0 h, fun h => I.b7 h, fun _ => rfl, fun h => I.b24 h, fun h => I.b25 h, fun h => absurd ((I.o26 h).2.1) (by rw [hn]; decide)⟩
theorem LIn.s24 (I : LIn w J o p r f q W) : LIn w J o p r (upd f 24 (.agg #[.int .i64 o, .int .i64 p, .int .i64 r])) (updB q 24) W :=
 ⟨I.low, fun h => I.b0 h, fun h => I.b7 h, fun h => I.b8 h, fun _ => rfl, fun h => I.b25 h, fun h => I.o26 h⟩
theorem LIn.s26 (I : LIn w J o p r f q W) (h0 : q 0 = true) (h7 : q 7 = true) (h8 : q 8 = true) (h25 : q 25 = true) {b : Nat} {c : Array Value} (hf : f 25 = .pointer (some ⟨b, 0, none⟩)) (hb : w.heap.size ≤ b) (hw : W.heap[b]? = some (.cells c 44 (0, 0))) (v : Value) :
 LIn w J o p r (upd f 26 v) (updB q 26) (W.setRow b #[.int .i64 o, .int .i64 p, .int .i64 r]) :=
 ⟨below_setRow I.low hb _, fun h => by
  obtain ⟨b', h1, h2, h3⟩ := I.b0 h
  refine ⟨b', h1, h2, (setRow_other W b b' _ (fun e => ?_)).trans h3⟩
  rw [e, hw] at h3
  injection h3 with h3; injection h3 with h3 h4; exact absurd h4 (by decide),
  fun h => by
   obtain ⟨b', h1, h2, h3⟩ := I.b7 h
   refine ⟨b', h1, h2, (setRow_other W b b' _ (fun e => ?_)).trans h3⟩
   rw [e, hw] at h3
   injection h3 with h3; injection h3 with h3 h4; exact absurd h4 (by decide),
  fun h => I.b8 h, fun h => I.b24 h,
  fun _ => ⟨b, _, hf, hb, setRow_heap _ _ _ _ _ _ hw, rfl, fun _ => rfl⟩,
  fun _ => ⟨h25, h8, h7, h0⟩⟩
end
theorem Limits_any (A : Option Addr) (n c : Nat) (l : List B3) (w : World) (hA : Sv w A n c 3 (encs encB l)) (hn : n ≤ 1000000) :
 Calls Tryz.prog 12 #[.slice A n c] w fun e w' => ∃ B m d L, e = .returned (.slice B m d) ∧ Sv w' B m d 3 (encs encU L) ∧ LimOk L ∧ plc (w.heap.size ≤ ·) B m ∧ Below w.heap.size w w' := by
 have SA := Lib.hid hA
 have HN := Lib.hid hn
 have HL := Lib.hid (show l.length = n from hA.plen encB_len (by decide))
 clear hA hn
 go_enter Tryz.func12, Tryz.ntmps12
 go_wp2
 go_loopw [3, 4] (fun ov i wr => ∃ (k : Nat) (B : Option Addr) (m d : Nat) (L : List (Int × Us)), k ≤ n ∧ i = .int .i64 k ∧ ov = .slice B m d ∧ Sv wr B m d 3 (encs encU L) ∧ LimOk L ∧ plc (w.heap.size ≤ ·) B m ∧ Below w.heap.size w wr) (fun _ i _ => n - (intOf i).toNat)
 case atStart => exact ⟨0, _, 0, 0, [], Nat.zero_le _, rfl, rfl, Sv.own (own_empty w 44 3) (by simp [encs]), LimOk.nil, (fun h => absurd h (Nat.lt_irrefl 0)), (Below.refl _ w).alloc (Nat.le_refl _) (.cells #[] 44)⟩
 case round =>
  obtain ⟨k, B, m, d, L, hk, rfl, rfl, hO, hL, hP, hB⟩ := hrel
  have HP := Lib.hid hP
  clear hP
  have HO := Lib.hid hO
  have HLO := Lib.hid hL
  have HB := Lib.hid hB
  clear hO hL hB
  by_cases hlt : k < n
  · obtain ⟨t, ha⟩ : ∃ t, l[k]? = some t := ⟨_, List.getElem?_eq_getElem (by rw [HL.out]; exact hlt)⟩
    have kn : (k : Int) < (n : Int) := Int.ofNat_lt.2 hlt
    have k0 : (0 : Int) ≤ (k : Int) := Int.natCast_nonneg k
    have hwj : IntKind.i64.wrap ((k : Int) + 1) = (k : Int) + 1 := IntWalk.i64_in _ (by have := HN.out; omega)
    obtain ⟨g, ad, hA, hg, hc⟩ := Sv.range encB_len (by decide) SA.out ha
    obtain ⟨a0, ha0⟩ : ∃ a : Int, ((t.1.toNat : Nat) : Int) = a := ⟨_, rfl⟩
    obtain ⟨a1, ha1⟩ : ∃ a : Int, ((t.2.1.toNat : Nat) : Int) = a := ⟨_, rfl⟩
    obtain ⟨a2, ha2⟩ : ∃ a : Int, ((t.2.2.toNat : Nat) : Int) = a := ⟨_, rfl⟩
    have r0 : 0 ≤ a0 ∧ a0 < 256 := by have := t.1.toNat_lt; omega
    have r1 : 0 ≤ a1 ∧ a1 < 256 := by have := t.2.1.toNat_lt; omega
    have r2 : 0 ≤ a2 ∧ a2 < 256 := by have := t.2.2.toNat_lt; omega
    have HWR := Lib.hid (show ∀ W, Below w.heap.size w W → W.rangeAt g (ad + k * 3) [.int .u8 a0, .int .u8 a1, .int .u8 a2] from fun W hb => by
     have h1 := range_below hc hg hb
     unfold encB at h1
     rw [ha0, ha1, ha2] at h1
     exact h1)
    have HLT := Lib.hid hlt
    obtain ⟨J, J1, J2, J3, J4, J5⟩ := remB a0 4 (by decide) r0
    obtain ⟨p, p1, p2, p3, p4, p5⟩ := remB a1 16 (by decide) r1
    obtain ⟨r, q1, q2, q3, q4, q5⟩ := remB a2 64 (by decide) r2
    have J3 : a0.tmod 4 = (J : Int) := J3
    have p3 : a1.tmod 16 = (p : Int) := p3
    have q3 : a2.tmod 64 = (r : Int) := q3
    have w1 : IntKind.i64.wrap a1 = a1 := IntWalk.i64_in _ (by omega)
    obtain ⟨o, ho, hor⟩ : ∃ o : Int, tab4[J]? = some (.int .i64 o) ∧ -1 ≤ o ∧ o ≤ 7 := by
     rcases J with _ | _ | _ | _ | J
     · exact ⟨-1, rfl, by decide, by decide⟩
     · exact ⟨0, rfl, by decide, by decide⟩
     · exact ⟨5, rfl, by decide, by decide⟩
     · exact ⟨7, rfl, by decide, by decide⟩
     · exfalso; omega
    rw [hA]
    clear hc ha hlt hk hA ha0 ha1 ha2
    go_upto_region 5 with fail
    have hdr : Below wr.heap.size wr wr.drew := below_drewN wr 1
    have HBD := Lib.hid (HB.out.trans (hdr.mono HB.out.size))
    have HOD := Lib.hid (HO.out.below hdr)
    clear hdr
    have G := Lib.hid (HWR.out _ HBD.out)
    have g0 := Lib.hid (show wr.drew.cell? ⟨g, ad + k * 3, none⟩ = some (.int .u8 a0) from G.out 0 _ rfl)
    have g1 := Lib.hid (show wr.drew.cell? ⟨g, ad + k * 3 + 1, none⟩ = some (.int .u8 a1) from G.out 1 _ rfl)
    have g2 := Lib.hid (show wr.drew.cell? ⟨g, ad + k * 3 + 2, none⟩ = some (.int .u8 a2) from G.out 2 _ rfl)
    refine wp_region_fork (fun w' => w'.cell? ⟨g, ad + k * 3, none⟩ = some (.int .u8 a0) ∧ w'.cell? ⟨g, ad + k * 3 + 1, none⟩ = some (.int .u8 a1) ∧ w'.cell? ⟨g, ad + k * 3 + 2, none⟩ = some (.int .u8 a2)) [(1, true), (2, true), (3, true), (4, true), (5, true), (6, true), (9, true), (10, true), (11, true), (12, true), (13, true), (14, true), (15, true), (16, true), (17, true), (18, true), (19, true), (20, true), (21, true), (22, true), (23, true)] 6 #[false, true, true, true, true, true, true, false, false, true, true, true, true, true, true, true, true, true, true, true, true, true, true, true, false, false, false] (by kernel_rfl) (by kernel_rfl) (by rfl) (by kernel_rfl) ⟨g0.out, g1.out, g2.out⟩ (fun d _ _ _ _ h => by cases d <;> exact h) ?_
    iterate 21 refine ord_pure ?_
    refine ord_nil (fun _ => ?_)
    generalize wr.drew = wd at *
    refine wp_locM (X := [0, 7, 8, 24, 25, 26]) (fun f => by simp only [putAll, dstOf, List.getElem?_toArray, List.getElem?_cons_succ, List.getElem?_cons_zero, Option.bind_some, Act.put, List.setIfInBounds_toArray, List.set_cons_zero, List.set_cons_succ]; rfl) (LIn wd J o (p : Int) (r : Int)) (by kernel_rfl) (fun f d W I => ⟨(I.low.cell (block_lt_of_cell g0.out)).trans g0.out, (I.low.cell (block_lt_of_cell g1.out)).trans g1.out, (I.low.cell (block_lt_of_cell g2.out)).trans g2.out⟩) (fun f => LIn.none_ (Below.refl _ _) J o p r f) ?_ ?_
    · refine ⟨?_, ?_, ?_, ?_, ?_, ?_, trivial⟩
      · intro f q wj I hd hp
        refine ⟨_, rfl, fun K hK => ?_⟩
        have HI := Lib.hid (I.s0 hd)
        go_simp
        exact hK.out _ (.slice (some ⟨wj.heap.size, 0, none⟩) 4 4) _ (by first | rfl | (simp only [Act.put, puts])) HI.out
      · intro f q wj I hd hp
        refine ⟨_, rfl, fun K hK => ?_⟩
        obtain ⟨b, e0, h2, h3⟩ := I.b0 (hp 0 (by decide +kernel) (by decide))
        have HI := Lib.hid (I.s7 h2 h3 hd)
        simp only [e0]
        go_simp
        rw [if_pos (show (J : Int) < 4 by omega)]
        exact hK.out _ (.pointer (some ⟨b, J, none⟩)) _ (by first | rfl | (simp only [Act.put, puts, e0])) HI.out
      · intro f q wj I hd hp
        refine ⟨_, rfl, fun K hK => ?_⟩
        obtain ⟨b, e7, h2, h3⟩ := I.b7 (hp 7 (by decide +kernel) (by decide))
        have HI := Lib.hid (I.s8 hd)
        have hcell : wj.cell? ⟨b, J, none⟩ = some (.int .i64 o) := (cell_of_row _ _ J _ _ _ h3).trans ho
        simp only [e7]
        go_simp
        exact hK.out _ (.int .i64 o) _ (by first | rfl | (simp only [Act.put, puts, e7])) HI.out
      · intro f q wj I hd hp
        refine ⟨_, rfl, fun K hK => ?_⟩
        have e8 := I.b8 (hp 8 (by decide +kernel) (by decide))
        have HI := Lib.hid I.s24
        simp only [e8]
        go_simp
        exact hK.out _ (.agg #[.int .i64 o, .int .i64 (p : Int), .int .i64 (r : Int)]) _ (by first | rfl | (simp only [Act.put, puts, e8])) HI.out
      · intro f q wj I hd hp
        refine ⟨_, rfl, fun K hK => ?_⟩
        have HI := Lib.hid (I.s25 hd)
        go_simp
        exact hK.out _ (.pointer (some ⟨wj.heap.size, 0, none⟩)) _ (by first | rfl | (simp only [Act.put, puts])) HI.out
      · intro f q wj I hd hp
        refine ⟨_, rfl, fun K hK => ?_⟩
        have d0 := hp 0 (by decide +kernel) (by decide)
        have d7 := hp 7 (by decide +kernel) (by decide)
        have d8 := hp 8 (by decide +kernel) (by decide)
        have d24 := hp 24 (by decide +kernel) (by decide)
        have d25 := hp 25 (by decide +kernel) (by decide)
        have e24 := I.b24 d24
        obtain ⟨b, c', e25, h2, h3, h4, -⟩ := I.b25 d25
        have I2 := I.s26 d0 d7 d8 d25 e25 h2 h3 undef
        simp only [e24, e25]
        refine wp_store_row 44 _ _ rfl b #[.int .i64 o, .int .i64 (p : Int), .int .i64 (r : Int)] rfl rfl 44 c' h3 (by kernel_rfl) h4 (by simp [Value.oneCell']) ?_
        exact hK.out _ undef _ (by first | rfl | (simp only [Act.put, puts, e24, e25])) I2
    · intro f q wj I hall
      obtain ⟨b, c', e25, h2, h3, -, h5⟩ := I.b25 (hall 25 (by decide))
      rw [h5 (hall 26 (by decide))] at h3
      have HBJ := Lib.hid (HBD.out.trans (I.low.mono HBD.out.size))
      have HOJ := Lib.hid (HOD.out.below I.low)
      have KJ := Lib.hid ((Bxs.nil wd).add I.low h3 h2)
      simp only [e25]
      generalize f 0 = f0
      generalize f 7 = f7
      generalize f 8 = f8
      generalize f 24 = f24
      have hb := (Array.getElem?_eq_some_iff.1 h3).1
      have HLW := Lib.hid I.low
      clear h3 h5 I hall e25 h2 g0 g1 g2 G HO HB
      have c0 : wj.cell? ⟨g, ad + k * 3, none⟩ = some (.int .u8 a0) := HWR.out _ HBJ.out 0 _ rfl
      have c1 : wj.cell? ⟨g, ad + k * 3 + 1, none⟩ = some (.int .u8 a1) := HWR.out _ HBJ.out 1 _ rfl
      have hm16 : m ≤ 16 := by have := HLO.out.len; have := HOJ.out.plen encU_len (by decide); omega
      have hf0 : ∀ (A : Option Addr) (n c : Nat) (e : Int) (W : World), (Instr.field 47 (.agg #[.slice A n c, .int .i64 e]) 0).run Tryz.prog W = .ok (.slice A n c) W := fun _ _ _ _ _ => rfl
      by_cases h250 : a0 > 250
      · have KJ2 := Lib.hid (KJ.out.cel 0 rfl 0 (.int .i64 a1) #[.int .i64 a1, .int .i64 (p : Int), .int .i64 (r : Int)])
        have z0 := KJ.out.cell 0 0 (.int .i64 o) rfl
        have z1 := KJ.out.thaw 0 0 rfl
        have HOK := Lib.hid (HOD.out.below (HLW.out.setCell (p := ⟨b, 0, none⟩) (KJ.out.ge 0 rfl) (.int .i64 a1)))
        have HBK := Lib.hid (HBJ.out.setCell (p := ⟨b, 0, none⟩) (Nat.le_trans HBD.out.size (KJ.out.ge 0 rfl)) (.int .i64 a1))
        have HX := Lib.hid (show LimR (a1, ((p : Int), (r : Int))) from ⟨by dsimp only; omega, by dsimp only; omega, by dsimp only; omega, by dsimp only; omega, by dsimp only; omega, by dsimp only; omega⟩)
        have CS := Lib.hid (rSet_any B m d L (a1, ((p : Int), (r : Int))) (wj.setCell ⟨b, 0, none⟩ (.int .i64 a1)) HOK.out HLO.out.srt (by omega))
        go_wp2_with (first | (with_reducible refine load_li rfl _ rfl b 0 rfl (a1, ((p : Int), (r : Int))) (box_range (KJ2.out.at 0 rfl).out) ?_) | (go_at_call 16; (with_reducible refine CS.out.mono ?_); rintro e w9 ⟨A9, m9, c9, rfl, hs, hp9, hb9⟩; have HP9 := Lib.hid (hp9 _ HP.out); clear hp9; have HS9 := Lib.hid hs; have HB9 := Lib.hid hb9; clear hs hb9))
        go_roundw
        case rel => exact ⟨k + 1, A9, m9, c9, _, HLT.out, by go_num, rfl, HS9.out, HLO.out.set HX.out, HP9.out.mono (fun g hg => hg.elim id (Nat.le_trans HBK.out.size)), HBK.out.trans (HB9.out.mono HBK.out.size)⟩
        case measure => have := HLT.out; simp [intOf]; omega
      · have HX := Lib.hid (show LimR (o, ((p : Int), (r : Int))) from ⟨hor.1, by dsimp only; omega, by dsimp only; omega, by dsimp only; omega, by dsimp only; omega, by dsimp only; omega⟩)
        have CS := Lib.hid (rSet_any B m d L (o, ((p : Int), (r : Int))) (wj) HOJ.out HLO.out.srt (by omega))
        go_wp2_with (first | (with_reducible refine load_li rfl _ rfl b 0 rfl (o, ((p : Int), (r : Int))) (box_range (KJ.out.at 0 rfl).out) ?_) | (go_at_call 16; (with_reducible refine CS.out.mono ?_); rintro e w9 ⟨A9, m9, c9, rfl, hs, hp9, hb9⟩; have HP9 := Lib.hid (hp9 _ HP.out); clear hp9; have HS9 := Lib.hid hs; have HB9 := Lib.hid hb9; clear hs hb9))
        go_roundw
        case rel => exact ⟨k + 1, A9, m9, c9, _, HLT.out, by go_num, rfl, HS9.out, HLO.out.set HX.out, HP9.out.mono (fun g hg => hg.elim id (Nat.le_trans HBJ.out.size)), HBJ.out.trans (HB9.out.mono HBJ.out.size)⟩
        case measure => have := HLT.out; simp [intOf]; omega
  · have kn : ¬ (k : Int) < (n : Int) := fun e => hlt (Int.ofNat_lt.1 e)
    go_wp2
    go_ret
    exact ⟨B, m, d, rfl, L, HO.out, HLO.out, HP.out, HB.out⟩
end Go.Proofs.YtemgejblnionlaaGreatDoor
namespace Go.Proofs.YtemgejblnionlaaGreatDoor
open Go.RowKit Go.Maps
set_option maxHeartbeats 1600000
set_option maxRecDepth 100000
theorem addr_add (g o k : Nat) : (⟨g, o, none⟩ : Addr).add k = ⟨g, o + k, none⟩ := by unfold Addr.add; split <;> simp_all
theorem toL {w : World} {A : Option Addr} {n c : Nat} {l : List (Int × Us)} (h : Sv w A n c 3 (encs encU l)) {j : Nat} (hj : j ≤ n) :
 ∃ SA, (∀ W, (Instr.slice 33 (.slice A n c) none (some (.int .i64 (j : Int))) none).run Tryz.prog W = .ok (.slice SA j c) W) ∧ Sv w SA j c 3 (encs encU (l.take j)) := by
 have hcap := h.cap
 have hl := h.len
 have hll : l.length = n := h.plen encU_len (by decide)
 refine ⟨if c = 0 then A else A.map (·.add 0), fun W => ?_, ?_⟩
 · have h0 : (0 : Int) ≤ (j : Int) := by omega
   have h1 : (j : Int) ≤ (c : Int) := by omega
   rw [run_slice_h _ _ _ _ _ Tryz.underlying33 _ _ h0 h1]
   simp [go_sem, sliced]
 · refine ⟨by rw [encs_len encU_len, List.length_take]; omega, by omega, h.max, fun e => ?_, encs_cells encU_one _, fun hne => ?_⟩
   · split at e
     · assumption
     · cases A with
       | none => exact h.nil rfl
       | some a => cases e
   · have hne' : encs encU l ≠ [] := fun e => by
      rw [e] at hl
      have h0 : 0 = n * 3 := hl
      have : n = 0 := by omega
      obtain rfl : l = [] := List.eq_nil_of_length_eq_zero (by omega)
      exact hne (by simp [encs])
     obtain ⟨g, o, rfl, h2, h3⟩ := h.cells hne'
     refine ⟨g, o, ?_, h2, fun t u hu => h3 t u ?_⟩
     · split
       · rfl
       · show some ((⟨g, o, none⟩ : Addr).add 0) = _
         rw [addr_add]; rfl
     · have e := Li.encs_split l j
       rw [e, List.getElem?_append_left (List.getElem?_eq_some_iff.1 hu).1]
       exact hu
theorem fromL {w : World} {A : Option Addr} {n c : Nat} {l : List (Int × Us)} (h : Sv w A n c 3 (encs encU l)) {j : Nat} (hj : j ≤ n) :
 ∃ SA, (∀ W, (Instr.slice 33 (.slice A n c) (some (.int .i64 (j : Int))) none none).run Tryz.prog W = .ok (.slice SA (n - j) (c - j)) W) ∧ Sv w SA (n - j) (c - j) 3 (encs encU (l.drop j)) := by
 have hcap := h.cap
 have hl := h.len
 have hll : l.length = n := h.plen encU_len (by decide)
 refine ⟨if c = j then A else A.map (·.add (j * 3)), fun W => ?_, ?_⟩
 · have h0 : (0 : Int) ≤ (j : Int) := by omega
   have h1 : (j : Int) ≤ (n : Int) := by omega
   rw [run_slice_l _ _ _ _ _ Tryz.underlying33 _ _ h0 h1]
   simp [go_sem, sliced]
 · refine ⟨by rw [encs_len encU_len, List.length_drop]; omega, by omega, by have := h.max; omega, fun e => ?_, encs_cells encU_one _, fun hne => ?_⟩
   · split at e
     · omega
     · cases A with
       | none => have := h.nil rfl; omega
       | some a => cases e
   · have hjn : j < n := by
      rcases Nat.lt_or_ge j n with h1 | h1
      · exact h1
      · exact absurd (by rw [List.drop_eq_nil_of_le (by omega)]; simp [encs]) hne
     obtain ⟨g, o, rfl, h2, h3⟩ := h.cells (fun e => by rw [e] at hl; simp at hl; omega)
     refine ⟨g, o + j * 3, ?_, h2, fun t u hu => ?_⟩
     · rw [if_neg (by omega)]
       show some ((⟨g, o, none⟩ : Addr).add (j * 3)) = _
       rw [addr_add]
     · have e := Li.encs_split l j
       have hlt : (encs encU (l.take j)).length = j * 3 := by rw [encs_len encU_len, List.length_take]; omega
       have := h3 (j * 3 + t) u (by rw [e, List.getElem?_append_right (by omega), hlt, show j * 3 + t - j * 3 = t by omega]; exact hu)
       rw [show o + j * 3 + t = o + (j * 3 + t) by omega]
       exact this
theorem wpList_append_sg {P : Program} {w : World} {ops : Array Oper} {rest : List Oper} {o : Oper} {a : Act} {Q : Exit → Act → World → Prop} (hgd : o.guard = none) (s x : Operand) (t : TypeId)
 (ho : o.op = .call { callee := .builtin .append, args := #[s, x], argTypes := #[t, t] })
 (base : Nat) (e : TypeId) (i : TypeInfo) (z : Value) (size bytes : Nat) (ht : P.underlying t = some (.slice e)) (hi : P.info? e = some i) (hz : i.zero = some z)
 (hsize : i.size = size) (hby : i.bytes = bytes) (hzs : z.cells.size = size) (hsz : 0 < size)
 (v : Value) (n : Nat) (xs : List Value) (hs : a.eval s = v) (hown : w.ownsRow base e size v n xs)
 (X : Option Addr) (m c : Nat) (ys : List Value) (hx : a.eval x = .slice X m c) (hS : Sv w X m c size ys)
 (h63 : n + m ≤ maxLen) (hbytes : (n + m) * bytes ≤ 140737488355328) (hbase : base ≤ w.heap.size)
 (h : ∀ v' w', w'.ownsRow base e size v' (n + m) (xs ++ ys) → w.grownBy w' v.ownBlock → wpList P ops Q rest (a.put o.dst v') w') : wpList P ops Q (o :: rest) a w := by
 cases X with
 | none =>
   have hc : c = 0 := hS.nil rfl
   have hm : m = 0 := by have := hS.cap; omega
   subst hc hm
   have hys : ys = [] := List.eq_nil_of_length_eq_zero (by have := hS.len; omega)
   subst hys
   exact wpList_append_own_none hgd s x t ho base e i size ht hi v n xs hs hown hx (h v w (by simpa using hown) ⟨rfl, rfl, rfl, Nat.le_refl _, fun _ _ _ => rfl⟩)
 | some ad =>
   refine wpList_append_own w hgd s x t ho base e i z size bytes ht hi hz hsize hby hzs hsz v n xs hs hown ad m c ys hx hS.len ?_ hS.one h63 hbytes hbase fun v' w' h1 h2 _ => h v' w' h1 h2
   intro j u hu
   have hne : ys ≠ [] := fun e => by rw [e] at hu; simp at hu
   obtain ⟨g, o', hA, hg, hc⟩ := hS.cells hne
   injection hA with hA
   subst hA
   rw [Addr.add_lit]
   exact hc j u hu
theorem own_apart {w w' : World} {base : Nat} {e : TypeId} {s : Nat} {v v' : Value} {n : Nat} {xs : List Value} (h : w.ownsRow base e s v n xs) (hg : w.grownBy w' v'.ownBlock) (hne : ∀ g, v.ownBlock = some g → v'.ownBlock ≠ some g) : w'.ownsRow base e s v n xs := by
 rcases h with ⟨h1, ⟨h2, h3⟩ | ⟨g, cap, cur, h2, h3, h4, h5⟩⟩
 · exact ⟨h1, .inl ⟨h2, h3⟩⟩
 · have hlt : g < w.heap.size := (Array.getElem?_eq_some_iff.1 h4).1
   refine ⟨h1, .inr ⟨g, cap, cur, h2, h3, ?_, h5⟩⟩
   refine (hg.block g hlt (fun e1 => hne g (by rw [h2]; rfl) e1.symm)).trans h4
end Go.Proofs.YtemgejblnionlaaGreatDoor
