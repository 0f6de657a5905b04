/-
  Texts Cp Dc Dd Eb Ec, put together by program.
-/
import Derived.Test.YtemgejblnionlaaGreatDoorY11
import Derived.Test.YtemgejblnionlaaGreatDoorY12
import Derived.Test.YtemgejblnionlaaGreatDoorY20
import Derived.Test.YtemgejblnionlaaGreatDoorY26
import Derived.Test.YtemgejblnionlaaGreatDoorY27
namespace Go.Proofs.YtemgejblnionlaaGreatDoor
open Go.RowKit Go.Maps
set_option maxHeartbeats 16000000
set_option maxRecDepth 100000
def badL (x : Int × Us) : Bool := (!(x.1 == -1) && !personB x.1) || decide (x.2.1 < 0) || decide (x.2.2 < 0)
def hasU (l : List (Int × Us)) (o : Int) : Bool := l.any (fun a => a.1 == o)
def setU (l : List (Int × Us)) (x : Int × Us) : List (Int × Us) := l.filter (fun a => a.1 < x.1) ++ x :: l.filter (fun a => x.1 < a.1)
def doSet (l : List (Int × Us)) (x : Int × Us) : List (Int × Us) × Int :=
 if badL x then (l, 1) else if hasU l x.1 then (setU l x, 0) else if 16 ≤ l.length then (l, 2) else (setU l x, 0)
theorem take_lt {l : List (Int × Us)} {o : Int} {i : Nat} (h : ∀ (k : Nat) (h : Int × Us), l[k]? = some h → k < i → h.1 < o) : ∀ a ∈ l.take i, a.1 < o := fun a ha => by
 obtain ⟨k, hk⟩ := List.getElem?_of_mem ha
 rw [List.getElem?_take] at hk
 split at hk
 · rename_i hki; exact h k a hk hki
 · cases hk
theorem drop_gt {l : List (Int × Us)} {o : Int} {i : Nat} (h : ∀ (k : Nat) (h : Int × Us), l[k]? = some h → i ≤ k → o < h.1) : ∀ a ∈ l.drop i, o < a.1 := fun a ha => by
 obtain ⟨k, hk⟩ := List.getElem?_of_mem ha
 rw [List.getElem?_drop] at hk
 exact h _ a hk (Nat.le_add_right _ _)
theorem filt_apart {o : Int} (p q : List (Int × Us)) (hp : ∀ a ∈ p, a.1 < o) (hq : ∀ a ∈ q, o < a.1) :
 (p ++ q).filter (fun a => a.1 < o) = p ∧ (p ++ q).filter (fun a => o < a.1) = q := by
 have e1 : p.filter (fun a => a.1 < o) = p := List.filter_eq_self.2 fun a ha => by simpa using hp a ha
 have e2 : q.filter (fun a => a.1 < o) = [] := List.filter_eq_nil_iff.2 fun a ha => by have := hq a ha; simp; omega
 have e3 : p.filter (fun a => o < a.1) = [] := List.filter_eq_nil_iff.2 fun a ha => by have := hp a ha; simp; omega
 have e4 : q.filter (fun a => o < a.1) = q := List.filter_eq_self.2 fun a ha => by simpa using hq a ha
 exact ⟨by rw [List.filter_append, e1, e2, List.append_nil], by rw [List.filter_append, e3, e4, List.nil_append]⟩
theorem foundL_no {l : List (Int × Us)} {x : Int × Us} {i : Nat} (h : FoundL l x.1 i false) : Li.insL l i x = setU l x ∧ hasU l x.1 = false := by
 have h1 := take_lt h.lt
 have h2 := drop_gt (o := x.1) (i := i) (l := l) fun k a hk hi => h.ge k a hk hi rfl
 have h3 := filt_apart (l.take i) (l.drop i) h1 h2
 rw [List.take_append_drop] at h3
 refine ⟨by rw [setU, h3.1, h3.2]; rfl, ?_⟩
 rw [hasU, List.any_eq_false]
 intro a ha
 rw [← List.take_append_drop i l] at ha
 rcases List.mem_append.1 ha with h4 | h4
 · have := h1 a h4; simp; omega
 · have := h2 a h4; simp; omega
theorem foundL_yes {l : List (Int × Us)} {x : Int × Us} {i : Nat} (hs : SrtU l) (h : FoundL l x.1 i true) : l.set i x = setU l x ∧ hasU l x.1 = true ∧ i < l.length := by
 obtain ⟨a, ha, hx⟩ := h.yes rfl
 have hi := (List.getElem?_eq_some_iff.1 ha).1
 have h1 := take_lt h.lt
 have h2 := drop_gt (o := x.1) (i := i + 1) (l := l) fun k b hk hik => by
  have h3 := List.pairwise_iff_getElem.1 hs i k hi (List.getElem?_eq_some_iff.1 hk).1 hik
  rw [(List.getElem?_eq_some_iff.1 ha).2, (List.getElem?_eq_some_iff.1 hk).2] at h3
  omega
 have e : l = l.take i ++ a :: l.drop (i + 1) := by
  rw [← (List.getElem?_eq_some_iff.1 ha).2, List.getElem_cons_drop, List.take_append_drop]
 have h3 : l.filter (fun a => a.1 < x.1) = l.take i ∧ l.filter (fun a => x.1 < a.1) = l.drop (i + 1) := by
  have h4 := filt_apart (l.take i) (l.drop (i + 1)) h1 h2
  rw [List.filter_append, List.filter_append] at h4
  constructor
  · conv => lhs; rw [e]
    rw [List.filter_append, List.filter_cons, if_neg (by simp; omega)]; exact h4.1
  · conv => lhs; rw [e]
    rw [List.filter_append, List.filter_cons, if_neg (by simp; omega)]; exact h4.2
 refine ⟨?_, List.any_eq_true.2 ⟨a, List.mem_of_getElem? ha, by simp [hx]⟩, hi⟩
 rw [setU, h3.1, h3.2]
 conv => lhs; rw [e]
 rw [List.set_append_right _ _ (by rw [List.length_take]; omega), List.length_take, Nat.min_eq_left (by omega), Nat.sub_self, List.set_cons_zero]
theorem setU_ok {l : List (Int × Us)} {x : Int × Us} (h : badL x = false) (h2 : hasU l x.1 = true ∨ l.length < 16) : doSet l x = (setU l x, 0) := by
 unfold doSet
 rw [h, if_neg (by decide)]
 rcases h2 with h3 | h3
 · rw [if_pos h3]
 · split
   · rfl
   · rw [if_neg (by omega)]
theorem setU_big {l : List (Int × Us)} {x : Int × Us} (h : badL x = false) (h2 : hasU l x.1 = false) (h3 : 16 ≤ l.length) : doSet l x = (l, 2) := by
 unfold doSet
 rw [h, if_neg (by decide), h2, if_neg (by decide), if_pos h3]
theorem setU_bad {l : List (Int × Us)} {x : Int × Us} (h : badL x = true) : doSet l x = (l, 1) := by
 unfold doSet; rw [if_pos h]
theorem store_own_li {ops : Array Oper} {rest : List Oper} {o : Oper} {a : Act} {w : World} {Q : Exit → Act → World → Prop} (hgd : o.guard = none) (x y : Operand) (ho : o.op = .store 44 x y)
 (g i : Nat) (hx : a.eval x = .pointer (some ⟨g, i * 3, none⟩)) (h : Int × Us) (hy : a.eval y = .agg (encU h).toArray) {base n c : Nat} {hs : List (Int × Us)} (hO : w.ownsRow base 44 3 (.slice (some ⟨g, 0, none⟩) n c) n (encs encU hs)) (hi : i < hs.length)
 (hr : wpList Tryz.prog ops Q rest (a.put o.dst undef) (w.setCells g (i * 3) (encU h))) : wpList Tryz.prog ops Q (o :: rest) a w :=
 wpList_store_mid hgd 44 x y ho g (i * 3) (encU h).toArray hx hy (fun j hj => by
  have hj8 : j < 3 := hj
  have e : (encs encU hs)[i * 3 + j]? = (encU hs[i])[j]? := encs_get encU_len hj8 (List.getElem?_eq_getElem hi)
  have e2 : (encU hs[i])[j]? = some (encU hs[i])[j] := List.getElem?_eq_getElem (by rw [encU_len]; exact hj8)
  obtain ⟨h1, h2⟩ := own_at hO (e.trans e2)
  rw [h1, h2]
  exact ⟨rfl, rfl⟩) (by kernel_rfl) (by simp [encU, Value.oneCell']) hr
abbrev SetRes (l : List (Int × Us)) (x : Int × Us) (w : World) (e : Ending) (w' : World) : Prop :=
 ∃ A m c, e = .returned (.tuple #[.slice A m c, .int .i64 (doSet l x).2]) ∧ w'.ownsRow w.heap.size 44 3 (.slice A m c) m (encs encU (doSet l x).1) ∧ Below w.heap.size w w'
theorem Set_lands (A : Option Addr) (n c : Nat) (l : List (Int × Us)) (x : Int × Us) (w : World) (hA : Sv w A n c 3 (encs encU l)) (hs : SrtU l) (hn : n ≤ 1000) :
 Calls Tryz.prog 50 #[.slice A n c, .agg (encU x).toArray] w fun e w' => SetRes l x w e w' := by
 have HN := Lib.hid hn
 have HS := Lib.hid hs
 have HLN := Lib.hid (show l.length = n from hA.plen encU_len (by decide))
 have CC := Lib.hid (fun W (hb : Below w.heap.size w W) => clone_li A n c (encs encU l) W (hA.below hb) (by omega))
 clear hA hs hn
 have kk0 := Bxs.nil w
 obtain ⟨x1, hwx1, hzx1, kx1⟩ := kk0.new rfl (encU x).toArray (encU x).toArray 44
 have HW1 := Lib.hid (show w.alloc (.cells #[.int .i64 x.1, .int .i64 x.2.1, .int .i64 x.2.2] 44) = x1 from hwx1)
 have KX := Lib.hid kx1
 clear kk0 hwx1 hzx1 kx1
 go_enter Tryz.func50, Tryz.ntmps50
 go_upto_region 1 with fail
 simp only [encU]
 rw [HW1.out]
 go_upto_region 2 with (go_at_call 89; (with_reducible refine (CC.out _ KX.out.low.out).mono ?_); rintro e w2 ⟨A', c', rfl, hO, hb⟩; have HO := Lib.hid (own_weak hO KX.out.low.out.size); have HB2 := Lib.hid hb; clear hO hb)
 have K2 := Lib.hid (KX.out.step HB2.out)
 have d0 : w2.cell? ⟨w.heap.size, 0, none⟩ = some (.int .i64 x.1) := K2.out.cell 0 0 _ rfl
 have d1 : w2.cell? ⟨w.heap.size, 1, none⟩ = some (.int .i64 x.2.1) := K2.out.cell 0 1 _ rfl
 have d2 : w2.cell? ⟨w.heap.size, 2, none⟩ = some (.int .i64 x.2.2) := K2.out.cell 0 2 _ rfl
 have hq : (x.1 = -1 ∧ badL x = (decide (x.2.1 < 0) || decide (x.2.2 < 0))) ∨ ((x.1 != -1) = true ∧ personB x.1 = true ∧ badL x = (decide (x.2.1 < 0) || decide (x.2.2 < 0))) ∨ ((x.1 != -1) = true ∧ personB x.1 = false ∧ badL x = true) := by
  unfold badL
  by_cases h1 : x.1 = -1 <;> cases h2 : personB x.1 <;> simp [h1]
 have bad : badL x = true → Hid (doSet l x = (l, 1)) := fun h => Lib.hid (setU_bad h)
 obtain ⟨xo, xn, xb⟩ := x
 dsimp only at d0 d1 d2 hq
 rcases hq with ⟨rfl, hb⟩ | ⟨h1, h2, hb⟩ | ⟨h1, h2, hb⟩
 · by_cases h3 : xn < 0
   · have HBAD := bad (by rw [hb]; simp [h3])
     clear bad hb
     go_wp2_with (go_at_call 90; (with_reducible refine (isPerson_lands _ _).mono ?_); rintro e w3 ⟨rfl, rfl⟩; rw [h2])
     refine bodyPost_ret (results_tmp2 rfl _ _ _) rfl ?_
     exact ⟨A', n, c', by rw [HBAD.out]; rfl, by rw [HBAD.out]; exact HO.out, K2.out.low.out⟩
   by_cases h4 : xb < 0
   · have HBAD := bad (by rw [hb]; simp [h3, h4])
     clear bad hb
     go_wp2_with (go_at_call 90; (with_reducible refine (isPerson_lands _ _).mono ?_); rintro e w3 ⟨rfl, rfl⟩; rw [h2])
     refine bodyPost_ret (results_tmp2 rfl _ _ _) rfl ?_
     exact ⟨A', n, c', by rw [HBAD.out]; rfl, by rw [HBAD.out]; exact HO.out, K2.out.low.out⟩
   have HGOOD := Lib.hid (show badL (-1, xn, xb) = false by rw [hb]; simp [h3, h4])
   clear bad hb
   go_upto_region 6 with (first | (go_at_call 90; (with_reducible refine (isPerson_lands _ _).mono ?_); rintro e w3 ⟨rfl, rfl⟩; rw [h2]) | (go_at_call 91; (with_reducible refine (bsLim_any A' n c' l _ _ (Sv.own HO.out (encs_cells encU_one _)) HS.out (by have := HN.out; omega)).mono ?_); rintro e w4 ⟨hb, i, f, hf, rfl⟩; have HB4 := Lib.hid hb; have HF := Lib.hid hf; clear hb hf))
   clear d0 d1 d2 h3 h4
   have K4 := Lib.hid (K2.out.step HB4.out)
   have HO4 := Lib.hid (own_keep HO.out HB4.out)
   cases f
   · obtain ⟨hins, hhas⟩ := foundL_no (x := (-1, xn, xb)) HF.out
     by_cases h16 : 16 ≤ n
     · have HRES := Lib.hid (setU_big HGOOD.out hhas (by rw [HLN.out]; exact h16))
       have k16 : (16 : Int) ≤ (n : Int) := by omega
       clear hins hhas
       go_wp2
       refine bodyPost_ret (results_tmp2 rfl _ _ _) rfl ?_
       exact ⟨A', n, c', by rw [HRES.out]; rfl, by rw [HRES.out]; exact HO4.out, K4.out.low.out⟩
     · have HRES := Lib.hid (setU_ok (l := l) HGOOD.out (.inr (by rw [HLN.out]; omega)))
       have k16 : ¬ (16 : Int) ≤ (n : Int) := by omega
       have hle : i ≤ n := by have := HF.out.le; rw [HLN.out] at this; exact this
       obtain ⟨v1, hv1, hz1, k1⟩ := K4.out.new rfl (encU (-1, xn, xb)).toArray (encU (-1, xn, xb)).toArray 44
       have HV1 := Lib.hid hv1
       have KV := Lib.hid k1
       have HI := Lib.hid (Li.insert_any w.heap.size A' n c' i w4.heap.size l (-1, xn, xb) hle (by have := HN.out; omega) (fun g hg => by have := HO4.out.lt g (by rw [hg]; rfl); omega) v1 (own_keep HO4.out (by rw [← hv1]; exact (Below.refl _ w4).alloc (Nat.le_refl _) _)) (k1.at 0 rfl).out (by have := k1.low.out.size; omega))
       rw [← hv1] at HI
       have HLW := Lib.hid (show Below w.heap.size w (w4.alloc (.cells (encU (-1, xn, xb)).toArray 44)) by rw [hv1]; exact KV.out.low.out)
       have HINS := Lib.hid hins
       clear hins hhas hv1 hz1 k1 hle
       go_wp2_with (first | (with_reducible refine load_li rfl _ rfl w.heap.size 0 rfl (-1, xn, xb) (box_range (K4.out.at 0 rfl).out) ?_; simp only [encU]) | (go_at_call 94; refine HI.out.mono ?_; rintro e w5 ⟨A2, c2, rfl, hO5, hb5⟩))
       refine bodyPost_ret (results_tmp2 rfl _ _ _) rfl ?_
       exact ⟨A2, n + 1, c2, by rw [HRES.out]; rfl, by rw [HRES.out, ← HINS.out]; exact hO5, HLW.out.trans hb5⟩
   · obtain ⟨hset, hhas, hlt⟩ := foundL_yes (x := (-1, xn, xb)) HS.out HF.out
     have HRES := Lib.hid (setU_ok (l := l) HGOOD.out (.inl hhas))
     obtain ⟨g, cap, hv, -, -⟩ := HO4.out.form (by rw [HLN.out] at hlt; omega)
     obtain ⟨rfl, rfl⟩ : A' = some ⟨g, 0, none⟩ ∧ c' = cap := by injection hv with h1 h2 h3; exact ⟨h1, h3⟩
     have kl : (i : Int) < (n : Int) := by rw [HLN.out] at hlt; omega
     have l0 : (0 : Int) ≤ (i : Int) := Int.natCast_nonneg i
     have HSET := Lib.hid hset
     have HLT := Lib.hid hlt
     clear hset hhas hlt hv
     go_wp2_with (first | (with_reducible refine load_li rfl _ rfl w.heap.size 0 rfl (-1, xn, xb) (box_range (K4.out.at 0 rfl).out) ?_) | (with_reducible refine store_own_li rfl _ _ rfl g i (by simp [Act.eval, Act.put]) (-1, xn, xb) rfl HO4.out HLT.out ?_))
     refine bodyPost_ret (results_tmp2 rfl _ _ _) rfl ?_
     refine ⟨_, n, _, by rw [HRES.out]; rfl, ?_, ?_⟩
     · rw [HRES.out, ← HSET.out]
       have h := own_setCells (encU (-1, xn, xb)) (i * 3) HO4.out
       rw [encs_set encU_len l i _ HLT.out] at h
       exact h
     · exact below_setCells (HO4.out.lt g rfl).1 _ _ K4.out.low.out
 · by_cases h3 : xn < 0
   · have HBAD := bad (by rw [hb]; simp [h3])
     clear bad hb
     go_wp2_with (go_at_call 90; (with_reducible refine (isPerson_lands _ _).mono ?_); rintro e w3 ⟨rfl, rfl⟩; rw [h2])
     refine bodyPost_ret (results_tmp2 rfl _ _ _) rfl ?_
     exact ⟨A', n, c', by rw [HBAD.out]; rfl, by rw [HBAD.out]; exact HO.out, K2.out.low.out⟩
   by_cases h4 : xb < 0
   · have HBAD := bad (by rw [hb]; simp [h3, h4])
     clear bad hb
     go_wp2_with (go_at_call 90; (with_reducible refine (isPerson_lands _ _).mono ?_); rintro e w3 ⟨rfl, rfl⟩; rw [h2])
     refine bodyPost_ret (results_tmp2 rfl _ _ _) rfl ?_
     exact ⟨A', n, c', by rw [HBAD.out]; rfl, by rw [HBAD.out]; exact HO.out, K2.out.low.out⟩
   have HGOOD := Lib.hid (show badL (xo, xn, xb) = false by rw [hb]; simp [h3, h4])
   clear bad hb
   go_upto_region 6 with (first | (go_at_call 90; (with_reducible refine (isPerson_lands _ _).mono ?_); rintro e w3 ⟨rfl, rfl⟩; rw [h2]) | (go_at_call 91; (with_reducible refine (bsLim_any A' n c' l _ _ (Sv.own HO.out (encs_cells encU_one _)) HS.out (by have := HN.out; omega)).mono ?_); rintro e w4 ⟨hb, i, f, hf, rfl⟩; have HB4 := Lib.hid hb; have HF := Lib.hid hf; clear hb hf))
   clear d0 d1 d2 h3 h4
   have K4 := Lib.hid (K2.out.step HB4.out)
   have HO4 := Lib.hid (own_keep HO.out HB4.out)
   cases f
   · obtain ⟨hins, hhas⟩ := foundL_no (x := (xo, xn, xb)) HF.out
     by_cases h16 : 16 ≤ n
     · have HRES := Lib.hid (setU_big HGOOD.out hhas (by rw [HLN.out]; exact h16))
       have k16 : (16 : Int) ≤ (n : Int) := by omega
       clear hins hhas
       go_wp2
       refine bodyPost_ret (results_tmp2 rfl _ _ _) rfl ?_
       exact ⟨A', n, c', by rw [HRES.out]; rfl, by rw [HRES.out]; exact HO4.out, K4.out.low.out⟩
     · have HRES := Lib.hid (setU_ok (l := l) HGOOD.out (.inr (by rw [HLN.out]; omega)))
       have k16 : ¬ (16 : Int) ≤ (n : Int) := by omega
       have hle : i ≤ n := by have := HF.out.le; rw [HLN.out] at this; exact this
       obtain ⟨v1, hv1, hz1, k1⟩ := K4.out.new rfl (encU (xo, xn, xb)).toArray (encU (xo, xn, xb)).toArray 44
       have HV1 := Lib.hid hv1
       have KV := Lib.hid k1
       have HI := Lib.hid (Li.insert_any w.heap.size A' n c' i w4.heap.size l (xo, xn, xb) hle (by have := HN.out; omega) (fun g hg => by have := HO4.out.lt g (by rw [hg]; rfl); omega) v1 (own_keep HO4.out (by rw [← hv1]; exact (Below.refl _ w4).alloc (Nat.le_refl _) _)) (k1.at 0 rfl).out (by have := k1.low.out.size; omega))
       rw [← hv1] at HI
       have HLW := Lib.hid (show Below w.heap.size w (w4.alloc (.cells (encU (xo, xn, xb)).toArray 44)) by rw [hv1]; exact KV.out.low.out)
       have HINS := Lib.hid hins
       clear hins hhas hv1 hz1 k1 hle
       go_wp2_with (first | (with_reducible refine load_li rfl _ rfl w.heap.size 0 rfl (xo, xn, xb) (box_range (K4.out.at 0 rfl).out) ?_; simp only [encU]) | (go_at_call 94; refine HI.out.mono ?_; rintro e w5 ⟨A2, c2, rfl, hO5, hb5⟩))
       refine bodyPost_ret (results_tmp2 rfl _ _ _) rfl ?_
       exact ⟨A2, n + 1, c2, by rw [HRES.out]; rfl, by rw [HRES.out, ← HINS.out]; exact hO5, HLW.out.trans hb5⟩
   · obtain ⟨hset, hhas, hlt⟩ := foundL_yes (x := (xo, xn, xb)) HS.out HF.out
     have HRES := Lib.hid (setU_ok (l := l) HGOOD.out (.inl hhas))
     obtain ⟨g, cap, hv, -, -⟩ := HO4.out.form (by rw [HLN.out] at hlt; omega)
     obtain ⟨rfl, rfl⟩ : A' = some ⟨g, 0, none⟩ ∧ c' = cap := by injection hv with h1 h2 h3; exact ⟨h1, h3⟩
     have kl : (i : Int) < (n : Int) := by rw [HLN.out] at hlt; omega
     have l0 : (0 : Int) ≤ (i : Int) := Int.natCast_nonneg i
     have HSET := Lib.hid hset
     have HLT := Lib.hid hlt
     clear hset hhas hlt hv
     go_wp2_with (first | (with_reducible refine load_li rfl _ rfl w.heap.size 0 rfl (xo, xn, xb) (box_range (K4.out.at 0 rfl).out) ?_) | (with_reducible refine store_own_li rfl _ _ rfl g i (by simp [Act.eval, Act.put]) (xo, xn, xb) rfl HO4.out HLT.out ?_))
     refine bodyPost_ret (results_tmp2 rfl _ _ _) rfl ?_
     refine ⟨_, n, _, by rw [HRES.out]; rfl, ?_, ?_⟩
     · rw [HRES.out, ← HSET.out]
       have h := own_setCells (encU (xo, xn, xb)) (i * 3) HO4.out
       rw [encs_set encU_len l i _ HLT.out] at h
       exact h
     · exact below_setCells (HO4.out.lt g rfl).1 _ _ K4.out.low.out
 · have HBAD := bad hb
   clear bad hb
   go_wp2_with (go_at_call 90; (with_reducible refine (isPerson_lands _ _).mono ?_); rintro e w3 ⟨rfl, rfl⟩; rw [h2])
   refine bodyPost_ret (results_tmp2 rfl _ _ _) rfl ?_
   exact ⟨A', n, c', by rw [HBAD.out]; rfl, by rw [HBAD.out]; exact HO.out, K2.out.low.out⟩
end Go.Proofs.YtemgejblnionlaaGreatDoor
namespace Go.Proofs.YtemgejblnionlaaGreatDoor
open Go.RowKit Go.Maps
set_option maxHeartbeats 16000000
set_option maxRecDepth 100000
theorem equalUse9 (x y : Us) (w : World) : (Op.equalIn 9999 42 (usv x) (usv y)).run Tryz.prog w = .ok (decide (x = y)) w := by
 obtain ⟨xn, xb⟩ := x
 obtain ⟨yn, yb⟩ := y
 have u3 := Tryz.underlying3
 have a3 := Tryz.isAgg3
 have z3 := Tryz.sizeOf3
 have hS : Tryz.prog.underlying 42 = some (.struct (Tryz.prog.fieldsOf 42)) := by kernel_rfl
 have hp : Tryz.prog.stoodInHeld 42 = false := by kernel_rfl
 rw [show (9999 : Nat) = 9998 + 1 from rfl, run_equalIn_agg w 9998 42 _ _ hS hp]
 simp only [Program.fieldsOf, Tryz.underlying42]
 go_simp
 by_cases h1 : xn = yn <;> by_cases h2 : xb = yb <;> simp [h1, h2]
theorem equalAu (x y : Int × Us) (w : World) : (Op.equalIn 10000 67 (.agg #[.int .i64 x.1, .int .i64 x.2.1, .int .i64 x.2.2]) (.agg #[.int .i64 y.1, .int .i64 y.2.1, .int .i64 y.2.2])).run Tryz.prog w = .ok (decide (x = y)) w := by
 obtain ⟨xo, xn, xb⟩ := x
 obtain ⟨yo, yn, yb⟩ := y
 have u3 := Tryz.underlying3
 have a3 := Tryz.isAgg3
 have z3 := Tryz.sizeOf3
 have a4 := Tryz.isAgg42
 have z4 := Tryz.sizeOf42
 have hS : Tryz.prog.underlying 67 = some (.struct (Tryz.prog.fieldsOf 67)) := by kernel_rfl
 have hp : Tryz.prog.stoodInHeld 67 = false := by kernel_rfl
 have hU := fun w => equalUse9 (xn, xb) (yn, yb) w
 simp only [usv] at hU
 rw [show (10000 : Nat) = 9999 + 1 from rfl, run_equalIn_agg w 9999 67 _ _ hS hp]
 simp only [Program.fieldsOf, Tryz.underlying67]
 go_simp
 by_cases h0 : xo = yo <;> by_cases h1 : xn = yn <;> by_cases h2 : xb = yb <;> simp [h0, h1, h2]
theorem neqAu (x y : Int × Us) (w : World) : (binOp .neq 67 (.agg (encU x).toArray) (.agg (encU y).toArray)).run Tryz.prog w = .ok (.bool (!decide (x = y))) w := by
 show (binOp .neq 67 (.agg #[.int .i64 x.1, .int .i64 x.2.1, .int .i64 x.2.2]) (.agg #[.int .i64 y.1, .int .i64 y.2.1, .int .i64 y.2.2])).run Tryz.prog w = _
 rw [run_neq_struct, equalAu]; rfl
theorem Same_any (A A2 : Option Addr) (n n2 c c2 : Nat) (l l2 : List (Int × Us)) (w : World) (hA : Sv w A n c 3 (encs encU l)) (hA2 : Sv w A2 n2 c2 3 (encs encU l2)) (hn : n ≤ 1000000) :
 Calls Tryz.prog 17 #[.slice A n c, .slice A2 n2 c2] w fun e w' => e = .returned (.bool (decide (l = l2))) ∧ Below w.heap.size w w' := by
 have HL := Lib.hid (show l.length = n from hA.plen encU_len (by decide))
 have HL2 := Lib.hid (show l2.length = n2 from hA2.plen encU_len (by decide))
 have SA := Lib.hid hA
 have SB := Lib.hid hA2
 have HN := Lib.hid hn
 clear hA hA2 hn
 by_cases hnn : n = n2
 · subst hnn
   go_enter Tryz.func17, Tryz.ntmps17
   go_wp2
   go_loopw [5] (fun i wr => ∃ k : Nat, k ≤ n ∧ i = .int .i64 k ∧ l.take k = l2.take k ∧ Below w.heap.size w wr) (fun i _ => n - (intOf i).toNat)
   case atStart => exact ⟨0, Nat.zero_le _, rfl, rfl, Below.refl _ _⟩
   case round =>
    obtain ⟨k, hk, rfl, hlk, hb⟩ := hrel
    have HLK := Lib.hid hlk
    have HB := Lib.hid hb
    clear hlk hb
    by_cases hlt : k < n
    · obtain ⟨x, hx⟩ : ∃ x, l[k]? = some x := ⟨_, List.getElem?_eq_getElem (by rw [HL.out]; exact hlt)⟩
      obtain ⟨y, hy⟩ : ∃ y, l2[k]? = some y := ⟨_, List.getElem?_eq_getElem (by rw [HL2.out]; exact hlt)⟩
      have hd : Below wr.heap.size wr wr.drew := below_drewN wr 1
      have HD := Lib.hid (HB.out.trans (hd.mono HB.out.size))
      obtain ⟨g, o, hA, -, q0⟩ := Sv.range encU_len (by decide) (SA.out.below HD.out) hx
      obtain ⟨g2, o2, hA2, -, r0⟩ := Sv.range encU_len (by decide) (SB.out.below HD.out) hy
      have HST := Lib.hid (And.intro (takeU_snoc hx) (takeU_snoc hy))
      have HXY := Lib.hid (And.intro hx hy)
      have QR := Lib.hid (And.intro q0 r0)
      have hne := neqAu x y
      have k0 : (0 : Int) ≤ (k : Int) := Int.natCast_nonneg k
      have kn : (k : Int) < (n : Int) := Int.ofNat_lt.2 hlt
      have hwj : IntKind.i64.wrap ((k : Int) + 1) = (k : Int) + 1 := IntWalk.i64_in _ (by have := HN.out; omega)
      have HLT := Lib.hid hlt
      rw [hA, hA2]
      clear hx hy q0 r0 hd hlt hk hA hA2
      go_upto_region 6 with fail
      refine wp_region_ord (fun w' => w'.rangeAt g (o + k * 3) (encU x) ∧ w'.rangeAt g2 (o2 + k * 3) (encU y)) [(0, true), (1, true), (2, true), (3, true), (4, true), (5, true), (6, true), (7, true), (8, true)] (by kernel_rfl) (by kernel_rfl) (by kernel_rfl) QR.out (fun d _ _ _ _ h => by cases d <;> exact h) ?_
      iterate 3 refine ord_pure ?_
      refine ord_pure (v := .agg (encU x).toArray) (hy := yieldsIf_load_mid (by rfl) 67 _ rfl g (o + k * 3) rfl (encU x) _ (fun w h => h.1) Tryz.underlying67 rfl (by kernel_rfl)) ?_
      iterate 3 refine ord_pure ?_
      refine ord_pure (v := .agg (encU y).toArray) (hy := yieldsIf_load_mid (by rfl) 67 _ rfl g2 (o2 + k * 3) rfl (encU y) _ (fun w h => h.2) Tryz.underlying67 rfl (by kernel_rfl)) ?_
      refine ord_pure (v := .bool (!decide (x = y))) ?_
      refine ord_nil ?_
      clear hne
      by_cases hxy : x = y
      · have HEQ := Lib.hid hxy
        have e1 : decide (x = y) = true := decide_eq_true hxy
        rw [e1]
        clear e1 hxy
        go_wp2
        go_roundw
        case rel => exact ⟨k + 1, HLT.out, by go_num, by rw [HST.out.1, HST.out.2, HLK.out, HEQ.out], HD.out⟩
        case measure => have := HLT.out; simp [intOf]; omega
      · have HEQ := Lib.hid hxy
        have e1 : decide (x = y) = false := decide_eq_false hxy
        rw [e1]
        clear e1 hxy
        go_wp2
        go_ret
        exact ⟨ret_bool (decide_eq_false (fun e => HEQ.out (by have h := HXY.out; rw [e] at h; have := h.1.symm.trans h.2; injection this))).symm, HD.out⟩
    · have kn : ¬ (k : Int) < (n : Int) := fun e => hlt (Int.ofNat_lt.1 e)
      have HE := Lib.hid (show l = l2 by
       have h := HLK.out
       rw [List.take_of_length_le (by rw [HL.out]; omega), List.take_of_length_le (by rw [HL2.out]; omega)] at h
       exact h)
      go_wp2
      go_ret
      exact ⟨ret_bool (decide_eq_true HE.out).symm, HB.out⟩
 · have HE := Lib.hid (show ¬ l = l2 from fun e => hnn (by rw [← HL.out, ← HL2.out, e]))
   have kne : ¬ (n : Int) = (n2 : Int) := by omega
   go_enter Tryz.func17, Tryz.ntmps17
   go_wp2
   go_ret
   exact ⟨ret_bool (decide_eq_false HE.out).symm, Below.refl _ _⟩
theorem equalLi (x y : Int × Us) (w : World) : (Op.equalIn 10000 44 (.agg #[.int .i64 x.1, .int .i64 x.2.1, .int .i64 x.2.2]) (.agg #[.int .i64 y.1, .int .i64 y.2.1, .int .i64 y.2.2])).run Tryz.prog w = .ok (decide (x = y)) w := by
 obtain ⟨xo, xn, xb⟩ := x
 obtain ⟨yo, yn, yb⟩ := y
 have u3 := Tryz.underlying3
 have a3 := Tryz.isAgg3
 have z3 := Tryz.sizeOf3
 have a4 := Tryz.isAgg42
 have z4 := Tryz.sizeOf42
 have hS : Tryz.prog.underlying 44 = some (.struct (Tryz.prog.fieldsOf 44)) := by kernel_rfl
 have hp : Tryz.prog.stoodInHeld 44 = false := by kernel_rfl
 have hU := fun w => equalUse9 (xn, xb) (yn, yb) w
 simp only [usv] at hU
 rw [show (10000 : Nat) = 9999 + 1 from rfl, run_equalIn_agg w 9999 44 _ _ hS hp]
 simp only [Program.fieldsOf, Tryz.underlying44]
 go_simp
 by_cases h0 : xo = yo <;> by_cases h1 : xn = yn <;> by_cases h2 : xb = yb <;> simp [h0, h1, h2]
theorem neqLi (x y : Int × Us) (w : World) : (binOp .neq 44 (.agg (encU x).toArray) (.agg (encU y).toArray)).run Tryz.prog w = .ok (.bool (!decide (x = y))) w := by
 show (binOp .neq 44 (.agg #[.int .i64 x.1, .int .i64 x.2.1, .int .i64 x.2.2]) (.agg #[.int .i64 y.1, .int .i64 y.2.1, .int .i64 y.2.2])).run Tryz.prog w = _
 rw [run_neq_struct, equalLi]; rfl
theorem SameLimits_any (A A2 : Option Addr) (n n2 c c2 : Nat) (l l2 : List (Int × Us)) (w : World) (hA : Sv w A n c 3 (encs encU l)) (hA2 : Sv w A2 n2 c2 3 (encs encU l2)) (hn : n ≤ 1000000) :
 Calls Tryz.prog 26 #[.slice A n c, .slice A2 n2 c2] w fun e w' => e = .returned (.bool (decide (l = l2))) ∧ Below w.heap.size w w' := by
 have HL := Lib.hid (show l.length = n from hA.plen encU_len (by decide))
 have HL2 := Lib.hid (show l2.length = n2 from hA2.plen encU_len (by decide))
 have SA := Lib.hid hA
 have SB := Lib.hid hA2
 have HN := Lib.hid hn
 clear hA hA2 hn
 by_cases hnn : n = n2
 · subst hnn
   go_enter Tryz.func26, Tryz.ntmps26
   go_wp2
   go_loopw [5] (fun i wr => ∃ k : Nat, k ≤ n ∧ i = .int .i64 k ∧ l.take k = l2.take k ∧ Below w.heap.size w wr) (fun i _ => n - (intOf i).toNat)
   case atStart => exact ⟨0, Nat.zero_le _, rfl, rfl, Below.refl _ _⟩
   case round =>
    obtain ⟨k, hk, rfl, hlk, hb⟩ := hrel
    have HLK := Lib.hid hlk
    have HB := Lib.hid hb
    clear hlk hb
    by_cases hlt : k < n
    · obtain ⟨x, hx⟩ : ∃ x, l[k]? = some x := ⟨_, List.getElem?_eq_getElem (by rw [HL.out]; exact hlt)⟩
      obtain ⟨y, hy⟩ : ∃ y, l2[k]? = some y := ⟨_, List.getElem?_eq_getElem (by rw [HL2.out]; exact hlt)⟩
      have hd : Below wr.heap.size wr wr.drew := below_drewN wr 1
      have HD := Lib.hid (HB.out.trans (hd.mono HB.out.size))
      obtain ⟨g, o, hA, -, q0⟩ := Sv.range encU_len (by decide) (SA.out.below HD.out) hx
      obtain ⟨g2, o2, hA2, -, r0⟩ := Sv.range encU_len (by decide) (SB.out.below HD.out) hy
      have HST := Lib.hid (And.intro (takeU_snoc hx) (takeU_snoc hy))
      have HXY := Lib.hid (And.intro hx hy)
      have QR := Lib.hid (And.intro q0 r0)
      have hne := neqLi x y
      have k0 : (0 : Int) ≤ (k : Int) := Int.natCast_nonneg k
      have kn : (k : Int) < (n : Int) := Int.ofNat_lt.2 hlt
      have hwj : IntKind.i64.wrap ((k : Int) + 1) = (k : Int) + 1 := IntWalk.i64_in _ (by have := HN.out; omega)
      have HLT := Lib.hid hlt
      rw [hA, hA2]
      clear hx hy q0 r0 hd hlt hk hA hA2
      go_upto_region 6 with fail
      refine wp_region_ord (fun w' => w'.rangeAt g (o + k * 3) (encU x) ∧ w'.rangeAt g2 (o2 + k * 3) (encU y)) [(0, true), (1, true), (2, true), (3, true), (4, true), (5, true), (6, true), (7, true), (8, true)] (by kernel_rfl) (by kernel_rfl) (by kernel_rfl) QR.out (fun d _ _ _ _ h => by cases d <;> exact h) ?_
      iterate 3 refine ord_pure ?_
      refine ord_pure (v := .agg (encU x).toArray) (hy := yieldsIf_load_mid (by rfl) 44 _ rfl g (o + k * 3) rfl (encU x) _ (fun w h => h.1) Tryz.underlying44 rfl (by kernel_rfl)) ?_
      iterate 3 refine ord_pure ?_
      refine ord_pure (v := .agg (encU y).toArray) (hy := yieldsIf_load_mid (by rfl) 44 _ rfl g2 (o2 + k * 3) rfl (encU y) _ (fun w h => h.2) Tryz.underlying44 rfl (by kernel_rfl)) ?_
      refine ord_pure (v := .bool (!decide (x = y))) ?_
      refine ord_nil ?_
      clear hne
      by_cases hxy : x = y
      · have HEQ := Lib.hid hxy
        have e1 : decide (x = y) = true := decide_eq_true hxy
        rw [e1]
        clear e1 hxy
        go_wp2
        go_roundw
        case rel => exact ⟨k + 1, HLT.out, by go_num, by rw [HST.out.1, HST.out.2, HLK.out, HEQ.out], HD.out⟩
        case measure => have := HLT.out; simp [intOf]; omega
      · have HEQ := Lib.hid hxy
        have e1 : decide (x = y) = false := decide_eq_false hxy
        rw [e1]
        clear e1 hxy
        go_wp2
        go_ret
        exact ⟨ret_bool (decide_eq_false (fun e => HEQ.out (by have h := HXY.out; rw [e] at h; have := h.1.symm.trans h.2; injection this))).symm, HD.out⟩
    · have kn : ¬ (k : Int) < (n : Int) := fun e => hlt (Int.ofNat_lt.1 e)
      have HE := Lib.hid (show l = l2 by
       have h := HLK.out
       rw [List.take_of_length_le (by rw [HL.out]; omega), List.take_of_length_le (by rw [HL2.out]; omega)] at h
       exact h)
      go_wp2
      go_ret
      exact ⟨ret_bool (decide_eq_true HE.out).symm, HB.out⟩
 · have HE := Lib.hid (show ¬ l = l2 from fun e => hnn (by rw [← HL.out, ← HL2.out, e]))
   have kne : ¬ (n : Int) = (n2 : Int) := by omega
   go_enter Tryz.func26, Tryz.ntmps26
   go_wp2
   go_ret
   exact ⟨ret_bool (decide_eq_false HE.out).symm, Below.refl _ _⟩
end Go.Proofs.YtemgejblnionlaaGreatDoor
namespace Go.Proofs.YtemgejblnionlaaGreatDoor
open Go.RowKit Go.Maps
set_option maxHeartbeats 16000000
set_option maxRecDepth 100000
def HasR (l : List (Int × Us)) (o v : Int) : Prop :=
 (v = -1 ∧ ∀ a ∈ l, a.1 ≠ o) ∨ ∃ (k : Nat) (a : Int × Us), v = (k : Int) ∧ l[k]? = some a ∧ a.1 = o ∧ ∀ (j : Nat) (b : Int × Us), l[j]? = some b → j < k → b.1 ≠ o
theorem Has_any (A : Option Addr) (n c : Nat) (l : List (Int × Us)) (o : Int) (w : World) (hA : Sv w A n c 3 (encs encU l)) (hn : n ≤ 1000000) :
 Calls Tryz.prog 44 #[.slice A n c, .int .i64 o] w fun e w' => (∃ v, e = .returned (.int .i64 v) ∧ HasR l o v) ∧ w' = w := by
 have SA := Lib.hid hA
 have HL := Lib.hid (show l.length = n from hA.plen encU_len (by decide))
 have HN := Lib.hid hn
 clear hA hn
 go_enter Tryz.func44, Tryz.ntmps44
 go_wp2
 go_loopw [5] (fun i wr => ∃ k : Nat, k ≤ n ∧ i = .int .i64 k ∧ (∀ (j : Nat) (b : Int × Us), l[j]? = some b → j < k → b.1 ≠ o) ∧ wr = w) (fun i _ => n - (intOf i).toNat)
 case atStart => exact ⟨0, Nat.zero_le _, rfl, fun _ _ _ h => absurd h (Nat.not_lt_zero _), rfl⟩
 case round =>
  obtain ⟨k, hk, rfl, hb, rfl⟩ := hrel
  have HB := Lib.hid hb
  clear hb
  by_cases hlt : k < n
  · obtain ⟨x, hx⟩ : ∃ x, l[k]? = some x := ⟨_, List.getElem?_eq_getElem (by rw [HL.out]; exact hlt)⟩
    obtain ⟨g, ad, hA, -, hc⟩ := Sv.range encU_len (by decide) SA.out hx
    have q0 : wr.cell? ⟨g, ad + k * 3, none⟩ = some (.int .i64 x.1) := hc 0 _ rfl
    have HX := Lib.hid hx
    have k0 : (0 : Int) ≤ (k : Int) := Int.natCast_nonneg k
    have kn : (k : Int) < (n : Int) := Int.ofNat_lt.2 hlt
    have hwj : IntKind.i64.wrap ((k : Int) + 1) = (k : Int) + 1 := IntWalk.i64_in _ (by have := HN.out; omega)
    have HLT := Lib.hid hlt
    rw [hA]
    clear hx hc hlt hk hA
    by_cases hxo : x.1 = o
    · have HXO := Lib.hid hxo
      have e1 : (x.1 == o) = true := by simp [hxo]
      clear hxo
      go_wp2
      go_ret
      exact ⟨⟨_, rfl, .inr ⟨k, x, rfl, HX.out, HXO.out, HB.out⟩⟩, rfl⟩
    · have HXO := Lib.hid hxo
      have e1 : (x.1 == o) = false := by simp [hxo]
      clear hxo
      go_wp2
      go_roundw
      case rel => exact ⟨k + 1, HLT.out, by go_num, fun j b hj hjk => by
       rcases Nat.lt_or_ge j k with h | h
       · exact HB.out j b hj h
       · obtain rfl : j = k := by omega
         have := HX.out.symm.trans hj
         injection this with this
         rw [← this]; exact HXO.out, by trivial⟩
      case measure => have := HLT.out; simp [intOf]; omega
  · have kn : ¬ (k : Int) < (n : Int) := fun e => hlt (Int.ofNat_lt.1 e)
    have HE := Lib.hid (show ∀ a ∈ l, a.1 ≠ o from fun a ha => by
     obtain ⟨j, hj⟩ := List.getElem?_of_mem ha
     exact HB.out j a hj (by have := (List.getElem?_eq_some_iff.1 hj).1; rw [HL.out] at this; omega))
    go_wp2
    go_ret
    exact ⟨⟨_, rfl, .inl ⟨rfl, HE.out⟩⟩, rfl⟩
theorem lawInts_any (A A2 : Option Addr) (n n2 c c2 : Nat) (l l2 : List Int) (w : World) (hA : Sv w A n c 1 (encs encI l)) (hA2 : Sv w A2 n2 c2 1 (encs encI l2)) (hn : n ≤ 1000000) :
 Calls Tryz.prog 31 #[.slice A n c, .slice A2 n2 c2] w fun e w' => e = .returned (.bool (decide (l = l2))) ∧ Below w.heap.size w w' := by
 have HL := Lib.hid (show l.length = n from hA.plen encI_len (by decide))
 have HL2 := Lib.hid (show l2.length = n2 from hA2.plen encI_len (by decide))
 have SA := Lib.hid hA
 have SB := Lib.hid hA2
 have HN := Lib.hid hn
 clear hA hA2 hn
 by_cases hnn : n = n2
 · subst hnn
   go_enter Tryz.func31, Tryz.ntmps31
   go_wp2
   go_loopw [5] (fun i wr => ∃ k : Nat, k ≤ n ∧ i = .int .i64 k ∧ l.take k = l2.take k ∧ Below w.heap.size w wr) (fun i _ => n - (intOf i).toNat)
   case atStart => exact ⟨0, Nat.zero_le _, rfl, rfl, Below.refl _ _⟩
   case round =>
    obtain ⟨k, hk, rfl, hlk, hb⟩ := hrel
    have HLK := Lib.hid hlk
    have HB := Lib.hid hb
    clear hlk hb
    by_cases hlt : k < n
    · obtain ⟨x, hx⟩ : ∃ x, l[k]? = some x := ⟨_, List.getElem?_eq_getElem (by rw [HL.out]; exact hlt)⟩
      obtain ⟨y, hy⟩ : ∃ y, l2[k]? = some y := ⟨_, List.getElem?_eq_getElem (by rw [HL2.out]; exact hlt)⟩
      have hd : Below wr.heap.size wr wr.drew := below_drewN wr 1
      have HD := Lib.hid (HB.out.trans (hd.mono HB.out.size))
      obtain ⟨g, o, hA, -, hq0⟩ := Sv.range encI_len (by decide) (SA.out.below HD.out) hx
      obtain ⟨g2, o2, hA2, -, hr0⟩ := Sv.range encI_len (by decide) (SB.out.below HD.out) hy
      have q0 : wr.drew.cell? ⟨g, o + k, none⟩ = some (.int .i64 x) := by have := hq0 0 _ rfl; rwa [Nat.mul_one, Nat.add_zero] at this
      have r0 : wr.drew.cell? ⟨g2, o2 + k, none⟩ = some (.int .i64 y) := by have := hr0 0 _ rfl; rwa [Nat.mul_one, Nat.add_zero] at this
      have HST := Lib.hid (And.intro (takeU_snoc hx) (takeU_snoc hy))
      have HXY := Lib.hid (And.intro hx hy)
      have k0 : (0 : Int) ≤ (k : Int) := Int.natCast_nonneg k
      have kn : (k : Int) < (n : Int) := Int.ofNat_lt.2 hlt
      have hwj : IntKind.i64.wrap ((k : Int) + 1) = (k : Int) + 1 := IntWalk.i64_in _ (by have := HN.out; omega)
      have HLT := Lib.hid hlt
      rw [hA, hA2]
      clear hx hy hq0 hr0 hd hlt hk hA hA2
      go_upto_region 6 with fail
      refine wp_region_ord (fun w' => w'.cell? ⟨g, o + k, none⟩ = some (.int .i64 x) ∧ w'.cell? ⟨g2, o2 + k, none⟩ = some (.int .i64 y)) [(0, true), (1, true), (2, true), (3, true), (4, true), (5, true), (6, true), (7, true), (8, true)] (by kernel_rfl) (by kernel_rfl) (by kernel_rfl) ⟨q0, r0⟩ (fun d _ _ _ _ h => by cases d <;> exact h) ?_
      iterate 8 refine ord_pure ?_
      refine ord_pure (v := .bool (x != y)) ?_
      refine ord_nil ?_
      clear q0 r0
      by_cases hxy : x = y
      · have HEQ := Lib.hid hxy
        have e1 : (x != y) = false := by simp [hxy]
        rw [e1]
        clear e1 hxy
        go_wp2
        go_roundw
        case rel => exact ⟨k + 1, HLT.out, by go_num, by rw [HST.out.1, HST.out.2, HLK.out, HEQ.out], HD.out⟩
        case measure => have := HLT.out; simp [intOf]; omega
      · have HEQ := Lib.hid hxy
        have e1 : (x != y) = true := by simp [hxy]
        rw [e1]
        clear e1 hxy
        go_wp2
        go_ret
        exact ⟨ret_bool (decide_eq_false (fun e => HEQ.out (by have h := HXY.out; rw [e] at h; have := h.1.symm.trans h.2; injection this))).symm, HD.out⟩
    · have kn : ¬ (k : Int) < (n : Int) := fun e => hlt (Int.ofNat_lt.1 e)
      have HE := Lib.hid (show l = l2 by
       have h := HLK.out
       rw [List.take_of_length_le (by rw [HL.out]; omega), List.take_of_length_le (by rw [HL2.out]; omega)] at h
       exact h)
      go_wp2
      go_ret
      exact ⟨ret_bool (decide_eq_true HE.out).symm, HB.out⟩
 · have HE := Lib.hid (show ¬ l = l2 from fun e => hnn (by rw [← HL.out, ← HL2.out, e]))
   have kne : ¬ (n : Int) = (n2 : Int) := by omega
   go_enter Tryz.func31, Tryz.ntmps31
   go_wp2
   go_ret
   exact ⟨ret_bool (decide_eq_false HE.out).symm, Below.refl _ _⟩
theorem store_s1 {ops : Array Oper} {rest : List Oper} {o : Oper} {a : Act} {w : World} {Q : Exit → Act → World → Prop} (hgd : o.guard = none) (x y : Operand) (ho : o.op = .store 47 x y)
 (g : Nat) (hx : a.eval x = .pointer (some ⟨g, 0, none⟩)) (A : Option Addr) (m c : Nat) (e : Int) (hy : a.eval y = .agg #[.slice A m c, .int .i64 e]) (old : Array Value) (hg : w.heap[g]? = some (.cells old 47 (0, 0))) (hold : old.size = 2)
 (hr : wpList Tryz.prog ops Q rest (a.put o.dst undef) (w.setRow g #[.slice A m c, .int .i64 e])) : wpList Tryz.prog ops Q (o :: rest) a w :=
 wpList_store_row hgd 47 x y ho g #[.slice A m c, .int .i64 e] hx hy 47 old hg (by kernel_rfl) hold (by simp [Value.oneCell']) hr
theorem ret_s1 {fn : Func} {p : Tmp} (h : fn.results = #[.cell p 47]) (tmps : Array Value) (w : World) (g : Nat) (A : Option Addr) (m c : Nat) (e : Int) (hp : tmps.getD p undef = .pointer (some ⟨g, 0, none⟩)) (hg : w.heap[g]? = some (.cells #[.slice A m c, .int .i64 e] 47 (0, 0))) : (results fn tmps).run Tryz.prog w = .ok (.agg #[.slice A m c, .int .i64 e]) w :=
 results_cell_row h tmps w g 47 _ (0, 0) _ hp hg Tryz.underlying47 rfl (by kernel_rfl)
abbrev Set1Res (l : List (Int × Us)) (x : Int × Us) (w : World) (e : Ending) (w' : World) : Prop :=
 ∃ A m c, e = .returned (.agg #[.slice A m c, .int .i64 (doSet l x).2]) ∧ w'.ownsRow w.heap.size 44 3 (.slice A m c) m (encs encU (doSet l x).1) ∧ Below w.heap.size w w'
theorem lawSet_any (A : Option Addr) (n c : Nat) (l : List (Int × Us)) (x : Int × Us) (w : World) (hA : Sv w A n c 3 (encs encU l)) (hs : SrtU l) (hn : n ≤ 1000) :
 Calls Tryz.prog 15 #[.slice A n c, .agg (encU x).toArray] w fun e w' => Set1Res l x w e w' := by
 have SA := Lib.hid hA
 have HS := Lib.hid hs
 have HN := Lib.hid hn
 clear hA hs hn
 have kk0 := Bxs.nil w
 obtain ⟨x1, hwx1, hzx1, kx1⟩ := kk0.new rfl (encU x).toArray (encU x).toArray 44
 obtain ⟨x2, hwx2, hzx2, kx2⟩ := kx1.new hzx1 #[.slice none 0 0, .int .i64 0] #[.slice none 0 0, .int .i64 0] 47
 have HW1 := Lib.hid hwx1
 have HZ2 := Lib.hid (show x2.heap.size = w.heap.size + 2 from hzx2)
 have HW2 := Lib.hid hwx2
 have K2 := Lib.hid kx2
 have hz1 := hzx1
 clear kk0 hwx1 kx1 hwx2 hzx2 kx2 hzx1
 go_enter Tryz.func15, Tryz.ntmps15
 go_upto_region 1 with fail
 rw [HW1.out, HW2.out]
 clear hz1
 have CS := Lib.hid (fun W (hb : Below w.heap.size w W) => Set_lands A n c l x W (SA.out.below hb) HS.out HN.out)
 go_upto_region 2 with (first | (with_reducible refine load_li rfl _ rfl w.heap.size 0 rfl x (box_range (K2.out.at 1 rfl).out) ?_) | (go_at_call 50; (with_reducible refine (CS.out _ K2.out.low.out).mono ?_); rintro e w3 ⟨A', m, c', rfl, hO, hb⟩; have HO := Lib.hid hO; have HB3 := Lib.hid hb; clear hO hb))
 have K3 := Lib.hid (K2.out.step HB3.out)
 have K4 := Lib.hid (K3.out.row 0 rfl #[.slice A' m c', .int .i64 (doSet l x).2])
 have HO4 := Lib.hid (own_low_row HO.out (b := w.heap.size + 1) (by have := HZ2.out; omega) #[.slice A' m c', .int .i64 (doSet l x).2])
 go_wp2_with (with_reducible refine store_s1 rfl _ _ rfl (w.heap.size + 1) rfl A' m c' (doSet l x).2 rfl _ (K3.out.at 0 rfl).out rfl ?_)
 refine bodyPost_ret (ret_s1 rfl _ _ (w.heap.size + 1) A' m c' (doSet l x).2 rfl (K4.out.at 0 rfl).out) rfl ?_
 exact ⟨A', m, c', rfl, own_weak HO4.out (by have := HZ2.out; omega), K4.out.low.out⟩
end Go.Proofs.YtemgejblnionlaaGreatDoor
namespace Go.Proofs.YtemgejblnionlaaGreatDoor
open Go.RowKit
set_option maxHeartbeats 800000
set_option maxRecDepth 100000
abbrev xC : Xh := ⟨2, 0, ⟨#[97]⟩, ⟨#[]⟩, 0, 0, 0, none, 0, 0, []⟩
abbrev xW : Xh := ⟨3, 0, ⟨#[97]⟩, ⟨#[]⟩, 0, 3, 1, none, 0, 0, []⟩
abbrev xX : Xh := ⟨3, 0, ⟨#[97]⟩, ⟨#[]⟩, 2, 4, 2, none, 0, 0, []⟩
theorem xC_ok (W : World) : xC.ok W := ⟨Sv.none_ _ _, (show (⟨#[97]⟩ : ByteArray).size < 4294967281 by decide), (show (⟨#[]⟩ : ByteArray).size < 4294967281 by decide)⟩
theorem xW_ok (W : World) : xW.ok W := ⟨Sv.none_ _ _, (show (⟨#[97]⟩ : ByteArray).size < 4294967281 by decide), (show (⟨#[]⟩ : ByteArray).size < 4294967281 by decide)⟩
theorem xX_ok (W : World) : xX.ok W := ⟨Sv.none_ _ _, (show (⟨#[97]⟩ : ByteArray).size < 4294967281 by decide), (show (⟨#[]⟩ : ByteArray).size < 4294967281 by decide)⟩
theorem sCreate (T : Th) (W : World) (hT : T.ok W) (ht : T.t = newD 5) :
 Calls Tryz.prog 45 #[T.val, xC.val, .int .i64 1] W fun e w' => ∃ (T' : Th) (R : Rh), e = .returned (dval T' R) ∧ T'.ok w' ∧ T'.t = sT1 ∧ Below W.heap.size W w' := by
 refine (do_cw lowR0 T xC 1 W hT (by rw [ht]; exact small0) (xC_ok W) (by decide) (.inl rfl)).mono ?_
 rintro e w' ⟨T', R, he, h1, _, h2, _, _, _, h3⟩
 refine ⟨T', R, he, h1, ?_, h3⟩
 rw [h2, ht]
 exact sDo1
theorem sWrite (T : Th) (W : World) (hT : T.ok W) (ht : T.t = sT1) :
 Calls Tryz.prog 45 #[T.val, xW.val, .int .i64 2] W fun e w' => ∃ (T' : Th) (R : Rh), e = .returned (dval T' R) ∧ T'.ok w' ∧ T'.t = sT2 ∧ (∀ P, T.In P → T'.In (Fresh P W)) ∧ Below W.heap.size W w' := by
 refine (do_cw lowR0 T xW 2 W hT (by rw [ht]; exact small1) (xW_ok W) (by decide) (.inr rfl)).mono ?_
 rintro e w' ⟨T', R, he, h1, _, h2, _, h4, _, h3⟩
 refine ⟨T', R, he, h1, ?_, h4, h3⟩
 rw [h2, ht]
 exact sDo2
section
variable (T : Th) (W : World) (hE : Nam.Env W) (hT : T.ok W) (ht : T.t = sT2)
include hE hT ht
theorem sOf : Calls Tryz.prog 18 #[T.val] W fun e w' => ∃ A m c, e = .returned (.slice A m c) ∧ Sv w' A m c 3 (encs encU sA2) ∧ m ≤ 256 ∧ Below W.heap.size W w' := by
 refine (Of_lands lowW lowG sortU_c T W hE hT (by rw [ht]; exact sGood2)).mono ?_
 rintro e w' ⟨A, m, c, l, he, h1, h2, h3, h4⟩
 rw [ht] at h2
 rw [h2.one sAcc2] at h1
 exact ⟨A, m, c, he, Sv.own h1 (encs_cells encU_one _), h3, h4⟩
theorem sDoX (W' : World) (hb : Below W.heap.size W W') : Calls Tryz.prog 36 #[T.val, xX.val, .int .i64 0] W' fun e w' => DoRes W' (doD LowX sT2 xX.d 0) e w' := by
 have h := write_done (x := xX) (T := T) lowW lowG (hE.below hb) (by rw [ht]; exact small2) (by rw [ht]; exact sGood2) (xX_ok W') (hT.below hb) ⟨by decide, by decide, by decide, by decide⟩ rfl 0
 rw [ht] at h
 exact h
theorem sDelt : Calls Tryz.prog 19 #[T.val, xX.val] W fun e w' => ∃ A m c, e = .returned (.slice A m c) ∧ Sv w' A m c 3 (encs encU [(0, (0, 3))]) ∧ m ≤ 512 ∧ Below W.heap.size W w' := by
 have hd : (doD LowX sT2 xX.d 0).1 = sT3 := sDo3
 refine (Delta_lands lowW lowG sortU_c T xX (doD LowX sT2 xX.d 0) W hE hT (xX_ok W) (by rw [ht]; exact sGood2) (by rw [hd]; exact sGood3) (fun W' hb => sDoX T W hE hT ht W' hb)).mono ?_
 rintro e w' ⟨A, m, c, l, lA, lB, he, h1, h2, h3, h4, h5, h6⟩
 rw [hd] at h2
 rw [ht] at h3
 rw [sDelta h2 h3 h4] at h1
 exact ⟨A, m, c, he, Sv.own h1 (encs_cells encU_one _), h5, h6⟩
theorem sBlock (B : Option Addr) (m c : Nat) (lim : List (Int × Us)) (b : Bool) (hB : Sv W B m c 3 (encs encU lim)) (hm : m ≤ 1000000) (hl : lim.any (blkP sA2 sA3) = b) :
 Calls Tryz.prog 29 #[T.val, xX.val, .slice B m c] W fun e w' => e = .returned (.bool b) ∧ Below W.heap.size W w' := by
 have hd : (doD LowX sT2 xX.d 0).1 = sT3 := sDo3
 refine (Blocks_lands lowW lowG sortU_c T xX (doD LowX sT2 xX.d 0) B m c lim W hE hT (xX_ok W) (by rw [ht]; exact sGood2) (by rw [hd]; exact sGood3) hB hm (fun W' hb => sDoX T W hE hT ht W' hb)).mono ?_
 rintro e w' ⟨h6, lA, lB, h2, h3, he⟩
 rw [ht] at h2
 rw [hd] at h3
 rw [h2.one sAcc2, h3.one sAcc3, hl] at he
 exact ⟨he, h6⟩
omit hE in
theorem sHold (A : Option Addr) (c : Nat) (nm : Value) (hn : nm.oneCell' = true) (id : Int) (hA : Sv W A 1 c 5 [.int .i64 id, nm, .slice T.A T.n T.c, .int .i64 T.next, .slice T.oA T.on T.oc]) :
 Calls Tryz.prog 32 #[T.val, .slice A 1 c] W fun e w' => ∃ B m d, e = .returned (.slice B m d) ∧ Sv w' B m d 1 (encs encI [3, 0]) ∧ m ≤ 1000 ∧ Below W.heap.size W w' := by
 have hl2 : T.n = 2 := by rw [← Th.t_len hT, ht]; rfl
 have hb2 : ∀ h ∈ T.hs, h.bn ≤ 1000000 := fun h hm => by
  have h1 : h.d ∈ sT2.nodes := by rw [← ht]; exact List.mem_map.2 ⟨h, hm, rfl⟩
  rw [← (hT.each h hm).blen]
  rcases List.mem_cons.1 h1 with h1 | h1
  · rw [h1]; decide
  · rw [List.mem_singleton.1 h1]; decide
 refine (Held_lands sortR_c T A 1 c [⟨id, nm, T, hn⟩] W hT hA (fun s hs => by rw [List.mem_singleton.1 hs]; exact hT) (by decide) (fun X hX => ?_) ?_).mono ?_
 · have : X = T := by
    rcases List.mem_cons.1 hX with h | h
    · exact h
    · exact List.mem_singleton.1 h
   rw [this]
   exact ⟨by omega, hb2⟩
 · show HBound [T.t, T.t]
   rw [ht]
   exact sBound
 · rintro e w' ⟨B, m, d, held, seen, he, h1, h2, h3⟩
   have h1' : HeldTo [T.t, T.t] held seen := h1
   rw [ht] at h1'
   rw [sHeld h1'] at h2
   have hm : m = 2 := by have := h2.1; simpa [encs, encI] using this.symm
   exact ⟨B, m, d, he, Sv.own h2 (encs_cells encI_one _), by omega, h3⟩
end
theorem sSame (A A2 : Option Addr) (n c n2 c2 : Nat) (l : List (Int × Us)) (W : World) (hA : Sv W A n c 3 (encs encU l)) (hA2 : Sv W A2 n2 c2 3 (encs encU l)) (hn : n ≤ 1000000) :
 Calls Tryz.prog 17 #[.slice A n c, .slice A2 n2 c2] W fun e w' => e = .returned (.bool true) ∧ Below W.heap.size W w' := by
 have h := Same_any A A2 n n2 c c2 l l W hA hA2 hn
 rwa [decide_eq_true rfl] at h
theorem sLims (A A2 : Option Addr) (n c n2 c2 : Nat) (l : List (Int × Us)) (W : World) (hA : Sv W A n c 3 (encs encU l)) (hA2 : Sv W A2 n2 c2 3 (encs encU l)) (hn : n ≤ 1000000) :
 Calls Tryz.prog 26 #[.slice A n c, .slice A2 n2 c2] W fun e w' => e = .returned (.bool true) ∧ Below W.heap.size W w' := by
 have h := SameLimits_any A A2 n n2 c c2 l l W hA hA2 hn
 rwa [decide_eq_true rfl] at h
theorem sInts (A A2 : Option Addr) (n c n2 c2 : Nat) (l : List Int) (W : World) (hA : Sv W A n c 1 (encs encI l)) (hA2 : Sv W A2 n2 c2 1 (encs encI l)) (hn : n ≤ 1000000) :
 Calls Tryz.prog 31 #[.slice A n c, .slice A2 n2 c2] W fun e w' => e = .returned (.bool true) ∧ Below W.heap.size W w' := by
 have h := lawInts_any A A2 n n2 c c2 l l W hA hA2 hn
 rwa [decide_eq_true rfl] at h
theorem sFits (A B : Option Addr) (n c m d : Nat) (lim : List (Int × Us)) (b : Bool) (W : World) (hA : Sv W A n c 3 (encs encU sA2)) (hB : Sv W B m d 3 (encs encU lim)) (hn : n ≤ 100000) (hm : m ≤ 1000000) (hli : UseIn lim) (hf : fitsL sA2 lim = b) :
 Calls Tryz.prog 27 #[.slice A n c, .slice B m d] W fun e w' => e = .returned (.bool b) ∧ Below W.heap.size W w' := by
 have h := Fits_lands A n c sA2 B m d lim W hA hB hn hm (fun a ha => by
  rcases List.mem_cons.1 ha with rfl | ha
  · decide
  · rw [List.mem_singleton.1 ha]; decide) hli
 rwa [hf] at h
theorem sSetNil (W : World) : Calls Tryz.prog 15 #[.slice none 0 0, .agg #[.int .i64 (-2), .int .i64 0, .int .i64 0]] W fun e w' => ∃ A m c, e = .returned (.agg #[.slice A m c, .int .i64 1]) ∧ Below W.heap.size W w' := by
 refine (lawSet_any none 0 0 [] (-2, (0, 0)) W (Sv.none_ _ _) (by simp [SrtU]) (by decide)).mono ?_
 rintro e w' ⟨A, m, c, he, _, h⟩
 exact ⟨A, m, c, he, h⟩
theorem sSetSix (B : Option Addr) (m c : Nat) (W : World) (hB : Sv W B m c 3 (encs encU [(0, (5, 5))])) (hm : m ≤ 1000) :
 Calls Tryz.prog 15 #[.slice B m c, .agg #[.int .i64 0, .int .i64 5, .int .i64 6]] W fun e w' => ∃ A m c, e = .returned (.agg #[.slice A m c, .int .i64 0]) ∧ Sv w' A m c 3 (encs encU [(0, (5, 6))]) ∧ m ≤ 1000000 ∧ Below W.heap.size W w' := by
 refine (lawSet_any B m c [(0, (5, 5))] (0, (5, 6)) W hB (by simp [SrtU]) hm).mono ?_
 rintro e w' ⟨A, k, d, he, ho, h⟩
 have h1 : doSet [(0, (5, 5))] (0, (5, 6)) = ([(0, (5, 6))], 0) := by decide +kernel
 rw [h1] at he ho
 have hk : k = 1 := by
  have h2 : 3 = k * 3 := ho.1
  omega
 exact ⟨A, k, d, he, Sv.own ho (encs_cells encU_one _), by omega, h⟩
theorem sGetC (A : Option Addr) (n c : Nat) (W : World) (hA : Sv W A n c 3 (encs encU sA2)) (hn : n ≤ 1000000) :
 Calls Tryz.prog 24 #[.slice A n c, .int .i64 5] W fun e w' => e = .returned (.agg #[.int .i64 1, .int .i64 0]) ∧ Below W.heap.size W w' := by
 have h := Get_lands A n c sA2 5 W hA hn
 rwa [sGet] at h
theorem sAllC (A : Option Addr) (n c : Nat) (W : World) (hA : Sv W A n c 3 (encs encU sA2)) (hn : n ≤ 1000000) :
 Calls Tryz.prog 22 #[.slice A n c] W fun e w' => e = .returned (.agg #[.int .i64 2, .int .i64 3]) ∧ Below W.heap.size W w' := by
 have h := All_lands A n c sA2 W hA hn
 rwa [sAll] at h
theorem sBlk5 : ([(0, (5, 5))] : List (Int × Us)).any (blkP sA2 sA3) = true := by decide +kernel
theorem sBlk6 : ([(0, (5, 6))] : List (Int × Us)).any (blkP sA2 sA3) = false := by decide +kernel
end Go.Proofs.YtemgejblnionlaaGreatDoor
namespace Go.Proofs.YtemgejblnionlaaGreatDoor
open Go.RowKit
set_option maxHeartbeats 8000000
set_option maxRecDepth 100000
theorem Th.in_true (T : Th) : T.In (fun _ => True) := ⟨fun _ _ _ _ _ => trivial, fun _ _ => ⟨fun _ _ _ _ _ => trivial, fun _ _ _ _ _ => trivial, fun _ _ _ _ _ => trivial⟩, fun _ _ _ _ _ => trivial⟩
theorem store_xh {ops : Array Oper} {rest : List Oper} {o : Oper} {a : Act} {w : World} {Q : Exit → Act → World → Prop} (hgd : o.guard = none) (x y : Operand) (ho : o.op = .store 25 x y)
 (g : Nat) (hx : a.eval x = .pointer (some ⟨g, 0, none⟩)) (h : Xh) (hy : a.eval y = h.val) (old : Array Value) (hg : w.heap[g]? = some (.cells old 25 (0, 0))) (hold : old.size = 8)
 (hr : wpList Tryz.prog ops Q rest (a.put o.dst undef) (w.setRow g h.enc.toArray)) : wpList Tryz.prog ops Q (o :: rest) a w :=
 wpList_store_row hgd 25 x y ho g h.enc.toArray hx hy 25 old hg (by kernel_rfl) hold (by simp [Xh.enc, Value.oneCell']) hr
abbrev zOp : Array Value := #[.int .i64 0, .int .i64 0, .string ⟨#[]⟩, .string ⟨#[]⟩, .int .i64 0, .int .i64 0, .int .i64 0, .slice none 0 0]
abbrev accC : Array Value := #[.int .i64 0, .int .i64 1, .int .i64 3, .int .i64 5, .int .i64 1, .int .i64 0]
abbrev accD : Array Value := #[.int .i64 0, .int .i64 0, .int .i64 3]
theorem accC_sv (w : World) : Sv (w.alloc (.cells accC 67)) (some ⟨w.heap.size, 0, none⟩) 2 2 3 (encs encU sA2) := sv_new w (encs encU sA2) 2 3 67 rfl (by decide) (encs_cells encU_one _)
theorem accD_sv (w : World) : Sv (w.alloc (.cells accD 67)) (some ⟨w.heap.size, 0, none⟩) 1 1 3 (encs encU [(0, (0, 3))]) := sv_new w (encs encU [(0, (0, 3))]) 1 3 67 rfl (by decide) (encs_cells encU_one _)
theorem alloc_below {B : Nat} {w w' : World} (h : Below B w w') (hB : B ≤ w'.heap.size) (o : Obj) : Below B w (w'.alloc o) := h.alloc hB o
theorem snap_sv (w : World) (T : Th) : Sv (w.alloc (.cells #[.int .i64 0, .string ⟨#[]⟩, .slice T.A T.n T.c, .int .i64 T.next, .slice T.oA T.on T.oc] 39)) (some ⟨w.heap.size, 0, none⟩) 1 1 5 [.int .i64 0, .string ⟨#[]⟩, .slice T.A T.n T.c, .int .i64 T.next, .slice T.oA T.on T.oc] := sv_new w [.int .i64 0, .string ⟨#[]⟩, .slice T.A T.n T.c, .int .i64 T.next, .slice T.oA T.on T.oc] 1 5 39 rfl (by decide) (oneC rfl)
theorem ints_sv (w : World) : Sv (w.alloc (.cells #[.int .i64 3, .int .i64 0] 3)) (some ⟨w.heap.size, 0, none⟩) 2 2 1 (encs encI [3, 0]) := sv_new w (encs encI [3, 0]) 2 1 3 rfl (by decide) (encs_cells encI_one _)
abbrev limF : Array Value := #[.int .i64 0, .int .i64 5, .int .i64 5]
abbrev limS : Array Value := #[.int .i64 0, .int .i64 5, .int .i64 6]
abbrev limE : Array Value := #[.int .i64 (-1), .int .i64 0, .int .i64 0]
theorem limF_sv (w : World) : Sv (w.alloc (.cells limF 44)) (some ⟨w.heap.size, 0, none⟩) 1 1 3 (encs encU [(0, (5, 5))]) := sv_new w (encs encU [(0, (5, 5))]) 1 3 44 rfl (by decide) (encs_cells encU_one _)
theorem limS_sv (w : World) : Sv (w.alloc (.cells limS 44)) (some ⟨w.heap.size, 0, none⟩) 1 1 3 (encs encU [(0, (5, 6))]) := sv_new w (encs encU [(0, (5, 6))]) 1 3 44 rfl (by decide) (encs_cells encU_one _)
theorem limE_sv (w : World) : Sv (w.alloc (.cells limE 44)) (some ⟨w.heap.size, 0, none⟩) 1 1 3 (encs encU [(-1, (0, 0))]) := sv_new w (encs encU [(-1, (0, 0))]) 1 3 44 rfl (by decide) (encs_cells encU_one _)
theorem useIn1 (a : Int × Us) (h : In64 a.2.1 ∧ In64 a.2.2) : UseIn [a] := fun x hx => by rw [List.mem_singleton.1 hx]; exact h
theorem lawSanity_any (w : World) (hE : Nam.Env w) : Calls Tryz.prog 10 #[] w fun e w' => e = .returned (.bool true) ∧ Below w.heap.size w w' := by
 have HE := Lib.hid hE
 have CN := Lib.hid (fun W => new_any 5 W)
 have hfl : ∀ (T : Th) (R : Rh) (W : World), (Instr.field 98 (dval T R) 0).run Tryz.prog W = .ok T.val W := fun T R W => rfl
 clear hE
 go_enter Tryz.func10, Tryz.ntmps10
 go_upto_region 1 with fail
 go_upto_region 2 with (first | (go_at_call 46; (with_reducible refine (CN.out _).mono ?_); rintro e w1 ⟨T0, rfl, hok, ht, hi, hb⟩; have HB1 := Lib.hid hb; have C1 := Lib.hid (sCreate T0 w1 hok ht); clear hok ht hi hb) | (go_at_call 45; (with_reducible refine C1.out.mono ?_); rintro e w2 ⟨T1, R1, rfl, hok, ht, hb⟩; have HB2 := Lib.hid hb; have H1 := Lib.hid (And.intro hok ht); clear hok ht hb) | (with_reducible refine store_tr rfl _ _ rfl w2.heap.size rfl T1 rfl zT (heap_alloc_new w2 _) rfl ?_))
 have K0 := (Bxs.nil w2).alloc zT 31
 have K1 := Lib.hid (K0.row 0 rfl (Th.enc T1).toArray)
 clear K0
 have HK1 := Lib.hid (show Below w2.heap.size w2 ((w2.alloc (.cells zT 31)).setRow w2.heap.size (Th.enc T1).toArray) from K1.out.low.out)
 have HL1 := Lib.hid (show w2.heap.size < ((w2.alloc (.cells zT 31)).setRow w2.heap.size (Th.enc T1).toArray).heap.size by simp)
 generalize hw3 : (w2.alloc (.cells zT 31)).setRow w2.heap.size (Th.enc T1).toArray = w3 at *
 clear hw3
 have HO1 := Lib.hid (H1.out.1.below HK1.out)
 have C2 := Lib.hid (sWrite T1 w3 HO1.out H1.out.2)
 go_upto_region 3 with (first | (with_reducible refine load_tr rfl _ rfl (w2.heap.size) rfl T1 (box_range (K1.out.at 0 rfl).out) ?_) | (go_at_call 45; (with_reducible refine C2.out.mono ?_); rintro e w4 ⟨T2, R2, rfl, hok, ht, hi, hb⟩; have HB4 := Lib.hid hb; have H4 := Lib.hid (And.intro hok (And.intro ht hi)); clear hok ht hi hb) | (with_reducible refine store_tr rfl _ _ rfl w2.heap.size rfl T2 rfl _ ((K1.out.step HB4.out).at 0 rfl).out rfl ?_))
 have K2 := Lib.hid ((K1.out.step HB4.out).row 0 rfl (Th.enc T2).toArray)
 have HT2 := Lib.hid (Th.ok.setRow (b := w2.heap.size) H4.out.1 ((H4.out.2.2 _ (H1.out.1.inside (Th.in_true T1))).mono fun g hg => by
  have h1 := HL1.out
  rcases hg with hg | hg
  · omega
  · omega) (Th.enc T2).toArray)
 generalize hw5 : w4.setRow w2.heap.size (Th.enc T2).toArray = w5 at *
 clear hw5
 go_upto_region 4 with (with_reducible refine store_xh rfl _ _ rfl w5.heap.size rfl xX rfl zOp (heap_alloc_new w5 _) rfl ?_)
 have K3 := Lib.hid ((K2.out.alloc zOp 25).row 0 rfl xX.enc.toArray)
 have HA3 := Lib.hid (show Below w5.heap.size w5 ((w5.alloc (.cells zOp 25)).setRow w5.heap.size xX.enc.toArray) from (((Bxs.nil w5).alloc zOp 25).row 0 rfl xX.enc.toArray).low.out)
 generalize hw6 : (w5.alloc (.cells zOp 25)).setRow w5.heap.size xX.enc.toArray = w6 at *
 clear hw6
 have HT6 := Lib.hid (HT2.out.below HA3.out)
 have HB02 := Lib.hid (HB1.out.trans (HB2.out.mono HB1.out.size))
 have HB06 := Lib.hid (HB02.out.trans (K3.out.low.out.mono HB02.out.size))
 have HE6 := Lib.hid (HE.out.below HB06.out)
 have C4 := Lib.hid (sOf T2 w6 HE6.out HT6.out H4.out.2.1)
 go_upto_region 5 with (first | (with_reducible refine load_tr rfl _ rfl (w2.heap.size) rfl T2 (box_range (K3.out.at 1 rfl).out) ?_) | (go_at_call 18; (with_reducible refine C4.out.mono ?_); rintro e w9 ⟨A9, m9, c9, rfl, hs, hm, hb⟩; have HB9 := Lib.hid hb; have H9 := Lib.hid (And.intro hs hm); clear hs hm hb))
 have K9 := Lib.hid (K3.out.step HB9.out)
 have HT9 := Lib.hid (HT6.out.below HB9.out)
 have HE9 := Lib.hid (HE6.out.below HB9.out)
 have HB09 := Lib.hid (HB06.out.trans (HB9.out.mono HB06.out.size))
 have HTT := Lib.hid H4.out.2.1
 clear HB1 HB2 HB4 HB9 HE6 HT6 HT2 HA3 K2 K3 HB02 HB06 C4 C2 C1 HL1 HK1 HO1 H1 K1 H4
 have HBa := Lib.hid (alloc_below (Below.refl w9.heap.size w9) (Nat.le_refl _) (.cells accC 67))
 have CS1 := Lib.hid (sSame A9 (some ⟨w9.heap.size, 0, none⟩) m9 c9 2 2 sA2 (w9.alloc (.cells accC 67)) (H9.out.1.below HBa.out) (accC_sv w9) (by have := H9.out.2; omega))
 have he1 : ∀ W, (binOp .eql 42 (.agg #[.int .i64 2, .int .i64 3]) (.agg #[.int .i64 2, .int .i64 3])).run Tryz.prog W = .ok (.bool true) W := fun W => eqlUse (2, 3) (2, 3) W
 have he2 : ∀ W, (binOp .eql 42 (.agg #[.int .i64 1, .int .i64 0]) (.agg #[.int .i64 1, .int .i64 0])).run Tryz.prog W = .ok (.bool true) W := fun W => eqlUse (1, 0) (1, 0) W
 go_upto_region 6 with (first
  | (go_at_call 17; (with_reducible refine CS2.out.mono ?_); rintro e w12 ⟨rfl, hb⟩; have HB12 := Lib.hid (HBb.out.trans (hb.mono HBb.out.size)); have CA := Lib.hid (sAllC A9 m9 c9 w12 (H9.out.1.below HB12.out) (by have := H9.out.2; omega)); clear hb)
  | (go_at_call 17; (with_reducible refine CS1.out.mono ?_); rintro e w10 ⟨rfl, hb⟩; have HB10 := Lib.hid (HBa.out.trans (hb.mono HBa.out.size)); have t0 := (K9.out.step HB10.out).cell 1 0 (.slice T2.A T2.n T2.c) rfl; have t1 := (K9.out.step HB10.out).cell 1 1 (.int .i64 T2.next) rfl; have t2 := (K9.out.step HB10.out).cell 1 2 (.slice T2.oA T2.on T2.oc) rfl; have o0 := (K9.out.step HB10.out).cell 0 0 (.int .i64 3) rfl; have o1 := (K9.out.step HB10.out).cell 0 1 (.int .i64 0) rfl; have o2 := (K9.out.step HB10.out).cell 0 2 (.string ⟨#[97]⟩) rfl; have o3 := (K9.out.step HB10.out).cell 0 3 (.string ⟨#[]⟩) rfl; have o4 := (K9.out.step HB10.out).cell 0 4 (.int .i64 2) rfl; have o5 := (K9.out.step HB10.out).cell 0 5 (.int .i64 4) rfl; have o6 := (K9.out.step HB10.out).cell 0 6 (.int .i64 2) rfl; have o7 := (K9.out.step HB10.out).cell 0 7 (.slice none 0 0) rfl; have CD := Lib.hid (sDelt T2 w10 (HE9.out.below HB10.out) (HT9.out.below HB10.out) HTT.out); clear hb)
  | (go_at_call 19; (with_reducible refine CD.out.mono ?_); rintro e w11 ⟨A11, m11, c11, rfl, hs, hm, hb⟩; clear t0 t1 t2 o0 o1 o2 o3 o4 o5 o6 o7; have HB11 := Lib.hid (HB10.out.trans (hb.mono HB10.out.size)); have HBb := Lib.hid (alloc_below HB11.out HB11.out.size (.cells accD 67)); have CS2 := Lib.hid (sSame A11 (some ⟨w11.heap.size, 0, none⟩) m11 c11 1 1 [(0, (0, 3))] (w11.alloc (.cells accD 67)) (hs.below (alloc_below (Below.refl w11.heap.size w11) (Nat.le_refl _) _)) (accD_sv w11) (by omega)); clear hs hm hb)
  | (go_at_call 22; (with_reducible refine CA.out.mono ?_); rintro e w13 ⟨rfl, hb⟩; have HB13 := Lib.hid (HB12.out.trans (hb.mono HB12.out.size)); have CG := Lib.hid (sGetC A9 m9 c9 w13 (H9.out.1.below HB13.out) (by have := H9.out.2; omega)); clear hb)
  | (go_at_call 24; (with_reducible refine CG.out.mono ?_); rintro e w14 ⟨rfl, hb⟩; have HB14 := Lib.hid (HB13.out.trans (hb.mono HB13.out.size)); clear hb))
 go_upto_region 7 with fail
 have HB15 := Lib.hid (alloc_below (alloc_below HB14.out HB14.out.size (.cells limF 44)) (Nat.le_trans HB14.out.size (by simp)) (.cells limS 44))
 have SF := Lib.hid ((limF_sv w14).below (alloc_below (Below.refl _ (w14.alloc (.cells limF 44))) (Nat.le_refl _) (.cells limS 44)))
 have SS := Lib.hid (limS_sv (w14.alloc (.cells limF 44)))
 have HS := Lib.hid (show (w14.alloc (.cells limF 44)).heap.size = w14.heap.size + 1 by simp)
 rw [HS.out] at SS
 have HL := Lib.hid (heap_alloc_new (w14.alloc (.cells limF 44)) (.cells limS 44))
 rw [HS.out] at HL
 generalize hw15 : (w14.alloc (.cells limF 44)).alloc (.cells limS 44) = w15 at *
 clear hw15 HS HBa HBb CS1 CS2 CD CA CG HB10 HB11 HB12 HB13 HB14 he1 he2
 have CB5 := Lib.hid (sBlock T2 w15 (HE9.out.below HB15.out) (HT9.out.below HB15.out) HTT.out (some ⟨w14.heap.size, 0, none⟩) 1 1 [(0, (5, 5))] true SF.out (by decide) sBlk5)
 go_upto_region 8 with (first
  | (with_reducible refine load_tr rfl _ rfl (w2.heap.size) rfl T2 (box_range ((K9.out.step HB15.out).at 1 rfl).out) ?_)
  | (with_reducible refine load_op rfl _ rfl (w5.heap.size) rfl xX (box_range ((K9.out.step HB15.out).at 0 rfl).out) ?_)
  | (go_at_call 29; (with_reducible refine CB6.out.mono ?_); rintro e w17 ⟨rfl, hb⟩; clear t0 t1 t2 o0 o1 o2 o3 o4 o5 o6 o7; have HB17 := Lib.hid (HB16.out.trans (hb.mono HB16.out.size)); have HC17 := Lib.hid (HC16.out.trans (hb.mono HC16.out.size)); have CF1 := Lib.hid (sFits A9 (some ⟨w14.heap.size, 0, none⟩) m9 c9 1 1 [(0, (5, 5))] true w17 (H9.out.1.below HB17.out) (SF.out.below HC17.out) (by have := H9.out.2; omega) (by decide) (useIn1 _ (by decide)) sFit1); clear hb)
  | (go_at_call 29; (with_reducible refine CB5.out.mono ?_); rintro e w16 ⟨rfl, hb⟩; have HB16 := Lib.hid (HB15.out.trans (hb.mono HB15.out.size)); have HC16 := Lib.hid hb; have t0 := (K9.out.step HB16.out).cell 1 0 (.slice T2.A T2.n T2.c) rfl; have t1 := (K9.out.step HB16.out).cell 1 1 (.int .i64 T2.next) rfl; have t2 := (K9.out.step HB16.out).cell 1 2 (.slice T2.oA T2.on T2.oc) rfl; have o0 := (K9.out.step HB16.out).cell 0 0 (.int .i64 3) rfl; have o1 := (K9.out.step HB16.out).cell 0 1 (.int .i64 0) rfl; have o2 := (K9.out.step HB16.out).cell 0 2 (.string ⟨#[97]⟩) rfl; have o3 := (K9.out.step HB16.out).cell 0 3 (.string ⟨#[]⟩) rfl; have o4 := (K9.out.step HB16.out).cell 0 4 (.int .i64 2) rfl; have o5 := (K9.out.step HB16.out).cell 0 5 (.int .i64 4) rfl; have o6 := (K9.out.step HB16.out).cell 0 6 (.int .i64 2) rfl; have o7 := (K9.out.step HB16.out).cell 0 7 (.slice none 0 0) rfl; have CB6 := Lib.hid (sBlock T2 w16 (HE9.out.below HB16.out) (HT9.out.below HB16.out) HTT.out (some ⟨w14.heap.size + 1, 0, none⟩) 1 1 [(0, (5, 6))] false (SS.out.below HC16.out) (by decide) sBlk6); clear hb)
  | (go_at_call 27; (with_reducible refine CF2.out.mono ?_); rintro e w19 ⟨rfl, hb⟩; have HB19 := Lib.hid (HBd.out.trans (hb.mono HBd.out.size)); have HC19 := Lib.hid (HCd.out.trans (hb.mono HCd.out.size)); clear hb)
  | (go_at_call 27; (with_reducible refine CF1.out.mono ?_); rintro e w18 ⟨rfl, hb⟩; have HB18 := Lib.hid (HB17.out.trans (hb.mono HB17.out.size)); have HC18 := Lib.hid (HC17.out.trans (hb.mono HC17.out.size)); have HBd := Lib.hid (alloc_below HB18.out HB18.out.size (.cells limE 44)); have HCd := Lib.hid (alloc_below HC18.out HC18.out.size (.cells limE 44)); have CF2 := Lib.hid (sFits A9 (some ⟨w18.heap.size, 0, none⟩) m9 c9 1 1 [(-1, (0, 0))] false (w18.alloc (.cells limE 44)) (H9.out.1.below HBd.out) (limE_sv w18) (by have := H9.out.2; omega) (by decide) (useIn1 _ (by decide)) sFit2); clear hb))
 clear CB5 CB6 CF1 CF2 HBd HCd HB18 HC18 HB17 HC17 HB16 HC16 HB15
 have t0 := (K9.out.step HB19.out).cell 1 0 (.slice T2.A T2.n T2.c) rfl
 have t1 := (K9.out.step HB19.out).cell 1 1 (.int .i64 T2.next) rfl
 have t2 := (K9.out.step HB19.out).cell 1 2 (.slice T2.oA T2.on T2.oc) rfl
 have HAs := Lib.hid (alloc_below HB19.out HB19.out.size (.cells #[.int .i64 0, .string ⟨#[]⟩, .slice T2.A T2.n T2.c, .int .i64 T2.next, .slice T2.oA T2.on T2.oc] 39))
 have HCs := Lib.hid (alloc_below HC19.out HC19.out.size (.cells #[.int .i64 0, .string ⟨#[]⟩, .slice T2.A T2.n T2.c, .int .i64 T2.next, .slice T2.oA T2.on T2.oc] 39))
 have hf1 : ∀ (A : Option Addr) (n c : Nat) (e : Int) (W : World), (Instr.field 47 (.agg #[.slice A n c, .int .i64 e]) 1).run Tryz.prog W = .ok (.int .i64 e) W := fun _ _ _ _ _ => rfl
 have hf0 : ∀ (A : Option Addr) (n c : Nat) (e : Int) (W : World), (Instr.field 47 (.agg #[.slice A n c, .int .i64 e]) 0).run Tryz.prog W = .ok (.slice A n c) W := fun _ _ _ _ _ => rfl
 have CH := Lib.hid (sHold T2 (w19.alloc (.cells #[.int .i64 0, .string ⟨#[]⟩, .slice T2.A T2.n T2.c, .int .i64 T2.next, .slice T2.oA T2.on T2.oc] 39)) (HT9.out.below HAs.out) HTT.out (some ⟨w19.heap.size, 0, none⟩) 1 (.string ⟨#[]⟩) rfl 0 (snap_sv w19 T2))
 go_wp2_with (first
  | (go_at_call 32; (with_reducible refine CH.out.mono ?_); rintro e w20 ⟨B20, m20, d20, rfl, hs, hm, hb⟩; clear t0 t1 t2; have HB20 := Lib.hid (HAs.out.trans (hb.mono HAs.out.size)); have HC20 := Lib.hid (HCs.out.trans (hb.mono HCs.out.size)); have HBi := Lib.hid (alloc_below HB20.out HB20.out.size (.cells #[.int .i64 3, .int .i64 0] 3)); have HCi := Lib.hid (alloc_below HC20.out HC20.out.size (.cells #[.int .i64 3, .int .i64 0] 3)); have CI := Lib.hid (sInts B20 (some ⟨w20.heap.size, 0, none⟩) m20 d20 2 2 [3, 0] (w20.alloc (.cells #[.int .i64 3, .int .i64 0] 3)) (hs.below (alloc_below (Below.refl w20.heap.size w20) (Nat.le_refl _) _)) (ints_sv w20) (by omega)); clear hs hm hb)
  | (go_at_call 31; (with_reducible refine CI.out.mono ?_); rintro e w21 ⟨rfl, hb⟩; have HB21 := Lib.hid (HBi.out.trans (hb.mono HBi.out.size)); have HC21 := Lib.hid (HCi.out.trans (hb.mono HCi.out.size)); have CZ := Lib.hid (sSetNil w21); clear hb)
  | (go_at_call 15; (with_reducible refine C6.out.mono ?_); rintro e w23 ⟨A23, m23, c23, rfl, hs, hm, hb⟩; clear l0 l1 l2; have HB23 := Lib.hid (HB22.out.trans (hb.mono HB22.out.size)); have HC23 := Lib.hid (HC22.out.trans (hb.mono HC22.out.size)); have CM := Lib.hid (sLims A23 (some ⟨w14.heap.size + 1, 0, none⟩) m23 c23 1 1 [(0, (5, 6))] w23 hs (SS.out.below HC23.out) hm); clear hs hm hb)
  | (go_at_call 15; (with_reducible refine CZ.out.mono ?_); rintro e w22 ⟨A22, m22, c22, rfl, hb⟩; have HB22 := Lib.hid (HB21.out.trans (hb.mono HB21.out.size)); have HC22 := Lib.hid (HC21.out.trans (hb.mono HC21.out.size)); have l0 : w22.cell? ⟨w14.heap.size + 1, 0, none⟩ = some (.int .i64 0) := cell_of_row w22 _ 0 _ _ _ (keep_block HL.out HC22.out); have l1 : w22.cell? ⟨w14.heap.size + 1, 1, none⟩ = some (.int .i64 5) := cell_of_row w22 _ 1 _ _ _ (keep_block HL.out HC22.out); have l2 : w22.cell? ⟨w14.heap.size + 1, 2, none⟩ = some (.int .i64 6) := cell_of_row w22 _ 2 _ _ _ (keep_block HL.out HC22.out); have C6 := Lib.hid (sSetSix (some ⟨w14.heap.size, 0, none⟩) 1 1 w22 (SF.out.below HC22.out) (by decide)); clear hb)
  | (go_at_call 26; (with_reducible refine CM.out.mono ?_); rintro e w24 ⟨rfl, hb⟩; have HB24 := Lib.hid (HB23.out.trans (hb.mono HB23.out.size)); clear hb))
 go_ret
 exact ⟨rfl, HB09.out.trans (HB24.out.mono HB09.out.size)⟩
end Go.Proofs.YtemgejblnionlaaGreatDoor
