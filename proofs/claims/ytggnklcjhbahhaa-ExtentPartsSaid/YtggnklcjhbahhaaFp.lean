/-
  Contracts of the landed package: which bytes a piece has (plain), a map from numbers to chunks, whether a piece is erased.
-/
import Derived.Test.YtggnklcjhbahhaaFo
import Derived.Test.YtggnklcjhbahhaaEy
import Derived.Maps.OwnOps
import Derived.Maps.OwnSet
import Derived.Maps.Views
import Derived.WalkArith
namespace Go.Proofs.Ytggnklcjhbahhaa
open Go.RowKit Go.Shelf Go.Maps Ex
attribute [local go_sem] Oper.semAt_some
set_option maxHeartbeats 400000
set_option maxRecDepth 100000

/-! ### Plain -/
theorem fm_congr {α β : Type} {f g : α → Option β} : ∀ {l : List α}, (∀ x ∈ l, f x = g x) → l.filterMap f = l.filterMap g
  | [], _ => rfl
  | x :: l, h => by
    rw [List.filterMap_cons, List.filterMap_cons, h x (by simp), fm_congr (fun y hy => h y (by simp [hy]))]
theorem flat_congr {α β : Type} {f g : α → List β} : ∀ {l : List α}, (∀ x ∈ l, f x = g x) → l.flatMap f = l.flatMap g
  | [], _ => rfl
  | x :: l, h => by
    rw [List.flatMap_cons, List.flatMap_cons, h x (by simp), flat_congr (fun y hy => h y (by simp [hy]))]
theorem gone_each {b : List Pc} (h : ∀ p ∈ b, rightB p = true) : (eachL b).any (fun x => x.1 == -1) = b.any (fun p => p.id == -1) := by
  rw [Bool.eq_iff_iff, List.any_eq_true, List.any_eq_true]
  constructor
  · rintro ⟨x, hx, e⟩
    obtain ⟨p, hp, hx⟩ := List.mem_flatMap.1 hx
    unfold eachP at hx
    obtain ⟨i, _, rfl⟩ := List.mem_map.1 hx
    exact ⟨p, hp, e⟩
  · rintro ⟨p, hp, e⟩
    have h1 := (right_iff.1 (h p hp)).1
    refine ⟨(p.id, if 0 < p.id then p.fr + ((0 : Nat) : Int) else 0), List.mem_flatMap.2 ⟨p, hp, List.mem_map.2 ⟨0, List.mem_range.2 (by omega), rfl⟩⟩, e⟩
/-- The chunk's bytes are there. -/
def There (l : List Blb) (p : Pc) : Prop := 1 ≤ p.id → ∃ d, findL l p.id = some d ∧ p.fr + p.n ≤ (d.length : Int)
def pieceB (l : List Blb) (p : Pc) : List UInt8 := if 1 ≤ p.id then (((findL l p.id).getD []).drop p.fr.toNat).take p.n.toNat else List.replicate p.n.toNat 0
theorem there_bytes {l : List Blb} {p : Pc} (hp : rightB p = true) (h : There l p) : (∀ x ∈ eachP p, (byteOf l x).isSome = true) ∧ (eachP p).filterMap (byteOf l) = pieceB l p := by
  have hr := right_iff.1 hp
  unfold eachP pieceB
  by_cases hc : 1 ≤ p.id
  · obtain ⟨d, hd, hl⟩ := h hc
    rw [if_pos hc, hd]
    simp only [Option.getD_some]
    have hv : ∀ i < p.n.toNat, byteOf l (p.id, if 0 < p.id then p.fr + (i : Int) else 0) = d[p.fr.toNat + i]? := fun i hi => by
      unfold byteOf
      rw [if_neg (by simp only []; omega), hd, if_pos (by omega)]
      simp only [Option.bind_some]
      congr 1
      omega
    have hs : ∀ i < p.n.toNat, d[p.fr.toNat + i]? = some (d.getD (p.fr.toNat + i) 0) := fun i hi => by
      rw [List.getD_eq_getElem?_getD, List.getElem?_eq_getElem (by omega)]; rfl
    constructor
    · intro x hx
      obtain ⟨i, hi, rfl⟩ := List.mem_map.1 hx
      rw [List.mem_range] at hi
      rw [hv i hi, hs i hi]; rfl
    · rw [List.filterMap_map]
      have e : (List.range p.n.toNat).filterMap (byteOf l ∘ fun i : Nat => (p.id, if 0 < p.id then p.fr + (i : Int) else 0)) = (List.range p.n.toNat).map fun i => d.getD (p.fr.toNat + i) 0 := by
        rw [← List.filterMap_eq_map]
        refine fm_congr fun i hi => ?_
        rw [List.mem_range] at hi
        simp only [Function.comp_apply]
        rw [hv i hi, hs i hi]
      rw [e]
      refine List.ext_getElem? fun i => ?_
      rw [List.getElem?_map, List.getElem?_take, List.getElem?_drop]
      by_cases hi : i < p.n.toNat
      · rw [List.getElem?_range hi, if_pos hi, hs i hi]; rfl
      · rw [if_neg hi, List.getElem?_eq_none (by rw [List.length_range]; omega)]; rfl
  · rw [if_neg hc]
    have hv : ∀ i : Nat, byteOf l (p.id, if 0 < p.id then p.fr + (i : Int) else 0) = some 0 := fun i => by
      unfold byteOf
      rw [if_pos (by simp only []; omega)]
    constructor
    · intro x hx
      obtain ⟨i, hi, rfl⟩ := List.mem_map.1 hx
      rw [hv]; rfl
    · rw [List.filterMap_map]
      have e : (List.range p.n.toNat).filterMap (byteOf l ∘ fun i : Nat => (p.id, if 0 < p.id then p.fr + (i : Int) else 0)) = (List.range p.n.toNat).map fun _ => (0 : UInt8) := by
        rw [← List.filterMap_eq_map]
        refine fm_congr fun i hi => ?_
        simp only [Function.comp_apply]
        rw [hv]
      rw [e, List.map_const', List.length_range]
theorem there_not {l : List Blb} {p : Pc} (hp : rightB p = true) (h1 : 1 ≤ p.id) (h : ¬ There l p) : (eachP p).any (fun x => (byteOf l x).isNone) = true := by
  have hr := right_iff.1 hp
  rw [List.any_eq_true]
  refine ⟨(p.id, if 0 < p.id then p.fr + ((p.n.toNat - 1 : Nat) : Int) else 0), List.mem_map.2 ⟨p.n.toNat - 1, List.mem_range.2 (by omega), rfl⟩, ?_⟩
  unfold byteOf
  rw [if_neg (by simp only []; omega), if_pos (by omega)]
  simp only []
  cases hf : findL l p.id with
  | none => rfl
  | some d =>
    simp only [Option.bind_some]
    have : ¬ p.fr + p.n ≤ (d.length : Int) := fun hh => h fun _ => ⟨d, hf, hh⟩
    rw [List.getElem?_eq_none (by omega)]; rfl
theorem pieceB_len {l : List Blb} {p : Pc} (hp : rightB p = true) (h : There l p) : ((pieceB l p).length : Int) = p.n := by
  have hr := right_iff.1 hp
  unfold pieceB
  by_cases hc : 1 ≤ p.id
  · obtain ⟨d, hd, hl⟩ := h hc
    rw [if_pos hc, hd, Option.getD_some, List.length_take, List.length_drop]
    omega
  · rw [if_neg hc, List.length_replicate]
    omega
/-- The bytes of pieces that are all there. -/
def outB (l : List Blb) (b : List Pc) : List UInt8 := b.flatMap (pieceB l)
theorem outB_len {l : List Blb} : ∀ {b : List Pc}, (∀ p ∈ b, rightB p = true) → (∀ p ∈ b, There l p) → ((outB l b).length : Int) = sizeL b
  | [], _, _ => rfl
  | p :: b, h, ht => by
    show ((pieceB l p ++ outB l b).length : Int) = p.n + sizeL b
    have h1 := pieceB_len (h p (by simp)) (ht p (by simp))
    have h2 := outB_len (b := b) (fun q hq => h q (by simp [hq])) (fun q hq => ht q (by simp [hq]))
    rw [List.length_append]
    push_cast
    omega
theorem outB_snoc (l : List Blb) (b : List Pc) (p : Pc) : outB l (b ++ [p]) = outB l b ++ pieceB l p := by simp [outB]
theorem bytes_ok {l : List Blb} {b : List Pc} (h : ∀ p ∈ b, rightB p = true) (hg : ∀ p ∈ b, p.id ≠ -1) (ht : ∀ p ∈ b, There l p) : bytesErr (eachL b) l = 0 ∧ bytesOut (eachL b) l = outB l b := by
  constructor
  · unfold bytesErr
    rw [gone_each h, if_neg (by rw [Bool.not_eq_true, List.any_eq_false]; exact fun p hp => by simp [hg p hp]), if_neg]
    rw [Bool.not_eq_true, List.any_eq_false]
    intro x hx
    obtain ⟨p, hp, hx⟩ := List.mem_flatMap.1 hx
    have := (there_bytes (h p hp) (ht p hp)).1 x hx
    cases hb : byteOf l x
    · rw [hb] at this; cases this
    · simp
  · unfold bytesOut eachL outB
    rw [List.filterMap_flatMap]
    refine flat_congr fun p hp => (there_bytes (h p hp) (ht p hp)).2
theorem bytes_none {l : List Blb} {b : List Pc} (h : ∀ p ∈ b, rightB p = true) (hg : ∀ p ∈ b, p.id ≠ -1) {p : Pc} (hp : p ∈ b) (h1 : 1 ≤ p.id) (ht : ¬ There l p) : bytesErr (eachL b) l = 90 := by
  unfold bytesErr
  rw [gone_each h, if_neg (by rw [Bool.not_eq_true, List.any_eq_false]; exact fun p hp => by simp [hg p hp]), if_pos]
  obtain ⟨x, hx, e⟩ := List.any_eq_true.1 (there_not (h p hp) h1 ht)
  exact List.any_eq_true.2 ⟨x, List.mem_flatMap.2 ⟨p, hp, hx⟩, e⟩
theorem findL_snoc (x : Blb) (id : Int) : ∀ l : List Blb, findL (l ++ [x]) id = match findL l id with | some d => some d | none => if x.1 = id then some x.2 else none
  | [] => by simp [findL]
  | y :: l => by
    show findL (y :: (l ++ [x])) id = _
    simp only [findL]
    by_cases h : y.1 = id
    · rw [if_pos h, if_pos h]
    · rw [if_neg h, if_neg h]
      exact findL_snoc x id l

/-! ### A map from numbers to slices -/
theorem keyedInt : Keyed Try.prog 3 := int_keyed Try.underlying3
abbrev heldV (v : Value) : Option (DataW Value × List MemPlace) := some (.held v, [])
theorem zeroSl (w : World) : (zeroValue 55).run Try.prog w = .ok (.slice none 0 0) w := by kernel_rfl
theorem key_int {x : Int} (h0 : 0 ≤ x) (h1 : x < 4096) : keyOf Try.prog 3 (.int .i64 x) = some (.int .i64 x) := by
  have hw := wf_i64 (n := x) (by omega) (by omega)
  simp [keyOf, mapKey, Try.underlying3, hw]
/-- Block g is a map from numbers to slices that reads as F. -/
def SlM (w : World) (g n : Nat) (F : Int → Option Value) : Prop :=
  ∃ D : DataW Value, w.ownsMap Try.prog 3 heldV g n D ∧ IsMap D ∧ ∀ x : Int, 0 ≤ x → x < 4096 → D.atKey (.int .i64 x) (.held (.slice none 0 0)) = .held ((F x).getD (.slice none 0 0)) ∧ Maps.has D (.int .i64 x) = (F x).isSome
section
variable {w w' : World} {g n : Nat} {F : Int → Option Value}
theorem SlM.lt (h : SlM w g n F) : g < w.heap.size := by obtain ⟨D, h, _⟩ := h; exact h.lt
theorem SlM.keep (h : SlM w g n F) {B : Nat} (hb : Below B w w') (hg : g < B) : SlM w' g n F := by
  obtain ⟨D, h1, h2, h3⟩ := h
  obtain ⟨es, clock, h4, h5⟩ := h1
  exact ⟨D, ⟨es, clock, (hb.block _ hg).trans h4, h5⟩, h2, h3⟩
theorem SlM.made (w : World) : SlM (w.alloc (.map #[] 0)) w.heap.size 0 (fun _ => none) := ⟨.map [], World.ownsMap_made _ _ _ _, isMap_empty, fun _ _ _ => ⟨rfl, rfl⟩⟩
theorem SlM.look (h : SlM w g n F) {x : Int} (h0 : 0 ≤ x) (h1 : x < 4096) : (Instr.lookup 97 (.map (some g)) (.int .i64 x) false).run Try.prog w = .ok ((F x).getD (.slice none 0 0)) w := by
  obtain ⟨D, hm, h2, h3⟩ := h
  obtain ⟨v, ps, hrun, hv⟩ := hm.lookup keyedInt Try.underlying97 (zeroSl w) (zd := .held (.slice none 0 0)) (zp := []) rfl (key_int h0 h1)
  rw [(h3 x h0 h1).1] at hv
  injection hv with hv
  injection hv with hv _
  injection hv with hv
  rw [hrun, hv]
theorem SlM.look_ok (h : SlM w g n F) {x : Int} (h0 : 0 ≤ x) (h1 : x < 4096) : (Instr.lookup 97 (.map (some g)) (.int .i64 x) true).run Try.prog w = .ok (.tuple #[(F x).getD (.slice none 0 0), .bool (F x).isSome]) w := by
  obtain ⟨D, hm, h2, h3⟩ := h
  obtain ⟨v, ps, hrun, hv⟩ := hm.look_ok keyedInt Try.underlying97 (zeroSl w) (zd := .held (.slice none 0 0)) (zp := []) rfl (key_int h0 h1)
  rw [(h3 x h0 h1).1] at hv
  injection hv with hv
  injection hv with hv _
  injection hv with hv
  rw [hrun, hv, (h3 x h0 h1).2]
theorem SlM.update (h : SlM w g n F) (hn : n < maxLen) {x : Int} (h0 : 0 ≤ x) (h1 : x < 4096) (v : Value) :
    ∃ w', (Instr.mapUpdate 97 (.map (some g)) (.int .i64 x) v).run Try.prog w = .ok () w' ∧ SlM w' g (n + 1) (fun y => if y = x then some v else F y) ∧ w.grownBy w' (some g) := by
  obtain ⟨D, hm, h2, h3⟩ := h
  obtain ⟨w', hrun, hown, hg⟩ := hm.update keyedInt Try.underlying97 hn (key_int h0 h1) (val := v) (d := .held v) (ps := []) rfl
  refine ⟨w', hrun, ⟨_, hown, h2.put _ _, fun y y0 y1 => ?_⟩, hg⟩
  by_cases e : y = x
  · subst e
    rw [atKey_put_same h2 (show WideAt.IsKeyLit (.int .i64 y) from trivial), has_put_same h2 (show WideAt.IsKeyLit (.int .i64 y) from trivial)]; simp
  · have hne : (Lit.int .i64 y) ≠ .int .i64 x := fun e' => e (by injection e')
    rw [atKey_put_other hne, has_put_other hne, (h3 y y0 y1).1, (h3 y y0 y1).2]; simp [e]
theorem SlM.mono {n' : Nat} (h : SlM w g n F) (hn : n ≤ n') : SlM w g n' F := by
  obtain ⟨D, h1, h2, h3⟩ := h; exact ⟨D, h1.mono hn, h2, h3⟩
end
/-- F has the first chunk of each number. -/
def Firsts (w : World) (F : Int → Option Value) (l : List Blb) : Prop :=
  ∀ id, match findL l id with | none => F id = none | some d => ∃ B c, F id = some (.slice B d.length c) ∧ d.length ≤ c ∧ Byt w B d
theorem Firsts.nil (w : World) : Firsts w (fun _ => none) [] := fun _ => rfl
theorem Firsts.below {w w' : World} {F : Int → Option Value} {l : List Blb} (h : Firsts w F l) (hb : Below w.heap.size w w') : Firsts w' F l := fun id => by
  have h1 := h id
  cases hf : findL l id with
  | none => rw [hf] at h1; exact h1
  | some d =>
    rw [hf] at h1
    obtain ⟨B, c, h2, h3, h4⟩ := h1
    exact ⟨B, c, h2, h3, h4.below hb⟩
theorem Firsts.again {w : World} {F : Int → Option Value} {l : List Blb} (h : Firsts w F l) {x : Blb} {v : Value} (hx : F x.1 = some v) : Firsts w F (l ++ [x]) := fun id => by
  have h1 := h id
  rw [findL_snoc]
  cases hf : findL l id with
  | none =>
    rw [hf] at h1
    have hne : x.1 ≠ id := fun e => by rw [e, h1] at hx; cases hx
    simp only [if_neg hne]
    exact h1
  | some d => rw [hf] at h1; exact h1
theorem Firsts.new {w : World} {F : Int → Option Value} {l : List Blb} (h : Firsts w F l) {x : Blb} {B : Option Addr} {c : Nat} (hx : F x.1 = none) (hc : x.2.length ≤ c) (hB : Byt w B x.2) : Firsts w (fun y => if y = x.1 then some (.slice B x.2.length c) else F y) (l ++ [x]) := fun id => by
  have h1 := h id
  rw [findL_snoc]
  cases hf : findL l id with
  | none =>
    rw [hf] at h1
    by_cases e : x.1 = id
    · simp only [if_pos e]
      exact ⟨B, c, by rw [if_pos e.symm], hc, hB⟩
    · simp only [if_neg e]
      rw [if_neg (fun e' => e e'.symm)]; exact h1
  | some d =>
    rw [hf] at h1
    obtain ⟨B', c', h2, h3, h4⟩ := h1
    have e : id ≠ x.1 := fun e => by rw [e, hx] at h2; cases h2
    exact ⟨B', c', by show (if id = x.1 then _ else F id) = _; rw [if_neg e]; exact h2, h3, h4⟩

/-! ### Whether a piece is erased -/
theorem gone1_any (p : Pc) (w : World) :
    Calls Try.prog 59 #[.agg #[.int .i64 p.id, .int .i64 p.fr, .int .i64 p.n]] w fun e w' => e = .returned (.bool (p.id == -1)) ∧ Below w.heap.size w w' := by
  go_enter Try.func59, Try.ntmps59
  go_wp2
  go_ret
  exact ⟨rfl, by go_grown⟩
theorem gone1_c {p : Pc} {r : Bool} (h : (p.id == -1) = r) (w : World) :
    Calls Try.prog 59 #[.agg #[.int .i64 p.id, .int .i64 p.fr, .int .i64 p.n]] w fun e w' => e = .returned (.bool r) ∧ Below w.heap.size w w' := by
  subst h
  exact gone1_any p w
set_option maxHeartbeats 1000000 in
theorem indexGone_any (A : Option Addr) (n c : Nat) (l : List Pc) (hn : l.length = n) (hl : n ≤ 4294967296) (w : World) (hA : Pcs w A l) :
    Calls Try.prog 73 #[.slice A n c, .func (.func 59) #[] #[]] w fun e w' => ∃ i : Int, e = .returned (.int .i64 i) ∧ decide (0 ≤ i) = l.any (fun p => p.id == -1) ∧ Below w.heap.size w w' := by
  have HN := Lib.hid hn
  have SA := Lib.hid hA
  clear hn hA
  go_enter Try.func73, Try.ntmps73
  go_wp2
  go_loopw [8] (fun i wr => ∃ k : Nat, k ≤ n ∧ i = .int .i64 k ∧ (l.take k).any (fun p => p.id == -1) = false ∧ Below w.heap.size w wr) (fun i _ => n - (intOf i).toNat)
  case atStart => exact ⟨0, Nat.zero_le _, rfl, rfl, Below.refl _ _⟩
  case round =>
    obtain ⟨k, hk, rfl, hno, hbw⟩ := hrel
    have HB := Lib.hid hbw
    have HNO := Lib.hid hno
    clear hno
    by_cases hlt : k < n
    · have hkl : k < l.length := by rw [HN.out]; exact hlt
      have hg : l[k]? = some l[k] := List.getElem?_eq_getElem hkl
      obtain ⟨p, hp⟩ : ∃ p, l[k] = p := ⟨_, rfl⟩
      rw [hp] at hg
      obtain ⟨g, o, hA', hgw, q0, q1, q2⟩ := (SA.out.below hbw).at_ hg
      subst hA'
      have kn : (k : Int) < (n : Int) := Int.ofNat_lt.2 hlt
      have k00 : (0 : Int) ≤ (k : Int) := Int.natCast_nonneg k
      obtain ⟨r, hr⟩ : ∃ r, (p.id == -1) = r := ⟨_, rfl⟩
      have CG := Lib.hid (gone1_c hr)
      have HTS := Lib.hid (show (l.take (k + 1)).any (fun p => p.id == -1) = r by rw [List.take_succ_eq_append_getElem hkl, hp, List.any_append, HNO.out]; simp [hr])
      have HAL := Lib.hid (show r = true → l.any (fun p => p.id == -1) = true from fun h => List.any_eq_true.2 ⟨p, List.mem_of_getElem? hg, hr.trans h⟩)
      clear hp hg hkl hbw hgw hr
      cases r
      · go_wp2_with (go_at_call 59; refine (CG.out _).mono ?_; rintro e w1 ⟨rfl, hb1⟩; have HB1 := Lib.hid (HB.out.trans (hb1.mono HB.out.size)); clear hb1)
        go_roundw
        case rel => exact ⟨k + 1, by omega, by go_num, HTS.out, HB1.out⟩
        case measure => simp [intOf]; omega
      · go_wp2_with (go_at_call 59; refine (CG.out _).mono ?_; rintro e w1 ⟨rfl, hb1⟩; have HB1 := Lib.hid (HB.out.trans (hb1.mono HB.out.size)); clear hb1)
        go_ret
        exact ⟨_, rfl, by rw [HAL.out (by simp)]; exact decide_eq_true k00, HB1.out⟩
    · obtain rfl : k = n := by omega
      have HK := Lib.hid (show l.take k = l from List.take_of_length_le (by rw [HN.out]; exact Nat.le_refl _))
      go_wp2
      go_ret
      refine ⟨_, rfl, ?_, HB.out⟩
      have := HNO.out
      rw [HK.out] at this
      rw [this]; rfl
theorem containsGone_any (A : Option Addr) (n c : Nat) (l : List Pc) (hn : l.length = n) (hl : n ≤ 4294967296) (w : World) (hA : Pcs w A l) :
    Calls Try.prog 58 #[.slice A n c, .func (.func 59) #[] #[]] w fun e w' => e = .returned (.bool (l.any (fun p => p.id == -1))) ∧ Below w.heap.size w w' := by
  have C := Lib.hid (indexGone_any A n c l hn hl w hA)
  clear hn hl hA
  go_enter Try.func58, Try.ntmps58
  go_wp2_with (go_at_call 73; refine C.out.mono ?_; rintro e w1 ⟨i, rfl, hi, hb⟩; have HI := Lib.hid hi; have HB := Lib.hid hb; clear hi hb)
  all_goals
    go_ret
    exact ⟨ret_bool HI.out, HB.out⟩
end Go.Proofs.Ytggnklcjhbahhaa
