/-
  Texts QeEa, put together by program.
-/
import Derived.WalkKit
import Derived.Lib.Hide
namespace Go.Proofs.YtemgejblnionlaaGreatDoor.Ext
set_option maxRecDepth 100000
namespace Ex
structure Pc where
 id : Int
 fr : Int
 n : Int
 deriving DecidableEq
def rightB (p : Pc) : Bool := decide (1 ≤ p.n) && decide (p.n ≤ 1048576) && decide (0 ≤ p.fr) && (if p.id = 0 ∨ p.id = -1 then decide (p.fr = 0) else decide (1 ≤ p.id) && decide (p.id < 4096) && decide (p.fr + p.n ≤ 1048576))
def oneB (p q : Pc) : Bool := decide (p.id = q.id) && (decide (p.id ≤ 0) || decide (q.fr = p.fr + p.n))
def sizeL : List Pc → Int
 | [] => 0
 | p :: l => p.n + sizeL l
def noJoin : List Pc → Bool
 | [] => true
 | [_] => true
 | p :: q :: l => !oneB p q && noJoin (q :: l)
def validL (l : List Pc) : Bool := l.all rightB && noJoin l && decide (sizeL l ≤ 1048576)
def eachP (p : Pc) : List (Int × Int) := (List.range p.n.toNat).map fun i : Nat => (p.id, if 0 < p.id then p.fr + (i : Int) else 0)
def eachL (l : List Pc) : List (Int × Int) := l.flatMap eachP
theorem right_iff {p : Pc} : rightB p = true ↔ 1 ≤ p.n ∧ p.n ≤ 1048576 ∧ 0 ≤ p.fr ∧ (((p.id = 0 ∨ p.id = -1) ∧ p.fr = 0) ∨ (1 ≤ p.id ∧ p.id < 4096 ∧ p.fr + p.n ≤ 1048576)) := by
 unfold rightB
 by_cases h : p.id = 0 ∨ p.id = -1
 · simp only [if_pos h, Bool.and_eq_true, decide_eq_true_eq]
   omega
 · simp only [if_neg h, Bool.and_eq_true, decide_eq_true_eq]
   omega
theorem one_iff {p q : Pc} : oneB p q = true ↔ p.id = q.id ∧ (p.id ≤ 0 ∨ q.fr = p.fr + p.n) := by
 unfold oneB
 simp
theorem eachP_len (p : Pc) : (eachP p).length = p.n.toNat := by simp [eachP]
theorem eachP_get {p : Pc} {i : Nat} (h : i < p.n.toNat) : (eachP p)[i]? = some (p.id, if 0 < p.id then p.fr + (i : Int) else 0) := by simp [eachP, h]
theorem eachL_cons (p : Pc) (l : List Pc) : eachL (p :: l) = eachP p ++ eachL l := rfl
theorem eachL_append (l m : List Pc) : eachL (l ++ m) = eachL l ++ eachL m := by simp [eachL]
theorem eachL_one (p : Pc) : eachL [p] = eachP p := by simp [eachL]
theorem sizeL_append (l m : List Pc) : sizeL (l ++ m) = sizeL l + sizeL m := by
 induction l with
 | nil => simp [sizeL]
 | cons p l ih => simp [sizeL, ih]; omega
theorem eachL_len {l : List Pc} (h : ∀ p ∈ l, 0 ≤ p.n) : ((eachL l).length : Int) = sizeL l := by
 induction l with
 | nil => rfl
 | cons p l ih =>
   have h0 := h p (by simp)
   rw [eachL_cons, List.length_append, eachP_len, sizeL, ← ih (fun q hq => h q (by simp [hq]))]
   omega
structure Form (l : List Pc) : Prop where
 right : ∀ p ∈ l, rightB p = true
 join : noJoin l = true
theorem valid_iff {l : List Pc} : validL l = true ↔ Form l ∧ sizeL l ≤ 1048576 := by
 unfold validL
 simp only [Bool.and_eq_true, List.all_eq_true, decide_eq_true_eq]
 constructor
 · rintro ⟨⟨h1, h2⟩, h3⟩; exact ⟨⟨h1, h2⟩, h3⟩
 · rintro ⟨⟨h1, h2⟩, h3⟩; exact ⟨⟨h1, h2⟩, h3⟩
theorem Form.tail {p : Pc} {l : List Pc} (h : Form (p :: l)) : Form l :=
 ⟨fun q hq => h.right q (by simp [hq]), by
  have := h.join
  cases l with
  | nil => rfl
  | cons q l =>
    simp only [noJoin, Bool.and_eq_true] at this
    exact this.2⟩
theorem Form.pos {l : List Pc} (h : Form l) : ∀ p ∈ l, 1 ≤ p.n := fun p hp => (right_iff.1 (h.right p hp)).1
theorem Form.len {l : List Pc} (h : Form l) : ((eachL l).length : Int) = sizeL l := eachL_len fun p hp => by have := h.pos p hp; omega
theorem Form.nil : Form [] := ⟨fun _ h => (by cases h), rfl⟩
theorem first_le {p q : Pc} {l m : List Pc} (hp : Form (p :: l)) (hq : Form (q :: m)) (h : eachL (p :: l) = eachL (q :: m)) : q.n ≤ p.n := by
 by_cases hlt : p.n < q.n
 · exfalso
   have rp := right_iff.1 (hp.right p (by simp))
   have rq := right_iff.1 (hq.right q (by simp))
   rw [eachL_cons, eachL_cons] at h
   have h0 := congrArg (fun x : List (Int × Int) => x[0]?) h
   rw [List.getElem?_append_left (by rw [eachP_len]; omega), List.getElem?_append_left (by rw [eachP_len]; omega), eachP_get (by omega), eachP_get (by omega)] at h0
   simp only [Option.some.injEq, Prod.mk.injEq] at h0
   obtain ⟨e1, e2⟩ := h0
   have h1 := congrArg (fun x : List (Int × Int) => x[p.n.toNat]?) h
   rw [List.getElem?_append_right (by rw [eachP_len]; omega), eachP_len, Nat.sub_self, List.getElem?_append_left (by rw [eachP_len]; omega), eachP_get (by omega)] at h1
   cases l with
   | nil => simp [eachL] at h1
   | cons r l =>
     have rr := right_iff.1 (hp.right r (by simp))
     rw [eachL_cons, List.getElem?_append_left (by rw [eachP_len]; omega), eachP_get (by omega)] at h1
     simp only [Option.some.injEq, Prod.mk.injEq] at h1
     obtain ⟨e3, e4⟩ := h1
     have hj := hp.join
     simp only [noJoin, Bool.and_eq_true, Bool.not_eq_true'] at hj
     have : oneB p r = true := by
      rw [one_iff]
      refine ⟨by omega, ?_⟩
      by_cases hid : p.id ≤ 0
      · exact .inl hid
      · right
        rw [if_pos (by omega), if_pos (by omega)] at e2 e4
        omega
     rw [this] at hj
     exact absurd hj.1 (by decide)
 · omega
theorem form_eq : ∀ {l m : List Pc}, Form l → Form m → eachL l = eachL m → l = m
 | [], [], _, _, _ => rfl
 | [], q :: m, _, hm, h => by
   have rq := right_iff.1 (hm.right q (by simp))
   have := congrArg List.length h
   rw [eachL_cons, List.length_append, eachP_len] at this
   simp [eachL] at this
   omega
 | p :: l, [], hl, _, h => by
   have rp := right_iff.1 (hl.right p (by simp))
   have := congrArg List.length h
   rw [eachL_cons, List.length_append, eachP_len] at this
   simp [eachL] at this
   omega
 | p :: l, q :: m, hl, hm, h => by
   have hn : p.n = q.n := Int.le_antisymm (first_le hm hl h.symm) (first_le hl hm h)
   have rp := right_iff.1 (hl.right p (by simp))
   have rq := right_iff.1 (hm.right q (by simp))
   rw [eachL_cons, eachL_cons] at h
   have h0 := congrArg (fun x : List (Int × Int) => x[0]?) h
   rw [List.getElem?_append_left (by rw [eachP_len]; omega), List.getElem?_append_left (by rw [eachP_len]; omega), eachP_get (by omega), eachP_get (by omega)] at h0
   simp only [Option.some.injEq, Prod.mk.injEq] at h0
   obtain ⟨e1, e2⟩ := h0
   have hf : p.fr = q.fr := by
    by_cases hid : 0 < p.id
    · rw [if_pos hid, if_pos (by omega)] at e2
      omega
    · omega
   have hpq : p = q := by
    obtain ⟨a, b, c⟩ := p
    obtain ⟨a', b', c'⟩ := q
    simp only [] at e1 hf hn
    subst e1 hf hn
    rfl
   subst hpq
   rw [form_eq hl.tail hm.tail (List.append_cancel_left h)]
def addP (out : List Pc) (p : Pc) : List Pc :=
 if p.n ≤ 0 then out else
 match out.getLast? with
 | some q => if oneB q p = true then out.dropLast ++ [{ q with n := q.n + p.n }] else out ++ [p]
 | none => out ++ [p]
def normL (l : List Pc) : List Pc := l.foldl addP []
theorem normL_snoc (l : List Pc) (p : Pc) : normL (l ++ [p]) = addP (normL l) p := by simp [normL]
theorem noJoin_snoc : ∀ (l : List Pc) (p : Pc), noJoin (l ++ [p]) = (noJoin l && (match l.getLast? with | some q => !oneB q p | none => true))
 | [], p => rfl
 | [q], p => by simp [noJoin]
 | q :: r :: l, p => by
   have ih := noJoin_snoc (r :: l) p
   show (!oneB q r && noJoin ((r :: l) ++ [p])) = ((!oneB q r && noJoin (r :: l)) && _)
   rw [ih, Bool.and_assoc]
   rw [List.getLast?_cons_cons]
theorem noJoin_last {l : List Pc} {p q : Pc} (h : noJoin (l ++ [p]) = true) (h1 : q.id = p.id) (h2 : q.fr = p.fr) : noJoin (l ++ [q]) = true := by
 rw [noJoin_snoc] at h ⊢
 simp only [Bool.and_eq_true] at h ⊢
 refine ⟨h.1, ?_⟩
 have h' := h.2
 cases hl : l.getLast? with
 | none => rfl
 | some r =>
   rw [hl] at h'
   simp only [Bool.not_eq_true'] at h' ⊢
   unfold oneB at h' ⊢
   rw [h1, h2]
   exact h'
theorem last_split {l : List Pc} {q : Pc} (h : l.getLast? = some q) : l = l.dropLast ++ [q] := by
 have hne : l ≠ [] := fun e => by rw [e] at h; simp at h
 have := List.dropLast_concat_getLast hne
 rw [List.getLast?_eq_some_getLast hne] at h
 rw [← Option.some.inj h, this]
theorem join_bytes {p q : Pc} (h : oneB q p = true) (hq : 0 ≤ q.n) (hp : 0 ≤ p.n) : eachP { q with n := q.n + p.n } = eachP q ++ eachP p := by
 obtain ⟨h1, h2⟩ := one_iff.1 h
 have e : (q.n + p.n).toNat = q.n.toNat + p.n.toNat := by omega
 unfold eachP
 simp only []
 rw [e, List.range_add, List.map_append, List.map_map]
 congr 1
 refine List.map_congr_left fun i _ => ?_
 simp only [Function.comp_apply]
 rw [h1]
 by_cases hid : 0 < p.id
 · rw [if_pos hid, if_pos hid]
   congr 1
   rcases h2 with h2 | h2
   · omega
   · push_cast
     omega
 · rw [if_neg hid, if_neg hid]
theorem sizeL_take {l : List Pc} {k : Nat} {p : Pc} (h : l[k]? = some p) : sizeL (l.take (k + 1)) = sizeL (l.take k) + p.n := by
 obtain ⟨hk, rfl⟩ := List.getElem?_eq_some_iff.1 h
 rw [List.take_succ_eq_append_getElem hk, sizeL_append]
 simp [sizeL]
theorem sizeL_pos {l : List Pc} (h : ∀ p ∈ l, 0 ≤ p.n) : 0 ≤ sizeL l := by
 induction l with
 | nil => simp [sizeL]
 | cons p l ih =>
   have := h p (by simp)
   have := ih (fun q hq => h q (by simp [hq]))
   simp only [sizeL]
   omega
theorem sizeL_le {l : List Pc} (h : ∀ p ∈ l, 0 ≤ p.n) (k : Nat) : 0 ≤ sizeL (l.take k) ∧ sizeL (l.take k) ≤ sizeL l := by
 have h1 : sizeL l = sizeL (l.take k) + sizeL (l.drop k) := by rw [← sizeL_append, List.take_append_drop]
 have h2 := sizeL_pos (l := l.drop k) (fun p hp => h p (List.mem_of_mem_drop hp))
 have h3 := sizeL_pos (l := l.take k) (fun p hp => h p (List.mem_of_mem_take hp))
 omega
theorem valid_take {l : List Pc} {k : Nat} {p : Pc} (h : l[k]? = some p) : validL (l.take (k + 1)) = true ↔ (validL (l.take k) = true ∧ rightB p = true ∧ (∀ q, 0 < k → l[k - 1]? = some q → oneB q p = false) ∧ sizeL (l.take k) + p.n ≤ 1048576) := by
 obtain ⟨hk, hp⟩ := List.getElem?_eq_some_iff.1 h
 have hs := sizeL_take h
 rw [valid_iff, valid_iff, hs, List.take_succ_eq_append_getElem hk, hp]
 have hlast : ∀ q, (l.take k).getLast? = some q ↔ (0 < k ∧ l[k - 1]? = some q) := fun q => by
  rw [List.getLast?_eq_getElem?, List.length_take, Nat.min_eq_left (by omega), List.getElem?_take]
  by_cases h0 : 0 < k
  · rw [if_pos (by omega)]; simp [h0]
  · have : k = 0 := by omega
    subst this
    simp
 constructor
 · rintro ⟨⟨h1, h2⟩, h3⟩
   have hj := h2
   rw [noJoin_snoc, Bool.and_eq_true] at hj
   have rp := h1 p (by simp)
   have hpn := (right_iff.1 rp).1
   refine ⟨⟨⟨fun q hq => h1 q (by simp [hq]), hj.1⟩, by omega⟩, rp, fun q h0 hq => ?_, h3⟩
   have := hj.2
   rw [(hlast q).2 ⟨h0, hq⟩] at this
   simpa using this
 · rintro ⟨⟨⟨h1, h2⟩, h3⟩, h4, h5, h6⟩
   refine ⟨⟨fun q hq => ?_, ?_⟩, h6⟩
   · rcases List.mem_append.1 hq with hq | hq
     · exact h1 q hq
     · rw [List.mem_singleton.1 hq]; exact h4
   · rw [noJoin_snoc, h2, Bool.true_and]
     cases hl : (l.take k).getLast? with
     | none => rfl
     | some q =>
       obtain ⟨h0, hq⟩ := (hlast q).1 hl
       simp [h5 q h0 hq]
theorem valid_mono {l : List Pc} (k : Nat) (h : validL l = true) : validL (l.take k) = true := by
 rw [valid_iff] at h ⊢
 obtain ⟨⟨h1, h2⟩, h3⟩ := h
 have hsz := sizeL_le (l := l) (fun p hp => by have := (right_iff.1 (h1 p hp)).1; omega) k
 refine ⟨⟨fun p hp => h1 p (List.mem_of_mem_take hp), ?_⟩, by omega⟩
 clear hsz h1 h3
 induction l generalizing k with
 | nil => simp [noJoin]
 | cons p l ih =>
   cases k with
   | zero => rfl
   | succ k =>
     cases l with
     | nil => simp [noJoin]
     | cons q l =>
       simp only [noJoin, Bool.and_eq_true] at h2
       have := ih k h2.2
       cases k with
       | zero => rfl
       | succ k =>
         simp only [List.take_succ_cons] at this ⊢
         simp only [noJoin, Bool.and_eq_true]
         exact ⟨h2.1, this⟩
theorem addP_form {out : List Pc} {p : Pc} (hf : Form out) (hp : p.n ≤ 0 ∨ rightB p = true) (hs : (eachL out).length + (eachP p).length ≤ 1048576) : Form (addP out p) ∧ eachL (addP out p) = eachL out ++ eachP p := by
 unfold addP
 by_cases h0 : p.n ≤ 0
 · rw [if_pos h0]
   have : eachP p = [] := List.eq_nil_of_length_eq_zero (by rw [eachP_len]; omega)
   rw [this, List.append_nil]
   exact ⟨hf, rfl⟩
 · rw [if_neg h0]
   have hr : rightB p = true := by rcases hp with h | h; omega; exact h
   cases hl : out.getLast? with
   | none =>
     obtain rfl : out = [] := by simpa using hl
     exact ⟨⟨fun q hq => by simp at hq; rw [hq]; exact hr, rfl⟩, by simp [eachL]⟩
   | some q =>
     have hsp := last_split hl
     have hq := right_iff.1 (hf.right q (by rw [hsp]; simp))
     have hpp := right_iff.1 hr
     simp only []
     by_cases ho : oneB q p = true
     · rw [if_pos ho]
       obtain ⟨o1, o2⟩ := one_iff.1 ho
       have hb := join_bytes ho (by omega) (by omega)
       have he : eachL out = eachL out.dropLast ++ eachP q := by rw [← eachL_one, ← eachL_append, ← hsp]
       have hlen : (eachP q).length ≤ (eachL out).length := by rw [he, List.length_append]; omega
       rw [eachP_len] at hs hlen
       refine ⟨⟨fun r hr' => ?_, ?_⟩, ?_⟩
       · rcases List.mem_append.1 hr' with h | h
         · exact hf.right r (by rw [hsp]; exact List.mem_append_left _ h)
         · rw [List.mem_singleton.1 h, right_iff]
           simp only []
           omega
       · have hj := hf.join
         rw [hsp] at hj
         exact noJoin_last hj rfl rfl
       · rw [eachL_append, eachL_one, hb, ← List.append_assoc, ← he]
     · rw [if_neg ho]
       refine ⟨⟨fun r hr' => ?_, ?_⟩, by rw [eachL_append, eachL_one]⟩
       · rcases List.mem_append.1 hr' with h | h
         · exact hf.right r h
         · rw [List.mem_singleton.1 h]; exact hr
       · rw [noJoin_snoc, hf.join, hl]
         simpa using ho
theorem fold_form : ∀ (l out : List Pc), Form out → (∀ p ∈ l, p.n ≤ 0 ∨ rightB p = true) → (eachL out).length + (eachL l).length ≤ 1048576 → Form (l.foldl addP out) ∧ eachL (l.foldl addP out) = eachL out ++ eachL l
 | [], out, hf, _, _ => ⟨hf, by simp [eachL]⟩
 | p :: l, out, hf, hp, hs => by
   rw [eachL_cons, List.length_append] at hs
   obtain ⟨h1, h2⟩ := addP_form hf (hp p (by simp)) (by omega)
   have h2' := congrArg List.length h2
   rw [List.length_append] at h2'
   obtain ⟨h3, h4⟩ := fold_form l (addP out p) h1 (fun q hq => hp q (by simp [hq])) (by omega)
   refine ⟨h3, ?_⟩
   show eachL (l.foldl addP (addP out p)) = _
   rw [h4, h2, eachL_cons, List.append_assoc]
theorem norm_form {l : List Pc} (hp : ∀ p ∈ l, p.n ≤ 0 ∨ rightB p = true) (hs : (eachL l).length ≤ 1048576) : Form (normL l) ∧ eachL (normL l) = eachL l := by
 have := fold_form l [] Form.nil hp (by simpa [eachL] using hs)
 simpa [eachL, normL] using this
theorem addP_len (out : List Pc) (p : Pc) : (addP out p).length ≤ out.length + 1 := by
 unfold addP
 split
 · omega
 · split
   · split
     · simp
     · simp
   · simp
theorem normL_len (l : List Pc) : (normL l).length ≤ l.length := by
 have : ∀ (l out : List Pc), (l.foldl addP out).length ≤ out.length + l.length := by
  intro l
  induction l with
  | nil => intro out; simp
  | cons p l ih =>
    intro out
    have h1 := ih (addP out p)
    have h2 := addP_len out p
    simp only [List.foldl_cons, List.length_cons]
    omega
 simpa [normL] using this l []
end Ex
end Go.Proofs.YtemgejblnionlaaGreatDoor.Ext
