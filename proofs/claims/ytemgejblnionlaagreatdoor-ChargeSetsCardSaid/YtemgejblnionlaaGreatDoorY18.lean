/-
  Texts Le, put together by program.
-/
import Derived.Test.YtemgejblnionlaaGreatDoorY16
import Derived.Test.YtemgejblnionlaaGreatDoorY17
namespace Go.Proofs.YtemgejblnionlaaGreatDoor
open Go.RowKit
set_option maxHeartbeats 1600000
set_option maxRecDepth 100000
theorem aces_of_sv {w : World} {A : Option Addr} {n c : Nat} {l : List Ac} (h : Sv w A n c 5 (encs encA l)) : l.length = n ∧ Acl.Aces w A l := by
 refine ⟨h.plen encA_len (by decide), fun hne => ?_⟩
 obtain ⟨a0, ha0⟩ : ∃ a, l[0]? = some a := by cases l with
  | nil => exact absurd rfl hne
  | cons a _ => exact ⟨a, rfl⟩
 obtain ⟨g, o, hA, hg, _⟩ := Sv.at_ encA_len (by decide) h ha0
 refine ⟨g, o, hA, hg, fun j a ha => ?_⟩
 obtain ⟨g', o', hA', _, hc⟩ := Sv.at_ encA_len (by decide) h ha
 rw [hA] at hA'
 injection hA' with hA'
 injection hA' with h1 h2
 subst h1 h2
 exact ⟨hc 0 _ (by decide) rfl, hc 1 _ (by decide) rfl, hc 2 _ (by decide) rfl, hc 3 _ (by decide) rfl, hc 4 _ (by decide) rfl⟩
def allowsB (l : List Ac) (who owner right : Int) : Bool := bits .andNot .i64 right (Acl.Ap.rightsV l who owner).toInt == 0
def childB (l : List Ac) (d : Bool) : List Ac := Acl.Ap.childL l (Acl.Ap.rcOf d)
theorem addC_len (out : List Ac) (e : Ac) : (Acl.Ap.addC out e).length ≤ out.length + 1 := by
 unfold Acl.Ap.addC
 split <;> simp
theorem childB_len (l : List Ac) (d : Bool) : (childB l d).length ≤ l.length := by
 have h : ∀ (rc : Int) (l out : List Ac), (l.foldl (Acl.Ap.stepC rc) out).length ≤ out.length + l.length := by
  intro rc l
  induction l with
  | nil => intro out; simp
  | cons e l ih =>
    intro out
    have h1 := ih (Acl.Ap.stepC rc out e)
    have h2 : (Acl.Ap.stepC rc out e).length ≤ out.length + 1 := by
     unfold Acl.Ap.stepC
     split
     · exact addC_len _ _
     · omega
    simp only [List.foldl_cons, List.length_cons]
    omega
 have := h (Acl.Ap.rcOf d) l []
 simp only [List.length_nil, Nat.zero_add] at this
 exact this
theorem acl_allows (A : Option Addr) (n c : Nat) (l : List Ac) (who owner right : Int) (W : World) (h : Sv W A n c 5 (encs encA l)) (hn : n ≤ 1000) :
 Calls Tryz.prog 167 #[.slice A n c, .int .i64 who, .int .i64 owner, .int .i64 right] W fun e w' => e = .returned (.bool (allowsB l who owner right)) ∧ Below W.heap.size W w' :=
 Acl.rallows_any A n c l (aces_of_sv h).1 hn who owner right W (aces_of_sv h).2
theorem acl_child (A : Option Addr) (n c : Nat) (l : List Ac) (d : Bool) (W : World) (h : Sv W A n c 5 (encs encA l)) (hn : n ≤ 1000) :
 Calls Tryz.prog 123 #[.slice A n c, .bool d] W fun e w' => ∃ A' m c', e = .returned (.slice A' m c') ∧ Sv w' A' m c' 5 (encs encA (childB l d)) ∧ m ≤ n ∧ (∀ P, plc P A n → plc (Fresh P W) A' m) ∧ Below W.heap.size W w' := by
 obtain ⟨h1, h2⟩ := aces_of_sv h
 refine (Acl.rchild_any A n c l h1 hn d W h2).mono ?_
 rintro e w' ⟨A1, m1, c1, rfl, h3, h4⟩
 have h5 : w'.ownsRow W.heap.size 137 5 (.slice A1 m1 c1) m1 (encs encA (childB l d)) := h3
 have h6 : (childB l d).length = m1 := own_plen encA_len h5 (by decide)
 exact ⟨A1, m1, c1, rfl, Sv.own h5 (encs_cells encA_one _), by have := childB_len l d; omega, fun P _ => (plc_own h5).mono fun _ hg => .inr hg, h4⟩
open Acl.Ap in
theorem goV_iff : ∀ (l seen : List Ac) (g : Bool), goV seen g l = true ↔ (∀ a ∈ l, right a = true ∧ a.mk0 ∉ seen) ∧ (l.map Ac.mk0).Nodup ∧ (g = true → ∀ a ∈ l, a.given = true) ∧ l.Pairwise (fun a b => a.given = true → b.given = true)
 | [], seen, g => by simp [goV]
 | a :: l, seen, g => by
   have ih := goV_iff l (a.mk0 :: seen) a.given
   have hb := Acl.badV_right seen g a
   show (if badV seen g a = true then false else goV (a.mk0 :: seen) a.given l) = true ↔ _
   rw [hb]
   constructor
   · intro h
     split at h
     · cases h
     · rename_i hn
       simp only [Bool.or_eq_true, Bool.not_eq_true', decide_eq_true_eq, Bool.and_eq_true, not_or, not_and, Bool.not_eq_false] at hn
       obtain ⟨⟨h1, h2⟩, h3⟩ := hn
       obtain ⟨i1, i2, i3, i4⟩ := ih.1 h
       refine ⟨?_, ?_, ?_, ?_⟩
       · intro x hx
         rcases List.mem_cons.1 hx with rfl | hx
         · exact ⟨h1, h2⟩
         · exact ⟨(i1 x hx).1, fun hm => (i1 x hx).2 (List.mem_cons_of_mem _ hm)⟩
       · rw [List.map_cons, List.nodup_cons]
         refine ⟨fun hm => ?_, i2⟩
         obtain ⟨x, hx, he⟩ := List.mem_map.1 hm
         exact (i1 x hx).2 (by rw [he]; exact List.mem_cons_self)
       · intro hg x hx
         rcases List.mem_cons.1 hx with rfl | hx
         · exact h3 hg
         · exact i3 (h3 hg) x hx
       · exact List.pairwise_cons.2 ⟨fun x hx hg => i3 hg x hx, i4⟩
   · rintro ⟨h1, h2, h3, h4⟩
     rw [List.map_cons, List.nodup_cons] at h2
     rw [List.pairwise_cons] at h4
     have ha := h1 a List.mem_cons_self
     rw [if_neg (by
      simp only [Bool.or_eq_true, Bool.not_eq_true', decide_eq_true_eq, Bool.and_eq_true, not_or, not_and, Bool.not_eq_false]
      exact ⟨⟨ha.1, ha.2⟩, fun hg => h3 hg a List.mem_cons_self⟩)]
     refine ih.2 ⟨fun x hx => ⟨(h1 x (List.mem_cons_of_mem _ hx)).1, fun hm => ?_⟩, h2.2, fun hg x hx => h4.1 x hx hg, h4.2⟩
     rcases List.mem_cons.1 hm with hm | hm
     · exact h2.1 (List.mem_map.2 ⟨x, hx, hm⟩)
     · exact (h1 x (List.mem_cons_of_mem _ hx)).2 hm
open Acl.Ap in
theorem validB_iff {l : List Ac} : validB l = true ↔ l.length ≤ 16 ∧ (∀ a ∈ l, right a = true) ∧ (l.map Ac.mk0).Nodup ∧ l.Pairwise (fun a b => a.given = true → b.given = true) := by
 unfold validB
 rw [Bool.and_eq_true, decide_eq_true_eq, goV_iff]
 constructor
 · rintro ⟨h1, h2, h3, -, h4⟩
   exact ⟨h1, fun a ha => (h2 a ha).1, h3, h4⟩
 · rintro ⟨h1, h2, h3, h4⟩
   exact ⟨h1, fun a ha => ⟨h2 a ha, by simp⟩, h3, fun h => (by cases h), h4⟩
theorem acl_good_child (l : List Ac) (b : Bool) (h : Acl.Ap.validB l = true) : Acl.Ap.validB (childB l b) = true := by
 obtain ⟨h1, h2, -, -⟩ := validB_iff.1 h
 exact Acl.Ap.child_valid l b h2 h1
open Acl.Ap in
theorem acl_good_ruled (x l : List Ac) (hx : validB x = true) (hg : x.any (·.given) = false) (hl : validB l = true) (hn : (x ++ l.filter (·.given)).length ≤ 16) : validB (x ++ l.filter (·.given)) = true := by
 obtain ⟨a1, a2, a3, a4⟩ := validB_iff.1 hx
 obtain ⟨b1, b2, b3, b4⟩ := validB_iff.1 hl
 have hxg : ∀ a ∈ x, a.given = false := fun a ha => by
  cases h : a.given
  · rfl
  · have : x.any (·.given) = true := List.any_eq_true.2 ⟨a, ha, h⟩
    rw [hg] at this
    cases this
 have hlg : ∀ a ∈ l.filter (·.given), a.given = true := fun a ha => by simpa using (List.mem_filter.1 ha).2
 refine validB_iff.2 ⟨hn, ?_, ?_, ?_⟩
 · intro a ha
   rcases List.mem_append.1 ha with ha | ha
   · exact a2 a ha
   · exact b2 a (List.mem_filter.1 ha).1
 · rw [List.map_append, List.nodup_append]
   refine ⟨a3, (List.Sublist.map _ List.filter_sublist).nodup b3, ?_⟩
   intro u hu v hv e
   obtain ⟨a, ha, rfl⟩ := List.mem_map.1 hu
   obtain ⟨b, hb, rfl⟩ := List.mem_map.1 hv
   have h1 : a.mk0.given = b.mk0.given := by rw [e]
   have h2 : a.given = b.given := h1
   rw [hxg a ha, hlg b hb] at h2
   cases h2
 · rw [List.pairwise_append]
   refine ⟨a4, b4.sublist List.filter_sublist, fun a ha b _ hag => ?_⟩
   rw [hxg a ha] at hag
   cases hag
end Go.Proofs.YtemgejblnionlaaGreatDoor
