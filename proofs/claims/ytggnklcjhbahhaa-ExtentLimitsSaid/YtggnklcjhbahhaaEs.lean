/-
  Chunks with bytes in memory; walk of the reference's Blob.
-/
import Derived.Test.YtggnklcjhbahhaaEp
namespace Go.Proofs.Ytggnklcjhbahhaa
open Go.RowKit Ex
set_option maxHeartbeats 400000
set_option maxRecDepth 100000

abbrev Blb := Int × List UInt8
/-- The slice at B holds these bytes. -/
def Byt (w : World) (B : Option Addr) (l : List UInt8) : Prop :=
  l ≠ [] → ∃ g o, B = some ⟨g, o, none⟩ ∧ g < w.heap.size ∧ ∀ (j : Nat) (x : UInt8), l[j]? = some x → w.cell? ⟨g, o + j, none⟩ = some (.int .u8 x.toNat)
theorem Byt.below {w w' : World} {B : Option Addr} {l : List UInt8} (h : Byt w B l) (hb : Below w.heap.size w w') : Byt w' B l := fun hn => by
  obtain ⟨g, o, h1, h2, h3⟩ := h hn
  exact ⟨g, o, h1, Nat.lt_of_lt_of_le h2 hb.size, fun j x hx => (hb.cell (p := ⟨g, o + j, none⟩) h2).trans (h3 j x hx)⟩
/-- The slice at A holds these chunks, each with its bytes. -/
def Blbs (w : World) (A : Option Addr) (l : List Blb) : Prop :=
  l ≠ [] → ∃ g o, A = some ⟨g, o, none⟩ ∧ g < w.heap.size ∧ ∀ (j : Nat) (x : Blb), l[j]? = some x → w.cell? ⟨g, o + j * 2, none⟩ = some (.int .i64 x.1) ∧ ∃ B c, x.2.length ≤ c ∧ w.cell? ⟨g, o + j * 2 + 1, none⟩ = some (.slice B x.2.length c) ∧ Byt w B x.2
theorem Blbs.below {w w' : World} {A : Option Addr} {l : List Blb} (h : Blbs w A l) (hb : Below w.heap.size w w') : Blbs w' A l := fun hn => by
  obtain ⟨g, o, h1, h2, h3⟩ := h hn
  refine ⟨g, o, h1, Nat.lt_of_lt_of_le h2 hb.size, fun j x hx => ?_⟩
  obtain ⟨a, B, c, b0, b1, b2⟩ := h3 j x hx
  exact ⟨(hb.cell (p := ⟨g, o + j * 2, none⟩) h2).trans a, B, c, b0, (hb.cell (p := ⟨g, o + j * 2 + 1, none⟩) h2).trans b1, b2.below hb⟩
/-- The bytes of the first chunk of this number. -/
def findL : List Blb → Int → Option (List UInt8)
  | [], _ => none
  | x :: l, id => if x.1 = id then some x.2 else findL l id
theorem findL_at : ∀ {l : List Blb} {id : Int} {t : Nat} {x : Blb}, l[t]? = some x → x.1 = id → (∀ y ∈ l.take t, y.1 ≠ id) → findL l id = some x.2
  | [], _, t, _, h, _, _ => by simp at h
  | y :: l, id, 0, x, h, hx, _ => by
    simp at h
    subst h
    simp [findL, hx]
  | y :: l, id, t + 1, x, h, hx, hn => by
    have h1 : y.1 ≠ id := hn y (by simp)
    simp only [findL, if_neg h1]
    exact findL_at (by simpa using h) hx (fun z hz => hn z (by simp [hz]))
theorem findL_none : ∀ {l : List Blb} {id : Int}, (∀ y ∈ l, y.1 ≠ id) → findL l id = none
  | [], _, _ => rfl
  | y :: l, id, hn => by
    have h1 : y.1 ≠ id := hn y (by simp)
    simp only [findL, if_neg h1]
    exact findL_none (fun z hz => hn z (by simp [hz]))

set_option maxHeartbeats 1000000 in
theorem Blob_any (A : Option Addr) (n c : Nat) (l : List Blb) (hn : l.length = n) (hl : n ≤ 4294967296) (id : Int) (w : World) (hA : Blbs w A l) :
    Calls Try.prog 29 #[.slice A n c, .int .i64 id] w fun e w' => w' = w ∧ ((∃ d B c', findL l id = some d ∧ e = .returned (.tuple #[.slice B d.length c', .bool true]) ∧ Byt w B d) ∨ (findL l id = none ∧ e = .returned (.tuple #[.slice none 0 0, .bool false]))) := by
  have HN := Lib.hid hn
  have SA := Lib.hid hA
  clear hn hA
  go_enter Try.func29, Try.ntmps29
  go_wp2
  go_loopw [6] (fun i wz => ∃ t : Nat, t ≤ n ∧ i = .int .i64 t ∧ wz = w ∧ ∀ y ∈ l.take t, y.1 ≠ id) (fun i _ => n - (intOf i).toNat)
  case atStart => exact ⟨0, Nat.zero_le _, rfl, rfl, fun y hy => by simp at hy⟩
  case round =>
    obtain ⟨t, ht, rfl, hw, hno⟩ := hrel
    subst hw
    have HNO := Lib.hid hno
    clear hno
    by_cases htn : t < n
    · have htn' : (t : Int) < (n : Int) := Int.ofNat_lt.2 htn
      have t0 : (0 : Int) ≤ (t : Int) := Int.natCast_nonneg t
      obtain ⟨x, hx⟩ : ∃ x, l[t]? = some x := ⟨_, List.getElem?_eq_getElem (by rw [HN.out]; exact htn)⟩
      have HX := Lib.hid hx
      have hne : l ≠ [] := fun e => by rw [e] at hx; simp at hx
      clear hx
      obtain ⟨g, o, hA', hg, hc⟩ := SA.out hne
      subst hA'
      obtain ⟨q0, B, c', _, q1, hB⟩ := hc t x HX.out
      have HB := Lib.hid hB
      clear hc hne hB
      by_cases hid : x.1 = id
      · have HF := Lib.hid (findL_at HX.out hid HNO.out)
        go_wp2
        go_ret2
        exact ⟨rfl, .inl ⟨x.2, B, c', HF.out, rfl, HB.out⟩⟩
      · have hidb : (x.1 == id) = false := by simpa using hid
        go_wp2
        go_roundw
        case rel => exact ⟨t + 1, by omega, by go_num, by trivial, fun y hy => by
          obtain ⟨i, hi, rfl⟩ := List.getElem_of_mem hy
          rw [List.length_take] at hi
          rw [List.getElem_take]
          by_cases hit : i < t
          · exact HNO.out _ (List.mem_of_getElem? (i := i) (by rw [List.getElem?_take, if_pos hit, List.getElem?_eq_getElem (by omega)]))
          · obtain rfl : i = t := by omega
            have := HX.out
            rw [List.getElem?_eq_getElem (by omega)] at this
            rw [Option.some.inj this]
            exact hid⟩
        case measure => simp [intOf]; omega
    · obtain rfl : t = n := by omega
      have HF := Lib.hid (findL_none (l := l) (id := id) fun y hy => HNO.out y (by rw [List.take_of_length_le (by rw [HN.out]; exact Nat.le_refl _)]; exact hy))
      go_wp2
      go_ret2
      exact ⟨rfl, .inr ⟨HF.out, rfl⟩⟩
end Go.Proofs.Ytggnklcjhbahhaa
