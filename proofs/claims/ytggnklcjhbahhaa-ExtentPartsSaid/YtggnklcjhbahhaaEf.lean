/-
  Bytes of bodies in memory; walk of the reference's Each.
-/
import Derived.Test.YtggnklcjhbahhaaEe
namespace Go.Proofs.Ytggnklcjhbahhaa
open Go.RowKit Ex
set_option maxHeartbeats 400000
set_option maxRecDepth 100000

def flat2 : List (Int × Int) → List Int
  | [] => []
  | x :: l => x.1 :: x.2 :: flat2 l
theorem flat2_len (l : List (Int × Int)) : (flat2 l).length = l.length * 2 := by
  induction l with
  | nil => rfl
  | cons p l ih => simp [flat2, ih]; omega
theorem flat2_append (l m : List (Int × Int)) : flat2 (l ++ m) = flat2 l ++ flat2 m := by
  induction l with
  | nil => rfl
  | cons p l ih => simp [flat2, ih]
theorem flat2_get : ∀ {l : List (Int × Int)} {j : Nat} {x : Int × Int}, l[j]? = some x → (flat2 l)[j * 2]? = some x.1 ∧ (flat2 l)[j * 2 + 1]? = some x.2
  | [], j, p, h => by simp at h
  | q :: l, 0, p, h => by
    simp at h
    subst h
    exact ⟨rfl, rfl⟩
  | q :: l, j + 1, p, h => by
    have ih := flat2_get (l := l) (j := j) (x := p) (by simpa using h)
    have e : (j + 1) * 2 = j * 2 + 2 := by omega
    rw [e]
    exact ih
def Bts (w : World) (A : Option Addr) (l : List (Int × Int)) : Prop := Cells w A (flat2 l)
theorem Bts.below {w w' : World} {A : Option Addr} {l : List (Int × Int)} (h : Bts w A l) (hb : Below w.heap.size w w') : Bts w' A l := Cells.below h hb
theorem Bts.of_own {w : World} {base n c : Nat} {e : TypeId} {A : Option Addr} {l : List (Int × Int)} (h : w.ownsRow base e 2 (.slice A n c) n (ints (flat2 l))) : Bts w A l := Cells.of_own h
theorem Bts.at_ {w : World} {A : Option Addr} {l : List (Int × Int)} (h : Bts w A l) {j : Nat} {x : Int × Int} (hj : l[j]? = some x) :
    ∃ g o, A = some ⟨g, o, none⟩ ∧ g < w.heap.size ∧ w.cell? ⟨g, o + j * 2, none⟩ = some (.int .i64 x.1) ∧ w.cell? ⟨g, o + j * 2 + 1, none⟩ = some (.int .i64 x.2) := by
  obtain ⟨h0, h1⟩ := flat2_get hj
  have hne : flat2 l ≠ [] := fun e => by rw [e] at h0; simp at h0
  obtain ⟨g, o, hA, hg, hc⟩ := h hne
  refine ⟨g, o, hA, hg, hc _ _ h0, ?_⟩
  rw [Nat.add_assoc]; exact hc _ _ h1
theorem own_blen {w : World} {base : Nat} {e : TypeId} {A : Option Addr} {m c : Nat} {l : List (Int × Int)} (h : w.ownsRow base e 2 (.slice A m c) m (ints (flat2 l))) : l.length = m := by
  have := own_slen h
  rw [ints_length, flat2_len] at this
  omega
theorem info_byte : (Try.prog.info? 32).map (fun i => (i.zero, i.size, i.bytes)) = some (some (.agg #[.int .i64 0, .int .i64 0]), 2, 16) := by kernel_rfl
theorem eachP_take {p : Pc} {t : Nat} (h : t < p.n.toNat) : (eachP p).take (t + 1) = (eachP p).take t ++ [(p.id, if 0 < p.id then p.fr + (t : Int) else 0)] := by
  have hl : t < (eachP p).length := by rw [eachP_len]; exact h
  rw [List.take_succ_eq_append_getElem hl]
  have := eachP_get h
  rw [List.getElem?_eq_getElem hl] at this
  rw [Option.some.inj this]

theorem cells_new2 (w : World) (o : Obj) (cs : Array Value) (t : TypeId) : ∀ j u, cs.toList[j]? = some u → ((w.alloc o).alloc (.cells cs t)).cell? ((⟨w.heap.size + 1, 0, none⟩ : Addr).add j) = some u := by
  have h := cells_new (w.alloc o) cs t
  rwa [show (w.alloc o).heap.size = w.heap.size + 1 by simp] at h

set_option maxHeartbeats 4000000 in
theorem Each_any (A : Option Addr) (n c : Nat) (l : List Pc) (hn : l.length = n) (hp : ∀ p ∈ l, rightB p = true) (hs : (eachL l).length ≤ 1048576) (w : World) (hA : Pcs w A l) :
    Calls Try.prog 12 #[.slice A n c] w fun e w' => ∃ A' m c', e = .returned (.slice A' m c') ∧ w'.ownsRow w.heap.size 32 2 (.slice A' m c') m (ints (flat2 (eachL l))) ∧ Below w.heap.size w w' := by
  obtain ⟨i0, hi, hz0, hz1, hz2⟩ := info_parts info_byte
  have HN := Lib.hid hn
  have SA := Lib.hid hA
  have HP := Lib.hid hp
  have HLE := Lib.hid (fun k => Nat.le_trans (eachL_take_le l k) hs)
  have hnl : n ≤ 1048576 := by
    have h1 : ∀ l : List Pc, (∀ p ∈ l, rightB p = true) → l.length ≤ (eachL l).length := by
      intro l
      induction l with
      | nil => intro _; simp
      | cons p l ih =>
        intro h
        have := (right_iff.1 (h p (by simp))).1
        have := ih (fun q hq => h q (by simp [hq]))
        rw [eachL_cons, List.length_append, eachP_len, List.length_cons]
        omega
    have := h1 l hp
    omega
  clear hn hA hp
  go_enter Try.func12, Try.ntmps12
  go_wp2
  go_loopw [3, 4] (fun s i wr => ∃ (k m : Nat) (A' : Option Addr) (c' : Nat), k ≤ n ∧ i = .int .i64 k ∧ s = .slice A' m c' ∧ wr.ownsRow w.heap.size 32 2 (.slice A' m c') m (ints (flat2 (eachL (l.take k)))) ∧ Below w.heap.size w wr) (fun _ i _ => n - (intOf i).toNat)
  case atStart => exact ⟨0, 0, some ⟨w.heap.size, 0, none⟩, 0, Nat.zero_le _, rfl, rfl, own_empty _ _ _, by go_grown⟩
  case round =>
    obtain ⟨k, m, A', c', hk, rfl, rfl, hown, hbw⟩ := hrel
    obtain ⟨wo, hwo⟩ : ∃ W, W = wr := ⟨_, rfl⟩
    subst hwo
    by_cases hlt : k < n
    · have hkl : k < l.length := by rw [HN.out]; exact hlt
      have hg : l[k]? = some l[k] := List.getElem?_eq_getElem hkl
      obtain ⟨p, hpe⟩ : ∃ p, l[k] = p := ⟨_, rfl⟩
      rw [hpe] at hg
      have hpr := right_iff.1 (HP.out p (List.mem_of_getElem? hg))
      obtain ⟨g, o, hA', hgw, q0, q1, q2⟩ := SA.out.at_ hg
      subst hA'
      have hts : eachL (l.take (k + 1)) = eachL (l.take k) ++ eachP p := by
        rw [List.take_succ_eq_append_getElem hkl, eachL_append, hpe, eachL_one]
      have HTS := Lib.hid hts
      have hle := HLE.out (k + 1)
      rw [hts, List.length_append, eachP_len] at hle
      have hml := own_blen hown
      obtain ⟨O, hO⟩ : ∃ O, eachL (l.take k) = O := ⟨_, rfl⟩
      rw [hO] at HTS hown hle hml
      have HO := Lib.hid hown
      have HML := Lib.hid hml
      have kn : (k : Int) < (n : Int) := Int.ofNat_lt.2 hlt
      have k0 : (0 : Int) ≤ (k : Int) := Int.natCast_nonneg k
      have hp1 : 1 ≤ p.n := hpr.1
      have hp2 : p.n ≤ 1048576 := hpr.2.1
      have hp3 : 0 ≤ p.fr := hpr.2.2.1
      have hp4 : 0 < p.id → p.fr + p.n ≤ 1048576 := fun h => by omega
      have HBW := Lib.hid hbw
      have Q := Lib.hid (show ∀ W, Below w.heap.size w W → Tri W g (o + k * 3) p from fun W hb => ⟨(hb.cell (block_lt_of_cell q0)).trans q0, (hb.cell (block_lt_of_cell q1)).trans q1, (hb.cell (block_lt_of_cell q2)).trans q2⟩)
      rw [hml] at hle
      clear hpr hO hown hbw hpe hg q0 q1 q2 hts hml
      go_wp2
      go_loopw [3, 5] (fun s i wr => ∃ (t m : Nat) (A' : Option Addr) (c' : Nat), t ≤ p.n.toNat ∧ i = .int .i64 t ∧ s = .slice A' m c' ∧ wr.ownsRow w.heap.size 32 2 (.slice A' m c') m (ints (flat2 (O ++ (eachP p).take t))) ∧ Below w.heap.size w wr) (fun _ i _ => p.n.toNat - (intOf i).toNat)
      case atStart => exact ⟨0, m, A', c', Nat.zero_le _, rfl, rfl, by simpa using HO.out, HBW.out⟩
      case round =>
        obtain ⟨t, m2, A2, c2, ht, rfl, rfl, hown2, hbw2⟩ := hrel
        have hbs := hbw2.size
        have hm2 := own_blen hown2
        rw [List.length_append, List.length_take, eachP_len, HML.out] at hm2
        obtain ⟨q0, q1, q2⟩ := Q.out _ hbw2
        by_cases htn : t < p.n.toNat
        · have htn' : (t : Int) < p.n := by omega
          have t0 : (0 : Int) ≤ (t : Int) := Int.natCast_nonneg t
          have HT2 := Lib.hid (eachP_take htn)
          have HO2 := Lib.hid hown2
          have HB2 := Lib.hid hbw2
          have hm3 : m2 ≤ 1048576 := by omega
          by_cases hid : 0 < p.id
          · have hf4 := hp4 hid
            rw [if_pos hid] at HT2
            have q1A := (((Below.refl _ wr).alloc (Nat.le_refl _) (.cells #[.int .i64 p.id, .int .i64 0] 32)).cell (block_lt_of_cell q1)).trans q1
            clear hown2 hm2 hle hbw2
            go_wp2_with (at_builtin; refine wpList_append_own _ rfl _ _ 26 rfl w.heap.size 32 i0 _ 2 16 Try.underlying26 hi hz0 hz1 hz2 rfl (by decide) _ _ _ rfl ((HO2.out.alloc _).alloc _) ⟨wr.heap.size + 1, 0, none⟩ 1 1 (ints (flat2 [(p.id, p.fr + t)])) rfl rfl (cells_new2 _ _ _ _) (ints_cells _) (by unfold maxLen; omega) (by omega) (by simp; omega) ?_; intro v' w7 hown7 hgrow7 _; obtain ⟨g7, c7, rfl⟩ := ownsRow_succ hown7)
            have hb7 : Below w.heap.size w w7 := ((HB2.out.alloc hbs _).alloc (by simp; omega) _).grown hgrow7 (by simp; omega) (fun t ht => (HO2.out.lt t ht).1)
            go_roundw
            case rel => exact ⟨t + 1, m2 + 1, some ⟨g7, 0, none⟩, c7, by omega, by go_num, rfl, by rw [HT2.out, ← List.append_assoc, flat2_append, ints_append]; exact hown7, hb7⟩
            case measure => simp [intOf]; omega
          · rw [if_neg hid] at HT2
            clear hown2 hm2 hle hbw2
            go_wp2_with (at_builtin; refine wpList_append_own _ rfl _ _ 26 rfl w.heap.size 32 i0 _ 2 16 Try.underlying26 hi hz0 hz1 hz2 rfl (by decide) _ _ _ rfl ((HO2.out.alloc _).alloc _) ⟨wr.heap.size + 1, 0, none⟩ 1 1 (ints (flat2 [(p.id, 0)])) rfl rfl (cells_new2 _ _ _ _) (ints_cells _) (by unfold maxLen; omega) (by omega) (by simp; omega) ?_; intro v' w7 hown7 hgrow7 _; obtain ⟨g7, c7, rfl⟩ := ownsRow_succ hown7)
            have hb7 : Below w.heap.size w w7 := ((HB2.out.alloc hbs _).alloc (by simp; omega) _).grown hgrow7 (by simp; omega) (fun t ht => (HO2.out.lt t ht).1)
            go_roundw
            case rel => exact ⟨t + 1, m2 + 1, some ⟨g7, 0, none⟩, c7, by omega, by go_num, rfl, by rw [HT2.out, ← List.append_assoc, flat2_append, ints_append]; exact hown7, hb7⟩
            case measure => simp [intOf]; omega
        · obtain rfl : t = p.n.toNat := by omega
          have hfull : (eachP p).take p.n.toNat = eachP p := List.take_of_length_le (by rw [eachP_len]; exact Nat.le_refl _)
          rw [hfull, ← HTS.out] at hown2
          have hnn : ¬ ((p.n.toNat : Nat) : Int) < p.n := by omega
          clear hfull hm2 hle
          go_wp2
          go_roundw
          case rel => exact ⟨k + 1, m2, A2, c2, by omega, by go_num, rfl, hown2, hbw2⟩
          case measure => simp [intOf]; omega
    · obtain rfl : k = n := by omega
      have HK := Lib.hid (show l.take k = l from List.take_of_length_le (by rw [HN.out]; exact Nat.le_refl _))
      go_wp2
      go_ret
      exact ⟨A', m, c', rfl, by rw [← HK.out]; exact hown, hbw⟩
end Go.Proofs.Ytggnklcjhbahhaa
