/-
  Walk of the law NameSwaps: it returns true for every three lists of numbers. The world must hold the program's table of kinds, and the numbers.
-/
import Derived.Test.YtdjiiemimbdklaaDoorQ
import Derived.Test.YtdjiiemimbdklaaDoorO
import Derived.Test.YtdjiiemimbdklaaDoorPt
namespace Go.Proofs.YtdjiiemimbdklaaDoor
open Go.RowKit Pl
set_option maxHeartbeats 400000

theorem field_swapQ (s : ByteArray) (b : Bool) (W : World) : (Instr.field 43 (.agg #[.string s, .bool b]) 0).run Tryd.prog W = .ok (.string s) W := by kernel_rfl
theorem field_swapIs (s : ByteArray) (b : Bool) (W : World) : (Instr.field 43 (.agg #[.string s, .bool b]) 1).run Tryd.prog W = .ok (.bool b) W := by kernel_rfl

set_option maxRecDepth 100000 in
set_option maxHeartbeats 2000000 in
theorem swaps_any (A0 : Option Addr) (n0 c0 : Nat) (l0 : List UInt8) (e0 : l0.length = n0) (b0 : n0 ≤ 9223372036854775807) (_ : n0 ≤ c0) (_ : c0 ≤ 9223372036854775807)
    (A1 : Option Addr) (n1 c1 : Nat) (l1 : List UInt8) (e1 : l1.length = n1) (b1 : n1 ≤ 9223372036854775807) (_ : n1 ≤ c1) (_ : c1 ≤ 9223372036854775807)
    (A2 : Option Addr) (n2 c2 : Nat) (l2 : List UInt8) (e2 : l2.length = n2) (b2 : n2 ≤ 9223372036854775807) (_ : n2 ≤ c2) (_ : c2 ≤ 9223372036854775807)
    (w : World) (hE : Env w) (y0 : Byts w A0 l0) (y1 : Byts w A1 l1) (y2 : Byts w A2 l2) :
    Calls Tryd.prog 7 #[.slice A0 n0 c0, .slice A1 n1 c1, .slice A2 n2 c2] w fun e w' => e = .returned (.bool true) ∧ Below w.heap.size w w' := by
  have kq := field_swapQ
  have ki := field_swapIs
  obtain ⟨q, hq⟩ : ∃ q, mk (longS l0) = q := ⟨_, rfl⟩
  obtain ⟨f, hf⟩ : ∃ f, mk (longS l1) = f := ⟨_, rfl⟩
  obtain ⟨t, ht⟩ : ∃ t, mk (longS l2) = t := ⟨_, rfl⟩
  have hqs : q.size ≤ 170 := by rw [← hq, mk_size]; exact long_len l0
  have hfs : f.size ≤ 170 := by rw [← hf, mk_size]; exact long_len l1
  have hts : t.size ≤ 170 := by rw [← ht, mk_size]; exact long_len l2
  have hqe : ∀ a, q.data.toList ≠ a ++ [47] := fun a h => by rw [← hq, mk_data] at h; exact long_end h
  have L0 := fun W hb => long_any A0 n0 c0 l0 e0 b0 W hb
  have L1 := fun W hb => long_any A1 n1 c1 l1 e1 b1 W hb
  have L2 := fun W hb => long_any A2 n2 c2 l2 e2 b2 W hb
  rw [hq] at L0
  rw [hf] at L1
  rw [ht] at L2
  have cS := fun W => lswap_any q f t W (by omega)
  have cB := fun W => below_any q f W
  have H0 := Lib.hid L0
  have H1 := Lib.hid L1
  have H2 := Lib.hid L2
  cases hb : belowB q.data.toList f.data.toList
  · rw [show swapT q.data.toList f.data.toList t.data.toList = q.data.toList by unfold swapT; rw [if_neg (by rw [hb]; simp)], hb, mk_of] at cS
    rw [hb] at cB
    have HS := Lib.hid cS
    have HB := Lib.hid cB
    have bqq : (q.toList == q.toList) = true := by simp
    clear hq hf ht hqe L0 L1 L2 cS cB hb e0 e1 e2
    go_enter Tryd.func7, Tryd.ntmps7
    go_wp2_with (first | (go_at_call 11; refine (sanity_any _ hE).mono ?_; rintro e w1 ⟨rfl, hb1⟩) | (go_at_call 12; first | (refine (H2.out _ (y2.below hb3)).mono ?_; rintro e w4 ⟨rfl, hb4'⟩; have hb4 := hb3.trans (hb4'.mono hb3.size); clear hb4') | (refine (H1.out _ (y1.below hb2)).mono ?_; rintro e w3 ⟨rfl, hb3'⟩; have hb3 := hb2.trans (hb3'.mono hb2.size); clear hb3') | (refine (H0.out _ (y0.below hb1)).mono ?_; rintro e w2 ⟨rfl, hb2'⟩; have hb2 := hb1.trans (hb2'.mono hb1.size); clear hb2')) | (go_at_call 26; refine (HS.out _).mono ?_; rintro e w5 ⟨rfl, hb5'⟩; have hb5 := hb4.trans (hb5'.mono hb4.size); clear hb5'))
    have hs5 := hb5.size
    have s0 : (w5.alloc (.cells #[.string q, .bool false] 43)).cell? ⟨w5.heap.size, 0, none⟩ = some (.string q) := by go_cell
    have s1 : (w5.alloc (.cells #[.string q, .bool false] 43)).cell? ⟨w5.heap.size, 1, none⟩ = some (.bool false) := by go_cell
    clear H0 H1 H2 y0 y1 y2
    first | (go_region_with (go_at_call 24; refine (HB.out _).mono ?_; rintro e w6 ⟨rfl, rfl⟩)) | fail
    all_goals
      go_wp2
      go_ret
      exact ⟨rfl, (hb5.alloc hs5 _).drew⟩
  · obtain ⟨X, hX⟩ : ∃ X, mk (swapS q.data.toList f.data.toList t.data.toList) = X := ⟨_, rfl⟩
    obtain ⟨hbk, hsw⟩ := swap_back (t := t.data.toList) hb hqe
    have hXe : swapS q.data.toList f.data.toList t.data.toList = X.data.toList := by rw [← hX, mk_data]
    have hXs : X.size ≤ 341 := by
      rw [← hX, mk_size]
      have h1 := swap_len (q := q.data.toList) (f := f.data.toList) (t := t.data.toList)
      rw [← Lib.size_eq, ← Lib.size_eq] at h1
      omega
    rw [hXe] at hbk hsw
    rw [show swapT q.data.toList f.data.toList t.data.toList = X.data.toList by unfold swapT; rw [if_pos hb, hXe], hb, mk_of] at cS
    rw [hb] at cB
    have cS2 := fun W => lswap_any X t f W (by omega)
    rw [show swapT X.data.toList t.data.toList f.data.toList = q.data.toList by unfold swapT; rw [if_pos hbk, hsw], hbk, mk_of] at cS2
    have cB2 := fun W => below_any X t W
    rw [hbk] at cB2
    have HS := Lib.hid cS
    have HB := Lib.hid cB
    have HS2 := Lib.hid cS2
    have HB2 := Lib.hid cB2
    have bqq : (q.toList == q.toList) = true := by simp
    clear hq hf ht hqe L0 L1 L2 cS cB cS2 cB2 hb hbk hsw hXe hX e0 e1 e2
    go_enter Tryd.func7, Tryd.ntmps7
    go_wp2_with (first | (go_at_call 11; refine (sanity_any _ hE).mono ?_; rintro e w1 ⟨rfl, hb1⟩) | (go_at_call 12; first | (refine (H2.out _ (y2.below hb3)).mono ?_; rintro e w4 ⟨rfl, hb4'⟩; have hb4 := hb3.trans (hb4'.mono hb3.size); clear hb4') | (refine (H1.out _ (y1.below hb2)).mono ?_; rintro e w3 ⟨rfl, hb3'⟩; have hb3 := hb2.trans (hb3'.mono hb2.size); clear hb3') | (refine (H0.out _ (y0.below hb1)).mono ?_; rintro e w2 ⟨rfl, hb2'⟩; have hb2 := hb1.trans (hb2'.mono hb1.size); clear hb2')) | (go_at_call 26; refine (HS.out _).mono ?_; rintro e w5 ⟨rfl, hb5'⟩; have hb5 := hb4.trans (hb5'.mono hb4.size); clear hb5'))
    have hs5 := hb5.size
    have s0 : (w5.alloc (.cells #[.string X, .bool true] 43)).cell? ⟨w5.heap.size, 0, none⟩ = some (.string X) := by go_cell
    have s1 : (w5.alloc (.cells #[.string X, .bool true] 43)).cell? ⟨w5.heap.size, 1, none⟩ = some (.bool true) := by go_cell
    clear H0 H1 H2 y0 y1 y2
    first | (go_region_with (go_at_call 24; refine (HB.out _).mono ?_; rintro e w6 ⟨rfl, rfl⟩)) | fail
    all_goals
      have hb6 := (hb5.alloc hs5 (.cells #[.string X, .bool true] 43)).drew
      have hs6 := hb6.size
      go_wp2_with (first | (go_at_call 26; refine (HS2.out _).mono ?_; rintro e w7 ⟨rfl, hb7'⟩; have hb7 := hb6.trans (hb7'.mono hs6); have t0 := ((hb7'.alloc hb7'.size (.cells #[.string q, .bool true] 43)).cell (p := ⟨w5.heap.size, 0, none⟩) (by simp)).trans s0; have t1 := ((hb7'.alloc hb7'.size (.cells #[.string q, .bool true] 43)).cell (p := ⟨w5.heap.size, 1, none⟩) (by simp)).trans s1) | (go_at_call 24; refine (HB2.out _).mono ?_; rintro e w8 ⟨rfl, rfl⟩))
      go_ret
      exact ⟨rfl, hb7.alloc hb7.size _⟩
end Go.Proofs.YtdjiiemimbdklaaDoor
