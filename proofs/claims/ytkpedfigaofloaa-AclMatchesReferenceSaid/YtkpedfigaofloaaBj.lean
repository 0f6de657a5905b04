/-
  Walk of slices.Insert at entries.
-/
import Derived.Test.YtkpedfigaofloaaBi
namespace Go.Proofs.Ytkpedfigaofloaa
open Go.RowKit Ap
set_option maxHeartbeats 400000


set_option maxHeartbeats 4000000 in
theorem insert_grow (base g n c k b : Nat) (l : List Ac) (e : Ac) (hk : k < n) (hl : n ≤ 1000) (hroom : c < n + 1) (w : World) (hown : w.ownsRow base 31 5 (.slice (some ⟨g, 0, none⟩) n c) n (encs l)) (hb : w.heap[b]? = some (.cells (enc e).toArray 31 (0, 0))) (hbase : base ≤ w.heap.size) :
    Calls Try.prog 44 #[.slice (some ⟨g, 0, none⟩) n c, .int .i64 k, .slice (some ⟨b, 0, none⟩) 1 1] w fun x w' => ∃ g' c', x = .returned (.slice (some ⟨g', 0, none⟩) (n + 1) c') ∧ w'.ownsRow base 31 5 (.slice (some ⟨g', 0, none⟩) (n + 1) c') (n + 1) (encs (insL l k e)) ∧ Below base w w' := by
  obtain ⟨i0, hi, hz0, hz1, hz2⟩ := info_parts info_ace
  have hn := own_len hown
  obtain ⟨cur, hbg, hcur, hnc, hcm, hcs, hxl, hxs⟩ := own_open hown
  have hglt : g < w.heap.size := by
    rcases Nat.lt_or_ge g w.heap.size with h | h
    · exact h
    · rw [Array.getElem?_eq_none h] at hcur; cases hcur
  have hblt : b < w.heap.size := by
    rcases Nat.lt_or_ge b w.heap.size with h | h
    · exact h
    · rw [Array.getElem?_eq_none h] at hb; cases hb
  obtain ⟨D, hD⟩ : ∃ D, encs (l.drop k) = D := ⟨_, rfl⟩
  have hDl : D.length = (n - k) * 5 := by rw [← hD, encs_length, List.length_drop, hn]
  obtain ⟨X, hX⟩ : ∃ X, encs (l.take k) = X := ⟨_, rfl⟩
  have hXl : X.length = k * 5 := by rw [← hX, encs_length, List.length_take, hn]; omega
  have hins : X ++ (enc e ++ D) = encs (insL l k e) := by rw [insL, encs_append, hX, ← hD]; rfl
  have hXc : ∀ j v, X[j]? = some v → w.cell? ((⟨g, 0, none⟩ : Addr).add j) = some v := fun j u hu => by
    have hj := (List.getElem?_eq_some_iff.1 hu).1
    have := hown.cellAt j (by omega)
    rw [encs_split l k, hX, List.getElem?_append_left (by omega), hu] at this
    have hadd : (⟨g, 0, none⟩ : Addr).add j = ⟨g, j, none⟩ := by unfold Addr.add; split <;> simp_all
    rw [hadd]
    exact this
  have hsrc : ∀ (W : World), W.heap[g]? = w.heap[g]? → ∀ j u, D[j]? = some u → W.cell? ((⟨g, k * 5, none⟩ : Addr).add j) = some u := fun W hW j u hu => by
    rw [← hD] at hu
    have hj := (List.getElem?_eq_some_iff.1 hu).1
    rw [encs_length, List.length_drop] at hj
    have := hown.cellAt (k * 5 + j) (by omega)
    rw [encs_split l k, List.getElem?_append_right (by rw [encs_length, List.length_take]; omega)] at this
    rw [show k * 5 + j - (encs (l.take k)).length = j by rw [encs_length, List.length_take]; omega, hu] at this
    have hadd : (⟨g, k * 5, none⟩ : Addr).add j = ⟨g, k * 5 + j, none⟩ := by unfold Addr.add; split <;> simp_all
    rw [hadd, World.cell?_of_block (w := w) (w' := W) hW]
    exact this
  have h1D : ∀ u ∈ D, u.oneCell' = true := by rw [← hD]; exact encs_one' _
  have HSRC := Lib.hid hsrc
  have HXC := Lib.hid hXc
  have HXL := Lib.hid hXl
  have HDL := Lib.hid hDl
  have H1D := Lib.hid h1D
  have HINS := Lib.hid hins
  have HB := Lib.hid hb
  have H1 := Lib.hid (enc_one e)
  clear hsrc hXc hXl hDl h1D hins hb hX hD hxs hxl hcs hcur hown hn hcm
  have f0 : ¬ ((k : Int) = (n : Int)) := by omega
  have f1 : (k : Int) ≤ (n : Int) := by omega
  have f1' : (k : Int) ≤ (c : Int) := by omega
  have f2 : (k : Int) ≤ (n : Int) + 1 := by omega
  have f3 : ¬ (c = k) := by omega
  have f6 : k ≤ n + 1 := by omega
  have f7 : k + 1 ≤ n + 1 := by omega
  have f8 : k ≤ n := by omega
  have f9 : ((c : Int) < (n : Int) + 1) := by omega
  have f10 : (0 : Int) ≤ (k : Int) + 1 := by omega
  have g1 : IntKind.i64.wrap ((k : Int) + 1) = (k : Int) + 1 := IntWalk.i64_in _ (by omega)
  have g2 : IntKind.i64.wrap ((n : Int) + 1) = (n : Int) + 1 := IntWalk.i64_in _ (by omega)
  have g3 : IntKind.i64.wrap ((n : Int) + 1 - (k : Int)) = ((n + 1 - k : Nat) : Int) := by rw [IntWalk.i64_in _ (by omega)]; omega
  go_enter Try.func44, Try.ntmps44
  go_wp2_with (first
    | (at_builtin; refine wpList_append_make rfl _ _ 22 3 rfl 31 i0 _ 5 40 .i64 .i64 Try.underlying22 Try.underlying3 hi hz0 hz1 hz2 rfl (by decide) (b := ⟨g, 0, none⟩) (n := k) (cap := c) (n + 1 - k) (n + 1) X (by rfl) (by rfl) (by first | rfl | omega) (by omega) HXL.out HXC.out (by omega) (by omega) (by unfold maxLen; omega) (by omega) ?_; intro g' c' w1 hr1 hg1; obtain ⟨_, hbg', _, hnc', _, _, hzl, _⟩ := own_open hr1; have hc1 : ¬ (c' = k) := (by omega); have hc2 : ¬ (c' = k + 1) := (by omega); have HR1 := Lib.hid hr1; have HG1 := Lib.hid hg1; have HB1 := Lib.hid ((hg1.block b hblt (by simp)).trans HB.out); have HZL := Lib.hid hzl; clear hr1 hg1 hzl)
    | (refine wpList_copy5 rfl _ _ 22 22 rfl 31 i0 Try.underlying22 hi hz1 (b := g') (off := k * 5) (dLen := n + 1 - k) (dCap := c' - k) (ad := ⟨b, 0, none⟩) (sLen := 1) (sCap := 1) (by rfl) (by rfl) 1 (enc e) (by simp only [Nat.min_def]; split <;> omega) rfl (fun j u hu => World.news_of_block HB1.out j u hu) (fun j hj => own_spare HR1.out _ (by simp [enc] at hj; omega)) H1.out ?_; intro w2 hw2; have HW2 := Lib.hid hw2; clear hw2))
  have hne' : g ≠ g' := by omega
  have hz := HZL.out
  have hx0 := HXL.out
  have hd0 := HDL.out
  have hE : (enc e).length = 5 := rfl
  have hr2 := own_over HR1.out (k * 5) (enc e) (by omega)
  rw [← HW2.out] at hr2
  have hg2 : w2.heap[g]? = w.heap[g]? := by
    rw [HW2.out, other_setCells (enc e) w1 g' _ g hne']
    exact HG1.out.block g hglt (by simp)
  have hb2 : Below base w w2 := by
    rw [HW2.out]
    exact below_setCells ((Below.refl base w).grown HG1.out hbase (fun _ h => by cases h)) g' (by omega) (enc e) _
  obtain ⟨Z, hZ⟩ : ∃ Z, ((Builtin.zeroCells (Value.agg #[.int .i64 0, .bool false, .int .i64 0, .int .i64 0, .bool false]).cells (n + 1 - k)).toList) = Z := ⟨_, rfl⟩
  rw [hZ] at hr2
  have hzz : Z.length = 5 + D.length := by
    have := hz
    rw [hZ, List.length_append] at this
    omega
  have hr3 := own_over hr2.drew ((k + 1) * 5) D (by simp only [List.length_append, List.length_take, List.length_drop]; omega)
  rw [show (k + 1) * 5 = k * 5 + 5 by omega, grow_cells X Z (enc e) D (k * 5) D.length hx0 rfl hzz rfl, HINS.out] at hr3
  have hb3 := below_setCells hb2.drew g' (show base ≤ g' by omega) D ((k + 1) * 5)
  rw [show (k + 1) * 5 = k * 5 + 5 by omega] at hb3
  have HR3 := Lib.hid hr3
  have HB3 := Lib.hid hb3
  have HS2 := Lib.hid (fun j hj => own_spare hr2.drew ((k + 1) * 5 + j) hj)
  have HG2 := Lib.hid hg2
  clear hr2 hr3 hb2 hb3 hg2 hz hx0 hd0 hE hzz hZ
  first | (go_region_law (refine step_copy5 rfl _ _ 22 22 rfl 31 i0 Try.underlying22 hi hz1 (b := g') (off := (k + 1) * 5) (dLen := n - k) (dCap := c' - (k + 1)) (ad := ⟨g, k * 5, none⟩) (sLen := n - k) (sCap := c - k) (by simp [Act.eval, Act.put]) (by simp [Act.eval, Act.put]) (n - k) D (by simp only [Nat.min_def]; split <;> omega) HDL.out (HSRC.out _ HG2.out) (fun j hj => HS2.out j (by rw [HDL.out] at hj; omega)) H1D.out ?_; intro w3 hw3; have HW3 := Lib.hid hw3; clear hw3)) | fail
  go_wp2
  go_ret
  rw [show (k + 1) * 5 = k * 5 + 5 by omega] at HW3
  refine ⟨g', c', rfl, ?_, ?_⟩
  · rw [HW3.out]; exact own_mono HR3.out hbase
  · rw [HW3.out]; exact HB3.out

/-- slices.Insert of one entry. -/
theorem insert_any (base : Nat) (A : Option Addr) (n c k b : Nat) (l : List Ac) (e : Ac) (hk : k ≤ n) (hl : n ≤ 1000) (hne : ∀ g, A = some ⟨g, 0, none⟩ → b ≠ g) (w : World) (hown : w.ownsRow base 31 5 (.slice A n c) n (encs l)) (hb : w.heap[b]? = some (.cells (enc e).toArray 31 (0, 0))) (hbase : base ≤ w.heap.size) :
    Calls Try.prog 44 #[.slice A n c, .int .i64 k, .slice (some ⟨b, 0, none⟩) 1 1] w fun x w' => ∃ A' c', x = .returned (.slice A' (n + 1) c') ∧ w'.ownsRow base 31 5 (.slice A' (n + 1) c') (n + 1) (encs (insL l k e)) ∧ Below base w w' := by
  rcases Nat.lt_or_ge k n with hlt | hge
  · obtain ⟨g, cap, hv, _, _⟩ := hown.form (by omega)
    obtain ⟨rfl, rfl⟩ : A = some ⟨g, 0, none⟩ ∧ c = cap := by injection hv with h1 h2 h3; exact ⟨h1, h3⟩
    rcases Nat.lt_or_ge c (n + 1) with hc | hc
    · exact (insert_grow base g n c k b l e hlt hl hc w hown hb hbase).mono fun x w' ⟨g', c', h⟩ => ⟨_, c', h⟩
    · exact (insert_shift base g n c k b l e hlt hl hc (hne g rfl) w hown hb).mono fun x w' h => ⟨_, c, h⟩
  · obtain rfl : k = n := by omega
    have hln := own_len hown
    have := insert_end base A k c b l e hl w hown hb hbase
    rw [show l ++ [e] = insL l k e by rw [← hln, insL_end]] at this
    exact this
end Go.Proofs.Ytkpedfigaofloaa
