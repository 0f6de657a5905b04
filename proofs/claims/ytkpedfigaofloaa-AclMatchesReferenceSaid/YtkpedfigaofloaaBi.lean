/-
  Walk of slices.Insert at entries.
-/
import Derived.Test.YtkpedfigaofloaaBh
namespace Go.Proofs.Ytkpedfigaofloaa
open Go.RowKit Ap
set_option maxHeartbeats 400000

set_option maxHeartbeats 2000000 in
theorem insert_end (base : Nat) (A : Option Addr) (n c b : Nat) (l : List Ac) (e : Ac) (hl : n ≤ 1000) (w : World) (hown : w.ownsRow base 31 5 (.slice A n c) n (encs l)) (hb : w.heap[b]? = some (.cells (enc e).toArray 31 (0, 0))) (hbase : base ≤ w.heap.size) :
    Calls Try.prog 44 #[.slice A n c, .int .i64 n, .slice (some ⟨b, 0, none⟩) 1 1] w fun x w' => ∃ A' c', x = .returned (.slice A' (n + 1) c') ∧ w'.ownsRow base 31 5 (.slice A' (n + 1) c') (n + 1) (encs (l ++ [e])) ∧ Below base w w' := by
  obtain ⟨i0, hi, hz0, hz1, hz2⟩ := info_parts info_ace
  have HNEWS := Lib.hid (fun j u hu => World.news_of_block hb j u hu)
  have H1 := Lib.hid (enc_one e)
  have HOWN := Lib.hid hown
  have n0 : (0 : Int) ≤ (n : Int) := by omega
  clear hown hb
  rcases A with _ | ⟨g, o, sp⟩
  · obtain ⟨rfl, rfl⟩ := own_none HOWN.out rfl
    go_enter Try.func44, Try.ntmps44
    go_wp2_with (at_builtin; refine wpList_append_own w rfl _ _ 22 rfl base 31 i0 _ 5 40 Try.underlying22 hi hz0 hz1 hz2 rfl (by decide) _ 0 (encs l) rfl HOWN.out ⟨b, 0, none⟩ 1 1 (enc e) rfl rfl HNEWS.out H1.out (by unfold maxLen; omega) (by omega) hbase ?_; intro v' w' hown' hg _; obtain ⟨A', c', rfl⟩ := own_form hown')
    go_ret
    exact ⟨A', c', rfl, by rw [encs_append, encs_one]; exact hown', (Below.refl base w).grown hg hbase (fun j hj => (HOWN.out.lt j hj).1)⟩
  · go_enter Try.func44, Try.ntmps44
    go_wp2_with (at_builtin; refine wpList_append_own w rfl _ _ 22 rfl base 31 i0 _ 5 40 Try.underlying22 hi hz0 hz1 hz2 rfl (by decide) _ n (encs l) rfl HOWN.out ⟨b, 0, none⟩ 1 1 (enc e) rfl rfl HNEWS.out H1.out (by unfold maxLen; omega) (by omega) hbase ?_; intro v' w' hown' hg _; obtain ⟨A', c', rfl⟩ := own_form hown')
    all_goals (go_ret; exact ⟨A', c', rfl, by rw [encs_append, encs_one]; exact hown', (Below.refl base w).grown hg hbase (fun j hj => (HOWN.out.lt j hj).1)⟩)

theorem sizeOf_ace (w : World) : (Go.sizeOf 31).run Try.prog w = .ok 5 w := by kernel_rfl
theorem shape_of_row {w : World} {b : Nat} {cs : Array Value} {t : TypeId} {fr : Nat × Nat} (h : w.heap[b]? = some (.cells cs t fr)) : w.shape? b = some (t, cs.size) := by
  unfold World.shape?; rw [h]
theorem overlaps_any (w : World) (g b o la ca lb cb : Nat) (hne : b ≠ g) {csb csg : Array Value} {tb tg : TypeId} (hb : w.heap[b]? = some (.cells csb tb (0, 0))) (hg : w.heap[g]? = some (.cells csg tg (0, 0))) (hk : csg.size ≠ 0) :
    (callFunc 47 #[.slice (some ⟨b, 0, none⟩) la ca, .slice (some ⟨g, o, none⟩) lb cb]).run Try.prog w = .ok (.value (.bool false)) w := by
  rw [run_callFunc_extern Try.func47 (by kernel_rfl) (by kernel_rfl) (by kernel_rfl) (e := Extern.SlicesOverlaps.overlaps #[22, 22] #[4]) (by kernel_rfl),
    Lib.run_overlaps_apart w 22 4 31 Try.underlying22 5 sizeOf_ace ⟨b, 0, none⟩ ⟨g, o, none⟩ la ca lb cb hne tb tg csb.size csg.size (shape_of_row hb) (shape_of_row hg) hk (frozen_of_row w b 0 csb tb hb) (frozen_of_row w b csb.size csb tb hb)]
  rfl
set_option maxHeartbeats 4000000 in
theorem insert_shift (base g n c k b : Nat) (l : List Ac) (e : Ac) (hk : k < n) (hl : n ≤ 1000) (hroom : n + 1 ≤ c) (hne : b ≠ g) (w : World) (hown : w.ownsRow base 31 5 (.slice (some ⟨g, 0, none⟩) n c) n (encs l)) (hb : w.heap[b]? = some (.cells (enc e).toArray 31 (0, 0))) :
    Calls Try.prog 44 #[.slice (some ⟨g, 0, none⟩) n c, .int .i64 k, .slice (some ⟨b, 0, none⟩) 1 1] w fun x w' => x = .returned (.slice (some ⟨g, 0, none⟩) (n + 1) c) ∧ w'.ownsRow base 31 5 (.slice (some ⟨g, 0, none⟩) (n + 1) c) (n + 1) (encs (insL l k e)) ∧ Below base w w' := by
  obtain ⟨i0, hi, hz0, hz1, hz2⟩ := info_parts info_ace
  have hn := own_len hown
  obtain ⟨cur, hbg, hcur, hnc, hcm, hcs, hxl, hxs⟩ := own_open hown
  have hov : ∀ o lb cb, (callFunc 47 #[.slice (some ⟨b, 0, none⟩) 1 1, .slice (some ⟨g, o, none⟩) lb cb]).run Try.prog w = .ok (.value (.bool false)) w := fun o lb cb => overlaps_any w g b o 1 1 lb cb hne hb hcur (by rw [hcs]; omega)
  obtain ⟨D, hD⟩ : ∃ D, encs (l.drop k) = D := ⟨_, rfl⟩
  have hDl : D.length = (n - k) * 5 := by rw [← hD, encs_length, List.length_drop, hn]
  have hlen1 : (l.take (k + 1) ++ l.drop k).length = n + 1 := by rw [List.length_append, List.length_take, List.length_drop, hn]; omega
  obtain ⟨W1, hW1⟩ : ∃ W1, W1 = w.drew.setCells g ((k + 1) * 5) D := ⟨_, rfl⟩
  have hr1 : W1.ownsRow base 31 5 (.slice (some ⟨g, 0, none⟩) (n + 1) c) (n + 1) (encs (l.take (k + 1) ++ l.drop k)) := by
    rw [hW1]
    refine own_write (n' := n + 1) hown.drew ((k + 1) * 5) D (by omega) hroom (by rw [encs_length, hlen1]) (fun i hi' => ?_)
    have := up_cells l k (by omega) i (by omega)
    rw [hD, hn] at this
    exact this
  have hb1 : Below base w W1 := by rw [hW1]; exact below_setCells (Below.refl base w).drew g hbg D _
  have hbr : W1.heap[b]? = some (.cells (enc e).toArray 31 (0, 0)) := by rw [hW1, other_setCells D _ g _ b hne]; exact hb
  have hr2 : (W1.setCells g (k * 5) (enc e)).ownsRow base 31 5 (.slice (some ⟨g, 0, none⟩) (n + 1) c) (n + 1) (encs (insL l k e)) := by
    refine own_write (n' := n + 1) hr1 (k * 5) (enc e) (by simp [enc]; omega) hroom (by rw [encs_length, insL_len (by omega), hn]) (fun i hi' => ?_)
    have := encs_put (l.take (k + 1) ++ l.drop k) k e (by omega) i (by omega)
    rw [up_set l k (by omega), hlen1] at this
    exact this
  have hb2 : Below base w (W1.setCells g (k * 5) (enc e)) := below_setCells hb1 g hbg (enc e) _
  have hsrc : ∀ j u, D[j]? = some u → w.drew.cell? ((⟨g, k * 5, none⟩ : Addr).add j) = some u := fun j u hu => by
    rw [← hD] at hu
    have hj := (List.getElem?_eq_some_iff.1 hu).1
    rw [encs_length, List.length_drop] at hj
    have := hown.drew.cellAt (k * 5 + j) (by omega)
    rw [encs_split l k, List.getElem?_append_right (by rw [encs_length, List.length_take]; omega)] at this
    rw [show k * 5 + j - (encs (l.take k)).length = j by rw [encs_length, List.length_take]; omega, hu] at this
    have hadd : (⟨g, k * 5, none⟩ : Addr).add j = ⟨g, k * 5 + j, none⟩ := by unfold Addr.add; split <;> simp_all
    rw [hadd]
    exact this
  have h1D : ∀ u ∈ D, u.oneCell' = true := by rw [← hD]; exact encs_one' _
  have hsp1 : ∀ j, j < D.length → (w.drew.cell? ⟨g, (k + 1) * 5 + j, none⟩).isSome = true ∧ w.drew.frozen? ⟨g, (k + 1) * 5 + j, none⟩ = false := fun j hj => own_spare hown.drew _ (by omega)
  have hsp2 : ∀ j, j < (enc e).length → (W1.cell? ⟨g, k * 5 + j, none⟩).isSome = true ∧ W1.frozen? ⟨g, k * 5 + j, none⟩ = false := fun j hj => own_spare hr1 _ (by simp [enc] at hj; omega)
  have HW1 := Lib.hid hW1
  have HR2 := Lib.hid hr2
  have HB2 := Lib.hid hb2
  have HSRC := Lib.hid hsrc
  have H1D := Lib.hid h1D
  have HSP1 := Lib.hid hsp1
  have HSP2 := Lib.hid hsp2
  have HDL := Lib.hid hDl
  have HNEWS := Lib.hid (fun j u hu => World.news_of_block hbr j u hu)
  have H1 := Lib.hid (enc_one e)
  clear hW1 hr1 hr2 hb1 hb2 hsrc h1D hsp1 hsp2 hDl hbr hb hlen1 hD hxs hxl hcs hcur hown hn hcm
  have f0 : ¬ ((k : Int) = (n : Int)) := by omega
  have f1 : (k : Int) ≤ (n : Int) := by omega
  have f2 : (k : Int) ≤ (n : Int) + 1 := by omega
  have f3 : ¬ (c = k) := by omega
  have f4 : ¬ (c = k + 1) := by omega
  have f5 : (n : Int) + 1 ≤ (c : Int) := by omega
  have f6 : k ≤ n + 1 := by omega
  have f7 : k + 1 ≤ n + 1 := by omega
  have f8 : k ≤ n := by omega
  have f9 : ¬ ((c : Int) < (n : Int) + 1) := by omega
  have f10 : (0 : Int) ≤ (k : Int) + 1 := by omega
  have g1 : IntKind.i64.wrap ((k : Int) + 1) = (k : Int) + 1 := IntWalk.i64_in _ (by omega)
  have g2 : IntKind.i64.wrap ((n : Int) + 1) = (n : Int) + 1 := IntWalk.i64_in _ (by omega)
  go_enter Try.func44, Try.ntmps44
  go_wp2_with (simp only [hov])
  go_region_law (refine step_copy5 rfl _ _ 22 22 rfl 31 i0 Try.underlying22 hi hz1 (b := g) (off := (k + 1) * 5) (dLen := n - k) (dCap := c - (k + 1)) (ad := ⟨g, k * 5, none⟩) (sLen := n + 1 - k) (sCap := c - k) (by simp [Act.eval, Act.put]) (by simp [Act.eval, Act.put]) (n - k) D (by simp only [Nat.min_def]; split <;> omega) HDL.out HSRC.out HSP1.out H1D.out ?_; intro w' hw'; have hwe := hw'.trans HW1.out.symm; clear hw'; subst hwe)
  go_wp2_with (refine wpList_copy5 rfl _ _ 22 22 rfl 31 i0 Try.underlying22 hi hz1 (b := g) (off := k * 5) (dLen := n + 1 - k) (dCap := c - k) (ad := ⟨b, 0, none⟩) (sLen := 1) (sCap := 1) (by rfl) (by rfl) 1 (enc e) (by simp only [Nat.min_def]; split <;> omega) rfl HNEWS.out HSP2.out H1.out ?_; intro w2 hw2; have HW2 := Lib.hid hw2; clear hw2)
  go_ret
  rw [HW2.out]
  exact ⟨rfl, HR2.out, HB2.out⟩
end Go.Proofs.Ytkpedfigaofloaa
