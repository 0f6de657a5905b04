/-
  Walk of the reference's Cut: a text is cut at its slashes, byte by byte. Nothing is asked of the world.
-/
import Derived.Test.YtimlfdlocjfgaaaDoorG
namespace Go.Proofs.YtimlfdlocjfgaaaDoor
open Go.RowKit Pl
set_option maxHeartbeats 400000

theorem own_empty (w : World) (e : TypeId) : (w.alloc (.cells #[] e)).ownsRow w.heap.size e 1 (.slice (some ⟨w.heap.size, 0, none⟩) 0 0) 0 [] :=
  ⟨rfl, .inr ⟨w.heap.size, 0, #[], rfl, Nat.le_refl _, heap_alloc_new w _, Nat.le_refl _, Nat.zero_le _, rfl, rfl⟩⟩

set_option maxHeartbeats 1000000 in
theorem rcut_any (p : ByteArray) (hp : p.size < 4294967281) (w : World) :
    Calls Tryd.prog 32 #[.string p] w fun e w' => ∃ A c, e = .returned (.slice A (cut p.data.toList).length c) ∧ Strs w.heap.size w' A (cut p.data.toList) ∧ Below w.heap.size w w' := by
  obtain ⟨i0, hi, hz0, hz1, hz2⟩ := info_parts info_string
  by_cases hn : p.data.toList = []
  · have h1 := empty_of hn
    have HN := Lib.hid hn
    clear hn
    go_enter Tryd.func32, Tryd.ntmps32
    go_wp2
    go_ret
    refine ⟨some ⟨w.heap.size, 0, none⟩, 0, ?_, ?_, by go_grown⟩
    · rw [HN.out]; rfl
    · rw [HN.out]; exact Strs.nil _ _ _
  · have h1 := nonempty_of hn
    have hcg := cutGo_cut hn
    have hsz := Lib.size_eq p
    have HS := Lib.hid hsz
    have HC := Lib.hid hcg
    clear hn hcg hsz
    go_enter Tryd.func32, Tryd.ntmps32
    go_wp2
    go_loopw [3, 4, 5] (fun o la i wr => ∃ (k : Nat) (A : Option Addr) (c : Nat) (l : ByteArray) (done : List Bs), k ≤ p.size ∧ i = .int .i64 k ∧ la = .string l ∧ o = .slice A done.length c ∧ done.length ≤ k ∧ l.size ≤ k ∧
        wr.ownsRow w.heap.size 9 1 (.slice A done.length c) done.length (strs done) ∧ Below w.heap.size w wr ∧ done ++ cutGo l.data.toList (p.data.toList.drop k) = cut p.data.toList)
      (fun _ _ i _ => p.size - (intOf i).toNat)
    case atStart =>
      exact ⟨0, some ⟨w.heap.size, 0, none⟩, 0, ⟨#[]⟩, [], Nat.zero_le _, rfl, rfl, rfl, Nat.le_refl _, Nat.le_refl _, own_empty _ _, by go_grown, HC.out⟩
    case round =>
      obtain ⟨k, A, c, l, done, hk, rfl, rfl, rfl, hdl, hll, hown, hbw, hgo⟩ := hrel
      obtain ⟨n, hn⟩ : ∃ n, done.length = n := ⟨_, rfl⟩
      rw [hn] at hdl hown
      rw [hn]
      have HG := Lib.hid hgo
      have HN := Lib.hid hn
      clear hgo hn
      have hbs := hbw.size
      by_cases hlt : k < p.size
      · have e0 : p.data.toList.drop k = p[k] :: p.data.toList.drop (k + 1) := by
          rw [List.drop_eq_getElem_cons (by rw [← HS.out]; exact hlt)]
          congr 1
        have E0 := Lib.hid e0
        clear e0
        by_cases h47 : p[k] = 47
        · have hb47 : ((p[k].toNat : Int) == 47) = true := by rw [h47]; rfl
          have H47 := Lib.hid h47
          clear h47
          go_wp2_with (at_builtin; refine wpList_append_own _ rfl _ _ 29 rfl w.heap.size 9 i0 (.string ⟨#[]⟩) 1 16 Tryd.underlying29 hi hz0 hz1 hz2 rfl (by decide) _ _ _ rfl (hown.alloc _) ⟨wr.heap.size, 0, none⟩ 1 1 [.string l] rfl rfl (cell_one_new _ _ _) (by simp [Value.oneCell']) (by unfold maxLen; omega) (by omega) (by simp; omega) ?_; intro v' w1 hown' hgrow _; obtain ⟨g', cap', rfl⟩ := ownsRow_succ hown')
          have hb2 : Below w.heap.size w w1 := (hbw.alloc hbs _).grown hgrow (by simp; omega) (fun j hj => (hown.lt j hj).1)
          go_roundw
          case rel =>
            refine ⟨k + 1, some ⟨g', 0, none⟩, cap', ⟨#[]⟩, done ++ [l.data.toList], by omega, by go_num, rfl, ?_, ?_, Nat.zero_le _, ?_, hb2, ?_⟩
            · rw [List.length_append, HN.out]; rfl
            · rw [List.length_append, HN.out]; simp; omega
            · rw [List.length_append, HN.out]; simpa [strs] using hown'
            · rw [← HG.out, E0.out, H47.out]; simp [cutGo]
          case measure => simp [intOf]; omega
        · have hb47 : ((p[k].toNat : Int) == 47) = false := by
            rw [beq_eq_false_iff_ne]; intro e
            exact h47 (UInt8.toNat_inj.1 (by have : (47 : UInt8).toNat = 47 := rfl; omega))
          have H47 := Lib.hid h47
          clear h47
          go_wp2
          go_roundw
          case rel =>
            refine ⟨k + 1, A, c, l ++ p.extract k (k + 1), done, by omega, by go_num, rfl, ?_, ?_, ?_, ?_, hbw, ?_⟩
            · rw [HN.out]
            · rw [HN.out]; omega
            · rw [ByteArray.size_append, ByteArray.size_extract]; omega
            · rw [HN.out]; exact hown
            · rw [← HG.out, E0.out, cutGo, if_neg H47.out, append_data, Lib.extract_data, E0.out]
              simp
          case measure => simp [intOf]; omega
      · obtain rfl : k = p.size := by omega
        go_wp2_with (at_builtin; refine wpList_append_own _ rfl _ _ 29 rfl w.heap.size 9 i0 (.string ⟨#[]⟩) 1 16 Tryd.underlying29 hi hz0 hz1 hz2 rfl (by decide) _ _ _ rfl (hown.alloc _) ⟨wr.heap.size, 0, none⟩ 1 1 [.string l] rfl rfl (cell_one_new _ _ _) (by simp [Value.oneCell']) (by unfold maxLen; omega) (by omega) (by simp; omega) ?_; intro v' w1 hown' hgrow _; obtain ⟨g', cap', rfl⟩ := ownsRow_succ hown')
        have hb2 : Below w.heap.size w w1 := (hbw.alloc hbs _).grown hgrow (by simp; omega) (fun j hj => (hown.lt j hj).1)
        go_ret
        have hcu : cut p.data.toList = done ++ [l.data.toList] := by
          rw [← HG.out, List.drop_of_length_le (by rw [← HS.out]; exact Nat.le_refl _)]; rfl
        refine ⟨some ⟨g', 0, none⟩, cap', ?_, ?_, hb2⟩
        · rw [hcu, List.length_append, HN.out]; rfl
        · rw [hcu]
          exact Strs.of_own (n := n + 1) (c := cap') (e := 9) (by simpa [strs] using hown')
end Go.Proofs.YtimlfdlocjfgaaaDoor
