/-
  Walk of the program's (*field).weight: what a known shard counts at a point.
-/
import Derived.Test.YtoodeoglpdapiaaUd
import Derived.Test.YtoodeoglpdapiaaSq
namespace Go.Proofs.Ytoodeoglpdapiaa
open Go.RowKit Gf
set_option maxHeartbeats 400000

/-- What the shard at the point one counts at x, over the first points. -/
def wgt (pts : List UInt8) (one x : UInt8) : Nat → UInt8
  | 0 => 1
  | k + 1 => if pts[k]?.getD 0 = one then wgt pts one x k else gm (wgt pts one x k) (gm (x ^^^ pts[k]?.getD 0) (gi (one ^^^ pts[k]?.getD 0)))
theorem wgt_term (pts : List UInt8) (hn : pts.Nodup) (i : Nat) (hi : i < pts.length) (v x : UInt8) : ∀ k, k ≤ pts.length → gm (wgt pts (pts[i]?.getD 0) x k) v = termTo pts i v x k
  | 0, _ => one_gm v
  | k + 1, hk => by
    have ih := wgt_term pts hn i hi v x k (by omega)
    have hk' : k < pts.length := by omega
    unfold wgt termTo
    by_cases e : k = i
    · subst e
      rw [if_pos rfl, if_pos rfl]; exact ih
    · have hne : ¬ pts[k]?.getD 0 = pts[i]?.getD 0 := by
        rw [List.getElem?_eq_getElem hi, List.getElem?_eq_getElem hk']
        intro h
        exact e ((List.getElem_inj hn).1 h)
      rw [if_neg hne, if_neg e, ← ih]
      generalize wgt pts (pts[i]?.getD 0) x k = a
      generalize x ^^^ pts[k]?.getD 0 = b
      generalize gi (pts[i]?.getD 0 ^^^ pts[k]?.getD 0) = c
      rw [gm_assoc, gm_comm (gm b c) v, gm_assoc, gm_assoc, ← gm_assoc v b c]
/-- The slice that starts at A holds known shards: each with its point and its bytes; all lies in blocks as ok says. -/
def Kns (ok : Nat → Prop) (w : World) (A : Option Addr) (ls : List (List UInt8)) (pts : List UInt8) : Prop :=
  pts ≠ [] → ∃ g, A = some ⟨g, 0, none⟩ ∧ ok g ∧ g < w.heap.size ∧ ∀ (j : Nat) (p : UInt8), pts[j]? = some p → w.cell? ⟨g, j * 2, none⟩ = some (.int .u8 p.toNat) ∧ ∃ B cb, w.cell? ⟨g, j * 2 + 1, none⟩ = some (.slice B (rowOf ls p).length cb) ∧ (rowOf ls p).length ≤ cb ∧ BytsO ok w B (rowOf ls p)
/-- The blocks as ok says are as before. -/
def Kept (ok : Nat → Prop) (w w' : World) : Prop := w.heap.size ≤ w'.heap.size ∧ ∀ b, ok b → b < w.heap.size → w'.heap[b]? = w.heap[b]?
theorem Kept.of {ok : Nat → Prop} {w w' : World} (hb : Below w.heap.size w w') : Kept ok w w' := ⟨hb.size, fun b _ h => hb.block b h⟩
theorem Kept.cell {ok : Nat → Prop} {w w' : World} (h : Kept ok w w') {b o : Nat} (hb : ok b) (hl : b < w.heap.size) : w'.cell? ⟨b, o, none⟩ = w.cell? ⟨b, o, none⟩ := World.cell?_of_block (h.2 b hb hl)
theorem BytsO.kept {ok : Nat → Prop} {w w' : World} {A : Option Addr} {l : List UInt8} (h : BytsO ok w A l) (hk : Kept ok w w') : BytsO ok w' A l := fun hn => by
  obtain ⟨b, o, h1, h2, h3, h4⟩ := h hn
  exact ⟨b, o, h1, h2, Nat.lt_of_lt_of_le h3 hk.1, fun j x hx => (hk.cell h2 h3).trans (h4 j x hx)⟩
theorem Kns.kept {ok : Nat → Prop} {w w' : World} {A : Option Addr} {ls : List (List UInt8)} {pts : List UInt8} (h : Kns ok w A ls pts) (hk : Kept ok w w') : Kns ok w' A ls pts := fun hn => by
  obtain ⟨g, hA, hok, hg, hc⟩ := h hn
  refine ⟨g, hA, hok, Nat.lt_of_lt_of_le hg hk.1, fun j p hp => ?_⟩
  obtain ⟨h1, B, cb, h2, h3, h4⟩ := hc j p hp
  exact ⟨(hk.cell hok hg).trans h1, B, cb, (hk.cell hok hg).trans h2, h3, h4.kept hk⟩
theorem Kns.below {ok : Nat → Prop} {w w' : World} {A : Option Addr} {ls : List (List UInt8)} {pts : List UInt8} (h : Kns ok w A ls pts) (hb : Below w.heap.size w w') : Kns ok w' A ls pts := h.kept (Kept.of hb)

/-- The contracts of mul and inv in the form in which a region that only reads wants them. -/
theorem fmul_q {p : Nat} {w : World} (hT : Tab w p) (a b : UInt8) (k : Nat) :
    Calls Try.prog 39 #[.pointer (some ⟨p, 0, none⟩), .int .u8 a.toNat, .int .u8 b.toNat] (w.drewN k) fun e w'' => e = .returned (.int .u8 (gm a b).toNat) ∧ ∃ n, w'' = w.drewN n :=
  (fmul_any p a b (w.drewN k) hT).mono fun _ _ ⟨he, n, hw⟩ => ⟨he, k + n, by rw [hw, World.drewN_drewN]⟩
theorem fmul_qx {p : Nat} {w : World} (hT : Tab w p) (x q b : UInt8) (k : Nat) :
    Calls Try.prog 39 #[.pointer (some ⟨p, 0, none⟩), .int .u8 ((x.toNat ^^^ q.toNat : Nat) : Int), .int .u8 b.toNat] (w.drewN k) fun e w'' => e = .returned (.int .u8 (gm (x ^^^ q) b).toNat) ∧ ∃ n, w'' = w.drewN n := by
  have := fmul_q hT (x ^^^ q) b k
  rwa [UInt8.toNat_xor] at this
theorem finv_qx {p : Nat} {w : World} (hT : Tab w p) (x q : UInt8) (k : Nat) :
    Calls Try.prog 40 #[.pointer (some ⟨p, 0, none⟩), .int .u8 ((x.toNat ^^^ q.toNat : Nat) : Int)] (w.drewN k) fun e w'' => e = .returned (.int .u8 (gi (x ^^^ q)).toNat) ∧ ∃ n, w'' = w.drewN n := by
  have h := finv_any p (x ^^^ q) (w.drewN k) hT
  rw [UInt8.toNat_xor] at h
  exact h.mono fun _ _ ⟨he, n, hw⟩ => ⟨he, k + n, by rw [hw, World.drewN_drewN]⟩

set_option maxHeartbeats 2000000 in
theorem weight_any (ok : Nat → Prop) (p : Nat) (A : Option Addr) (m c : Nat) (ls : List (List UInt8)) (pts : List UInt8) (one x : UInt8) (hm : pts.length = m) (hm2 : m ≤ 255) (w : World) (hT : Tab w p) (hK : Kns ok w A ls pts) :
    Calls Try.prog 51 #[.pointer (some ⟨p, 0, none⟩), .slice A m c, .int .u8 one.toNat, .int .u8 x.toNat] w fun e w' => e = .returned (.int .u8 (wgt pts one x m).toNat) ∧ Below w.heap.size w w' := by
  have HM := Lib.hid hm
  have HT := Lib.hid hT
  have HK := Lib.hid hK
  clear hm hT hK
  go_enter Try.func51, Try.ntmps51
  go_wp2
  go_loopw [9, 14] (fun a i wr => ∃ j : Nat, j ≤ m ∧ i = .int .i64 j ∧ a = .int .u8 (wgt pts one x j).toNat ∧ Below w.heap.size w wr) (fun _ i _ => m - (intOf i).toNat)
  case atStart => exact ⟨0, Nat.zero_le _, rfl, rfl, Below.refl _ _⟩
  case round =>
    obtain ⟨j, hj, rfl, rfl, hbw⟩ := hrel
    have hbs := hbw.size
    by_cases hlt : j < m
    · obtain ⟨a, ha⟩ : ∃ a, wgt pts one x j = a := ⟨_, rfl⟩
      have HA := Lib.hid ha
      rw [ha]
      clear ha
      have jl : (j : Int) < (m : Int) := by omega
      have j0 : (0 : Int) ≤ (j : Int) := by omega
      have hjl : j < pts.length := by rw [HM.out]; exact hlt
      obtain ⟨g, rfl, _, hg, hc⟩ := HK.out (List.ne_nil_of_length_pos (by omega))
      obtain ⟨q, hq⟩ : ∃ q, pts[j] = q := ⟨_, rfl⟩
      obtain ⟨h1, B, cb, h2, _, _⟩ := hc j q (by rw [List.getElem?_eq_getElem hjl, hq])
      have HQ := Lib.hid (show pts[j]?.getD 0 = q by rw [List.getElem?_eq_getElem hjl, hq]; rfl)
      obtain ⟨n, hn⟩ : ∃ n, (rowOf ls q).length = n := ⟨_, rfl⟩
      rw [hn] at h2
      have e1 := (hbw.cell (p := ⟨g, j * 2, none⟩) hg).trans h1
      have e2 := (hbw.cell (p := ⟨g, j * 2 + 1, none⟩) hg).trans h2
      have HBW := Lib.hid hbw
      clear hc hq h1 h2 hn hbw
      go_upto_region 5 with fail
      have hbA : Below wr.heap.size wr (wr.alloc (.cells #[.int .u8 q.toNat, .slice B n cb] 79)) := (Below.refl _ wr).alloc (Nat.le_refl _) _
      have k0 : (wr.alloc (.cells #[.int .u8 q.toNat, .slice B n cb] 79)).cell? ⟨wr.heap.size, 0, none⟩ = some (.int .u8 q.toNat) := by simp [go_sem]
      have HBA := Lib.hid (HBW.out.trans (hbA.mono hbs))
      generalize wr.alloc (.cells #[.int .u8 q.toNat, .slice B n cb] 79) = W at HBA k0 ⊢
      clear hbA e1 e2
      have hTW := HT.out.below HBA.out HT.out.lt
      have HI := Lib.hid (finv_qx hTW one q)
      have HX1 := Lib.hid (fmul_qx hTW x q (gi (one ^^^ q)))
      have HX2 := Lib.hid (fmul_q hTW a (gm (x ^^^ q) (gi (one ^^^ q))))
      clear hTW
      have exq := xor_byte x q
      have eoq := xor_byte one q
      by_cases hqo : q = one
      · have hb : ((q.toNat : Int) != (one.toNat : Int)) = false := by simp [hqo]
        have HQO := Lib.hid hqo
        clear hqo
        go_wp2
        go_roundw
        case rel => exact ⟨j + 1, by omega, by go_num, by rw [wgt, HQ.out, if_pos HQO.out, HA.out], HBA.out⟩
        case measure => simp [intOf]; omega
      · have hb : ((q.toNat : Int) != (one.toNat : Int)) = true := by
          simp only [bne_iff_ne, ne_eq]
          intro e
          exact hqo (UInt8.toNat_inj.1 (by omega))
        have HQO := Lib.hid hqo
        clear hqo
        go_wp2
        go_quiet (first | (go_at_call 40; with_reducible exact HI.out _) | (go_at_call 39; first | (with_reducible exact HX1.out _) | (with_reducible exact HX2.out _)))
        go_wp2
        go_roundw
        case rel => exact ⟨j + 1, by omega, by go_num, by rw [wgt, HQ.out, if_neg HQO.out, HA.out], HBA.out.trans ((below_drewN _ _).mono HBA.out.size)⟩
        case measure => simp [intOf]; omega
    · obtain rfl : j = m := by omega
      have HBW := Lib.hid hbw
      clear hbw
      go_wp2
      go_ret
      exact ⟨rfl, HBW.out⟩
end Go.Proofs.Ytoodeoglpdapiaa
