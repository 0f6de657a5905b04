/-
  Walks of the program's (*field).mul and (*field).inv, over the tables.
-/
import Derived.Test.YtoodeoglpdapiaaUb
import Derived.Deep.QuietTactic
import Derived.BigQuiet
import Derived.IntWalk
namespace Go.Proofs.Ytoodeoglpdapiaa
open Go.RowKit Gf
set_option maxHeartbeats 400000

theorem mul_logs {a b n m : Nat} (ha : xts n 1 = a) (hb : xts m 1 = b) (hb2 : b < 256) : mul a b = xts (n + m) 1 := by
  subst ha hb
  rw [E_mul hb2, ← xts_add]

theorem fmul_any (p : Nat) (a b : UInt8) (w : World) (hT : Tab w p) :
    Calls Try.prog 39 #[.pointer (some ⟨p, 0, none⟩), .int .u8 a.toNat, .int .u8 b.toNat] w fun e w' => e = .returned (.int .u8 (gm a b).toNat) ∧ ∃ n, w' = w.drewN n := by
  have ha := a.toNat_lt
  have hb := b.toNat_lt
  rw [gm_toNat]
  by_cases h0 : a.toNat = 0 ∨ b.toNat = 0
  · have hm : mul a.toNat b.toNat = 0 := by
      rcases h0 with h0 | h0 <;> rw [h0]
      · exact zero_mul _
      · exact mul_zero _
    rw [hm]
    by_cases h1 : a.toNat = 0
    · have e1 : ((a.toNat : Int) == 0) = true := by simp [h1]
      clear h0 h1 hm
      go_enter Try.func39, Try.ntmps39
      go_wp2
      go_ret
      exact ⟨rfl, 0, rfl⟩
    · have e1 : ((a.toNat : Int) == 0) = false := by simp; omega
      have e2 : ((b.toNat : Int) == 0) = true := by simp; omega
      clear h0 h1 hm
      go_enter Try.func39, Try.ntmps39
      go_wp2
      go_ret
      exact ⟨rfl, 0, rfl⟩
  · have e1 : ((a.toNat : Int) == 0) = false := by simp; omega
    have e2 : ((b.toNat : Int) == 0) = false := by simp; omega
    obtain ⟨n, hn, hna, c1⟩ := hT.log a.toNat ha (by omega)
    obtain ⟨m, hm, hmb, c2⟩ := hT.log b.toNat hb (by omega)
    have c3 := hT.pow (n + m) (by omega)
    rw [mul_logs hna hmb hb]
    obtain ⟨x, hx⟩ : ∃ x, a.toNat = x := ⟨_, rfl⟩
    obtain ⟨y, hy⟩ : ∃ y, b.toNat = y := ⟨_, rfl⟩
    rw [hx] at e1 c1 ha ⊢
    rw [hy] at e2 c2 hb ⊢
    obtain ⟨z, hz⟩ : ∃ z, xts (n + m) 1 = z := ⟨_, rfl⟩
    rw [hz] at c3 ⊢
    have hx256 : (x : Int) < 256 := by omega
    have hy256 : (y : Int) < 256 := by omega
    have hnm : (n : Int) + (m : Int) < 510 := by omega
    have hw1 : IntKind.i64.wrap (n : Int) = n := IntWalk.i64_in _ (by omega)
    have hw2 : IntKind.i64.wrap (m : Int) = m := IntWalk.i64_in _ (by omega)
    have hw3 : IntKind.i64.wrap ((n : Int) + (m : Int)) = (n : Int) + (m : Int) := IntWalk.i64_in _ (by omega)
    have hw4 : (0 : Int) ≤ (n : Int) + (m : Int) := by omega
    have hw5 : ((n : Int) + (m : Int)).toNat = n + m := by omega
    clear h0 hx hy hz hna hmb
    go_enter Try.func39, Try.ntmps39
    go_wp2
    go_quiet (fail)
    go_wp2
    go_ret
    exact ⟨rfl, _, rfl⟩

theorem inv_log {n : Nat} (hn : n < 255) {a : UInt8} (h : xts n 1 = a.toNat) : (gi a).toNat = xts (255 - n) 1 := by
  have p : xts 255 1 = 1 := by decide +kernel
  have hlt := xts_lt (a := 1) (by decide) (255 - n)
  have : (UInt8.ofNat (xts (255 - n) 1)) = gi a := gi_only (by
    apply UInt8.toNat_inj.1
    rw [gm_toNat, ofNat_toNat hlt, ← h, mul_logs rfl rfl hlt, show n + (255 - n) = 255 by omega, p]; rfl)
  rw [← this, ofNat_toNat hlt]

theorem finv_any (p : Nat) (a : UInt8) (w : World) (hT : Tab w p) :
    Calls Try.prog 40 #[.pointer (some ⟨p, 0, none⟩), .int .u8 a.toNat] w fun e w' => e = .returned (.int .u8 (gi a).toNat) ∧ ∃ n, w' = w.drewN n := by
  have ha := a.toNat_lt
  by_cases h0 : a.toNat = 0
  · obtain rfl : a = 0 := UInt8.toNat_inj.1 h0
    rw [gi_zero]
    clear h0
    go_enter Try.func40, Try.ntmps40
    go_wp2
    go_ret
    exact ⟨rfl, 0, rfl⟩
  · have e1 : ((a.toNat : Int) == 0) = false := by simp; omega
    obtain ⟨n, hn, hna, c1⟩ := hT.log a.toNat ha h0
    have c3 := hT.pow (255 - n) (by omega)
    rw [inv_log hn hna]
    obtain ⟨x, hx⟩ : ∃ x, a.toNat = x := ⟨_, rfl⟩
    rw [hx] at e1 c1 ha ⊢
    obtain ⟨z, hz⟩ : ∃ z, xts (255 - n) 1 = z := ⟨_, rfl⟩
    rw [hz] at c3 ⊢
    obtain ⟨q, hq⟩ : ∃ q, 255 - n = q := ⟨_, rfl⟩
    rw [hq] at c3
    have hx256 : (x : Int) < 256 := by omega
    have hnm : (q : Int) < 510 := by omega
    have hw1 : IntKind.i64.wrap (n : Int) = n := IntWalk.i64_in _ (by omega)
    have hw3 : IntKind.i64.wrap (255 - (n : Int)) = (q : Int) := by rw [IntWalk.i64_in _ (by omega)]; omega
    clear h0 hx hz hna hq
    go_enter Try.func40, Try.ntmps40
    go_wp2
    go_quiet (fail)
    go_wp2
    go_ret
    exact ⟨rfl, _, rfl⟩
end Go.Proofs.Ytoodeoglpdapiaa
