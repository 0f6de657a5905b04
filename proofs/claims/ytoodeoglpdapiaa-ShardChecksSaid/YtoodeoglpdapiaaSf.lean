/-
  Plain facts of the field of bytes with the polynomial 285, and of polynomials over it: the value at a point of the polynomial through points.
-/
import Derived.Test.YtoodeoglpdapiaaProg
namespace Go.Proofs.Ytoodeoglpdapiaa
namespace Gf

/-- Twice a byte, in the field of the polynomial 285. -/
def xt (x : Nat) : Nat := if 255 < 2 * x then (2 * x) ^^^ 285 else 2 * x
def xts : Nat → Nat → Nat
  | 0, a => a
  | i + 1, a => xt (xts i a)
/-- The product, bit by bit, of the first i bits of b. -/
def mulTo (a b : Nat) : Nat → Nat
  | 0 => 0
  | i + 1 => if b.testBit i then mulTo a b i ^^^ xts i a else mulTo a b i
def mul (a b : Nat) : Nat := mulTo a b 8
theorem mulTo_no (a b i : Nat) (h : b.testBit i = false) : mulTo a b (i + 1) = mulTo a b i := by simp [mulTo, h]
theorem mulTo_yes (a b i : Nat) (h : b.testBit i = true) : mulTo a b (i + 1) = mulTo a b i ^^^ xts i a := by simp [mulTo, h]

theorem xt_lt {x : Nat} (h : x < 256) : xt x < 256 := by
  unfold xt; split
  · have e : (2 * x) ^^^ 285 < 2 ^ 9 := Nat.xor_lt_two_pow (by omega) (by omega)
    have : ∀ x < 256, 255 < 2 * x → (2 * x) ^^^ 285 < 256 := by decide +kernel
    exact this x h (by assumption)
  · omega
theorem xt_eq {x : Nat} (h : x < 256) : xt x = (2 * x) ^^^ (if x.testBit 7 then 285 else 0) := by
  have : ∀ x < 256, xt x = (2 * x) ^^^ (if x.testBit 7 then 285 else 0) := by decide +kernel
  exact this x h
theorem two_xor (x y : Nat) : 2 * (x ^^^ y) = (2 * x) ^^^ (2 * y) := by
  have := Nat.shiftLeft_xor_distrib (a := x) (b := y) (i := 1)
  simp only [Nat.shiftLeft_eq, Nat.pow_one] at this
  rw [Nat.mul_comm, this, Nat.mul_comm, Nat.mul_comm y]
theorem xor_lt {x y : Nat} (hx : x < 256) (hy : y < 256) : x ^^^ y < 256 := Nat.xor_lt_two_pow (n := 8) hx hy
theorem xor_ll (a b c : Nat) : a ^^^ (b ^^^ c) = b ^^^ (a ^^^ c) := by rw [← Nat.xor_assoc, Nat.xor_comm a b, Nat.xor_assoc]
theorem xor_cancel (a b : Nat) : a ^^^ (a ^^^ b) = b := by rw [← Nat.xor_assoc, Nat.xor_self, Nat.zero_xor]
theorem xt_xor {x y : Nat} (hx : x < 256) (hy : y < 256) : xt (x ^^^ y) = xt x ^^^ xt y := by
  rw [xt_eq (xor_lt hx hy), xt_eq hx, xt_eq hy, two_xor, Nat.testBit_xor]
  cases x.testBit 7 <;> cases y.testBit 7 <;> simp [Nat.xor_assoc, Nat.xor_comm, xor_ll, Nat.xor_self]
theorem xt_zero : xt 0 = 0 := rfl
theorem xts_lt {a : Nat} (h : a < 256) : ∀ i, xts i a < 256
  | 0 => h
  | i + 1 => xt_lt (xts_lt h i)
theorem xts_xor {x y : Nat} (hx : x < 256) (hy : y < 256) : ∀ i, xts i (x ^^^ y) = xts i x ^^^ xts i y
  | 0 => rfl
  | i + 1 => by
    show xt _ = xt _ ^^^ xt _
    rw [xts_xor hx hy i, xt_xor (xts_lt hx i) (xts_lt hy i)]
theorem xts_zero : ∀ i, xts i 0 = 0
  | 0 => rfl
  | i + 1 => by show xt (xts i 0) = 0; rw [xts_zero i]; rfl
theorem xts_add (a : Nat) : ∀ i j, xts (i + j) a = xts i (xts j a)
  | 0, j => by rw [Nat.zero_add]; rfl
  | i + 1, j => by rw [Nat.succ_add]; show xt _ = xt _; rw [xts_add a i j]
theorem mulTo_lt {a : Nat} (h : a < 256) (b : Nat) : ∀ i, mulTo a b i < 256
  | 0 => Nat.zero_lt_succ 255
  | i + 1 => by
    unfold mulTo; split
    · exact xor_lt (mulTo_lt h b i) (xts_lt h i)
    · exact mulTo_lt h b i
theorem mul_lt {a : Nat} (h : a < 256) (b : Nat) : mul a b < 256 := mulTo_lt h b 8
theorem mulTo_xt {a : Nat} (h : a < 256) (b : Nat) : ∀ i, mulTo (xt a) b i = xt (mulTo a b i)
  | 0 => rfl
  | i + 1 => by
    have e : xts i (xt a) = xt (xts i a) := by
      have := xts_add a i 1; have h2 := xts_add a 1 i
      rw [Nat.add_comm] at this
      exact this.symm.trans h2
    unfold mulTo; split
    · rw [mulTo_xt h b i, e, xt_xor (mulTo_lt h b i) (xts_lt h i)]
    · exact mulTo_xt h b i
theorem mul_xts {a : Nat} (h : a < 256) (b : Nat) : ∀ n, mul (xts n a) b = xts n (mul a b)
  | 0 => rfl
  | n + 1 => by
    show mulTo (xt (xts n a)) b 8 = xt (xts n (mul a b))
    rw [mulTo_xt (xts_lt h n), ← mul_xts h b n]; rfl
theorem one_mul {b : Nat} (h : b < 256) : mul 1 b = b := by
  have : ∀ b < 256, mul 1 b = b := by decide +kernel
  exact this b h
theorem E_mul {b : Nat} (h : b < 256) (n : Nat) : mul (xts n 1) b = xts n b := by rw [mul_xts (by decide), one_mul h]
/-- The powers of 2: their list is written by the kernel once. -/
def pows : Nat → Nat → List Nat
  | 0, _ => []
  | n + 1, x => x :: pows n (xt x)
theorem pows_get : ∀ n x i, i < n → (pows n x)[i]? = some (xts i x)
  | 0, _, _, h => absurd h (Nat.not_lt_zero _)
  | n + 1, x, 0, _ => rfl
  | n + 1, x, i + 1, h => by
    show (pows n (xt x))[i]? = _
    rw [pows_get n (xt x) i (by omega)]
    have := xts_add x i 1; have h2 := xts_add x 1 i
    rw [Nat.add_comm] at this
    exact congrArg some (this.symm.trans h2)
theorem log_ex {a : Nat} (h : a < 256) (h0 : a ≠ 0) : ∃ n, n < 255 ∧ xts n 1 = a := by
  have : ∀ a < 256, a = 0 ∨ a ∈ pows 255 1 := by decide +kernel
  rcases this a h with h1 | h1
  · exact absurd h1 h0
  · obtain ⟨i, hi, e⟩ := List.mem_iff_getElem.1 h1
    have hl : (pows 255 1).length = 255 := by decide +kernel
    refine ⟨i, by omega, ?_⟩
    have := pows_get 255 1 i (by omega)
    rw [List.getElem?_eq_getElem hi, e] at this
    exact (Option.some.inj this).symm
theorem mul_zero (a : Nat) : mul a 0 = 0 := by simp [mul, mulTo]
theorem zero_mulTo (b : Nat) : ∀ i, mulTo 0 b i = 0
  | 0 => rfl
  | i + 1 => by unfold mulTo; rw [xts_zero, zero_mulTo b i]; simp
theorem zero_mul (b : Nat) : mul 0 b = 0 := zero_mulTo b 8
theorem mul_one {a : Nat} (h : a < 256) : mul a 1 = a := by
  have : ∀ a < 256, mul a 1 = a := by decide +kernel
  exact this a h
theorem mul_comm {a b : Nat} (ha : a < 256) (hb : b < 256) : mul a b = mul b a := by
  by_cases a0 : a = 0
  · rw [a0, zero_mul, mul_zero]
  · by_cases b0 : b = 0
    · rw [b0, zero_mul, mul_zero]
    · obtain ⟨n, _, rfl⟩ := log_ex ha a0
      obtain ⟨m, _, rfl⟩ := log_ex hb b0
      rw [E_mul hb, E_mul ha, ← xts_add, ← xts_add, Nat.add_comm]
theorem mul_assoc {a b c : Nat} (ha : a < 256) (hb : b < 256) (hc : c < 256) : mul (mul a b) c = mul a (mul b c) := by
  by_cases a0 : a = 0
  · rw [a0, zero_mul, zero_mul, zero_mul]
  · by_cases b0 : b = 0
    · rw [b0, mul_zero, zero_mul, mul_zero]
    · obtain ⟨n, _, rfl⟩ := log_ex ha a0
      obtain ⟨m, _, rfl⟩ := log_ex hb b0
      rw [E_mul hb, ← xts_add, E_mul hc, E_mul hc, E_mul (xts_lt hc m), xts_add]
theorem mulTo_xor_right (a b c : Nat) : ∀ i, mulTo a (b ^^^ c) i = mulTo a b i ^^^ mulTo a c i
  | 0 => (Nat.xor_self 0).symm
  | i + 1 => by
    unfold mulTo
    rw [mulTo_xor_right a b c i, Nat.testBit_xor]
    cases b.testBit i <;> cases c.testBit i <;> simp [Nat.xor_assoc, Nat.xor_comm, xor_ll, Nat.xor_self]
theorem mul_xor (a b c : Nat) : mul a (b ^^^ c) = mul a b ^^^ mul a c := mulTo_xor_right a b c 8
theorem xts_ne : ∀ n, xts n 1 ≠ 0
  | 0 => by decide
  | n + 1 => by
    have : ∀ x < 256, xt x = 0 → x = 0 := by decide +kernel
    intro h
    exact xts_ne n (this _ (xts_lt (by decide) n) h)
theorem mul_ne {a b : Nat} (ha : a < 256) (hb : b < 256) (a0 : a ≠ 0) (b0 : b ≠ 0) : mul a b ≠ 0 := by
  obtain ⟨n, _, rfl⟩ := log_ex ha a0
  obtain ⟨m, _, rfl⟩ := log_ex hb b0
  rw [E_mul hb, ← xts_add]
  exact xts_ne _
theorem inv_ex {a : Nat} (h : a < 256) (h0 : a ≠ 0) : ∃ b, b < 256 ∧ b ≠ 0 ∧ mul a b = 1 := by
  obtain ⟨n, hn, rfl⟩ := log_ex h h0
  have p : xts 255 1 = 1 := by decide +kernel
  refine ⟨xts (255 - n) 1, xts_lt (by decide) _, xts_ne _, ?_⟩
  rw [E_mul (xts_lt (by decide) _), ← xts_add, show n + (255 - n) = 255 by omega, p]
end Gf
namespace Gf
/-- The field on bytes: product and inverse; the sum is the exclusive or. -/
def gm (a b : UInt8) : UInt8 := UInt8.ofNat (mul a.toNat b.toNat)
def invN (a : Nat) : Nat := ((List.range' 1 255).find? (fun i => mul a i == 1)).getD 0
def gi (a : UInt8) : UInt8 := UInt8.ofNat (invN a.toNat)
theorem ofNat_toNat {n : Nat} (h : n < 256) : (UInt8.ofNat n).toNat = n := by
  rw [UInt8.toNat_ofNat']; exact Nat.mod_eq_of_lt h
theorem gm_toNat (a b : UInt8) : (gm a b).toNat = mul a.toNat b.toNat := ofNat_toNat (mul_lt a.toNat_lt _)
theorem toNat_ne {a : UInt8} (h : a ≠ 0) : a.toNat ≠ 0 := fun e => h (UInt8.toNat_inj.1 e)
theorem gm_comm (a b : UInt8) : gm a b = gm b a := by
  apply UInt8.toNat_inj.1; rw [gm_toNat, gm_toNat, mul_comm a.toNat_lt b.toNat_lt]
theorem gm_assoc (a b c : UInt8) : gm (gm a b) c = gm a (gm b c) := by
  apply UInt8.toNat_inj.1; rw [gm_toNat, gm_toNat, gm_toNat, gm_toNat, mul_assoc a.toNat_lt b.toNat_lt c.toNat_lt]
theorem gm_xor (a b c : UInt8) : gm a (b ^^^ c) = gm a b ^^^ gm a c := by
  apply UInt8.toNat_inj.1; rw [gm_toNat, UInt8.toNat_xor, UInt8.toNat_xor, gm_toNat, gm_toNat, mul_xor]
theorem xor_gm (a b c : UInt8) : gm (a ^^^ b) c = gm a c ^^^ gm b c := by rw [gm_comm, gm_xor, gm_comm c, gm_comm c]
theorem gm_zero (a : UInt8) : gm a 0 = 0 := by
  apply UInt8.toNat_inj.1; rw [gm_toNat]; exact mul_zero _
theorem zero_gm (a : UInt8) : gm 0 a = 0 := by rw [gm_comm, gm_zero]
theorem gm_one (a : UInt8) : gm a 1 = a := by
  apply UInt8.toNat_inj.1; rw [gm_toNat]; exact mul_one a.toNat_lt
theorem one_gm (a : UInt8) : gm 1 a = a := by rw [gm_comm, gm_one]
theorem gm_eq_zero {a b : UInt8} : gm a b = 0 ↔ a = 0 ∨ b = 0 := by
  constructor
  · intro h
    by_cases ha : a = 0
    · exact .inl ha
    · by_cases hb : b = 0
      · exact .inr hb
      · exact absurd ((gm_toNat a b).symm.trans (congrArg UInt8.toNat h)) (mul_ne a.toNat_lt b.toNat_lt (toNat_ne ha) (toNat_ne hb))
  · rintro (rfl | rfl)
    · exact zero_gm _
    · exact gm_zero _
theorem invN_spec {a : Nat} (h : a < 256) (h0 : a ≠ 0) : 1 ≤ invN a ∧ invN a < 256 ∧ mul a (invN a) = 1 := by
  obtain ⟨b, hb, b0, e⟩ := inv_ex h h0
  unfold invN
  cases hf : (List.range' 1 255).find? (fun i => mul a i == 1) with
  | none =>
    have := List.find?_eq_none.1 hf b (List.mem_range'_1.2 ⟨by omega, by omega⟩)
    rw [e] at this; exact absurd rfl this
  | some i =>
    have h1 := List.find?_some hf
    have h2 := List.mem_range'_1.1 (List.mem_of_find?_eq_some hf)
    exact ⟨h2.1, by show i < 256; omega, by simpa using h1⟩
theorem invN_lt (a : Nat) : invN a < 256 := by
  unfold invN
  cases hf : (List.range' 1 255).find? (fun i => mul a i == 1) with
  | none => decide
  | some i => have h2 := List.mem_range'_1.1 (List.mem_of_find?_eq_some hf); show i < 256; omega
theorem gi_toNat (a : UInt8) : (gi a).toNat = invN a.toNat := ofNat_toNat (invN_lt _)
theorem gm_gi {a : UInt8} (h : a ≠ 0) : gm a (gi a) = 1 := by
  apply UInt8.toNat_inj.1
  rw [gm_toNat, gi_toNat, (invN_spec a.toNat_lt (toNat_ne h)).2.2]; rfl
theorem gi_zero : gi 0 = 0 := by decide +kernel
/-- An inverse is the only one. -/
theorem gi_only {a b : UInt8} (h : gm a b = 1) : b = gi a := by
  have ha : a ≠ 0 := by
    rintro rfl; rw [zero_gm] at h; exact absurd h (by decide)
  have : gm (gi a) (gm a b) = gm (gi a) 1 := by rw [h]
  rwa [← gm_assoc, gm_comm (gi a), gm_gi ha, one_gm, gm_one] at this

theorem x_ll (a b c : UInt8) : a ^^^ (b ^^^ c) = b ^^^ (a ^^^ c) := by rw [← UInt8.xor_assoc, UInt8.xor_comm a b, UInt8.xor_assoc]
theorem x_cancel (a b : UInt8) : a ^^^ (a ^^^ b) = b := by rw [← UInt8.xor_assoc, UInt8.xor_self, UInt8.zero_xor]
theorem x_eq_zero {a b : UInt8} : a ^^^ b = 0 ↔ a = b := by
  constructor
  · intro h
    have := congrArg (a ^^^ ·) h
    simp only [x_cancel, UInt8.xor_zero] at this
    exact this.symm
  · rintro rfl; exact UInt8.xor_self

/-- The value of a polynomial, the coefficient of the power 0 first. -/
def ev : List UInt8 → UInt8 → UInt8
  | [], _ => 0
  | c :: p, x => c ^^^ gm x (ev p x)
/-- The quotient by x + r. -/
def dv : List UInt8 → UInt8 → List UInt8
  | [], _ => []
  | [_], _ => []
  | _ :: c :: p, r => ev (c :: p) r :: dv (c :: p) r
theorem dv_len : ∀ (p : List UInt8) (r : UInt8), (dv p r).length = p.length - 1
  | [], _ => rfl
  | [_], _ => rfl
  | _ :: c :: p, r => by
    have := dv_len (c :: p) r
    simp only [dv, List.length_cons] at this ⊢
    omega
theorem ev_dv : ∀ (p : List UInt8) (r x : UInt8), ev p x = ev p r ^^^ gm (x ^^^ r) (ev (dv p r) x)
  | [], r, x => by simp [ev, dv, gm_zero]
  | [c], r, x => by simp [ev, dv, gm_zero]
  | a :: c :: p, r, x => by
    have ih := ev_dv (c :: p) r x
    show a ^^^ gm x (ev (c :: p) x) = (a ^^^ gm r (ev (c :: p) r)) ^^^ gm (x ^^^ r) (ev (c :: p) r ^^^ gm x (ev (dv (c :: p) r) x))
    generalize ev (c :: p) r = u at *
    generalize ev (dv (c :: p) r) x = v at *
    rw [ih, gm_xor, gm_xor, xor_gm x r u, ← gm_assoc, ← gm_assoc, gm_comm x (x ^^^ r)]
    simp only [UInt8.xor_assoc]
    congr 1
    rw [x_ll (gm r u) (gm x u), x_cancel]
/-- A polynomial with as many roots as coefficients is 0 everywhere. -/
theorem ev_roots : ∀ (pts p : List UInt8), p.length ≤ pts.length → pts.Nodup → (∀ r ∈ pts, ev p r = 0) → ∀ x, ev p x = 0
  | [], p, hl, _, _, x => by
    obtain rfl : p = [] := List.eq_nil_of_length_eq_zero (Nat.le_zero.1 hl)
    rfl
  | r :: pts, p, hl, hn, h, x => by
    have hr := h r List.mem_cons_self
    have hn' := List.nodup_cons.1 hn
    have q := ev_roots pts (dv p r) (by rw [dv_len]; simp only [List.length_cons] at hl; omega) hn'.2 (fun s hs => by
      have e := ev_dv p r s
      rw [h s (List.mem_cons_of_mem _ hs), hr, UInt8.zero_xor] at e
      rcases gm_eq_zero.1 e.symm with h1 | h1
      · exact absurd (x_eq_zero.1 h1 ▸ hs) hn'.1
      · exact h1) x
    rw [ev_dv p r x, hr, q, gm_zero]; rfl

/-- Sums and multiples of polynomials. -/
def add : List UInt8 → List UInt8 → List UInt8
  | [], q => q
  | p, [] => p
  | a :: p, b :: q => (a ^^^ b) :: add p q
def scale (c : UInt8) (p : List UInt8) : List UInt8 := p.map (gm c)
theorem ev_add : ∀ (p q : List UInt8) (x : UInt8), ev (add p q) x = ev p x ^^^ ev q x
  | [], q, x => by simp [add, ev]
  | a :: p, [], x => by simp [add, ev]
  | a :: p, b :: q, x => by
    simp only [add, ev, ev_add p q x, gm_xor]
    simp only [UInt8.xor_assoc]
    congr 1
    rw [x_ll]
theorem add_len : ∀ (p q : List UInt8) (n : Nat), p.length ≤ n → q.length ≤ n → (add p q).length ≤ n
  | [], q, n, _, h => h
  | a :: p, [], n, h, _ => h
  | a :: p, b :: q, n, hp, hq => by
    cases n with
    | zero => simp at hp
    | succ n => exact Nat.succ_le_succ (add_len p q n (Nat.le_of_succ_le_succ hp) (Nat.le_of_succ_le_succ hq))
theorem ev_scale (c : UInt8) : ∀ (p : List UInt8) (x : UInt8), ev (scale c p) x = gm c (ev p x)
  | [], x => (gm_zero c).symm
  | a :: p, x => by
    show gm c a ^^^ gm x (ev (scale c p) x) = gm c (a ^^^ gm x (ev p x))
    rw [ev_scale c p x, gm_xor, ← gm_assoc, ← gm_assoc, gm_comm x c]
/-- The polynomial times x + q, times c. -/
def step (p : List UInt8) (q c : UInt8) : List UInt8 := scale c (add (0 :: p) (scale q p))
theorem ev_step (p : List UInt8) (q c x : UInt8) : ev (step p q c) x = gm (gm (ev p x) (x ^^^ q)) c := by
  unfold step
  rw [ev_scale, ev_add, ev_scale]
  show gm c ((0 ^^^ gm x (ev p x)) ^^^ gm q (ev p x)) = _
  rw [UInt8.zero_xor, ← xor_gm, gm_comm, gm_comm (x ^^^ q)]
theorem step_len (p : List UInt8) (q c : UInt8) : (step p q c).length ≤ p.length + 1 := by
  unfold step scale
  rw [List.length_map]
  exact add_len _ _ _ (Nat.le_refl _) (by rw [List.length_map]; omega)

/-- One term of the value at x of the polynomial through points: of the point with the index i, over the first points. -/
def termTo (pts : List UInt8) (i : Nat) (v x : UInt8) : Nat → UInt8
  | 0 => v
  | k + 1 => if k = i then termTo pts i v x k else gm (gm (termTo pts i v x k) (x ^^^ pts[k]?.getD 0)) (gi (pts[i]?.getD 0 ^^^ pts[k]?.getD 0))
/-- The sum of the first terms. -/
def atTo (pts vals : List UInt8) (x : UInt8) : Nat → UInt8
  | 0 => 0
  | i + 1 => atTo pts vals x i ^^^ termTo pts i (vals[i]?.getD 0) x pts.length
/-- The value at x of the polynomial through the points with the values. -/
def at_ (pts vals : List UInt8) (x : UInt8) : UInt8 := atTo pts vals x pts.length

def termP (pts : List UInt8) (i : Nat) (v : UInt8) : Nat → List UInt8
  | 0 => [v]
  | k + 1 => if k = i then termP pts i v k else step (termP pts i v k) (pts[k]?.getD 0) (gi (pts[i]?.getD 0 ^^^ pts[k]?.getD 0))
theorem ev_termP (pts : List UInt8) (i : Nat) (v x : UInt8) : ∀ k, ev (termP pts i v k) x = termTo pts i v x k
  | 0 => by simp [termP, termTo, ev, gm_zero]
  | k + 1 => by
    unfold termP termTo
    split
    · exact ev_termP pts i v x k
    · rw [ev_step, ev_termP pts i v x k]
theorem termP_len (pts : List UInt8) (i : Nat) (v : UInt8) : ∀ k, (termP pts i v k).length ≤ (if i < k then k else k + 1)
  | 0 => by simp [termP]
  | k + 1 => by
    have := termP_len pts i v k
    unfold termP
    split
    · subst i; simp at this ⊢; exact this
    · refine Nat.le_trans (step_len _ _ _) ?_
      repeat' split at this
      all_goals (split <;> omega)
def sumP (pts vals : List UInt8) : Nat → List UInt8
  | 0 => []
  | i + 1 => add (sumP pts vals i) (termP pts i (vals[i]?.getD 0) pts.length)
theorem ev_sumP (pts vals : List UInt8) (x : UInt8) : ∀ i, ev (sumP pts vals i) x = atTo pts vals x i
  | 0 => rfl
  | i + 1 => by unfold sumP atTo; rw [ev_add, ev_sumP pts vals x i, ev_termP]
theorem sumP_len (pts vals : List UInt8) : ∀ i, i ≤ pts.length → (sumP pts vals i).length ≤ pts.length
  | 0, _ => Nat.zero_le _
  | i + 1, h => by
    unfold sumP
    refine add_len _ _ _ (sumP_len pts vals i (by omega)) ?_
    have := termP_len pts i (vals[i]?.getD 0) pts.length
    rw [if_pos (by omega)] at this
    exact this
/-- There is one polynomial of that degree with the values. -/
theorem at_poly (pts vals : List UInt8) : ∃ p : List UInt8, p.length ≤ pts.length ∧ ∀ x, ev p x = at_ pts vals x :=
  ⟨sumP pts vals pts.length, sumP_len _ _ _ (Nat.le_refl _), fun x => ev_sumP pts vals x _⟩

theorem termTo_other (pts : List UInt8) (i j : Nat) (v : UInt8) (hij : j ≠ i) : ∀ k, j < k → termTo pts i v (pts[j]?.getD 0) k = 0
  | 0, h => absurd h (Nat.not_lt_zero _)
  | k + 1, h => by
    unfold termTo
    split
    · exact termTo_other pts i j v hij k (by omega)
    · by_cases e : k = j
      · subst e; rw [UInt8.xor_self, gm_zero, zero_gm]
      · rw [termTo_other pts i j v hij k (by omega), zero_gm, zero_gm]
theorem termTo_same (pts : List UInt8) (hn : pts.Nodup) (i : Nat) (hi : i < pts.length) (v : UInt8) : ∀ k, k ≤ pts.length → termTo pts i v (pts[i]?.getD 0) k = v
  | 0, _ => rfl
  | k + 1, h => by
    unfold termTo
    split
    · exact termTo_same pts hn i hi v k (by omega)
    · rename_i hne
      rw [termTo_same pts hn i hi v k (by omega), gm_assoc, gm_gi, gm_one]
      intro e
      have := x_eq_zero.1 e
      rw [List.getElem?_eq_getElem hi, List.getElem?_eq_getElem (show k < pts.length by omega)] at this
      have H := List.pairwise_iff_getElem.1 hn
      rcases Nat.lt_trichotomy k i with h1 | h1 | h1
      · exact H k i (by omega) hi h1 this.symm
      · exact hne h1
      · exact H i k hi (by omega) h1 this
theorem atTo_point (pts vals : List UInt8) (hn : pts.Nodup) (j : Nat) (hj : j < pts.length) : ∀ i, i ≤ pts.length → atTo pts vals (pts[j]?.getD 0) i = if j < i then vals[j]?.getD 0 else 0
  | 0, _ => rfl
  | i + 1, h => by
    unfold atTo
    rw [atTo_point pts vals hn j hj i (by omega)]
    by_cases e : j = i
    · subst e
      rw [if_neg (Nat.lt_irrefl _), if_pos (Nat.lt_succ_self _), termTo_same pts hn j hj _ _ (Nat.le_refl _), UInt8.zero_xor]
    · rw [termTo_other pts i j _ e _ hj, UInt8.xor_zero]
      by_cases e2 : j < i
      · rw [if_pos e2, if_pos (by omega)]
      · rw [if_neg e2, if_neg (by omega)]
/-- At its points the polynomial has its values. -/
theorem at_point (pts vals : List UInt8) (hn : pts.Nodup) (j : Nat) (hj : j < pts.length) : at_ pts vals (pts[j]?.getD 0) = vals[j]?.getD 0 := by
  unfold at_
  rw [atTo_point pts vals hn j hj _ (Nat.le_refl _), if_pos hj]
/-- Two polynomials of a degree below the number of points that agree at them agree everywhere. -/
theorem ev_same (pts p q : List UInt8) (hn : pts.Nodup) (hp : p.length ≤ pts.length) (hq : q.length ≤ pts.length) (h : ∀ r ∈ pts, ev p r = ev q r) (x : UInt8) : ev p x = ev q x := by
  have := ev_roots pts (add p q) (add_len _ _ _ hp hq) hn (fun r hr => by rw [ev_add, h r hr, UInt8.xor_self]) x
  rw [ev_add] at this
  exact x_eq_zero.1 this
/-- Whatever has the values at the points, and is a polynomial of that degree, is the polynomial through them. -/
theorem at_only (pts vals p : List UInt8) (hn : pts.Nodup) (hp : p.length ≤ pts.length) (h : ∀ j, j < pts.length → ev p (pts[j]?.getD 0) = vals[j]?.getD 0) (x : UInt8) : at_ pts vals x = ev p x := by
  obtain ⟨q, hq, e⟩ := at_poly pts vals
  rw [← e x]
  refine ev_same pts q p hn hq hp (fun r hr => ?_) x
  obtain ⟨j, hj, rfl⟩ := List.mem_iff_getElem.1 hr
  have h1 := at_point pts vals hn j hj
  have h2 := h j hj
  rw [List.getElem?_eq_getElem hj] at h1 h2
  rw [e, show pts[j] = (some pts[j]).getD 0 from rfl, h1, h2]
/-- The polynomial through other points, as many, on the polynomial is the same one. -/
theorem at_again (pts vals pts' vals' : List UInt8) (hn' : pts'.Nodup) (hl : pts.length = pts'.length) (h : ∀ j, j < pts'.length → vals'[j]?.getD 0 = at_ pts vals (pts'[j]?.getD 0)) (x : UInt8) : at_ pts' vals' x = at_ pts vals x := by
  obtain ⟨p, hp, e⟩ := at_poly pts vals
  rw [← e x]
  exact at_only pts' vals' p hn' (by omega) (fun j hj => by rw [e, h j hj]) x
/-- The polynomial of sums of values is the sum of the polynomials. -/
theorem at_xor (pts v1 v2 v3 : List UInt8) (h : ∀ j, j < pts.length → v3[j]?.getD 0 = v1[j]?.getD 0 ^^^ v2[j]?.getD 0) (x : UInt8) : at_ pts v3 x = at_ pts v1 x ^^^ at_ pts v2 x := by
  have T : ∀ i a b k, termTo pts i (a ^^^ b) x k = termTo pts i a x k ^^^ termTo pts i b x k := by
    intro i a b k
    induction k with
    | zero => rfl
    | succ k ih =>
      unfold termTo
      split
      · exact ih
      · rw [ih, xor_gm, xor_gm]
  have A : ∀ i, i ≤ pts.length → atTo pts v3 x i = atTo pts v1 x i ^^^ atTo pts v2 x i := by
    intro i
    induction i with
    | zero => intro _; exact (UInt8.xor_self).symm
    | succ i ih =>
      intro hi
      unfold atTo
      rw [ih (by omega), h i (by omega), T]
      simp only [UInt8.xor_assoc]
      congr 1
      rw [x_ll]
  exact A _ (Nat.le_refl _)
end Gf
end Go.Proofs.Ytoodeoglpdapiaa
