/-
  Numbers in digits of 32 bits, and what awards add up to over a common denominator. Mathematics alone.
-/
import Derived.Test.YthleekdkbgnabaaMathB
namespace Go.Proofs.Ythleekdkbgnabaa
set_option linter.unusedVariables false
set_option linter.unusedSimpArgs false

namespace M
/-- A digit's base. -/
def bs : Nat := 4294967296
theorem bs_pos : 0 < bs := by decide
theorem bsp (k : Nat) : 0 < bs ^ k := Nat.pow_pos bs_pos
/-- The digit k. -/
def dg (N k : Nat) : Nat := N / bs ^ k % bs
theorem dg_lt (N k : Nat) : dg N k < 4294967296 := Nat.mod_lt _ bs_pos
theorem mod_succ (N k : Nat) : N % bs ^ (k + 1) = N % bs ^ k + bs ^ k * dg N k := by
  rw [Nat.pow_succ, Nat.mod_mul]; rfl
/-- What is carried to the digit k of a product. -/
def cry (N n k : Nat) : Nat := N % bs ^ k * n / bs ^ k
theorem cry_zero (N n : Nat) : cry N n 0 = 0 := by simp [cry, Nat.mod_one]
theorem cry_le (N n k : Nat) : cry N n k ≤ n := by
  unfold cry
  have h1 : N % bs ^ k < bs ^ k := Nat.mod_lt _ (bsp k)
  have h2 : N % bs ^ k * n ≤ bs ^ k * n := Nat.mul_le_mul_right n (by omega)
  calc N % bs ^ k * n / bs ^ k ≤ bs ^ k * n / bs ^ k := Nat.div_le_div_right h2
    _ = n := Nat.mul_div_cancel_left n (bsp k)
theorem cry_mid (N n k : Nat) : N % bs ^ (k + 1) * n / bs ^ k = cry N n k + dg N k * n := by
  have h1 : N % bs ^ (k + 1) * n = N % bs ^ k * n + bs ^ k * (dg N k * n) := by rw [mod_succ, Nat.add_mul, Nat.mul_assoc]
  rw [h1, Nat.add_mul_div_left _ _ (bsp k)]
  rfl
theorem cry_succ (N n k : Nat) : cry N n (k + 1) = (cry N n k + dg N k * n) / bs := by
  have h : cry N n (k + 1) = N % bs ^ (k + 1) * n / bs ^ k / bs := by
    rw [Nat.div_div_eq_div_mul, ← Nat.pow_succ]; rfl
  rw [h, cry_mid]
theorem dg_mul (N n k : Nat) : dg (N * n) k = (cry N n k + dg N k * n) % bs := by
  have h0 : N = N % bs ^ (k + 1) + bs ^ (k + 1) * (N / bs ^ (k + 1)) := (Nat.mod_add_div _ _).symm
  have h1 : N * n = N % bs ^ (k + 1) * n + bs ^ k * (bs * (N / bs ^ (k + 1) * n)) := by
    have : N * n = (N % bs ^ (k + 1) + bs ^ (k + 1) * (N / bs ^ (k + 1))) * n := by rw [← h0]
    rw [this, Nat.add_mul, Nat.pow_succ]
    simp only [Nat.mul_assoc]
  unfold dg
  rw [h1, Nat.add_mul_div_left _ _ (bsp k), Nat.add_mul_mod_self_left, cry_mid]
  rfl
/-- What is carried to the digit k of a sum. -/
def crp (N M k : Nat) : Nat := (N % bs ^ k + M % bs ^ k) / bs ^ k
theorem crp_zero (N M : Nat) : crp N M 0 = 0 := by simp [crp, Nat.mod_one]
theorem crp_le (N M k : Nat) : crp N M k ≤ 1 := by
  unfold crp
  have h1 : N % bs ^ k < bs ^ k := Nat.mod_lt _ (bsp k)
  have h2 : M % bs ^ k < bs ^ k := Nat.mod_lt _ (bsp k)
  have h3 : (N % bs ^ k + M % bs ^ k) / bs ^ k < 2 := (Nat.div_lt_iff_lt_mul (bsp k)).2 (by omega)
  omega
theorem crp_mid (N M k : Nat) : (N % bs ^ (k + 1) + M % bs ^ (k + 1)) / bs ^ k = crp N M k + (dg N k + dg M k) := by
  have h1 : N % bs ^ (k + 1) + M % bs ^ (k + 1) = (N % bs ^ k + M % bs ^ k) + bs ^ k * (dg N k + dg M k) := by
    rw [mod_succ, mod_succ, Nat.mul_add]; omega
  rw [h1, Nat.add_mul_div_left _ _ (bsp k)]
  rfl
theorem crp_succ (N M k : Nat) : crp N M (k + 1) = (crp N M k + (dg N k + dg M k)) / bs := by
  have h : crp N M (k + 1) = (N % bs ^ (k + 1) + M % bs ^ (k + 1)) / bs ^ k / bs := by
    rw [Nat.div_div_eq_div_mul, ← Nat.pow_succ]; rfl
  rw [h, crp_mid]
theorem dg_add (N M k : Nat) : dg (N + M) k = (crp N M k + (dg N k + dg M k)) % bs := by
  have h0 : N = N % bs ^ (k + 1) + bs ^ (k + 1) * (N / bs ^ (k + 1)) := (Nat.mod_add_div _ _).symm
  have h0' : M = M % bs ^ (k + 1) + bs ^ (k + 1) * (M / bs ^ (k + 1)) := (Nat.mod_add_div _ _).symm
  have h1 : N + M = (N % bs ^ (k + 1) + M % bs ^ (k + 1)) + bs ^ k * (bs * (N / bs ^ (k + 1) + M / bs ^ (k + 1))) := by
    have e : bs ^ (k + 1) = bs ^ k * bs := Nat.pow_succ ..
    have e1 : bs ^ k * (bs * (N / bs ^ (k + 1) + M / bs ^ (k + 1))) = bs ^ (k + 1) * (N / bs ^ (k + 1)) + bs ^ (k + 1) * (M / bs ^ (k + 1)) := by
      rw [← Nat.mul_assoc, ← e, Nat.mul_add]
    rw [e1]; omega
  unfold dg
  rw [h1, Nat.add_mul_div_left _ _ (bsp k), Nat.add_mul_mod_self_left, crp_mid]
  rfl
/-- Numbers below base to the 6 with the same six digits are the same. -/
theorem dg_all {N M : Nat} (hN : N < bs ^ 6) (hM : M < bs ^ 6) (h : ∀ k, k < 6 → dg N k = dg M k) : N = M := by
  have : ∀ k, k ≤ 6 → N % bs ^ k = M % bs ^ k := by
    intro k
    induction k with
    | zero => intro _; simp [Nat.mod_one]
    | succ k ih => intro hk; rw [mod_succ, mod_succ, ih (by omega), h k (by omega)]
  have h6 := this 6 (Nat.le_refl _)
  rwa [Nat.mod_eq_of_lt hN, Nat.mod_eq_of_lt hM] at h6

/-! ### what awards add up to -/
def nN (D : List Rt) (k : Nat) : Nat := (rt D k).n.toNat
def dN (D : List Rt) (k : Nat) : Nat := (rt D k).d.toNat
/-- All denominators multiplied out. -/
def cmN (D : List Rt) : Nat → Nat
  | 0 => 1
  | k + 1 => cmN D k * dN D k
/-- The sum over that denominator. -/
def suN (D : List Rt) : Nat → Nat
  | 0 => 0
  | k + 1 => suN D k * dN D k + cmN D k * nN D k
theorem cmN_succ (D : List Rt) (k : Nat) : cmN D (k + 1) = cmN D k * dN D k := rfl
theorem suN_succ (D : List Rt) (k : Nat) : suN D (k + 1) = suN D k * dN D k + cmN D k * nN D k := rfl
/-- Awards whose sum is wanted: none below 0 or above 1000, with denominators up to a million. -/
def awG (a : Rt) : Prop := (0 ≤ a.n ∧ a.n ≤ 1000 * a.d) ∧ 1 ≤ a.d ∧ a.d ≤ 1000000
theorem cmN_b {D : List Rt} {m : Nat} (h : ∀ i, i < m → awG (rt D i)) : ∀ k, k ≤ m → 1 ≤ cmN D k ∧ cmN D k ≤ 1000000 ^ k := by
  intro k
  induction k with
  | zero => intro _; exact ⟨Nat.le_refl _, Nat.le_refl _⟩
  | succ k ih =>
    intro hk
    obtain ⟨a, b⟩ := ih (by omega)
    have h1 := h k (by omega)
    unfold awG at h1
    have h2 : 1 ≤ dN D k ∧ dN D k ≤ 1000000 := by unfold dN; omega
    rw [cmN_succ, Nat.pow_succ]
    exact ⟨Nat.mul_le_mul a h2.1, Nat.mul_le_mul b h2.2⟩
theorem suN_b {D : List Rt} {m : Nat} (h : ∀ i, i < m → awG (rt D i)) : ∀ k, k ≤ m → suN D k ≤ 1000 * k * cmN D k := by
  intro k
  induction k with
  | zero => intro _; exact Nat.zero_le _
  | succ k ih =>
    intro hk
    have a := ih (by omega)
    have h1 := h k (by omega)
    unfold awG at h1
    have h2 : nN D k ≤ 1000 * dN D k := by unfold nN dN; omega
    rw [cmN_succ, suN_succ]
    have e1 : suN D k * dN D k ≤ 1000 * k * cmN D k * dN D k := Nat.mul_le_mul_right _ a
    have e2 : cmN D k * nN D k ≤ cmN D k * (1000 * dN D k) := Nat.mul_le_mul_left _ h2
    have e3 : 1000 * (k + 1) * (cmN D k * dN D k) = 1000 * k * cmN D k * dN D k + cmN D k * (1000 * dN D k) := by
      generalize cmN D k = c; generalize dN D k = d; grind
    omega
/-- Awards share an estate. -/
def addsB (D : List Rt) (e : Nat) : Bool := decide (suN D D.length = cmN D D.length * e)
theorem sum_small {D : List Rt} (hl : D.length ≤ 8) (h : ∀ i, i < D.length → awG (rt D i)) {k : Nat} (hk : k ≤ D.length) : cmN D k ≤ 1000000 ^ 8 ∧ suN D k ≤ 8000 * 1000000 ^ 8 := by
  have a := (cmN_b h k hk).2
  have b := suN_b h k hk
  have c : (1000000 : Nat) ^ k ≤ 1000000 ^ 8 := Nat.pow_le_pow_right (by decide) (by omega)
  have d : cmN D k ≤ 1000000 ^ 8 := Nat.le_trans a c
  refine ⟨d, Nat.le_trans b ?_⟩
  exact Nat.mul_le_mul (by omega) d
/-- Fractions with one denominator. -/
theorem sum_of {D : List Rt} {q : Int} {f : Nat → Int} {g : Nat → Int} {m : Nat} (h : ∀ i, i < m → awG (rt D i)) (hf : ∀ i, i < m → (rt D i).n * q = f i * (rt D i).d) (h0 : g 0 = 0) (hs : ∀ i, i < m → g (i + 1) = g i + f i) :
    ∀ k, k ≤ m → (suN D k : Int) * q = g k * (cmN D k : Int) := by
  intro k
  induction k with
  | zero => intro _; simp [suN, h0]
  | succ k ih =>
    intro hk
    have a := ih (by omega)
    have b := hf k (by omega)
    have h1 := h k (by omega)
    unfold awG at h1
    have e1 : ((nN D k : Nat) : Int) = (rt D k).n := by unfold nN; omega
    have e2 : ((dN D k : Nat) : Int) = (rt D k).d := by unfold dN; omega
    rw [hs k (by omega), suN_succ, cmN_succ]
    push_cast
    rw [e1, e2]
    generalize (rt D k).n = n at *
    generalize (rt D k).d = d at *
    generalize (suN D k : Int) = s at *
    generalize (cmN D k : Int) = c at *
    generalize g k = G at *
    generalize f k = F at *
    have e3 : (s * d + c * n) * q = (s * q) * d + c * (n * q) := by grind
    rw [e3, a, b]
    grind
theorem adds_of {D : List Rt} {q : Int} {f : Nat → Int} {g : Nat → Int} {e : Nat} (hq : 1 ≤ q) (h : ∀ i, i < D.length → awG (rt D i)) (hf : ∀ i, i < D.length → (rt D i).n * q = f i * (rt D i).d) (h0 : g 0 = 0) (hs : ∀ i, i < D.length → g (i + 1) = g i + f i) (he : g D.length = (e : Int) * q) : addsB D e = true := by
  have a := sum_of h hf h0 hs D.length (Nat.le_refl _)
  unfold addsB
  rw [decide_eq_true_eq]
  rw [he] at a
  have b : ((suN D D.length : Nat) : Int) * q = ((cmN D D.length * e : Nat) : Int) * q := by rw [a]; push_cast; grind
  have c := Int.eq_of_mul_eq_mul_right (by omega) b
  exact_mod_cast c
end M
end Go.Proofs.Ythleekdkbgnabaa
