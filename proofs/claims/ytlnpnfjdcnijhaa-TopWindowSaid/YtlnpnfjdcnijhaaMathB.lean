/-
  Two rounds never meet exactly if what divides both lengths does not divide how far they are apart.
-/
import Derived.Test.YtlnpnfjdcnijhaaMath
namespace Go.Proofs.Ytlnpnfjdcnijhaa
set_option linter.unusedVariables false
set_option linter.unusedSimpArgs false
namespace M

theorem bez (m n : Nat) : ∃ x y : Int, ((Nat.gcd m n : Nat) : Int) = m * x + n * y := by
  induction m, n using Nat.gcd.induction with
  | H0 n => exact ⟨0, 1, by simp⟩
  | H1 m n hm ih =>
    obtain ⟨x, y, h⟩ := ih
    refine ⟨y - (n / m : Nat) * x, x, ?_⟩
    rw [Nat.gcd_rec, h]
    have e : ((n % m : Nat) : Int) = (n : Int) - m * (n / m : Nat) := by
      have := Nat.div_add_mod n m
      have h2 : ((m * (n / m) + n % m : Nat) : Int) = (n : Int) := by rw [this]
      rw [Int.natCast_add, Int.natCast_mul] at h2
      omega
    rw [e]
    grind
/-- What divides both lengths divides how far two rounds that meet are apart. -/
theorem hit_dvd {a e b n k : Nat} (h : hitB a e b n k = true) : ((Nat.gcd e n : Nat) : Int) ∣ (a : Int) - b := by
  unfold hitB at h
  simp only [beq_iff_eq] at h
  have h1 := Nat.div_add_mod (a + k * e) n
  rw [h] at h1
  obtain ⟨p, hp⟩ := Nat.gcd_dvd_left e n
  obtain ⟨q, hq⟩ := Nat.gcd_dvd_right e n
  generalize Nat.gcd e n = g at *
  refine ⟨(q : Int) * ((a + k * e) / n : Nat) - k * p, ?_⟩
  have h2 : ((n * ((a + k * e) / n) + b : Nat) : Int) = ((a + k * e : Nat) : Int) := by rw [h1]
  generalize (a + k * e) / n = t at *
  rw [Int.natCast_add, Int.natCast_add, Int.natCast_mul, Int.natCast_mul] at h2
  have hp' : (e : Int) = g * p := by rw [hp, Int.natCast_mul]
  have hq' : (n : Int) = g * q := by rw [hq, Int.natCast_mul]
  rw [hp', hq'] at h2
  grind
theorem dvd_hit {a e b n : Nat} (hn : 1 ≤ n) (hb : b < n) (h : ((Nat.gcd e n : Nat) : Int) ∣ (a : Int) - b) : ∃ k, k < n ∧ hitB a e b n k = true := by
  obtain ⟨t, ht⟩ := h
  obtain ⟨x, y, hxy⟩ := bez e n
  have hn0 : (n : Int) ≠ 0 := by omega
  have hnn := Int.emod_nonneg (-(x * t)) hn0
  have hlt := Int.emod_lt_of_pos (-(x * t)) (show (0 : Int) < n by omega)
  have hdm := Int.emod_add_mul_ediv (-(x * t)) n
  obtain ⟨k, hk⟩ := Int.eq_ofNat_of_zero_le hnn
  rw [hk] at hlt hdm
  refine ⟨k, by omega, ?_⟩
  unfold hitB
  simp only [beq_iff_eq]
  generalize (-(x * t)) / (n : Int) = s at *
  -- a + k e = b + n * (..)
  have key : (a : Int) + k * e = b + n * (y * t - s * e) := by
    have hk' : (k : Int) = -(x * t) - n * s := by omega
    rw [hk']
    have : (a : Int) = b + (e * x + n * y) * t := by rw [← hxy]; omega
    rw [this]
    grind
  have e1 : ((a + k * e : Nat) : Int) % (n : Int) = (b : Int) := by
    rw [Int.natCast_add, Int.natCast_mul, key, Int.add_mul_emod_self_left]
    exact Int.emod_eq_of_lt (by omega) (by omega)
  have e2 : (((a + k * e) % n : Nat) : Int) = (b : Int) := e1
  omega
/-- Two rounds never meet. -/
def nevN (a e b n : Nat) : Bool := decide (((a : Int) - b).tmod ((Nat.gcd e n : Nat) : Int) ≠ 0)
theorem nevN_false {a e b n : Nat} : nevN a e b n = false ↔ ((Nat.gcd e n : Nat) : Int) ∣ (a : Int) - b := by
  unfold nevN
  rw [Int.dvd_iff_tmod_eq_zero]
  simp
theorem nev_none {a e b n : Nat} (hn : 1 ≤ n) (hb : b < n) : nevN a e b n = true ↔ ∀ k, k < n → hitB a e b n k = false := by
  constructor
  · intro h k hk
    cases hh : hitB a e b n k with
    | false => rfl
    | true => rw [nevN_false.2 (hit_dvd hh)] at h; cases h
  · intro h
    cases hh : nevN a e b n with
    | true => rfl
    | false =>
      obtain ⟨k, hk, hk2⟩ := dvd_hit hn hb (nevN_false.1 hh)
      rw [h k hk] at hk2; cases hk2
end M
end Go.Proofs.Ytlnpnfjdcnijhaa
