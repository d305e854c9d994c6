/-
  Plain mathematics of a ratio in lowest terms, found by trying all divisors.
-/
import Derived.Test.YtgjgpcpghglnnaaMath
namespace Go.Proofs.Ytgjgpcpghglnnaa
namespace M
/-- Where the search for divisors is: what is left of both, no number below k divides both. -/
structure Rin (N D n d k : Nat) : Prop where
  ex : ∃ g, 1 ≤ g ∧ N = n * g ∧ D = d * g
  pos : 1 ≤ d
  no : ∀ j, 2 ≤ j → j < k → ¬ (j ∣ n ∧ j ∣ d)
theorem rin_zero {N D : Nat} (h : 1 ≤ D) : Rin N D N D 2 := ⟨⟨1, Nat.le_refl _, by omega, by omega⟩, h, fun j h1 h2 => by omega⟩
theorem rin_div {N D n d k : Nat} (h : Rin N D n d k) (hk : 2 ≤ k) (h1 : n % k = 0) (h2 : d % k = 0) : Rin N D (n / k) (d / k) k := by
  obtain ⟨g, g1, g2, g3⟩ := h.ex
  have e1 : n = n / k * k := by have := Nat.div_add_mod n k; rw [h1, Nat.add_zero, Nat.mul_comm] at this; omega
  have e2 : d = d / k * k := by have := Nat.div_add_mod d k; rw [h2, Nat.add_zero, Nat.mul_comm] at this; omega
  refine ⟨⟨k * g, Nat.mul_pos (by omega) g1, ?_, ?_⟩, ?_, fun j j1 j2 hh => h.no j j1 j2 ⟨?_, ?_⟩⟩
  · rw [g2, ← Nat.mul_assoc, ← e1]
  · rw [g3, ← Nat.mul_assoc, ← e2]
  · rcases Nat.eq_zero_or_pos (d / k) with h0 | h0
    · rw [h0, Nat.zero_mul] at e2; have := h.pos; omega
    · exact h0
  · rw [e1]; exact Nat.dvd_trans hh.1 (Nat.dvd_mul_right _ _)
  · rw [e2]; exact Nat.dvd_trans hh.2 (Nat.dvd_mul_right _ _)
theorem rin_lt {N D n d k : Nat} (h : Rin N D n d k) (hk : 2 ≤ k) : d / k < d := Nat.div_lt_self h.pos hk
theorem rin_next {N D n d k : Nat} (h : Rin N D n d k) (hn : ¬ (n % k = 0 ∧ d % k = 0)) : Rin N D n d (k + 1) :=
  ⟨h.ex, h.pos, fun j j1 j2 hh => by
    rcases Nat.lt_succ_iff_lt_or_eq.1 j2 with h' | rfl
    · exact h.no j j1 h' hh
    · exact hn ⟨Nat.mod_eq_zero_of_dvd hh.1, Nat.mod_eq_zero_of_dvd hh.2⟩⟩
theorem rin_end {N D n d k : Nat} (h : Rin N D n d k) (hk : d < k) : n = N / Nat.gcd N D ∧ d = D / Nat.gcd N D := by
  obtain ⟨g, g1, g2, g3⟩ := h.ex
  have h1 : Nat.gcd n d = 1 := by
    rcases Nat.lt_or_ge (Nat.gcd n d) 2 with hl | hl
    · have := Nat.gcd_pos_of_pos_right n h.pos
      omega
    · have := Nat.le_of_dvd h.pos (Nat.gcd_dvd_right n d)
      exact absurd ⟨Nat.gcd_dvd_left n d, Nat.gcd_dvd_right n d⟩ (h.no _ hl (by omega))
  have h2 : Nat.gcd N D = g := by rw [g2, g3, Nat.gcd_mul_right, h1, Nat.one_mul]
  rw [h2]
  exact ⟨by rw [g2, Nat.mul_div_cancel _ g1], by rw [g3, Nat.mul_div_cancel _ g1]⟩
theorem rin_le {N D n d k : Nat} (h : Rin N D n d k) : n ≤ N ∧ d ≤ D := by
  obtain ⟨g, g1, g2, g3⟩ := h.ex
  exact ⟨by rw [g2]; exact Nat.le_mul_of_pos_right _ g1, by rw [g3]; exact Nat.le_mul_of_pos_right _ g1⟩
end M
end Go.Proofs.Ytgjgpcpghglnnaa
