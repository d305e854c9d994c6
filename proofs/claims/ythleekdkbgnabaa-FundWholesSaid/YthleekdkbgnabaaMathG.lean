/-
  Means over all orders: sets of claimants as numbers, sums over them. Mathematics alone.
-/
import Derived.Test.YthleekdkbgnabaaMathB
namespace Go.Proofs.Ythleekdkbgnabaa
set_option linter.unusedVariables false
set_option linter.unusedSimpArgs false

namespace M
/-- Claimant k is in the set S. -/
def inS (S k : Nat) : Bool := decide (S / 2 ^ k % 2 = 1)
/-- How many of the first k are in the set. -/
def cnS (S : Nat) : Nat → Nat
  | 0 => 0
  | k + 1 => if inS S k = true then cnS S k + 1 else cnS S k
theorem cnS_in {S k : Nat} (h : inS S k = true) : cnS S (k + 1) = cnS S k + 1 := by simp [cnS, h]
theorem cnS_out {S k : Nat} (h : inS S k = false) : cnS S (k + 1) = cnS S k := by simp [cnS, h]
theorem cnS_le (S : Nat) : ∀ k, cnS S k ≤ k := by
  intro k
  induction k with
  | zero => exact Nat.le_refl _
  | succ k ih =>
    cases h : inS S k with
    | true => rw [cnS_in h]; omega
    | false => rw [cnS_out h]; omega
theorem cnS_lt {S i : Nat} (h : inS S i = false) : ∀ k, i < k → cnS S k + 1 ≤ k := by
  intro k
  induction k with
  | zero => intro hh; omega
  | succ k ih =>
    intro hik
    by_cases hi : i = k
    · subst hi; rw [cnS_out h]; have := cnS_le S i; omega
    · have := ih (by omega)
      cases h' : inS S k with
      | true => rw [cnS_in h']; omega
      | false => rw [cnS_out h']; omega
/-- The sum of the claims of the first k that are in the set. -/
def suS (l : List Int) (S : Nat) : Nat → Int
  | 0 => 0
  | k + 1 => if inS S k = true then suS l S k + el l k else suS l S k
theorem suS_in {l : List Int} {S k : Nat} (h : inS S k = true) : suS l S (k + 1) = suS l S k + el l k := by simp [suS, h]
theorem suS_out {l : List Int} {S k : Nat} (h : inS S k = false) : suS l S (k + 1) = suS l S k := by simp [suS, h]
theorem suS_b {l : List Int} {m : Nat} (h : Oks l m) (S : Nat) : ∀ k, k ≤ m → 0 ≤ suS l S k ∧ suS l S k ≤ 1000 * k := by
  intro k
  induction k with
  | zero => intro _; simp [suS]
  | succ k ih =>
    intro hk
    have h1 := ih (by omega)
    have h2 := h k (by omega)
    unfold okC at h2
    cases h' : inS S k with
    | true => rw [suS_in h']; push_cast; omega
    | false => rw [suS_out h']; push_cast; omega
/-- 1 times 2 times .. -/
def fac : Nat → Int
  | 0 => 1
  | n + 1 => fac n * ((n : Int) + 1)
theorem fac_succ (n : Nat) : fac (n + 1) = fac n * ((n : Int) + 1) := rfl
theorem fac_b : ∀ n, n ≤ 8 → 1 ≤ fac n ∧ fac n ≤ 40320 := by decide
theorem fac_b7 : ∀ n, n ≤ 7 → 1 ≤ fac n ∧ fac n ≤ 5040 := by decide
/-- What a set leaves of the estate. -/
def lfS (l : List Int) (e : Int) (S : Nat) : Int := max 0 (e - suS l S l.length)
/-- What a claimant gets behind a set, times the orders in which it comes so. -/
def trS (l : List Int) (e : Int) (i S : Nat) : Int := if inS S i = true then 0 else min (el l i) (lfS l e S) * fac (cnS S l.length) * fac (l.length - cnS S l.length - 1)
theorem trS_in {l : List Int} {e : Int} {i S : Nat} (h : inS S i = true) : trS l e i S = 0 := by simp [trS, h]
theorem trS_out {l : List Int} {e : Int} {i S : Nat} (h : inS S i = false) : trS l e i S = min (el l i) (lfS l e S) * fac (cnS S l.length) * fac (l.length - cnS S l.length - 1) := by simp [trS, h]
/-- The sum over the first sets. -/
def toS (l : List Int) (e : Int) (i : Nat) : Nat → Int
  | 0 => 0
  | S + 1 => toS l e i S + trS l e i S
theorem toS_succ (l : List Int) (e : Int) (i S : Nat) : toS l e i (S + 1) = toS l e i S + trS l e i S := rfl
theorem mul_b {a b A B : Int} (ha : 0 ≤ a ∧ a ≤ A) (hb : 0 ≤ b ∧ b ≤ B) : 0 ≤ a * b ∧ a * b ≤ A * B :=
  ⟨Int.mul_nonneg ha.1 hb.1, Int.mul_le_mul ha.2 hb.2 hb.1 (by omega)⟩
theorem lfS_b {l : List Int} {e : Int} (he : 0 ≤ e ∧ e ≤ 8000) (h : Oks l l.length) (S : Nat) : 0 ≤ lfS l e S ∧ lfS l e S ≤ 8000 := by
  have := suS_b h S l.length (Nat.le_refl _)
  unfold lfS
  omega
theorem trS_b {l : List Int} {e : Int} (he : 0 ≤ e ∧ e ≤ 8000) (h : Oks l l.length) (hl : l.length ≤ 7) {i : Nat} (hi : i < l.length) (S : Nat) : 0 ≤ trS l e i S ∧ trS l e i S ≤ 25401600000 := by
  cases h' : inS S i with
  | true => rw [trS_in h']; omega
  | false =>
    rw [trS_out h']
    have h1 := h i hi
    unfold okC at h1
    have h2 := lfS_b he h S
    have h3 := cnS_le S l.length
    have h4 := fac_b7 (cnS S l.length) (by omega)
    have h5 := fac_b7 (l.length - cnS S l.length - 1) (by omega)
    have h6 := mul_b (a := min (el l i) (lfS l e S)) (b := fac (cnS S l.length)) (A := 1000) (B := 5040) (by omega) (by omega)
    have h7 := mul_b (b := fac (l.length - cnS S l.length - 1)) (B := 5040) h6 (by omega)
    exact h7
theorem toS_b {l : List Int} {e : Int} (he : 0 ≤ e ∧ e ≤ 8000) (h : Oks l l.length) (hl : l.length ≤ 7) {i : Nat} (hi : i < l.length) : ∀ S : Nat, 0 ≤ toS l e i S ∧ toS l e i S ≤ 25401600000 * S := by
  intro S
  induction S with
  | zero => simp [toS]
  | succ S ih =>
    have := trS_b he h hl hi S
    rw [toS_succ]
    push_cast
    omega
/-- The mean of what a claimant gets. -/
def meR (l : List Int) (e : Int) (i : Nat) : Rt := mk (toS l e i (2 ^ l.length)) (fac l.length)
end M
end Go.Proofs.Ythleekdkbgnabaa
