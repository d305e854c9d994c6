/-
  Plain mathematics of the measure: the greatest common divisor, and the greatest number up to 12 that divides all tanks.
-/
import Derived.Test.YtgonibieeimdoaaMath
namespace Go.Proofs.Ytgonibieeimdoaa
namespace M

def gN (t : List Int) : Nat → Nat
  | 0 => 0
  | k + 1 => Nat.gcd (gN t k) (el t k).toNat
theorem gN_succ (t : List Int) (k : Nat) : gN t (k + 1) = Nat.gcd (gN t k) (el t k).toNat := rfl
/-- The measure. -/
def meas (t : List Int) : Nat := gN t t.length
/-- Does n divide the first k tanks? -/
def adB (t : List Int) (n : Int) : Nat → Bool
  | 0 => true
  | k + 1 => adB t n k && decide ((el t k).tmod n = 0)
theorem adB_succ (t : List Int) (n : Int) (k : Nat) : adB t n (k + 1) = (adB t n k && decide ((el t k).tmod n = 0)) := rfl
def bestN (t : List Int) : Nat → Nat
  | 0 => 1
  | 1 => 1
  | m + 2 => if adB t ((m + 2 : Nat) : Int) t.length = true then m + 2 else bestN t (m + 1)
theorem bestN_succ (t : List Int) (m : Nat) (h : 1 ≤ m) : bestN t (m + 1) = if adB t ((m + 1 : Nat) : Int) t.length = true then m + 1 else bestN t m := by
  obtain ⟨m, rfl⟩ : ∃ k, m = k + 1 := ⟨m - 1, by omega⟩
  rfl
theorem bestN_b (t : List Int) (m : Nat) (h : 1 ≤ m) : 1 ≤ bestN t m ∧ bestN t m ≤ m := by
  induction m with
  | zero => omega
  | succ m ih =>
    by_cases h1 : 1 ≤ m
    · rw [bestN_succ t m h1]
      have := ih h1
      split <;> omega
    · have : m = 0 := by omega
      subst this
      exact ⟨Nat.le_refl _, Nat.le_refl _⟩
theorem gN_dvd {t : List Int} (k i : Nat) (h : i < k) : gN t k ∣ (el t i).toNat := by
  induction k with
  | zero => omega
  | succ k ih =>
    rw [gN_succ]
    by_cases e : i = k
    · subst e; exact Nat.gcd_dvd_right _ _
    · exact Nat.dvd_trans (Nat.gcd_dvd_left _ _) (ih (by omega))
theorem dvd_gN {t : List Int} {n : Nat} (k : Nat) (h : ∀ i, i < k → n ∣ (el t i).toNat) : n ∣ gN t k := by
  induction k with
  | zero => exact Nat.dvd_zero _
  | succ k ih => rw [gN_succ]; exact Nat.dvd_gcd (ih fun i hi => h i (by omega)) (h k (by omega))
theorem tmod_dvd {a : Int} {n : Nat} (h : 0 ≤ a) : a.tmod (n : Int) = 0 ↔ n ∣ a.toNat := by
  obtain ⟨m, rfl⟩ := Int.eq_ofNat_of_zero_le h
  have e : ((m : Int)).tmod (n : Int) = ((m % n : Nat) : Int) := rfl
  rw [e, Int.toNat_natCast]
  constructor
  · intro h; exact Nat.dvd_of_mod_eq_zero (by omega)
  · intro h; rw [Nat.mod_eq_zero_of_dvd h]; rfl
theorem adB_iff {t : List Int} (hv : ∀ i, i < t.length → 1 ≤ el t i ∧ el t i ≤ 12) (n : Nat) (k : Nat) (hk : k ≤ t.length) : adB t (n : Int) k = true ↔ ∀ i, i < k → n ∣ (el t i).toNat := by
  induction k with
  | zero => exact ⟨fun _ i hi => absurd hi (Nat.not_lt_zero _), fun _ => rfl⟩
  | succ k ih =>
    have h0 : 0 ≤ el t k := by have := hv k (by omega); omega
    rw [adB_succ, Bool.and_eq_true, ih (by omega), decide_eq_true_iff, tmod_dvd h0]
    constructor
    · rintro ⟨h1, h2⟩ i hi
      rcases Nat.lt_succ_iff_lt_or_eq.1 hi with h' | rfl
      · exact h1 i h'
      · exact h2
    · intro h; exact ⟨fun i hi => h i (by omega), h k (by omega)⟩
theorem meas_b {t : List Int} (hv : vT t) : 1 ≤ meas t ∧ meas t ≤ 12 := by
  have hd : meas t ∣ (el t 0).toNat := gN_dvd _ 0 (by have := hv.1; omega)
  have h0 := hv.2 0 (by have := hv.1; omega)
  have hle := Nat.le_of_dvd (by omega) hd
  refine ⟨?_, by omega⟩
  rcases Nat.eq_zero_or_pos (meas t) with h | h
  · rw [h] at hd; have := Nat.eq_zero_of_zero_dvd hd; omega
  · exact h
theorem best_meas {t : List Int} (hv : vT t) : bestN t 12 = meas t := by
  have hb := meas_b hv
  have key : ∀ m, meas t ≤ m → bestN t m = meas t := by
    intro m
    induction m with
    | zero => omega
    | succ m ih =>
      intro hm
      by_cases h1 : 1 ≤ m
      · rw [bestN_succ t m h1]
        by_cases e : meas t = m + 1
        · rw [if_pos]
          · exact e.symm
          · rw [adB_iff hv.2 _ _ (Nat.le_refl _)]
            intro i hi
            rw [← e]; exact gN_dvd _ i hi
        · rw [if_neg]
          · exact ih (by omega)
          · intro h
            rw [adB_iff hv.2 _ _ (Nat.le_refl _)] at h
            have hd : m + 1 ∣ meas t := dvd_gN _ h
            have := Nat.le_of_dvd hb.1 hd
            omega
      · have : m = 0 := by omega
        subst this
        show 1 = meas t
        omega
  exact key 12 hb.2
theorem gN_b {t : List Int} (hv : ∀ i, i < t.length → 1 ≤ el t i ∧ el t i ≤ 12) (k : Nat) (hk : k ≤ t.length) : gN t k ≤ 12 := by
  cases k with
  | zero => exact Nat.zero_le _
  | succ k =>
    have h0 := hv k (by omega)
    have := Nat.le_of_dvd (by omega) (gN_dvd (t := t) (k + 1) k (by omega))
    omega
theorem gcd_step (x y : Nat) : Nat.gcd x y = Nat.gcd y (x % y) := by
  rw [Nat.gcd_comm x y, Nat.gcd_rec y x, Nat.gcd_comm]
/-- The error of tanks; of tanks and levels; of tanks, levels and deeds. -/
noncomputable def err0 (t : List Int) : Int := if validB t = true then 0 else 40
noncomputable def err1 (t l : List Int) : Int := if validB t = true then (if lvlB t l = true then 0 else 41) else 40
noncomputable def err2 (t l : List Int) (D : List Dd) : Int := if validB t = true then (if lvlB t l = true then (if dsB t.length D = true then 0 else 2) else 41) else 40
/-- What Measure answers. -/
noncomputable def measR (t : List Int) : Int × Int := if validB t = true then ((meas t : Int), 0) else (0, 40)
end M
end Go.Proofs.Ytgonibieeimdoaa
