/-
  Plain mathematics of beats: the periods of a tide, and the least of them.
-/
import Derived.Test.YtmpmlgognkmfgaaMath
namespace Go.Proofs.Ytmpmlgognkmfgaa
namespace M

def Per (T : List (List Int)) (b : Nat) : Prop := ∀ t : Int, spd T (t + b) = spd T t
theorem per_rnd (T : List (List Int)) (n : Nat) (h : rnd T ∣ n) : Per T n := fun t => spd_period T t n h
theorem per_add {T : List (List Int)} {a b : Nat} (ha : Per T a) (hb : Per T b) : Per T (a + b) := fun t => by
  rw [Int.natCast_add, ← Int.add_assoc, hb, ha]
theorem per_mul {T : List (List Int)} {a : Nat} (ha : Per T a) (k : Nat) : Per T (a * k) := by
  induction k with
  | zero => intro t; simp
  | succ k ih => rw [Nat.mul_succ]; exact per_add ih ha
theorem per_mod {T : List (List Int)} {a b : Nat} (ha : Per T a) (hb : Per T b) : Per T (a % b) := fun t => by
  have h1 := per_mul hb (a / b) (t + (a % b : Nat))
  have h2 := ha t
  have e : t + ((a % b : Nat) : Int) + ((b * (a / b) : Nat) : Int) = t + a := by
    have := Nat.mod_add_div a b
    omega
  rw [e] at h1
  rw [← h1, h2]
theorem per_gcd {T : List (List Int)} (a b : Nat) : Per T a → Per T b → Per T (Nat.gcd a b) := by
  induction a, b using Nat.gcd.induction with
  | H0 n => intro _ h; rw [Nat.gcd_zero_left]; exact h
  | H1 m n hm ih => intro h1 h2; rw [Nat.gcd_rec]; exact ih (per_mod h2 h1) h1

/-- The test of a number of hours, by the speeds of a round. -/
def PB (T : List (List Int)) (b : Nat) : Prop := b ∣ rnd T ∧ ∀ k, k < rnd T → spd T (k : Int) = spd T ((k + b : Nat) : Int)
instance (T : List (List Int)) (b : Nat) : Decidable (PB T b) := by unfold PB; infer_instance
theorem spd_mod (T : List (List Int)) (t : Int) : spd T t = spd T (t % (rnd T : Int)) := by
  rcases Int.le_total 0 (t / (rnd T : Int)) with h | h
  · have := per_mul (per_rnd T _ (Nat.dvd_refl _)) (t / (rnd T : Int)).toNat (t % (rnd T : Int))
    rw [← this]
    congr 1
    rw [Int.natCast_mul, Int.toNat_of_nonneg h, Int.emod_add_mul_ediv]
  · have := per_mul (per_rnd T _ (Nat.dvd_refl _)) (-(t / (rnd T : Int))).toNat t
    rw [← this]
    congr 1
    rw [Int.natCast_mul, Int.toNat_of_nonneg (by omega)]
    have h2 := Int.emod_add_mul_ediv t (rnd T)
    rw [Int.mul_neg]
    omega
theorem pb_per {T : List (List Int)} (hr : 1 ≤ rnd T) {b : Nat} (h : PB T b) : Per T b := fun t => by
  have h1 := Int.emod_nonneg t (show (rnd T : Int) ≠ 0 by omega)
  have h2 := Int.emod_lt_of_pos t (show (0 : Int) < rnd T by omega)
  have h3 := h.2 (t % (rnd T : Int)).toNat (by omega)
  rw [Int.natCast_add, Int.toNat_of_nonneg h1] at h3
  rw [spd_mod T t, h3, spd_mod T (t + b), spd_mod T (t % (rnd T : Int) + b), Int.emod_add_emod]
theorem per_pb {T : List (List Int)} {b : Nat} (hd : b ∣ rnd T) (h : Per T b) : PB T b := ⟨hd, fun k _ => by rw [Int.natCast_add]; exact (h k).symm⟩
theorem pb_rnd (T : List (List Int)) : PB T (rnd T) := per_pb (Nat.dvd_refl _) (per_rnd T _ (Nat.dvd_refl _))

/-- The least number from b on with a property, of the next n ones; else b + n. -/
def least (p : Nat → Bool) : Nat → Nat → Nat
  | b, 0 => b
  | b, n + 1 => if p b then b else least p (b + 1) n
theorem least_spec (p : Nat → Bool) (n : Nat) : ∀ b, b ≤ least p b n ∧ least p b n ≤ b + n ∧ (∀ i, b ≤ i → i < least p b n → p i = false) ∧ (least p b n < b + n → p (least p b n) = true) := by
  induction n with
  | zero => intro b; exact ⟨Nat.le_refl _, Nat.le_refl _, fun i h1 h2 => by unfold least at h2; omega, fun h => by unfold least at h; omega⟩
  | succ n ih =>
    intro b
    unfold least
    by_cases hp : p b = true
    · rw [if_pos hp]
      exact ⟨Nat.le_refl _, by omega, fun i h1 h2 => by omega, fun _ => hp⟩
    · rw [if_neg hp]
      obtain ⟨h1, h2, h3, h4⟩ := ih (b + 1)
      refine ⟨by omega, by omega, fun i hi hlt => ?_, fun h => h4 (by omega)⟩
      rcases Nat.lt_or_ge b i with h | h
      · exact h3 i (by omega) hlt
      · have : i = b := by omega
        subst this
        simpa using hp
def pbB (T : List (List Int)) (b : Nat) : Bool := decide (PB T b)
def bt (T : List (List Int)) : Nat := least (pbB T) 1 (rnd T - 1)
theorem bt_spec {T : List (List Int)} (hr : 1 ≤ rnd T) : 1 ≤ bt T ∧ bt T ≤ rnd T ∧ (∀ i, 1 ≤ i → i < bt T → pbB T i = false) ∧ pbB T (bt T) = true := by
  obtain ⟨h1, h2, h3, h4⟩ := least_spec (pbB T) (rnd T - 1) 1
  refine ⟨h1, by unfold bt; omega, h3, ?_⟩
  rcases Nat.lt_or_ge (bt T) (rnd T) with h | h
  · exact h4 (by unfold bt at h; omega)
  · have : bt T = rnd T := Nat.le_antisymm (by unfold bt; omega) h
    rw [this]
    exact decide_eq_true (pb_rnd T)
theorem bt_is {T : List (List Int)} (hr : 1 ≤ rnd T) {b : Nat} (h1 : 1 ≤ b) (h2 : ∀ i, 1 ≤ i → i < b → pbB T i = false) (h3 : pbB T b = true) : bt T = b := by
  obtain ⟨g1, g2, g3, g4⟩ := bt_spec hr
  rcases Nat.lt_trichotomy (bt T) b with h | h | h
  · have := h2 _ g1 h; rw [this] at g4; cases g4
  · exact h
  · have := g3 _ h1 h; rw [this] at h3; cases h3
theorem bt_end {T : List (List Int)} (hr : 1 ≤ rnd T) (h2 : ∀ i, 1 ≤ i → i < rnd T → pbB T i = false) : bt T = rnd T := bt_is hr hr h2 (decide_eq_true (pb_rnd T))
theorem bt_dvd {T : List (List Int)} (hr : 1 ≤ rnd T) : bt T ∣ rnd T := (of_decide_eq_true (bt_spec hr).2.2.2 : PB T (bt T)).1
theorem bt_per {T : List (List Int)} (hr : 1 ≤ rnd T) : Per T (bt T) := pb_per hr (of_decide_eq_true (bt_spec hr).2.2.2)
/-- A number of hours repeats all speeds exactly if the beat divides it. -/
theorem per_iff {T : List (List Int)} (hr : 1 ≤ rnd T) (n : Nat) : Per T n ↔ bt T ∣ n := by
  constructor
  · intro h
    have hb := bt_per hr
    have hg := per_gcd _ _ hb h
    have hd : Nat.gcd (bt T) n ∣ bt T := Nat.gcd_dvd_left _ _
    have hpos : 1 ≤ Nat.gcd (bt T) n := Nat.gcd_pos_of_pos_left _ (by have := (bt_spec hr).1; omega)
    have hle : Nat.gcd (bt T) n ≤ bt T := Nat.le_of_dvd (by have := (bt_spec hr).1; omega) hd
    rcases Nat.lt_or_ge (Nat.gcd (bt T) n) (bt T) with hlt | hge
    · have h1 := (bt_spec hr).2.2.1 _ hpos hlt
      have h2 : pbB T (Nat.gcd (bt T) n) = true := decide_eq_true (per_pb (Nat.dvd_trans hd (bt_dvd hr)) hg)
      rw [h1] at h2; cases h2
    · have : Nat.gcd (bt T) n = bt T := Nat.le_antisymm hle hge
      rw [← this]; exact Nat.gcd_dvd_right _ _
  · rintro ⟨k, rfl⟩
    exact per_mul (bt_per hr) k

/-- Two parts of the speeds of a round are the same: what slices.Equal(speeds[b:], speeds[:len(speeds)-b]) sees. -/
theorem parts_pb {T : List (List Int)} {b : Nat} (hb : 1 ≤ b) (hd : b ∣ rnd T) : (∀ k, k < rnd T - b → spd T ((b + k : Nat) : Int) = spd T (k : Int)) ↔ PB T b := by
  constructor
  · intro h
    refine ⟨hd, fun k hk => ?_⟩
    rcases Nat.lt_or_ge k (rnd T - b) with hlt | hge
    · rw [Nat.add_comm]; exact (h k hlt).symm
    · obtain ⟨m, hm⟩ := hd
      -- by steps of b from the beginning
      have step : ∀ (i j : Nat), j + b * i < rnd T → spd T ((j + b * i : Nat) : Int) = spd T (j : Int) := by
        intro i
        induction i with
        | zero => intro j _; rfl
        | succ i ih =>
          intro j hj
          have h1 := h (j + b * i) (by rw [Nat.mul_succ] at hj; omega)
          rw [show b + (j + b * i) = j + b * (i + 1) by rw [Nat.mul_succ]; omega] at h1
          rw [h1, ih j (by rw [Nat.mul_succ] at hj; omega)]
      have hmpos : 1 ≤ m := by
        rcases Nat.eq_zero_or_pos m with h0 | h0
        · subst h0; omega
        · exact h0
      have e1 := step (m - 1) (k + b - rnd T) (by
        have : b * (m - 1) + b = rnd T := by rw [← Nat.mul_succ, hm]; congr 1; omega
        omega)
      have e2 : k + b - rnd T + b * (m - 1) = k := by
        have : b * (m - 1) + b = rnd T := by rw [← Nat.mul_succ, hm]; congr 1; omega
        omega
      rw [e2] at e1
      rw [e1]
      have := per_rnd T _ (Nat.dvd_refl _) ((k + b - rnd T : Nat) : Int)
      rw [← this]
      congr 1
      omega
  · intro h k hk
    have := h.2 k (by omega)
    rw [Nat.add_comm b k]; exact this.symm
theorem rounds_pb {T : List (List Int)} {b : Nat} (hd : b ∣ rnd T) : (∀ k, k < rnd T → spd T (k : Int) = spd T (((k + b) % rnd T : Nat) : Int)) ↔ PB T b := by
  have e : ∀ k : Nat, spd T (((k + b) % rnd T : Nat) : Int) = spd T ((k + b : Nat) : Int) := fun k => by
    rw [spd_mod T ((k + b : Nat) : Int)]; congr 1
  constructor
  · intro h; exact ⟨hd, fun k hk => by rw [h k hk, e]⟩
  · intro h k hk; rw [e]; exact h.2 k hk

end M
end Go.Proofs.Ytmpmlgognkmfgaa
