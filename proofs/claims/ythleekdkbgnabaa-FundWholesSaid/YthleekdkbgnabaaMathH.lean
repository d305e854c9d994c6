/-
  The means over all orders share the estate, and give everybody at least what it gets if it comes last. Mathematics alone.
-/
import Derived.Test.YthleekdkbgnabaaMathG
namespace Go.Proofs.Ythleekdkbgnabaa
set_option linter.unusedVariables false
set_option linter.unusedSimpArgs false

namespace M
def suM (f : Nat → Int) : Nat → Int
  | 0 => 0
  | k + 1 => suM f k + f k
theorem suM_add (f : Nat → Int) (a : Nat) : ∀ b, suM f (a + b) = suM f a + suM (fun i => f (a + i)) b := by
  intro b
  induction b with
  | zero => simp [suM]
  | succ b ih => rw [Nat.add_succ, suM, ih, suM]; omega
theorem suM_congr {f g : Nat → Int} : ∀ {n : Nat}, (∀ i, i < n → f i = g i) → suM f n = suM g n := by
  intro n
  induction n with
  | zero => intro _; rfl
  | succ n ih => intro h; rw [suM, suM, ih (fun i hi => h i (by omega)), h n (by omega)]
theorem suM_plus (f g : Nat → Int) : ∀ n, suM (fun i => f i + g i) n = suM f n + suM g n := by
  intro n
  induction n with
  | zero => rfl
  | succ n ih => rw [suM, suM, suM, ih]; omega
theorem suM_mul (c : Int) (f : Nat → Int) : ∀ n, suM (fun i => c * f i) n = c * suM f n := by
  intro n
  induction n with
  | zero => simp [suM]
  | succ n ih => rw [suM, suM, ih, Int.mul_add]
theorem suM_zero (n : Nat) : suM (fun _ => 0) n = 0 := by
  induction n with
  | zero => rfl
  | succ n ih => rw [suM, ih]; rfl
theorem suM_swap (f : Nat → Nat → Int) (n : Nat) : ∀ m, suM (fun i => suM (fun j => f i j) n) m = suM (fun j => suM (fun i => f i j) m) n := by
  intro m
  induction m with
  | zero => simp [suM, suM_zero]
  | succ m ih => rw [suM, ih, ← suM_plus]; rfl
theorem pow_pos2 (n : Nat) : 0 < 2 ^ n := Nat.pow_pos (by decide)
theorem in_hi {n S i : Nat} (h : i < n) : inS (2 ^ n + S) i = inS S i := by
  have e : 2 ^ n = 2 ^ i * (2 * 2 ^ (n - i - 1)) := by
    rw [← Nat.pow_succ', ← Nat.pow_add]; congr 1; omega
  unfold inS
  rw [e, Nat.mul_add_div (pow_pos2 i), Nat.mul_add_mod]
theorem in_lo {n S : Nat} (h : S < 2 ^ n) : inS S n = false := by
  unfold inS
  rw [Nat.div_eq_of_lt h]; decide
theorem in_top {n S : Nat} (h : S < 2 ^ n) : inS (2 ^ n + S) n = true := by
  unfold inS
  have : (2 ^ n + S) / 2 ^ n = 1 := by
    rw [Nat.add_div_left _ (pow_pos2 n), Nat.div_eq_of_lt h]
  rw [this]; decide
/-- Sets without i, and sets with it. -/
theorem shift_in (h : Nat → Int) (i : Nat) : ∀ n, i < n → ∀ a : Nat, suM (fun S => if inS S i = true then 0 else h (a + S + 2 ^ i)) (2 ^ n) = suM (fun T => if inS T i = true then h (a + T) else 0) (2 ^ n) := by
  intro n
  induction n with
  | zero => intro hi; omega
  | succ n ih =>
    intro hi a
    have e : 2 ^ (n + 1) = 2 ^ n + 2 ^ n := by rw [Nat.pow_succ]; omega
    rw [e, suM_add, suM_add]
    by_cases hin : i < n
    · rw [ih hin a]
      congr 1
      have := ih hin (a + 2 ^ n)
      rw [suM_congr (g := fun S => if inS S i = true then 0 else h (a + 2 ^ n + S + 2 ^ i)) (fun S _ => by rw [in_hi hin, show a + (2 ^ n + S) + 2 ^ i = a + 2 ^ n + S + 2 ^ i by omega])]
      rw [this]
      exact suM_congr (fun S _ => by rw [in_hi hin, Nat.add_assoc a])
    · have : i = n := by omega
      subst this
      rw [suM_congr (g := fun S => h (a + S + 2 ^ i)) (fun S hS => by rw [in_lo hS]; rfl)]
      rw [suM_congr (f := fun S => if inS (2 ^ i + S) i = true then 0 else h (a + (2 ^ i + S) + 2 ^ i)) (g := fun _ => 0) (fun S hS => by rw [in_top hS]; rfl)]
      rw [suM_congr (f := fun T => if inS T i = true then h (a + T) else 0) (g := fun _ => 0) (fun S hS => by rw [in_lo hS]; rfl)]
      rw [suM_congr (f := fun S => if inS (2 ^ i + S) i = true then h (a + (2 ^ i + S)) else 0) (g := fun S => h (a + S + 2 ^ i)) (fun S hS => by rw [in_top hS, if_pos rfl]; congr 1; omega)]
      rw [suM_zero]; omega

/-- One more in a set. -/
theorem in_add : ∀ S, S < 128 → ∀ i, i < 7 → inS S i = false → ∀ k, k < 7 → inS (S + 2 ^ i) k = (decide (k = i) || inS S k) := by decide +kernel
theorem cn_add {S i : Nat} (hS : S < 128) (hi : i < 7) (h : inS S i = false) : ∀ k, k ≤ 7 → cnS (S + 2 ^ i) k = cnS S k + (if i < k then 1 else 0) := by
  intro k
  induction k with
  | zero => intro _; simp [cnS]
  | succ k ih =>
    intro hk
    have a := in_add S hS i hi h k (by omega)
    have b := ih (by omega)
    by_cases hki : k = i
    · subst hki
      simp only [decide_true, Bool.true_or] at a
      rw [cnS_in a, cnS_out h, b]
      simp
    · simp only [hki, decide_false, Bool.false_or] at a
      cases h' : inS S k with
      | true =>
        rw [h'] at a
        rw [cnS_in a, cnS_in h', b]
        split <;> split <;> omega
      | false =>
        rw [h'] at a
        rw [cnS_out a, cnS_out h', b]
        split <;> split <;> omega
theorem su_add {l : List Int} {S i : Nat} (hS : S < 128) (hi : i < 7) (h : inS S i = false) : ∀ k, k ≤ 7 → suS l (S + 2 ^ i) k = suS l S k + (if i < k then el l i else 0) := by
  intro k
  induction k with
  | zero => intro _; simp [suS]
  | succ k ih =>
    intro hk
    have a := in_add S hS i hi h k (by omega)
    have b := ih (by omega)
    by_cases hki : k = i
    · subst hki
      simp only [decide_true, Bool.true_or] at a
      rw [suS_in a, suS_out h, b]
      simp
    · simp only [hki, decide_false, Bool.false_or] at a
      cases h' : inS S k with
      | true =>
        rw [h'] at a
        rw [suS_in a, suS_in h', b]
        split <;> split <;> omega
      | false =>
        rw [h'] at a
        rw [suS_out a, suS_out h', b]
        split <;> split <;> omega
/-- How often a set counts. -/
def coS (n T : Nat) : Int := suM (fun i => if inS T i = true then fac (cnS T n - 1) * fac (n - cnS T n) else - (fac (cnS T n) * fac (n - cnS T n - 1))) n
theorem coS_all : ∀ n, n < 8 → 1 ≤ n → ∀ T, T < 2 ^ n → coS n T = if T + 1 = 2 ^ n then fac n else if T = 0 then - fac n else 0 := by decide +kernel
/-- In how many orders the sets without a claimant come. -/
def woS (n i : Nat) : Int := suM (fun S => if inS S i = true then 0 else fac (cnS S n) * fac (n - cnS S n - 1)) (2 ^ n)
theorem woS_all : ∀ n, n < 8 → ∀ i, i < n → woS n i = fac n := by decide +kernel
theorem toS_suM (l : List Int) (e : Int) (i : Nat) : ∀ N, toS l e i N = suM (trS l e i) N := by
  intro N
  induction N with
  | zero => rfl
  | succ N ih => rw [toS_succ, ih]; rfl
theorem suM_ends {f : Nat → Int} {m : Nat} (hm : 1 ≤ m) (h : ∀ i, 0 < i → i < m → f i = 0) : suM f (m + 1) = f 0 + f m := by
  have : ∀ k, k + 1 ≤ m → suM f (k + 1) = f 0 := by
    intro k
    induction k with
    | zero => intro _; simp [suM]
    | succ k ih => intro hk; rw [suM, ih (by omega), h (k + 1) (by omega) (by omega)]; omega
  obtain ⟨k, rfl⟩ : ∃ k, m = k + 1 := ⟨m - 1, by omega⟩
  rw [suM, this k (Nat.le_refl _)]
/-- What a set takes of the estate. -/
def gtS (l : List Int) (e : Int) (S : Nat) : Int := min e (suS l S l.length)
theorem pow_le7 {n : Nat} (h : n ≤ 7) : 2 ^ n ≤ 128 := Nat.pow_le_pow_right (by decide) h
theorem tr_dif {l : List Int} {e : Int} (he : 0 ≤ e) (hv : Oks l l.length) (hl : l.length ≤ 7) {i S : Nat} (hi : i < l.length) (hS : S < 2 ^ l.length) (h : inS S i = false) : min (el l i) (lfS l e S) = gtS l e (S + 2 ^ i) - gtS l e S := by
  have hp := pow_le7 hl
  have a := su_add (l := l) (S := S) (i := i) (by omega) (by omega) h l.length hl
  rw [if_pos hi] at a
  have b := hv i hi
  have c := (suS_b hv S l.length (Nat.le_refl _)).1
  unfold okC at b
  unfold gtS lfS
  rw [a]
  omega
/-- The means share the estate. -/
theorem toS_all {l : List Int} {e : Int} (he : 0 ≤ e ∧ e ≤ suS l (2 ^ l.length - 1) l.length) (hv : Oks l l.length) (h1 : 1 ≤ l.length) (hl : l.length ≤ 7) : suM (fun i => toS l e i (2 ^ l.length)) l.length = e * fac l.length := by
  have hp := pow_le7 hl
  have hp2 : 2 ≤ 2 ^ l.length := by
    have : 2 ^ 1 ≤ 2 ^ l.length := Nat.pow_le_pow_right (by decide) h1
    simpa using this
  obtain ⟨n, hn⟩ : ∃ n, n = l.length := ⟨_, rfl⟩
  have e1 : ∀ i, i < l.length → toS l e i (2 ^ l.length) = suM (fun T => gtS l e T * (if inS T i = true then fac (cnS T l.length - 1) * fac (l.length - cnS T l.length) else - (fac (cnS T l.length) * fac (l.length - cnS T l.length - 1)))) (2 ^ l.length) := by
    intro i hi
    rw [toS_suM]
    have s1 := shift_in (fun T => gtS l e T * (fac (cnS T l.length - 1) * fac (l.length - cnS T l.length))) i l.length hi 0
    simp only [Nat.zero_add] at s1
    have s2 : suM (trS l e i) (2 ^ l.length) = suM (fun S => (if inS S i = true then 0 else gtS l e (S + 2 ^ i) * (fac (cnS (S + 2 ^ i) l.length - 1) * fac (l.length - cnS (S + 2 ^ i) l.length))) + (if inS S i = true then 0 else gtS l e S * (- (fac (cnS S l.length) * fac (l.length - cnS S l.length - 1))))) (2 ^ l.length) := by
      refine suM_congr fun S hS => ?_
      cases h' : inS S i with
      | true => rw [trS_in h']; simp
      | false =>
        rw [trS_out h', tr_dif he.1 hv hl hi hS h']
        have c := cn_add (S := S) (i := i) (by omega) (by omega) h' l.length hl
        rw [if_pos hi] at c
        rw [c]
        simp only [Bool.false_eq_true, if_false]
        rw [Nat.add_sub_cancel, show l.length - (cnS S l.length + 1) = l.length - cnS S l.length - 1 by omega]
        grind
    rw [s2, suM_plus, s1, ← suM_plus]
    refine suM_congr fun T _ => ?_
    cases h' : inS T i with
    | true => simp
    | false => simp
  rw [suM_congr e1, suM_swap]
  have e2 : suM (fun T => suM (fun i => gtS l e T * (if inS T i = true then fac (cnS T l.length - 1) * fac (l.length - cnS T l.length) else - (fac (cnS T l.length) * fac (l.length - cnS T l.length - 1)))) l.length) (2 ^ l.length) = suM (fun T => gtS l e T * coS l.length T) (2 ^ l.length) :=
    suM_congr fun T _ => suM_mul _ _ _
  rw [e2]
  have e3 : suM (fun T => gtS l e T * coS l.length T) (2 ^ l.length) = suM (fun T => gtS l e T * (if T + 1 = 2 ^ l.length then fac l.length else if T = 0 then - fac l.length else 0)) (2 ^ l.length) :=
    suM_congr fun T hT => by rw [coS_all l.length (by omega) h1 T hT]
  rw [e3]
  obtain ⟨m, hm⟩ : ∃ m, 2 ^ l.length = m + 1 := ⟨2 ^ l.length - 1, by omega⟩
  rw [hm] at he hp2 ⊢
  rw [suM_ends (m := m) (by omega) (fun i h0 him => by rw [if_neg (by omega), if_neg (by omega)]; simp)]
  rw [if_pos rfl, if_neg (by omega), if_pos rfl]
  have g0 : gtS l e 0 = 0 := by
    have z : ∀ k, suS l 0 k = 0 := by
      intro k
      induction k with
      | zero => rfl
      | succ k ih => rw [suS_out (by simp [inS]), ih]
    unfold gtS; rw [z]; omega
  have g1 : gtS l e m = e := by
    have : m + 1 - 1 = m := by omega
    rw [this] at he
    unfold gtS; omega
  rw [g0, g1]; omega
theorem in_full : ∀ n, n < 8 → ∀ k, k < n → inS (2 ^ n - 1) k = true := by decide +kernel
theorem su_full {l : List Int} (hl : l.length ≤ 7) : suS l (2 ^ l.length - 1) l.length = sm l := by
  have : ∀ k, k ≤ l.length → suS l (2 ^ l.length - 1) k = tot l k := by
    intro k
    induction k with
    | zero => intro _; rfl
    | succ k ih => intro hk; rw [suS_in (in_full _ (by omega) k (by omega)), ih (by omega), tot_succ]
  exact this _ (Nat.le_refl _)
theorem suM_le {f g : Nat → Int} : ∀ {n : Nat}, (∀ i, i < n → f i ≤ g i) → suM f n ≤ suM g n := by
  intro n
  induction n with
  | zero => intro _; exact Int.le_refl _
  | succ n ih => intro h; have a := ih (fun i hi => h i (by omega)); have b := h n (by omega); rw [suM, suM]; omega
/-- At least as much as who comes last, and at most the claim and the estate. -/
theorem toS_last {l : List Int} {e : Int} (he : 0 ≤ e ∧ e ≤ sm l) (hv : Oks l l.length) (hl : l.length ≤ 7) {i : Nat} (hi : i < l.length) : max (e - (sm l - el l i)) 0 * fac l.length ≤ toS l e i (2 ^ l.length) ∧ toS l e i (2 ^ l.length) ≤ min (el l i) e * fac l.length := by
  have hp := pow_le7 hl
  have hx := hv i hi
  unfold okC at hx
  rw [toS_suM]
  have w := woS_all l.length (by omega) i hi
  unfold woS at w
  rw [← w, ← suM_mul, ← suM_mul]
  have key : ∀ S, S < 2 ^ l.length → inS S i = false → max (e - (sm l - el l i)) 0 ≤ min (el l i) (lfS l e S) ∧ min (el l i) (lfS l e S) ≤ min (el l i) e ∧ 0 ≤ fac (cnS S l.length) * fac (l.length - cnS S l.length - 1) := by
    intro S hS h
    have a := su_add (l := l) (S := S) (i := i) (by omega) (by omega) h l.length hl
    rw [if_pos hi] at a
    have c := (suS_b hv S l.length (Nat.le_refl _)).1
    have top : ∀ T k, k ≤ l.length → suS l T k ≤ tot l k := by
      intro T k
      induction k with
      | zero => intro _; exact Int.le_refl _
      | succ k ih =>
        intro hk
        have h1 := ih (by omega)
        have h2 := hv k (by omega)
        unfold okC at h2
        rw [tot_succ]
        cases h' : inS T k with
        | true => rw [suS_in h']; omega
        | false => rw [suS_out h']; omega
    have d := top (S + 2 ^ i) l.length (Nat.le_refl _)
    have f1 := fac_b (cnS S l.length) (by have := cnS_le S l.length; omega)
    have f2 := fac_b (l.length - cnS S l.length - 1) (by omega)
    refine ⟨?_, ?_, Int.mul_nonneg (by omega) (by omega)⟩
    · unfold lfS
      unfold sm at he ⊢
      omega
    · unfold lfS
      omega
  constructor
  · refine suM_le fun S hS => ?_
    cases h : inS S i with
    | true => rw [trS_in h]; simp
    | false =>
      rw [trS_out h]
      obtain ⟨a, b, c⟩ := key S hS h
      rw [Int.mul_assoc]
      exact Int.mul_le_mul_of_nonneg_right a c
  · refine suM_le fun S hS => ?_
    cases h : inS S i with
    | true => rw [trS_in h]; simp
    | false =>
      rw [trS_out h]
      obtain ⟨a, b, c⟩ := key S hS h
      rw [Int.mul_assoc]
      exact Int.mul_le_mul_of_nonneg_right b c
end M
end Go.Proofs.Ythleekdkbgnabaa
