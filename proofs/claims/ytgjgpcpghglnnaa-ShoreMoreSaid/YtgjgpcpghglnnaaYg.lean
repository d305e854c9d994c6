/-
  The harm of an order, beach after beach: plain mathematics.
-/
import Derived.Test.YtgjgpcpghglnnaaYe
import Derived.Test.YtgjgpcpghglnnaaT
namespace Go.Proofs.Ytgjgpcpghglnnaa.M
set_option linter.unusedVariables false
/-- The harm of the first i jobs of a beach that are done at these hours. -/
def ws (L : List Int) (l : List Jb) : Nat → Int
  | 0 => 0
  | i + 1 => ws L l i + el L i * (jb l i).m
theorem ws_succ (L : List Int) (l : List Jb) (i : Nat) : ws L l (i + 1) = ws L l i + el L i * (jb l i).m := rfl
theorem ws_app (L : List Int) (x : Int) (l : List Jb) : ∀ i, i ≤ L.length → ws (L ++ [x]) l i = ws L l i := by
  intro i
  induction i with
  | zero => intro _; rfl
  | succ i ih =>
    intro hi
    rw [ws_succ, ws_succ, ih (by omega), el_left (by omega)]
theorem ws_one (L : List Int) (x : Int) (l : List Jb) : ws (L ++ [x]) l (L.length + 1) = ws L l L.length + x * (jb l L.length).m := by
  have h := el_right L [x] 0
  rw [Nat.add_zero] at h
  rw [ws_succ, ws_app _ _ _ _ (Nat.le_refl _), h]
  rfl
/-- The harm of the first n beaches behind k jobs. -/
def wt (J : List (List Jb)) (o : List Int) (k : Nat) : Nat → Int
  | 0 => 0
  | b + 1 => wt J o k b + ws (dnl J o (b : Nat) k) (be J b) (cnt o (b : Nat) k)
theorem wt_succ (J : List (List Jb)) (o : List Int) (k b : Nat) : wt J o k (b + 1) = wt J o k b + ws (dnl J o (b : Nat) k) (be J b) (cnt o (b : Nat) k) := rfl
theorem wt_step (J : List (List Jb)) (o : List Int) {k i : Nat} (h : el o k = (i : Int)) : ∀ n, wt J o (k + 1) n = wt J o k n + if i < n then (jbAt J o k).m * hr J o (k + 1) else 0 := by
  intro n
  induction n with
  | zero => rfl
  | succ n ih =>
    rw [wt_succ, wt_succ, ih, dnl_step J o h n, cnt_succ]
    by_cases e : n = i
    · subst e
      rw [if_pos rfl, if_neg (Nat.lt_irrefl _), if_pos (Nat.lt_succ_self _), if_pos h]
      have e1 := ws_one (dnl J o (n : Nat) k) (hr J o (k + 1)) (be J n)
      rw [dnl_len] at e1
      rw [e1]
      have e2 : jbAt J o k = jb (be J n) (cnt o (n : Nat) k) := by unfold jbAt; rw [h]; rfl
      rw [e2, Int.mul_comm (jb (be J n) (cnt o (n : Nat) k)).m]
      omega
    · have e3 : ¬ el o k = (n : Int) := by rw [h]; omega
      rw [if_neg e, if_neg e3]
      by_cases h1 : i < n
      · rw [if_pos h1, if_pos (show i < n + 1 by omega)]; simp only [Nat.add_zero]; omega
      · rw [if_neg h1, if_neg (show ¬ i < n + 1 by omega)]; simp only [Nat.add_zero]; omega
theorem wt_zero (J : List (List Jb)) (o : List Int) : ∀ n, wt J o 0 n = 0 := by
  intro n
  induction n with
  | zero => rfl
  | succ n ih => rw [wt_succ, ih]; rfl
theorem wt_hm {J : List (List Jb)} {o : List Int} {n : Nat} (h : ∀ i, i < o.length → 0 ≤ el o i ∧ el o i < n) : ∀ k, k ≤ o.length → wt J o k n = hm J o k := by
  intro k
  induction k with
  | zero => intro _; rw [wt_zero]; rfl
  | succ k ih =>
    intro hk
    obtain ⟨h1, h2⟩ := h k (by omega)
    obtain ⟨i, hi⟩ := Int.eq_ofNat_of_zero_le h1
    rw [wt_step J o hi, ih (by omega), hm_succ, if_pos (by omega)]
/-- The hours of a beach are within bounds. -/
theorem dnl_b {J : List (List Jb)} {o : List Int} (hv : vJ J) (hr' : Runs J o) (h12 : o.length ≤ 12) (b : Int) : ∀ k, k ≤ o.length → ∀ i, i < (dnl J o b k).length → 0 ≤ el (dnl J o b k) i ∧ el (dnl J o b k) i ≤ 1200 := by
  intro k
  induction k with
  | zero => intro _ i hi; exact absurd hi (Nat.not_lt_zero _)
  | succ k ih =>
    intro hk i hi
    by_cases h : el o k = b
    · rw [dnl_yes h] at hi ⊢
      by_cases h1 : i < (dnl J o b k).length
      · rw [el_left h1]; exact ih (by omega) i h1
      · rw [List.length_append] at hi
        have h2 : i = (dnl J o b k).length + 0 := by simp at hi; omega
        rw [h2, el_right]
        have := hr_b hv hr' (k + 1) hk
        show 0 ≤ hr J o (k + 1) ∧ hr J o (k + 1) ≤ 1200
        omega
    · rw [dnl_no h] at hi ⊢
      exact ih (by omega) i hi
theorem ws_b {L : List Int} {l : List Jb} (h : ∀ i, i < L.length → 0 ≤ el L i ∧ el L i ≤ 1200) (hl : Oks l l.length) : ∀ i, i ≤ L.length → i ≤ l.length → 0 ≤ ws L l i ∧ ws L l i ≤ 120000 * i := by
  intro i
  induction i with
  | zero => intro _ _; exact ⟨Int.le_refl _, Int.le_refl _⟩
  | succ i ih =>
    intro h1 h2
    obtain ⟨a, b⟩ := ih (by omega) (by omega)
    obtain ⟨c, d⟩ := h i (by omega)
    obtain ⟨_, e, f⟩ := hl i (by omega)
    rw [ws_succ]
    have e1 : 0 ≤ el L i * (jb l i).m := Int.mul_nonneg c e
    have e2 : el L i * (jb l i).m ≤ 1200 * 100 := Int.mul_le_mul d f e (by omega)
    omega
end Go.Proofs.Ytgjgpcpghglnnaa.M
