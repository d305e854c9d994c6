/-
  Plain mathematics of equal awards, paid one after the other: who is paid, and that the end is the level; no word of Go in it.
-/
import Derived.Test.YthleekdkbgnabaaMathB
namespace Go.Proofs.Ythleekdkbgnabaa
set_option linter.unusedVariables false
namespace M
/-- What the paid of the first k have, and how many of them are not paid. -/
def sp (l : List Int) (b : Nat → Bool) : Nat → Int
  | 0 => 0
  | k + 1 => sp l b k + (if b k = true then el l k else 0)
def cu (b : Nat → Bool) : Nat → Nat
  | 0 => 0
  | k + 1 => cu b k + (if b k = true then 0 else 1)
theorem sp_succ (l : List Int) (b : Nat → Bool) (k : Nat) : sp l b (k + 1) = sp l b k + (if b k = true then el l k else 0) := rfl
theorem cu_succ (b : Nat → Bool) (k : Nat) : cu b (k + 1) = cu b k + (if b k = true then 0 else 1) := rfl
def putB (b : Nat → Bool) (i : Nat) (j : Nat) : Bool := if j = i then true else b j
theorem sp_put (l : List Int) (b : Nat → Bool) (i : Nat) (hb : b i = false) : ∀ k, sp l (putB b i) k = sp l b k + (if i < k then el l i else 0) := by
  intro k
  induction k with
  | zero => simp [sp]
  | succ k ih =>
    unfold sp
    rw [ih]
    unfold putB
    by_cases e : k = i
    · subst e
      simp [hb]
    · simp only [e, if_false]
      by_cases h : i < k
      · simp [h, show i < k + 1 by omega]; omega
      · simp [h, show ¬ i < k + 1 by omega]
theorem cu_put (b : Nat → Bool) (i : Nat) (hb : b i = false) : ∀ k, cu (putB b i) k + (if i < k then 1 else 0) = cu b k := by
  intro k
  induction k with
  | zero => simp [cu]
  | succ k ih =>
    unfold cu
    unfold putB at *
    by_cases e : k = i
    · subst e
      simp [hb] at ih ⊢
      exact ih
    · simp only [e, if_false]
      by_cases h : i < k
      · simp [h] at ih; simp [show i < k + 1 by omega]; omega
      · simp [h] at ih; simp [show ¬ i < k + 1 by omega]; omega
theorem cu_le (b : Nat → Bool) (k : Nat) : cu b k ≤ k := by
  induction k with
  | zero => exact Nat.le_refl _
  | succ k ih => unfold cu; split <;> omega
theorem cu_none (k : Nat) : cu (fun _ => false) k = k := by
  induction k with
  | zero => rfl
  | succ k ih => unfold cu; rw [ih]; simp
theorem sp_none (l : List Int) (k : Nat) : sp l (fun _ => false) k = 0 := by
  induction k with
  | zero => rfl
  | succ k ih => unfold sp; rw [ih]; simp
theorem cu_pos {b : Nat → Bool} {i k : Nat} (hi : i < k) (hb : b i = false) : 1 ≤ cu b k := by
  induction k with
  | zero => omega
  | succ k ih =>
    unfold cu
    rcases Nat.lt_succ_iff_lt_or_eq.1 hi with h | rfl
    · have := ih h; omega
    · simp [hb]
theorem cu_zero {b : Nat → Bool} {k : Nat} (h : cu b k = 0) : ∀ i, i < k → b i = true := fun i hi => by
  cases hb : b i with
  | true => rfl
  | false => have := cu_pos hi hb; omega
/-- The state of the payments: what is left, for how many. -/
structure Pd (l : List Int) (e : Int) (b : Nat → Bool) (r : Int) (k : Nat) : Prop where
  rest : r = e - sp l b l.length
  left : k = cu b l.length
  pos : 0 ≤ r
  paid : ∀ i, i < l.length → b i = true → el l i * (k : Int) ≤ r
theorem pd_zero (l : List Int) {e : Int} (he : 0 ≤ e) : Pd l e (fun _ => false) e l.length :=
  ⟨by rw [sp_none]; omega, (cu_none _).symm, he, fun i _ h => by cases h⟩
theorem pd_put {l : List Int} {e r : Int} {b : Nat → Bool} {k i : Nat} (h : Pd l e b r k) (h0 : ∀ i, i < l.length → 0 ≤ el l i) (hi : i < l.length) (hb : b i = false) (hp : el l i * (k : Int) ≤ r) :
    1 ≤ k ∧ el l i ≤ r ∧ Pd l e (putB b i) (r - el l i) (k - 1) := by
  have hk : 1 ≤ k := by rw [h.left]; exact cu_pos hi hb
  have hx := h0 i hi
  have h1 : el l i * 1 ≤ el l i * (k : Int) := Int.mul_le_mul_of_nonneg_left (by omega) hx
  have hr := h.pos
  refine ⟨hk, by omega, ?_, ?_, by omega, fun j hj hbj => ?_⟩
  · have := h.rest
    rw [sp_put l b i hb, if_pos hi]; omega
  · have := cu_put b i hb l.length
    rw [if_pos hi, ← h.left] at this
    omega
  · have hkk : ((k - 1 : Nat) : Int) = (k : Int) - 1 := by omega
    rw [hkk, Int.mul_sub, Int.mul_one]
    by_cases e : j = i
    · subst e; omega
    · have hbj' : b j = true := by unfold putB at hbj; rwa [if_neg e] at hbj
      have h2 := h.paid j hj hbj'
      have hy := h0 j hj
      generalize el l i = x at *
      generalize el l j = y at *
      have h3 : y * (k : Int) * ((k : Int) - 1) ≤ r * ((k : Int) - 1) := Int.mul_le_mul_of_nonneg_right h2 (by omega)
      have h4 : (y * (k : Int) - y) * (k : Int) ≤ (r - x) * (k : Int) := by
        have e1 : (y * (k : Int) - y) * (k : Int) = y * (k : Int) * ((k : Int) - 1) := by grind
        have e2 : (r - x) * (k : Int) = r * ((k : Int) - 1) + (r - x * (k : Int)) := by grind
        omega
      exact Int.le_of_mul_le_mul_right h4 (by omega)
theorem pay_app (r k x : Int) (t : List Int) : pay r k (t ++ [x]) = pay r k t + (if x * k ≤ r then x else 0) := by
  induction t with
  | nil => simp [pay]
  | cons y t ih => simp only [List.cons_append, pay, ih]; omega
theorem cnt_app (r k x : Int) (t : List Int) : cnt r k (t ++ [x]) = cnt r k t + (if x * k ≤ r then 0 else 1) := by
  induction t with
  | nil => simp [cnt]
  | cons y t ih => simp only [List.cons_append, cnt, ih]; omega
theorem pd_fix {l : List Int} {e r : Int} {b : Nat → Bool} {k : Nat} (h : Pd l e b r k) (hu : ∀ i, i < l.length → b i = false → r < el l i * (k : Int)) : Fix l e r k := by
  have key : ∀ i, i ≤ l.length → pay r k (l.take i) = sp l b i ∧ cnt r k (l.take i) = (cu b i : Int) := by
    intro i
    induction i with
    | zero => intro _; simp [pay, cnt, sp, cu]
    | succ i ih =>
      intro hi
      have hi' : i < l.length := by omega
      obtain ⟨a, c⟩ := ih (by omega)
      rw [List.take_succ_eq_append_getElem hi', pay_app, cnt_app, a, c, ← el_eq l i hi']
      rw [sp_succ, cu_succ]
      cases hb : b i with
      | true =>
        have := h.paid i hi' hb
        simp [this]
      | false =>
        have := hu i hi' hb
        have hn : ¬ el l i * (k : Int) ≤ r := by omega
        simp [hn]
  obtain ⟨a, c⟩ := key l.length (Nat.le_refl _)
  rw [List.take_length] at a c
  exact ⟨by rw [a]; exact h.rest, by rw [c]; have := h.left; omega, h.pos⟩
/-- What the payments have written. -/
def pf (l : List Int) (b : Nat → Bool) (i : Nat) : Rt := if b i = true then ⟨el l i, 1⟩ else ⟨0, 0⟩
theorem pf_put (l : List Int) (b : Nat → Bool) (i : Nat) (j : Nat) : (if j = i then ⟨el l i, 1⟩ else pf l b j) = pf l (putB b i) j := by
  unfold pf putB
  by_cases e : j = i
  · subst e; simp
  · simp [e]
theorem pf_end {l : List Int} {e r : Int} {b : Nat → Bool} {k : Nat} (hv : vC l) (he : 0 ≤ e) (h : Pd l e b r k) (hu : ∀ i, i < l.length → b i = false → r < el l i * (k : Int)) {i : Nat} (hi : i < l.length) :
    (b i = true → eqL l e i = ⟨el l i, 1⟩) ∧ (b i = false → eqL l e i = mk r k) := by
  obtain ⟨e1, e2⟩ := fix_lvl hv.2 he (pd_fix h hu)
  unfold eqL
  rw [← e1, ← e2]
  unfold eqA
  exact ⟨fun hb => if_pos (h.paid i hi hb), fun hb => if_neg (by have := hu i hi hb; omega)⟩
end M
end Go.Proofs.Ythleekdkbgnabaa
