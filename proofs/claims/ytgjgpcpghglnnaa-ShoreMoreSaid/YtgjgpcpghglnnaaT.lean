/-
  An order of valid jobs: it is as long as there are jobs, and it runs.
-/
import Derived.Test.YtgjgpcpghglnnaaR
namespace Go.Proofs.Ytgjgpcpghglnnaa
namespace M
/-- How many of the first k numbers of a list are below n, and not below 0. -/
def sc (o : List Int) (k : Nat) : Nat → Nat
  | 0 => 0
  | b + 1 => sc o k b + cnt o (b : Nat) k
theorem sc_step (o : List Int) (k : Nat) : ∀ n : Nat, sc o (k + 1) n = sc o k n + if 0 ≤ el o k ∧ el o k < n then 1 else 0 := by
  intro n
  induction n with
  | zero => rw [if_neg (by omega)]; rfl
  | succ n ih =>
    show sc o (k + 1) n + cnt o (n : Nat) (k + 1) = sc o k n + cnt o (n : Nat) k + _
    rw [ih, cnt_succ]
    by_cases e : el o k = (n : Nat)
    · rw [if_neg (by omega), if_pos e, if_pos (by omega)]; omega
    · by_cases h : 0 ≤ el o k ∧ el o k < n
      · rw [if_pos h, if_neg e, if_pos (by omega)]; omega
      · rw [if_neg h, if_neg e, if_neg (by omega)]; omega
theorem sc_zero (o : List Int) (n : Nat) : sc o 0 n = 0 := by
  induction n with
  | zero => rfl
  | succ n ih => show sc o 0 n + cnt o (n : Nat) 0 = 0; rw [ih]; rfl
theorem sc_all (o : List Int) (n : Nat) : ∀ k, (∀ i, i < k → 0 ≤ el o i ∧ el o i < n) → sc o k n = k := by
  intro k
  induction k with
  | zero =>
    intro _
    exact sc_zero o n
  | succ k ih =>
    intro h
    rw [sc_step, ih (fun i hi => h i (by omega)), if_pos (h k (by omega))]
theorem sc_tn {J : List (List Jb)} {o : List Int} {k : Nat} (n : Nat) (h : ∀ b, b < n → cnt o (b : Nat) k = (be J b).length) : sc o k n = tn J n := by
  induction n with
  | zero => rfl
  | succ n ih =>
    show sc o k n + cnt o (n : Nat) k = tn J n + (be J n).length
    rw [ih (fun b hb => h b (by omega)), h n (by omega)]
theorem cnt_mono (o : List Int) (b : Int) {i k : Nat} (h : i ≤ k) : cnt o b i ≤ cnt o b k := by
  induction k with
  | zero => have : i = 0 := by omega
            subst this; exact Nat.le_refl _
  | succ k ih =>
    rcases Nat.lt_or_ge k i with h1 | h1
    · have : i = k + 1 := by omega
      subst this; exact Nat.le_refl _
    · have := ih h1; rw [cnt_succ]; omega
/-- What an order is, for valid jobs. -/
theorem ord_spec {J : List (List Jb)} {o : List Int} (hv : vJ J) (h : ordB J o = true) : o.length = tn J J.length ∧ o.length ≤ 12 ∧ (∀ i, i < o.length → 0 ≤ el o i ∧ el o i < J.length) ∧ (∀ b, b < J.length → cnt o (b : Nat) o.length = (be J b).length) ∧ Runs J o := by
  have hh : IsO J o := by unfold ordB at h; simpa using h
  obtain ⟨h1, h2⟩ := hh
  have e1 := sc_all o J.length (min o.length 101) h1
  have e2 := sc_tn (J := J) J.length h2
  have h12 := hv.2.1
  have hm : min o.length 101 = o.length := by omega
  rw [hm] at h1 h2 e1 e2
  refine ⟨by omega, by omega, h1, h2, fun i hi => ?_⟩
  obtain ⟨a1, a2⟩ := h1 i hi
  obtain ⟨bn, hb⟩ := Int.eq_ofNat_of_zero_le a1
  have hbn : bn < J.length := by omega
  have c1 := h2 bn hbn
  have c2 := cnt_mono o (bn : Nat) (show i + 1 ≤ o.length by omega)
  rw [cnt_succ, if_pos hb] at c2
  rw [hb]
  refine ⟨⟨by omega, hbn⟩, ?_⟩
  show cnt o (bn : Nat) i < (be J bn).length
  omega
/-- .. and the other way. -/
theorem ord_of {J : List (List Jb)} {o : List Int} (hl : o.length ≤ 101) (h1 : ∀ i, i < o.length → 0 ≤ el o i ∧ el o i < J.length) (h2 : ∀ b, b < J.length → cnt o (b : Nat) o.length = (be J b).length) : ordB J o = true := by
  have hm : min o.length 101 = o.length := by omega
  exact decide_eq_true ⟨by rw [hm]; exact h1, by rw [hm]; exact h2⟩
end M
end Go.Proofs.Ytgjgpcpghglnnaa
