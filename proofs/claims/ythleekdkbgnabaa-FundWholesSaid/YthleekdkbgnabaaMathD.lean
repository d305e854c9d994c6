/-
  Plain mathematics of awards: each is between 0 and its claim, and awards of an estate and of what is missing add up to the claims; no word of Go in it.
-/
import Derived.Test.YthleekdkbgnabaaMathC
import Derived.Test.YthleekdkbgnabaaO
namespace Go.Proofs.Ythleekdkbgnabaa
set_option linter.unusedVariables false
namespace M
theorem mk_ge {n d x : Int} (hd : 1 ≤ d) : ((mk n d).n ≤ x * (mk n d).d ↔ n ≤ x * d) := by
  have h1 := mk_n n d
  have h2 := mk_d n d
  have h3 := gcd_pos (n := n) hd
  generalize (mk n d).n = a at *
  generalize (mk n d).d = b at *
  generalize (Int.gcd n d : Int) = g at *
  have hx : x * d = (x * b) * g := by rw [← h2, Int.mul_assoc]
  rw [hx, ← h1]
  constructor
  · intro h; exact Int.mul_le_mul_of_nonneg_right h (by omega)
  · intro h; exact Int.le_of_mul_le_mul_right h (by omega)
/-- An award that can be: between 0 and the claim. -/
def gdR (x : Int) (a : Rt) : Prop := (0 ≤ a.n ∧ a.n ≤ x * a.d) ∧ 1 ≤ a.d ∧ a.d ≤ 10000
theorem gd_mk {x p d : Int} (hd : 1 ≤ d ∧ d ≤ 10000) (hp : 0 ≤ p) (h : p ≤ x * d) : gdR x (mk p d) := by
  have a := mk_pos (n := p) hd.1
  have b := mk_dle (n := p) hd.1
  have c := mk_n0 (n := p) hd.1 hp
  have e := (mk_ge (n := p) (x := x) hd.1).2 h
  exact ⟨⟨c, e⟩, a, by omega⟩
theorem gd_eq {l : List Int} {e : Int} (h : okE l e) {i : Nat} (hi : i < l.length) : gdR (el l i) (eqL l e i) := by
  have b := lvl_b h.1 h.2
  have hx := h.1.2 i hi
  unfold okC at hx
  unfold eqL eqA
  split
  · refine ⟨⟨hx.1, by simp⟩, by simp, by simp⟩
  · rename_i hn
    have h1 : 1 ≤ (lvl l e).2 := by
      rcases Int.lt_or_le (lvl l e).2 1 with h2 | h2
      · have : (lvl l e).2 = 0 := by omega
        rw [this, Int.mul_zero] at hn
        omega
      · exact h2
    exact gd_mk (by omega) b.1.1 (by omega)
theorem gd_hv {x : Int} {f : Nat → Rt} {i : Nat} (hx : 0 ≤ x) (h : gdR x (f i)) (hd : (f i).d ≤ 5000) : gdR x (hvL f i) := by
  unfold hvL
  have h1 : x * (2 * (f i).d) = x * (f i).d + x * (f i).d := by grind
  have h2 : 0 ≤ x * (f i).d := Int.mul_nonneg hx (by have := h.2; omega)
  exact gd_mk (by have := h.2; omega) h.1.1 (by have := h.1.2; omega)
theorem gd_ls {l : List Int} {f : Nat → Rt} {i : Nat} (h : gdR (el l i) (f i)) : gdR (el l i) (lsL l f i) := by
  unfold lsL
  have := h.1
  exact gd_mk h.2 (by omega) (by omega)
theorem el_sm {l : List Int} (h : vC l) {i : Nat} (hi : i < l.length) : el l i ≤ sm l := by
  have : ∀ k, k ≤ l.length → ∀ j, j < k → el l j ≤ tot l k := by
    intro k
    induction k with
    | zero => intro _ j hj; omega
    | succ k ih =>
      intro hk j hj
      have h1 := (tot_b h.2 k (by omega)).1
      have h2 := h.2 k (by omega)
      unfold okC at h2
      rw [tot_succ]
      rcases Nat.lt_succ_iff_lt_or_eq.1 hj with h3 | rfl
      · have := ih (by omega) j h3; omega
      · omega
  exact this _ (Nat.le_refl _) i hi
theorem gd_pr {l : List Int} {e : Int} (h : okE l e) {i : Nat} (hi : i < l.length) : gdR (el l i) (prL l e i) := by
  have hx := h.1.2 i hi
  unfold okC at hx
  have s := sm_b h.1
  have he := h.2
  unfold prL
  refine gd_mk (by omega) (Int.mul_nonneg hx.1 he.1) (Int.mul_le_mul_of_nonneg_left (by omega) hx.1)
theorem gd_old {l : List Int} {e : Int} (h : okE l e) {i : Nat} (hi : i < l.length) : gdR (el l i) ((if 2 * e ≤ sm l then hvL (eqL l (2 * e)) else lsL l (hvL (eqL l (2 * (sm l - e))))) i) := by
  have hx := h.1.2 i hi
  unfold okC at hx
  have he := h.2
  split
  · have hk : okE l (2 * e) := ⟨h.1, by omega, by omega⟩
    exact gd_hv hx.1 (gd_eq hk hi) (by have := eqL_b hk.1 hk.2 hi; omega)
  · have hk : okE l (2 * (sm l - e)) := ⟨h.1, by omega, by omega⟩
    exact gd_ls (gd_hv hx.1 (gd_eq hk hi) (by have := eqL_b hk.1 hk.2 hi; omega))
theorem gd_sh {l : List Int} {e : Int} (h : okE l e) (q : Int) {i : Nat} (hi : i < l.length) : gdR (el l i) (shR l e q i) := by
  unfold shR
  split
  · exact gd_eq h hi
  · split
    · exact gd_ls (gd_eq ⟨h.1, by have := h.2; omega⟩ hi)
    · split
      · exact gd_old h hi
      · exact gd_pr h hi

/-! ### both sides -/
/-- Two ratios add up to a whole number. -/
def sumsR (x : Int) (a b : Rt) : Prop := a.n * b.d + b.n * a.d = x * a.d * b.d
theorem sums_of {x p d p' d' : Int} {a b : Rt} (hd : 1 ≤ d) (hd' : 1 ≤ d') (ha : a.n * d = p * a.d) (hb : b.n * d' = p' * b.d) (h : p * d' + p' * d = x * d * d') : sumsR x a b := by
  unfold sumsR
  have h1 : (a.n * b.d + b.n * a.d) * (d * d') = (x * a.d * b.d) * (d * d') := by
    have e1 : a.n * b.d * (d * d') = (a.n * d) * (b.d * d') := by grind
    have e2 : b.n * a.d * (d * d') = (b.n * d') * (a.d * d) := by grind
    have e3 : (x * a.d * b.d) * (d * d') = (x * d * d') * (a.d * b.d) := by grind
    rw [Int.add_mul, e1, e2, e3, ha, hb, ← h]
    grind
  have h2 : 0 < d * d' := Int.mul_pos (by omega) (by omega)
  exact Int.eq_of_mul_eq_mul_right (by omega) h1
theorem sums_ls {l : List Int} {f : Nat → Rt} {i : Nat} (hd : 1 ≤ (f i).d) : sumsR (el l i) (lsL l f i) (f i) :=
  sums_of (d := (f i).d) (d' := (f i).d) hd hd (mk_val _ _) rfl (by grind)
theorem sums_comm {x : Int} {a b : Rt} (h : sumsR x a b) : sumsR x b a := by
  unfold sumsR at *
  have : x * b.d * a.d = x * a.d * b.d := by grind
  omega
theorem pay_all (l : List Int) : pay 0 0 l = l.sum ∧ cnt 0 0 l = 0 := by
  induction l with
  | nil => simp [pay, cnt]
  | cons x t ih => simp [pay, cnt, ih]
theorem eq_all {l : List Int} (h : vC l) (i : Nat) : eqL l (sm l) i = ⟨el l i, 1⟩ := by
  have hp := pay_all l
  obtain ⟨e1, e2⟩ := fix_lvl h.2 (sm_b h).1 (show Fix l (sm l) 0 0 from ⟨by rw [hp.1, sm_sum]; omega, hp.2.symm, Int.le_refl _⟩)
  unfold eqL
  rw [← e1, ← e2]
  unfold eqA
  simp
theorem sums_old {l : List Int} {e : Int} (h : okE l e) {i : Nat} (hi : i < l.length) : sumsR (el l i) ((if 2 * e ≤ sm l then hvL (eqL l (2 * e)) else lsL l (hvL (eqL l (2 * (sm l - e))))) i) ((if 2 * (sm l - e) ≤ sm l then hvL (eqL l (2 * (sm l - e))) else lsL l (hvL (eqL l (2 * (sm l - (sm l - e)))))) i) := by
  have he := h.2
  have hpos : ∀ e', okE l e' → 1 ≤ (hvL (eqL l e') i).d := fun e' hk => (hvL_b (eqL_b hk.1 hk.2 hi)).2.1
  by_cases h1 : 2 * e ≤ sm l
  · rw [if_pos h1]
    by_cases h2 : 2 * (sm l - e) ≤ sm l
    · rw [if_pos h2]
      have e1 : 2 * e = sm l := by omega
      have e2 : 2 * (sm l - e) = sm l := by omega
      rw [e1, e2]
      unfold hvL
      rw [eq_all h.1]
      exact sums_of (d := 2 * 1) (d' := 2 * 1) (by omega) (by omega) (mk_val _ _) (mk_val _ _) (by simp only; omega)
    · rw [if_neg h2]
      have e1 : sm l - (sm l - e) = e := by omega
      rw [e1]
      exact sums_comm (sums_ls (hpos _ ⟨h.1, by omega, h1⟩))
  · rw [if_neg h1, if_pos (by omega)]
    exact sums_ls (hpos _ ⟨h.1, by omega, by omega⟩)
theorem sums_pr {l : List Int} {e : Int} (h : okE l e) {i : Nat} (hi : i < l.length) : sumsR (el l i) (prL l e i) (prL l (sm l - e) i) := by
  have hx := h.1.2 i hi
  unfold okC at hx
  have hs := el_sm h.1 hi
  have he := h.2
  unfold prL
  have hd : 1 ≤ max (sm l) 1 := by omega
  refine sums_of hd hd (mk_val _ _) (mk_val _ _) ?_
  rcases Int.lt_or_le (sm l) 1 with h1 | h1
  · have e1 : el l i = 0 := by omega
    rw [e1]; simp
  · have e1 : max (sm l) 1 = sm l := by omega
    rw [e1]
    grind
/-- Equal losses, the old rule, and in proportion, against equal awards, the old rule, and in proportion, of what is missing. -/
theorem sums_sh {l : List Int} {e : Int} (h : okE l e) {i : Nat} (hi : i < l.length) :
    sumsR (el l i) (shR l e 3 i) (shR l (sm l - e) 2 i) ∧ sumsR (el l i) (shR l e 4 i) (shR l (sm l - e) 4 i) ∧ sumsR (el l i) (shR l e 1 i) (shR l (sm l - e) 1 i) :=
  ⟨sums_ls (by have := eqL_b h.1 (e := sm l - e) (by have := h.2; omega) hi; omega), sums_old h hi, sums_pr h hi⟩
end M
end Go.Proofs.Ythleekdkbgnabaa
