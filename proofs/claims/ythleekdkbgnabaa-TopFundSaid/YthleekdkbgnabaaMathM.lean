/-
  Levels of equal awards against each other, over lists of claims. Mathematics alone.
-/
import Derived.Test.YthleekdkbgnabaaMathD
import Derived.Test.YthleekdkbgnabaaMathE
namespace Go.Proofs.Ythleekdkbgnabaa
open Go.RowKit Go.Deep M
set_option linter.unusedVariables false
set_option linter.unusedSimpArgs false
namespace M
/-- One ratio is at most another one. -/
def leR (a b : Rt) : Prop := a.n * b.d ≤ b.n * a.d
/-- A level (what is left, and for how many; for none: it binds nobody) is at most another one. -/
def lvLe (r k r' k' : Int) : Prop := k' = 0 ∨ (0 < k ∧ 0 < k' ∧ r * k' ≤ r' * k)
/-- What a claim gets by a level, over its denominator. -/
def lvF (r k x : Int) : Int := if k = 0 then x else if x * k ≤ r then x * k else r
def lvQ (k : Int) : Int := if k = 0 then 1 else k
theorem lvQ_pos {k : Int} (h : 0 ≤ k) : 1 ≤ lvQ k := by unfold lvQ; split <;> omega
theorem lv_total {r k r' k' : Int} (hk : 0 ≤ k) (hk' : 0 ≤ k') : lvLe r k r' k' ∨ lvLe r' k' r k := by
  unfold lvLe
  rcases Int.lt_or_le 0 k with h | h
  · rcases Int.lt_or_le 0 k' with h' | h'
    · rcases Int.le_total (r * k') (r' * k) with h2 | h2
      · exact .inl (.inr ⟨h, h', h2⟩)
      · exact .inr (.inr ⟨h', h, h2⟩)
    · exact .inl (.inl (by omega))
  · exact .inr (.inl (by omega))
theorem lv_cmp {r k r' k' x : Int} (hk : 0 ≤ k) (hk' : 0 ≤ k') (hx : 0 ≤ x) (h : lvLe r k r' k') : lvF r k x * lvQ k' ≤ lvF r' k' x * lvQ k := by
  unfold lvLe at h
  unfold lvF lvQ
  rcases h with h | ⟨h1, h2, h3⟩
  · subst h
    simp only [if_true]
    by_cases h0 : k = 0
    · subst h0; simp
    · simp only [h0, if_false]
      split <;> omega
  · have n1 : ¬ k = 0 := by omega
    have n2 : ¬ k' = 0 := by omega
    simp only [n1, n2, if_false]
    by_cases a : x * k ≤ r
    · by_cases b : x * k' ≤ r'
      · simp only [a, b, if_true]
        have : x * k * k' = x * k' * k := by grind
        omega
      · simp only [a, b, if_true, if_false]
        have := Int.mul_le_mul_of_nonneg_right a (show 0 ≤ k' by omega)
        omega
    · by_cases b : x * k' ≤ r'
      · simp only [a, b, if_true, if_false]
        have : r * k' ≤ x * k * k' := Int.mul_le_mul_of_nonneg_right (by omega) (by omega)
        have e : x * k * k' = x * k' * k := by grind
        omega
      · simp only [a, b, if_false]
        exact h3
theorem lvF_val {l : List Int} {e : Int} (h : okE l e) {i : Nat} (hi : i < l.length) : (eqL l e i).n * lvQ (lvl l e).2 = lvF (lvl l e).1 (lvl l e).2 (el l i) * (eqL l e i).d := by
  have f := lvl_fix h.1.2 h.2.1
  have hp := f.pos
  unfold eqL eqA lvF lvQ
  by_cases h0 : (lvl l e).2 = 0
  · simp only [h0, if_true, Int.mul_zero, hp]
  · simp only [h0, if_false]
    split
    · simp
    · exact mk_val _ _
/-- A greater claim gets no less, and loses no less. -/
theorem lvF_mono {r k x y : Int} (hk : 0 ≤ k) (h : x ≤ y) : lvF r k x ≤ lvF r k y ∧ lvF r k y ≤ lvF r k x + (y - x) * lvQ k := by
  unfold lvF lvQ
  by_cases h0 : k = 0
  · simp only [h0, if_true]; omega
  · simp only [h0, if_false]
    have e1 : (y - x) * k = y * k - x * k := by grind
    have h1 : x * k ≤ y * k := Int.mul_le_mul_of_nonneg_right h hk
    split <;> split <;> omega
/-- Two parts of a claim get no less than the whole. -/
theorem lvF_sub {r k a b : Int} (hk : 0 ≤ k) (hr : 0 ≤ r) (ha : 0 ≤ a) (hb : 0 ≤ b) : lvF r k (a + b) ≤ lvF r k a + lvF r k b := by
  unfold lvF
  by_cases h0 : k = 0
  · simp only [h0, if_true]; omega
  · simp only [h0, if_false]
    have e1 : (a + b) * k = a * k + b * k := by grind
    have h1 : 0 ≤ a * k := Int.mul_nonneg ha hk
    have h2 : 0 ≤ b * k := Int.mul_nonneg hb hk
    split <;> split <;> split <;> omega
/-- What claims get by a level. -/
def sF (r k : Int) : List Int → Int
  | [] => 0
  | x :: t => lvF r k x + sF r k t
theorem sF_app (r k : Int) (a b : List Int) : sF r k (a ++ b) = sF r k a + sF r k b := by
  induction a with
  | nil => simp [sF]
  | cons x t ih => simp only [List.cons_append, sF, ih]; omega
theorem sF_cmp {r k r' k' : Int} (hk : 0 ≤ k) (hk' : 0 ≤ k') (h : lvLe r k r' k') : ∀ l : List Int, (∀ y ∈ l, 0 ≤ y) → sF r k l * lvQ k' ≤ sF r' k' l * lvQ k := by
  intro l
  induction l with
  | nil => intro _; simp [sF]
  | cons x t ih =>
    intro hy
    have h1 := ih fun y hm => hy y (by simp [hm])
    have h2 := lv_cmp hk hk' (hy x (by simp)) h
    simp only [sF, Int.add_mul]
    omega
theorem sF_pay {r k : Int} (hr : 0 ≤ r) (hk : ¬ k = 0) : ∀ l : List Int, sF r k l = pay r k l * k + cnt r k l * r := by
  intro l
  induction l with
  | nil => simp [sF, pay, cnt]
  | cons x t ih =>
    unfold sF pay cnt
    rw [ih]
    unfold lvF
    simp only [hk, if_false]
    split
    · grind
    · grind
theorem sF_zero {r : Int} (hr : 0 ≤ r) : ∀ l : List Int, sF r 0 l = l.sum ∧ pay r 0 l = l.sum := by
  intro l
  induction l with
  | nil => simp [sF, pay]
  | cons x t ih =>
    unfold sF pay lvF
    rw [ih.1, ih.2]
    simp [hr]
theorem sF_fix {l : List Int} {e : Int} (h : okE l e) : sF (lvl l e).1 (lvl l e).2 l = e * lvQ (lvl l e).2 := by
  have f := lvl_fix h.1.2 h.2.1
  have hr := f.rest
  have hp := f.pos
  unfold lvQ
  by_cases h0 : (lvl l e).2 = 0
  · rw [h0] at hr ⊢
    obtain ⟨a, b⟩ := sF_zero hp l
    rw [a]
    rw [b, ← sm_sum] at hr
    rw [← sm_sum]
    have := h.2
    simp only [if_true]
    omega
  · rw [sF_pay hp h0, ← f.left]
    simp only [h0, if_false]
    have e1 : pay (lvl l e).1 (lvl l e).2 l = e - (lvl l e).1 := by omega
    rw [e1]; grind
/-- Who stands beside the same others gets no less of an estate that is no less. -/
theorem own_ge {r k r' k' own own' e e' : Int} {O : List Int} (hk : 0 ≤ k) (hk' : 0 ≤ k') (hO : ∀ y ∈ O, 0 ≤ y) (h1 : sF r k O + own = e * lvQ k) (h2 : sF r' k' O + own' = e' * lvQ k') (he : e ≤ e') (h : lvLe r k r' k' → own * lvQ k' ≤ own' * lvQ k) : own * lvQ k' ≤ own' * lvQ k := by
  rcases lv_total (r := r) (r' := r') hk hk' with hl | hl
  · exact h hl
  · have a := sF_cmp hk' hk hl O hO
    have q := lvQ_pos hk
    have q' := lvQ_pos hk'
    generalize sF r k O = s at *
    generalize sF r' k' O = s' at *
    generalize lvQ k = Q at *
    generalize lvQ k' = Q' at *
    have e1 : own * Q' = e * Q * Q' - s * Q' := by rw [← h1]; grind
    have e2 : own' * Q = e' * Q' * Q - s' * Q := by rw [← h2]; grind
    have e3 : e * Q * Q' ≤ e' * Q' * Q := by
      have : e * (Q * Q') ≤ e' * (Q * Q') := Int.mul_le_mul_of_nonneg_right he (Int.mul_nonneg (by omega) (by omega))
      have f1 : e * Q * Q' = e * (Q * Q') := by grind
      have f2 : e' * Q' * Q = e' * (Q * Q') := by grind
      omega
    omega
/-- .. and not more than that by which the estate is greater. -/
theorem own_le {r k r' k' own own' e e' d : Int} {O : List Int} (hk : 0 ≤ k) (hk' : 0 ≤ k') (hO : ∀ y ∈ O, 0 ≤ y) (h1 : sF r k O + own = e * lvQ k) (h2 : sF r' k' O + own' = e' * lvQ k') (he : e' ≤ e + d) (h : lvLe r' k' r k → own' * lvQ k ≤ own * lvQ k' + d * (lvQ k * lvQ k')) : own' * lvQ k ≤ own * lvQ k' + d * (lvQ k * lvQ k') := by
  rcases lv_total (r := r') (r' := r) hk' hk with hl | hl
  · exact h hl
  · have a := sF_cmp hk hk' hl O hO
    have q := lvQ_pos hk
    have q' := lvQ_pos hk'
    generalize sF r k O = s at *
    generalize sF r' k' O = s' at *
    generalize lvQ k = Q at *
    generalize lvQ k' = Q' at *
    have e1 : own * Q' = e * (Q * Q') - s * Q' := by
      have : own = e * Q - s := by omega
      rw [this]; grind
    have e2 : own' * Q = e' * (Q * Q') - s' * Q := by
      have : own' = e' * Q' - s' := by omega
      rw [this]; grind
    have e3 : e' * (Q * Q') ≤ (e + d) * (Q * Q') := Int.mul_le_mul_of_nonneg_right he (Int.mul_nonneg (by omega) (by omega))
    have e4 : (e + d) * (Q * Q') = e * (Q * Q') + d * (Q * Q') := by grind
    omega
/-- The others of a list. -/
def oth (l : List Int) (k : Nat) : List Int := l.take k ++ l.drop (k + 1)
theorem oth_pos {l : List Int} (h : Oks l l.length) (k : Nat) : ∀ y ∈ oth l k, 0 ≤ y := fun y hy => by
  unfold oth at hy
  rw [List.mem_append] at hy
  rcases hy with hy | hy
  · exact (mem_ok h (List.mem_of_mem_take hy)).1
  · exact (mem_ok h (List.mem_of_mem_drop hy)).1
theorem sF_one {l : List Int} {j : Nat} (r k : Int) (hj : j < l.length) : sF r k l = sF r k (oth l j) + lvF r k (el l j) := by
  have e : l = l.take j ++ (el l j :: l.drop (j + 1)) := by
    rw [el_eq l j hj, List.getElem_cons_drop, List.take_append_drop]
  have : sF r k l = sF r k (l.take j ++ (el l j :: l.drop (j + 1))) := by rw [← e]
  rw [this, sF_app]
  unfold oth
  rw [sF_app]
  simp only [sF]
  omega
theorem sF_inc {l : List Int} {j : Nat} (r k : Int) (hj : j < l.length) : sF r k (incL l j) = sF r k (oth l j) + lvF r k (el l j + 1) := by
  unfold incL
  rw [List.set_eq_take_append_cons_drop, if_pos hj, sF_app]
  unfold oth
  rw [sF_app]
  simp only [sF]
  omega
theorem sF_spl {l : List Int} {j : Nat} (r k a : Int) (hj : j < l.length) : sF r k (splL l j a) = sF r k (oth l j) + (lvF r k a + lvF r k (el l j - a)) := by
  unfold splL oth
  rw [sF_app, sF_app, sF_app]
  simp only [sF]
  omega
end M
end Go.Proofs.Ythleekdkbgnabaa
