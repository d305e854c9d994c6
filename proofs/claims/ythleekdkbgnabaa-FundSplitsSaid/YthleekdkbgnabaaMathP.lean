/-
  More never is below 0, Split is 0 in proportion, not below 0 by equal awards, not above 0 by equal losses. Mathematics alone.
-/
import Derived.Test.YthleekdkbgnabaaMathN
namespace Go.Proofs.Ythleekdkbgnabaa
open Go.RowKit Go.Deep M
set_option linter.unusedVariables false
set_option linter.unusedSimpArgs false
namespace M
theorem lvF_le {r k y : Int} (hk : 0 ≤ k) : lvF r k y ≤ y * lvQ k := by
  unfold lvF lvQ
  by_cases h0 : k = 0
  · simp [h0]
  · simp only [h0, if_false]
    split <;> omega
theorem sF_le {r k : Int} (hk : 0 ≤ k) : ∀ l : List Int, sF r k l ≤ l.sum * lvQ k := by
  intro l
  induction l with
  | nil => simp [sF]
  | cons x t ih =>
    have := lvF_le (r := r) (y := x) hk
    simp only [sF, List.sum_cons, Int.add_mul]
    omega
theorem oth_sum {l : List Int} {j : Nat} (hj : j < l.length) : (oth l j).sum = sm l - el l j := by
  have e : l = l.take j ++ (el l j :: l.drop (j + 1)) := by
    rw [el_eq l j hj, List.getElem_cons_drop, List.take_append_drop]
  have : l.sum = (l.take j ++ (el l j :: l.drop (j + 1))).sum := by rw [← e]
  rw [sm_sum, this]
  unfold oth
  rw [List.sum_append, List.sum_append, List.sum_cons]
  omega
theorem vl_pr {l : List Int} {e : Int} {i : Nat} : Vl (prL l e i) (el l i * e) (max (sm l) 1) := vl_mk (by omega)
theorem shR1' (l : List Int) (e : Int) : shR l e 1 = prL l e := by unfold shR; simp
theorem shR2' (l : List Int) (e : Int) : shR l e 2 = eqL l e := by unfold shR; simp
theorem shR3' (l : List Int) (e : Int) : shR l e 3 = lsL l (eqL l (sm l - e)) := by unfold shR; simp
theorem shR4a (l : List Int) (e : Int) (h : 2 * e ≤ sm l) : shR l e 4 = hvL (eqL l (2 * e)) := by unfold shR; simp [h]
theorem shR4b (l : List Int) (e : Int) (h : ¬ 2 * e ≤ sm l) : shR l e 4 = lsL l (hvL (eqL l (2 * (sm l - e)))) := by unfold shR; simp [h]
/-- A greater claim never gets less. -/
theorem more_ge {l : List Int} {e : Int} {j : Nat} (h : okE l e) (hj : j < l.length) (hne : el l j ≠ 1000) (q : Int) (hq : q = 1 ∨ q = 2 ∨ q = 3 ∨ q = 4) : leR (shR l e q j) (shR (incL l j) e q j) := by
  have h' := inc_ok h hj hne
  have hs := sm_inc hj
  have hl := incL_len l j
  have hj' : j < (incL l j).length := by omega
  have hx := h.1.2 j hj
  unfold okC at hx
  have he := h.2
  have hx' := el_inc hj
  have hsx := el_sm h.1 hj
  rcases hq with rfl | rfl | rfl | rfl
  · rw [shR1', shR1']
    refine vl_le vl_pr vl_pr ?_
    rw [hx', hs]
    rcases Int.lt_or_le 0 (sm l) with hp | hp
    · rw [show max (sm l) 1 = sm l by omega, show max (sm l + 1) 1 = sm l + 1 by omega]
      have h1 : el l j * e ≤ sm l * e := Int.mul_le_mul_of_nonneg_right hsx he.1
      have e1 : el l j * e * (sm l + 1) = el l j * e * sm l + el l j * e := by grind
      have e2 : (el l j + 1) * e * sm l = el l j * e * sm l + sm l * e := by grind
      omega
    · have : e = 0 := by omega
      rw [this]; simp
  · rw [shR2', shR2']
    refine vl_le (vl_eq h hj) (vl_eq h' hj') ?_
    rw [hx']
    exact inc_eq hj h h' (Int.le_refl _)
  · rw [shR3', shR3']
    have hm : okE l (sm l - e) := ⟨h.1, by omega, by omega⟩
    have hm' : okE (incL l j) (sm (incL l j) - e) := ⟨h'.1, by omega, by omega⟩
    refine vl_le (vl_ls (vl_eq hm hj)) (vl_ls (vl_eq hm' hj')) ?_
    have key := inc_ls (d := 1) hj hm hm' (by omega) (by omega)
    rw [hx']
    generalize lvF (lvl (incL l j) (sm (incL l j) - e)).1 (lvl (incL l j) (sm (incL l j) - e)).2 (el l j + 1) = F' at *
    generalize lvF (lvl l (sm l - e)).1 (lvl l (sm l - e)).2 (el l j) = F at *
    generalize lvQ (lvl l (sm l - e)).2 = Q at *
    generalize lvQ (lvl (incL l j) (sm (incL l j) - e)).2 = Q' at *
    have e1 : (el l j * Q - F) * Q' = el l j * (Q * Q') - F * Q' := by grind
    have e2 : ((el l j + 1) * Q' - F') * Q = el l j * (Q * Q') + Q * Q' - F' * Q := by grind
    omega
  · by_cases c1 : 2 * e ≤ sm l
    · rw [shR4a l e c1, shR4a _ e (by omega)]
      have hm : okE l (2 * e) := ⟨h.1, by omega, by omega⟩
      have hm' : okE (incL l j) (2 * e) := ⟨h'.1, by omega, by omega⟩
      refine vl_le (vl_hv (vl_eq hm hj)) (vl_hv (vl_eq hm' hj')) ?_
      have key := inc_eq hj hm hm' (Int.le_refl _)
      rw [hx']
      generalize lvF (lvl (incL l j) (2 * e)).1 (lvl (incL l j) (2 * e)).2 (el l j + 1) = F' at *
      generalize lvF (lvl l (2 * e)).1 (lvl l (2 * e)).2 (el l j) = F at *
      generalize lvQ (lvl l (2 * e)).2 = Q at *
      generalize lvQ (lvl (incL l j) (2 * e)).2 = Q' at *
      have e1 : F * (2 * Q') = 2 * (F * Q') := by grind
      have e2 : F' * (2 * Q) = 2 * (F' * Q) := by grind
      omega
    · rw [shR4b l e c1]
      have hm : okE l (2 * (sm l - e)) := ⟨h.1, by omega, by omega⟩
      have v := vl_ls (l := l) (vl_hv (vl_eq hm hj))
      by_cases c2 : 2 * e ≤ sm (incL l j)
      · rw [shR4a _ e c2]
        have e2 : 2 * e = sm (incL l j) := by omega
        rw [e2]
        have v2 : Vl (hvL (eqL (incL l j) (sm (incL l j))) j) (el l j + 1) 2 := by
          unfold hvL
          rw [eq_all h'.1, hx']
          show Vl (mk (el l j + 1) 2) (el l j + 1) 2
          exact vl_mk (by omega)
        refine vl_le v v2 ?_
        have k := (lvl_b hm.1 hm.2).2.1
        have s1 := sF_fix hm
        rw [sF_one _ _ hj] at s1
        have s2 := sF_le (r := (lvl l (2 * (sm l - e))).1) k (oth l j)
        rw [oth_sum hj] at s2
        have e3 : 2 * (sm l - e) = sm l - 1 := by omega
        generalize lvF (lvl l (2 * (sm l - e))).1 (lvl l (2 * (sm l - e))).2 (el l j) = F at *
        generalize sF (lvl l (2 * (sm l - e))).1 (lvl l (2 * (sm l - e))).2 (oth l j) = s at *
        generalize lvQ (lvl l (2 * (sm l - e))).2 = Q at *
        rw [e3] at s1
        have f1 : (sm l - 1) * Q = sm l * Q - Q := by grind
        have f2 : (sm l - el l j) * Q = sm l * Q - el l j * Q := by grind
        have f3 : (el l j * (2 * Q) - F) * 2 = 2 * (2 * (el l j * Q)) - 2 * F := by grind
        have f4 : (el l j + 1) * (2 * Q) = 2 * (el l j * Q) + 2 * Q := by grind
        omega
      · rw [shR4b _ e c2]
        have hm' : okE (incL l j) (2 * (sm (incL l j) - e)) := ⟨h'.1, by omega, by omega⟩
        refine vl_le v (vl_ls (vl_hv (vl_eq hm' hj'))) ?_
        have key := inc_ls (d := 2) hj hm hm' (by omega) (by omega)
        rw [hx']
        generalize lvF (lvl (incL l j) (2 * (sm (incL l j) - e))).1 (lvl (incL l j) (2 * (sm (incL l j) - e))).2 (el l j + 1) = F' at *
        generalize lvF (lvl l (2 * (sm l - e))).1 (lvl l (2 * (sm l - e))).2 (el l j) = F at *
        generalize lvQ (lvl l (2 * (sm l - e))).2 = Q at *
        generalize lvQ (lvl (incL l j) (2 * (sm (incL l j) - e))).2 = Q' at *
        have e1 : (el l j * (2 * Q) - F) * (2 * Q') = 4 * (el l j * (Q * Q')) - 2 * (F * Q') := by grind
        have e2 : ((el l j + 1) * (2 * Q') - F') * (2 * Q) = 4 * (el l j * (Q * Q')) + 4 * (Q * Q') - 2 * (F' * Q) := by grind
        omega

/-! ### a claim that is split -/
theorem el_splA {l : List Int} {j : Nat} (a : Int) (hj : j < l.length) : el (splL l j a) j = a := by
  have h := splL_len l j a hj
  rw [el_eq _ _ (by omega)]
  unfold splL
  simp [List.getElem_append, List.length_take, Nat.min_eq_left (Nat.le_of_lt hj)]
theorem el_splB {l : List Int} {j : Nat} (a : Int) (hj : j < l.length) : el (splL l j a) (j + 1) = el l j - a := by
  have h := splL_len l j a hj
  rw [el_eq _ _ (by omega)]
  unfold splL
  simp [List.getElem_append, List.length_take, Nat.min_eq_left (Nat.le_of_lt hj)]
theorem sm_spl {l : List Int} {j : Nat} (a : Int) (hj : j < l.length) : sm (splL l j a) = sm l := by rw [sm_sum, spl_sum l j a hj, ← sm_sum]
theorem spl_eq {l : List Int} {e a : Int} {j : Nat} (hj : j < l.length) (h : okE l e) (h' : okE (splL l j a) e) (ha : 0 ≤ a ∧ a ≤ el l j) :
    lvF (lvl l e).1 (lvl l e).2 (el l j) * lvQ (lvl (splL l j a) e).2 ≤ (lvF (lvl (splL l j a) e).1 (lvl (splL l j a) e).2 a + lvF (lvl (splL l j a) e).1 (lvl (splL l j a) e).2 (el l j - a)) * lvQ (lvl l e).2 := by
  have k := (lvl_b h.1 h.2).2.1
  have b' := lvl_b h'.1 h'.2
  have hx := h.1.2 j hj
  refine own_ge (O := oth l j) k b'.2.1 (oth_pos h.1.2 j) (by rw [← sF_one _ _ hj]; exact sF_fix h) (by rw [← sF_spl _ _ _ hj]; exact sF_fix h') (Int.le_refl _) fun hl => ?_
  have c1 := lv_cmp k b'.2.1 hx.1 hl
  have c2 := lvF_sub (r := (lvl (splL l j a) e).1) b'.2.1 b'.1.1 ha.1 (show 0 ≤ el l j - a by omega)
  rw [show a + (el l j - a) = el l j by omega] at c2
  have c3 := Int.mul_le_mul_of_nonneg_right c2 (show 0 ≤ lvQ (lvl l e).2 by have := lvQ_pos k; omega)
  omega
theorem split_sign {l : List Int} {e a : Int} {j : Nat} (h : okE l e) (hj : j < l.length) (ha : 0 ≤ a ∧ a ≤ el l j) (h8 : l.length ≠ 8) :
    (leR (plR (shR (splL l j a) e 1 j) (shR (splL l j a) e 1 (j + 1))) (shR l e 1 j) ∧ leR (shR l e 1 j) (plR (shR (splL l j a) e 1 j) (shR (splL l j a) e 1 (j + 1)))) ∧
    leR (shR l e 2 j) (plR (shR (splL l j a) e 2 j) (shR (splL l j a) e 2 (j + 1))) ∧
    leR (plR (shR (splL l j a) e 3 j) (shR (splL l j a) e 3 (j + 1))) (shR l e 3 j) := by
  have h' := spl_ok h hj ha h8
  have hs := sm_spl a hj
  have hl := splL_len l j a hj
  have he := h.2
  have x0 := el_splA a hj
  have x1 := el_splB a hj
  refine ⟨?_, ?_, ?_⟩
  · rw [shR1', shR1']
    have v : Vl (plR (prL (splL l j a) e j) (prL (splL l j a) e (j + 1))) (el l j * e) (max (sm l) 1) := by
      have p := vl_pl (vl_pr (l := splL l j a) (e := e) (i := j)) (vl_pr (l := splL l j a) (e := e) (i := j + 1))
      rw [x0, x1, hs] at p
      rw [show a * e + (el l j - a) * e = el l j * e by grind] at p
      exact p
    exact ⟨vl_le v vl_pr (Int.le_refl _), vl_le vl_pr v (Int.le_refl _)⟩
  · rw [shR2', shR2']
    have p := vl_pl (vl_eq h' (i := j) (by omega)) (vl_eq h' (i := j + 1) (by omega))
    rw [x0, x1] at p
    exact vl_le (vl_eq h hj) p (spl_eq hj h h' ha)
  · rw [shR3', shR3', hs]
    have hm : okE l (sm l - e) := ⟨h.1, by omega, by omega⟩
    have hm' : okE (splL l j a) (sm l - e) := ⟨h'.1, by omega, by omega⟩
    have p := vl_pl (vl_ls (l := splL l j a) (vl_eq hm' (i := j) (by omega))) (vl_ls (l := splL l j a) (vl_eq hm' (i := j + 1) (by omega)))
    rw [x0, x1] at p
    refine vl_le p (vl_ls (vl_eq hm hj)) ?_
    have key := spl_eq hj hm hm' ha
    generalize lvF (lvl (splL l j a) (sm l - e)).1 (lvl (splL l j a) (sm l - e)).2 a = A at *
    generalize lvF (lvl (splL l j a) (sm l - e)).1 (lvl (splL l j a) (sm l - e)).2 (el l j - a) = B at *
    generalize lvF (lvl l (sm l - e)).1 (lvl l (sm l - e)).2 (el l j) = F at *
    generalize lvQ (lvl l (sm l - e)).2 = Q at *
    generalize lvQ (lvl (splL l j a) (sm l - e)).2 = Q' at *
    have e1 : (a * Q' - A + ((el l j - a) * Q' - B)) * Q = el l j * (Q * Q') - (A + B) * Q := by grind
    have e2 : (el l j * Q - F) * Q' = el l j * (Q * Q') - F * Q' := by grind
    omega
end M
end Go.Proofs.Ythleekdkbgnabaa
