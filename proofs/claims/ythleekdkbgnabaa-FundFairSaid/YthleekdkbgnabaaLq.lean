/-
  The awards of every rule share the estate. Mathematics alone.
  Equal awards grow with the estate. Mathematics alone.
  Mathematics of fairness: who claims more gets no less and loses no less, equal claims get equal awards, and a greater estate gives nobody less, by every rule.
  The law's question whether a ratio is at most another one.
-/
import Derived.Test.YthleekdkbgnabaaMathJ
import Derived.Test.YthleekdkbgnabaaMathM
import Derived.Test.YthleekdkbgnabaaJ
import Derived.Test.YthleekdkbgnabaaKb
section
namespace Go.Proofs.Ythleekdkbgnabaa
open Go.RowKit Go.Deep M
set_option linter.unusedVariables false
set_option linter.unusedSimpArgs false
namespace M
/-- Ratios over one denominator, with their sum. -/
def Cm (n : Nat) (e : Int) (F : Nat → Rt) : Prop := ∃ (q : Int) (f : Nat → Int), 1 ≤ q ∧ (∀ i, i < n → (F i).n * q = f i * (F i).d) ∧ suM f n = e * q
theorem suM_sub (f g : Nat → Int) : ∀ n, suM (fun i => f i - g i) n = suM f n - suM g n := by
  intro n
  induction n with
  | zero => rfl
  | succ n ih => rw [suM, suM, suM, ih]; omega
theorem cm_pr {l : List Int} {e : Int} (h : okE l e) : Cm l.length e (prL l e) := by
  refine ⟨max (sm l) 1, fun i => e * el l i, by omega, fun i hi => ?_, ?_⟩
  · unfold prL
    have := mk_val (el l i * e) (max (sm l) 1)
    show (mk (el l i * e) (max (sm l) 1)).n * max (sm l) 1 = e * el l i * (mk (el l i * e) (max (sm l) 1)).d
    rw [this, Int.mul_comm e]
  · rw [suM_mul, suM_tot]
    show e * sm l = e * max (sm l) 1
    have := h.2
    have s := sm_b h.1
    rcases Int.lt_or_le 0 (sm l) with hp | hp
    · rw [show max (sm l) 1 = sm l by omega]
    · have : e = 0 := by omega
      rw [this]; simp
theorem pay_cnt (r k : Int) (l : List Int) : ∀ m, m ≤ l.length → suM (fun i => if el l i * k ≤ r then el l i * k else r) m = pay r k (l.take m) * k + cnt r k (l.take m) * r := by
  intro m
  induction m with
  | zero => intro _; simp [suM, pay, cnt]
  | succ m ih =>
    intro hm
    rw [suM, ih (by omega)]
    have e : l.take (m + 1) = l.take m ++ [el l m] := by rw [el_eq l m (by omega), List.take_append_getElem]
    rw [e, pay_app, cnt_app]
    split
    · grind
    · grind
theorem cm_eq {l : List Int} {e : Int} (h : okE l e) : Cm l.length e (eqL l e) := by
  have f := lvl_fix h.1.2 h.2.1
  have b := lvl_b h.1 h.2
  rcases Int.lt_or_le 0 (lvl l e).2 with hk | hk
  · refine ⟨(lvl l e).2, fun i => if el l i * (lvl l e).2 ≤ (lvl l e).1 then el l i * (lvl l e).2 else (lvl l e).1, by omega, fun i hi => ?_, ?_⟩
    · unfold eqL eqA
      simp only
      split
      · simp
      · exact mk_val _ _
    · rw [pay_cnt _ _ l l.length (Nat.le_refl _), List.take_length, ← f.left]
      have := f.rest
      have e1 : pay (lvl l e).1 (lvl l e).2 l = e - (lvl l e).1 := by omega
      rw [e1]; grind
  · have h0 : (lvl l e).2 = 0 := by omega
    have e2 := f.rest
    rw [h0] at e2
    have hp := f.pos
    have hall : ∀ l' : List Int, pay (lvl l e).1 0 l' = l'.sum := by
      intro l'
      induction l' with
      | nil => rfl
      | cons y t ih => unfold pay; rw [ih]; simp [hp]
    rw [hall l, ← sm_sum] at e2
    have he := h.2
    refine ⟨1, el l, by omega, fun i hi => ?_, ?_⟩
    · unfold eqL eqA
      rw [h0]
      simp [hp]
    · rw [suM_tot]
      show sm l = e * 1
      omega
theorem cm_ls {l : List Int} {e : Int} {F : Nat → Rt} (h : Cm l.length (sm l - e) F) (hd : ∀ i, i < l.length → 1 ≤ (F i).d) : Cm l.length e (lsL l F) := by
  obtain ⟨q, f, hq, hf, hs⟩ := h
  refine ⟨q, fun i => el l i * q - f i, hq, fun i hi => ?_, ?_⟩
  · have h1 := hf i hi
    have h2 := mk_val (el l i * (F i).d - (F i).n) (F i).d
    have h3 := hd i hi
    unfold lsL
    show (mk (el l i * (F i).d - (F i).n) (F i).d).n * q = (el l i * q - f i) * (mk (el l i * (F i).d - (F i).n) (F i).d).d
    generalize (mk (el l i * (F i).d - (F i).n) (F i).d).n = a at *
    generalize (mk (el l i * (F i).d - (F i).n) (F i).d).d = b at *
    generalize (F i).n = n at *
    generalize (F i).d = d at *
    generalize el l i = x at *
    generalize f i = g at *
    have e1 : (a * q) * d = ((x * q - g) * b) * d := by
      have : (a * q) * d = (a * d) * q := by grind
      rw [this, h2]
      have : (x * d - n) * b * q = x * d * b * q - (n * q) * b := by grind
      rw [this, h1]; grind
    have e9 := Int.eq_of_mul_eq_mul_right (show d ≠ 0 by omega) e1
    exact e9
  · rw [suM_sub, hs]
    have e2 : suM (fun i => el l i * q) l.length = q * sm l := by
      rw [suM_congr (g := fun i => q * el l i) (fun i _ => Int.mul_comm _ _), suM_mul, suM_tot]; rfl
    rw [e2]; grind
theorem cm_hv {n : Nat} {e : Int} {F : Nat → Rt} (h : Cm n (2 * e) F) (hd : ∀ i, i < n → 1 ≤ (F i).d) : Cm n e (hvL F) := by
  obtain ⟨q, f, hq, hf, hs⟩ := h
  refine ⟨2 * q, f, by omega, fun i hi => ?_, by rw [hs]; grind⟩
  have h1 := hf i hi
  have h2 := mk_val (F i).n (2 * (F i).d)
  have h3 := hd i hi
  unfold hvL
  generalize (mk (F i).n (2 * (F i).d)).n = a at *
  generalize (mk (F i).n (2 * (F i).d)).d = b at *
  generalize (F i).n = n at *
  generalize (F i).d = d at *
  generalize f i = g at *
  have e1 : (a * (2 * q)) * d = (g * b) * d := by
    have : (a * (2 * q)) * d = (a * (2 * d)) * q := by grind
    rw [this, h2]
    have : n * b * q = (n * q) * b := by grind
    rw [this, h1]; grind
  have e9 := Int.eq_of_mul_eq_mul_right (show d ≠ 0 by omega) e1
  exact e9
/-- Every rule. -/
theorem cm_sh {l : List Int} {e : Int} (h : okE l e) (q : Int) : Cm l.length e (shR l e q) := by
  have he := h.2
  have hed : ∀ e', okE l e' → ∀ i, i < l.length → 1 ≤ (eqL l e' i).d := fun e' hk i hi => (eqL_b hk.1 hk.2 hi).2.1
  have hhd : ∀ e', okE l e' → ∀ i, i < l.length → 1 ≤ (hvL (eqL l e') i).d := fun e' hk i hi => (hvL_b (eqL_b hk.1 hk.2 hi)).2.1
  unfold shR
  split
  · exact cm_eq h
  · split
    · have hk : okE l (sm l - e) := ⟨h.1, by omega, by omega⟩
      exact cm_ls (cm_eq hk) (hed _ hk)
    · split
      · split
        · have hk : okE l (2 * e) := ⟨h.1, by omega, by omega⟩
          exact cm_hv (cm_eq hk) (hed _ hk)
        · have hk : okE l (2 * (sm l - e)) := ⟨h.1, by omega, by omega⟩
          exact cm_ls (cm_hv (cm_eq hk) (hed _ hk)) (hhd _ hk)
      · exact cm_pr h
/-- The awards of every rule are awards, and share the estate. -/
theorem sh_share {l : List Int} {e : Int} (h : okE l e) (q : Int) : okA l e (mkQ (shR l e q) l.length) ∧ shB l e (mkQ (shR l e q) l.length) = true := by
  have hl : (mkQ (shR l e q) l.length).length = l.length := mkQ_len _ _
  have hat : ∀ i, i < l.length → rt (mkQ (shR l e q) l.length) i = shR l e q i := fun i hi => mkQ_at _ _ _ hi
  have hw : ∀ i, i < l.length → okW (shR l e q i) := fun i hi => by
    obtain ⟨⟨a, b⟩, c, d⟩ := gd_sh h q hi
    have hx := h.1.2 i hi
    unfold okC at hx
    have := mul_b (a := el l i) (b := (shR l e q i).d) (A := 1000) (B := 10000) hx (by omega)
    unfold okW
    omega
  have hok : okA l e (mkQ (shR l e q) l.length) := ⟨h, hl, fun i hi => by rw [hl] at hi; rw [hat i hi]; exact hw i hi⟩
  refine ⟨hok, ?_⟩
  unfold shB
  have hbw : bwA l (mkQ (shR l e q) l.length) (mkQ (shR l e q) l.length).length := fun i hi => by
    rw [hl] at hi; rw [hat i hi]; exact (gd_sh h q hi).1
  rw [decide_eq_true hbw]
  obtain ⟨Q, f, hQ, hf, hs⟩ := cm_sh h q
  have : addsB (mkQ (shR l e q) l.length) e.toNat = true := by
    refine adds_of (q := Q) (f := f) (g := fun k => suM f k) hQ (fun i hi => ?_) (fun i hi => ?_) rfl (fun i _ => rfl) ?_
    · rw [hl] at hi
      exact awG_of (h.1.2 i hi) (by rw [hat i hi]; exact hw i hi) (by rw [hat i hi]; exact (gd_sh h q hi).1)
    · rw [hl] at hi; rw [hat i hi]; exact hf i hi
    · rw [hl, hs]
      have := h.2.1
      rw [show ((e.toNat : Nat) : Int) = e by omega]
  rw [this]; rfl
end M
end Go.Proofs.Ythleekdkbgnabaa
end

section
namespace Go.Proofs.Ythleekdkbgnabaa
open Go.RowKit Go.Deep M
set_option linter.unusedVariables false
set_option linter.unusedSimpArgs false
namespace M
theorem lvF_sum {l : List Int} {e : Int} (h : okE l e) : suM (fun i => lvF (lvl l e).1 (lvl l e).2 (el l i)) l.length = e * lvQ (lvl l e).2 := by
  have f := lvl_fix h.1.2 h.2.1
  unfold lvF lvQ
  by_cases h0 : (lvl l e).2 = 0
  · simp only [h0, if_true]
    have e2 := f.rest
    rw [h0] at e2
    have hp := f.pos
    have hall : ∀ l' : List Int, pay (lvl l e).1 0 l' = l'.sum := by
      intro l'
      induction l' with
      | nil => rfl
      | cons y t ih => unfold pay; rw [ih]; simp [hp]
    rw [hall l, ← sm_sum] at e2
    have he := h.2
    show suM (el l) l.length = e * 1
    rw [suM_tot]
    show sm l = e * 1
    omega
  · simp only [h0, if_false]
    rw [pay_cnt _ _ l l.length (Nat.le_refl _), List.take_length, ← f.left]
    have := f.rest
    have e1 : pay (lvl l e).1 (lvl l e).2 l = e - (lvl l e).1 := by omega
    rw [e1]; grind
/-- A greater estate gives nobody less: equal awards. -/
theorem eq_mono {l : List Int} {e e' : Int} (h : okE l e) (h' : okE l e') (hee : e ≤ e') {i : Nat} (hi : i < l.length) : leR (eqL l e i) (eqL l e' i) := by
  have b := lvl_b h.1 h.2
  have b' := lvl_b h'.1 h'.2
  have key : lvF (lvl l e).1 (lvl l e).2 (el l i) * lvQ (lvl l e').2 ≤ lvF (lvl l e').1 (lvl l e').2 (el l i) * lvQ (lvl l e).2 := by
    rcases Int.lt_or_le e e' with hlt | hle
    · rcases lv_total (r := (lvl l e).1) (r' := (lvl l e').1) b.2.1 b'.2.1 with hl | hl
      · exact lv_cmp b.2.1 b'.2.1 (h.1.2 i hi).1 hl
      · exfalso
        have hs : suM (fun i => lvQ (lvl l e).2 * lvF (lvl l e').1 (lvl l e').2 (el l i)) l.length ≤ suM (fun i => lvQ (lvl l e').2 * lvF (lvl l e).1 (lvl l e).2 (el l i)) l.length :=
          suM_le fun j hj => by
            have := lv_cmp b'.2.1 b.2.1 (h.1.2 j hj).1 hl
            rw [Int.mul_comm, Int.mul_comm (lvQ (lvl l e').2)]
            exact this
        rw [suM_mul, suM_mul, lvF_sum h, lvF_sum h'] at hs
        have q := lvQ_pos b.2.1
        have q' := lvQ_pos b'.2.1
        have h1 : e' * (lvQ (lvl l e).2 * lvQ (lvl l e').2) ≤ e * (lvQ (lvl l e).2 * lvQ (lvl l e').2) := by
          have e1 : lvQ (lvl l e).2 * (e' * lvQ (lvl l e').2) = e' * (lvQ (lvl l e).2 * lvQ (lvl l e').2) := by grind
          have e2 : lvQ (lvl l e').2 * (e * lvQ (lvl l e).2) = e * (lvQ (lvl l e).2 * lvQ (lvl l e').2) := by grind
          omega
        have h2 : 0 < lvQ (lvl l e).2 * lvQ (lvl l e').2 := Int.mul_pos (by omega) (by omega)
        have := Int.le_of_mul_le_mul_right h1 h2
        omega
    · have : e = e' := by omega
      subst this
      exact Int.le_refl _
  have v := lvF_val h hi
  have v' := lvF_val h' hi
  have q := lvQ_pos b.2.1
  have q' := lvQ_pos b'.2.1
  have d := (eqL_b h.1 h.2 hi).2.1
  have d' := (eqL_b h'.1 h'.2 hi).2.1
  unfold leR
  generalize lvF (lvl l e).1 (lvl l e).2 (el l i) = F at *
  generalize lvF (lvl l e').1 (lvl l e').2 (el l i) = F' at *
  generalize lvQ (lvl l e).2 = Q at *
  generalize lvQ (lvl l e').2 = Q' at *
  generalize (eqL l e i).n = n at *
  generalize (eqL l e i).d = dd at *
  generalize (eqL l e' i).n = n' at *
  generalize (eqL l e' i).d = dd' at *
  have h1 : (n * dd') * (Q * Q') ≤ (n' * dd) * (Q * Q') := by
    have e1 : (n * dd') * (Q * Q') = (F * Q') * (dd * dd') := by
      have : (n * dd') * (Q * Q') = (n * Q) * dd' * Q' := by grind
      rw [this, v]; grind
    have e2 : (n' * dd) * (Q * Q') = (F' * Q) * (dd * dd') := by
      have : (n' * dd) * (Q * Q') = (n' * Q') * dd * Q := by grind
      rw [this, v']; grind
    rw [e1, e2]
    exact Int.mul_le_mul_of_nonneg_right key (Int.mul_nonneg (by omega) (by omega))
  exact Int.le_of_mul_le_mul_right h1 (Int.mul_pos (by omega) (by omega))
end M
end Go.Proofs.Ythleekdkbgnabaa
end

section
namespace Go.Proofs.Ythleekdkbgnabaa
open Go.RowKit Go.Deep M
set_option linter.unusedVariables false
set_option linter.unusedSimpArgs false
namespace M
/-- Awards over a common denominator, which grow with the claims, by no more than these. -/
def Ml (l : List Int) (g : Nat → Rt) : Prop := ∃ (Q : Int) (F : Nat → Int), 1 ≤ Q ∧ (∀ i, i < l.length → (g i).n * Q = F i * (g i).d ∧ 1 ≤ (g i).d) ∧ ∀ i j, i < l.length → j < l.length → el l i ≤ el l j → F i ≤ F j ∧ F j ≤ F i + (el l j - el l i) * Q
theorem ml_eq {l : List Int} {e : Int} (h : okE l e) : Ml l (eqL l e) := by
  have b := lvl_b h.1 h.2
  exact ⟨lvQ (lvl l e).2, fun i => lvF (lvl l e).1 (lvl l e).2 (el l i), lvQ_pos b.2.1, fun i hi => ⟨lvF_val h hi, (eqL_b h.1 h.2 hi).2.1⟩, fun i j hi hj hx => lvF_mono b.2.1 hx⟩
theorem ml_hv {l : List Int} {g : Nat → Rt} (h : Ml l g) : Ml l (hvL g) := by
  obtain ⟨Q, F, hQ, hv, hm⟩ := h
  refine ⟨2 * Q, F, by omega, fun i hi => ?_, fun i j hi hj hx => ?_⟩
  · obtain ⟨h1, h2⟩ := hv i hi
    have h3 : 1 ≤ 2 * (g i).d := by omega
    refine ⟨?_, mk_pos h3⟩
    have h4 := mk_val (g i).n (2 * (g i).d)
    unfold hvL
    have h5 : ((mk (g i).n (2 * (g i).d)).n * (2 * Q)) * (g i).d = (F i * (mk (g i).n (2 * (g i).d)).d) * (g i).d := by grind
    exact Int.eq_of_mul_eq_mul_right (by omega) h5
  · obtain ⟨h1, h2⟩ := hm i j hi hj hx
    have h3 : 0 ≤ (el l j - el l i) * Q := Int.mul_nonneg (by omega) (by omega)
    have h4 : (el l j - el l i) * (2 * Q) = (el l j - el l i) * Q + (el l j - el l i) * Q := by grind
    exact ⟨h1, by omega⟩
theorem ml_ls {l : List Int} {g : Nat → Rt} (h : Ml l g) : Ml l (lsL l g) := by
  obtain ⟨Q, F, hQ, hv, hm⟩ := h
  refine ⟨Q, fun i => el l i * Q - F i, hQ, fun i hi => ?_, fun i j hi hj hx => ?_⟩
  · obtain ⟨h1, h2⟩ := hv i hi
    refine ⟨?_, mk_pos h2⟩
    have h4 := mk_val (el l i * (g i).d - (g i).n) (g i).d
    unfold lsL
    have h5 : ((mk (el l i * (g i).d - (g i).n) (g i).d).n * Q) * (g i).d = ((el l i * Q - F i) * (mk (el l i * (g i).d - (g i).n) (g i).d).d) * (g i).d := by grind
    exact Int.eq_of_mul_eq_mul_right (by omega) h5
  · obtain ⟨h1, h2⟩ := hm i j hi hj hx
    have h4 : (el l j - el l i) * Q = el l j * Q - el l i * Q := by grind
    constructor <;> simp only <;> omega
theorem ml_pr {l : List Int} {e : Int} (h : okE l e) : Ml l (prL l e) := by
  refine ⟨max (sm l) 1, fun i => el l i * e, by omega, fun i hi => ?_, fun i j hi hj hx => ?_⟩
  · have h1 : 1 ≤ max (sm l) 1 := by omega
    exact ⟨mk_val _ _, mk_pos h1⟩
  · have he := h.2
    have h4 : (el l j - el l i) * e = el l j * e - el l i * e := by grind
    have h5 : 0 ≤ (el l j - el l i) * e := Int.mul_nonneg (by omega) he.1
    have h6 : (el l j - el l i) * e ≤ (el l j - el l i) * max (sm l) 1 := Int.mul_le_mul_of_nonneg_left (by omega) (by omega)
    constructor <;> simp only <;> omega
theorem ml_sh {l : List Int} {e : Int} (h : okE l e) (q : Int) : Ml l (shR l e q) := by
  have he := h.2
  unfold shR
  split
  · exact ml_eq h
  · split
    · exact ml_ls (ml_eq (okE_mis h))
    · split
      · split
        · rename_i h2; exact ml_hv (ml_eq (okE_two h h2))
        · rename_i h2; exact ml_ls (ml_hv (ml_eq (okE_two (okE_mis h) (by omega))))
      · exact ml_pr h
/-- Who claims no less gets no less, and loses no less. -/
theorem sh_order {l : List Int} {e : Int} (h : okE l e) (q : Int) {i j : Nat} (hi : i < l.length) (hj : j < l.length) (hx : el l i ≤ el l j) :
    leR (shR l e q i) (shR l e q j) ∧ (el l i * (shR l e q i).d - (shR l e q i).n) * (shR l e q j).d ≤ (el l j * (shR l e q j).d - (shR l e q j).n) * (shR l e q i).d := by
  obtain ⟨Q, F, hQ, hv, hm⟩ := ml_sh h q
  obtain ⟨a1, a2⟩ := hv i hi
  obtain ⟨b1, b2⟩ := hv j hj
  obtain ⟨m1, m2⟩ := hm i j hi hj hx
  generalize shR l e q i = a at *
  generalize shR l e q j = b at *
  have hp : 0 < a.d * b.d := Int.mul_pos (by omega) (by omega)
  have n1 : F i * (a.d * b.d) ≤ F j * (a.d * b.d) := Int.mul_le_mul_of_nonneg_right m1 (by omega)
  have n2 : F j * (a.d * b.d) ≤ (F i + (el l j - el l i) * Q) * (a.d * b.d) := Int.mul_le_mul_of_nonneg_right m2 (by omega)
  constructor
  · unfold leR
    have : (a.n * b.d) * Q ≤ (b.n * a.d) * Q := by
      have e1 : (a.n * b.d) * Q = F i * (a.d * b.d) := by grind
      have e2 : (b.n * a.d) * Q = F j * (a.d * b.d) := by grind
      omega
    exact Int.le_of_mul_le_mul_right this (by omega)
  · have : ((el l i * a.d - a.n) * b.d) * Q ≤ ((el l j * b.d - b.n) * a.d) * Q := by
      have e1 : ((el l i * a.d - a.n) * b.d) * Q = el l i * Q * (a.d * b.d) - F i * (a.d * b.d) := by grind
      have e2 : ((el l j * b.d - b.n) * a.d) * Q = el l j * Q * (a.d * b.d) - F j * (a.d * b.d) := by grind
      have e3 : (F i + (el l j - el l i) * Q) * (a.d * b.d) = F i * (a.d * b.d) + el l j * Q * (a.d * b.d) - el l i * Q * (a.d * b.d) := by grind
      omega
    exact Int.le_of_mul_le_mul_right this (by omega)
/-- Equal claims get equal awards. -/
theorem sh_same {l : List Int} {e : Int} (q : Int) {i j : Nat} (hx : el l i = el l j) : shR l e q i = shR l e q j := by
  unfold shR
  split
  · simp only [eqL, hx]
  · split
    · simp only [lsL, eqL, hx]
    · split
      · split
        · simp only [hvL, eqL, hx]
        · simp only [lsL, hvL, eqL, hx]
      · simp only [prL, hx]
/-! ### a greater estate -/
theorem le_ls {x : Int} {a b : Rt} (ha : 1 ≤ a.d) (hb : 1 ≤ b.d) (h : leR b a) : leR (mk (x * a.d - a.n) a.d) (mk (x * b.d - b.n) b.d) := by
  unfold leR at *
  have a1 := mk_val (x * a.d - a.n) a.d
  have b1 := mk_val (x * b.d - b.n) b.d
  have a2 := mk_pos (n := x * a.d - a.n) ha
  have b2 := mk_pos (n := x * b.d - b.n) hb
  generalize mk (x * a.d - a.n) a.d = p at *
  generalize mk (x * b.d - b.n) b.d = s at *
  have hp : 0 < p.d * s.d := Int.mul_pos (by omega) (by omega)
  have : (p.n * s.d) * (a.d * b.d) ≤ (s.n * p.d) * (a.d * b.d) := by
    have e1 : (p.n * s.d) * (a.d * b.d) = (x * a.d - a.n) * b.d * (p.d * s.d) := by grind
    have e2 : (s.n * p.d) * (a.d * b.d) = (x * b.d - b.n) * a.d * (p.d * s.d) := by grind
    rw [e1, e2]
    have : (x * a.d - a.n) * b.d ≤ (x * b.d - b.n) * a.d := by
      have e3 : (x * a.d - a.n) * b.d = x * a.d * b.d - a.n * b.d := by grind
      have e4 : (x * b.d - b.n) * a.d = x * a.d * b.d - b.n * a.d := by grind
      omega
    exact Int.mul_le_mul_of_nonneg_right this (by omega)
  exact Int.le_of_mul_le_mul_right this (Int.mul_pos (by omega) (by omega))
theorem le_hv {a b : Rt} (ha : 1 ≤ a.d) (hb : 1 ≤ b.d) (h : leR a b) : leR (mk a.n (2 * a.d)) (mk b.n (2 * b.d)) := by
  unfold leR at *
  have a1 := mk_val a.n (2 * a.d)
  have b1 := mk_val b.n (2 * b.d)
  have a2 := mk_pos (n := a.n) (show 1 ≤ 2 * a.d by omega)
  have b2 := mk_pos (n := b.n) (show 1 ≤ 2 * b.d by omega)
  generalize mk a.n (2 * a.d) = p at *
  generalize mk b.n (2 * b.d) = s at *
  have hp : 0 < p.d * s.d := Int.mul_pos (by omega) (by omega)
  have : (p.n * s.d) * (2 * a.d * b.d) ≤ (s.n * p.d) * (2 * a.d * b.d) := by
    have e1 : (p.n * s.d) * (2 * a.d * b.d) = a.n * b.d * (p.d * s.d) := by grind
    have e2 : (s.n * p.d) * (2 * a.d * b.d) = b.n * a.d * (p.d * s.d) := by grind
    rw [e1, e2]
    exact Int.mul_le_mul_of_nonneg_right h (by omega)
  exact Int.le_of_mul_le_mul_right this (Int.mul_pos (by omega) (by omega))
/-- At most half a claim, and at least half. -/
theorem le_half {x : Int} {a b : Rt} (ha : 1 ≤ a.d) (hb : 1 ≤ b.d) (h1 : a.n ≤ x * a.d) (h2 : b.n ≤ x * b.d) : leR (mk a.n (2 * a.d)) (mk (x * (mk b.n (2 * b.d)).d - (mk b.n (2 * b.d)).n) (mk b.n (2 * b.d)).d) := by
  unfold leR
  have a1 := mk_val a.n (2 * a.d)
  have a2 := mk_pos (n := a.n) (show 1 ≤ 2 * a.d by omega)
  have b1 := mk_val b.n (2 * b.d)
  have b2 := mk_pos (n := b.n) (show 1 ≤ 2 * b.d by omega)
  generalize mk a.n (2 * a.d) = p at *
  generalize mk b.n (2 * b.d) = s at *
  have c1 := mk_val (x * s.d - s.n) s.d
  have c2 := mk_pos (n := x * s.d - s.n) b2
  generalize mk (x * s.d - s.n) s.d = t at *
  -- 2 p.n <= x p.d ; 2 s.n <= x s.d ; t.n s.d = (x s.d - s.n) t.d
  have k1 : 2 * p.n ≤ x * p.d := by
    have : (2 * p.n) * a.d ≤ (x * p.d) * a.d := by
      have e1 : (2 * p.n) * a.d = a.n * p.d := by grind
      have e2 : (x * p.d) * a.d = (x * a.d) * p.d := by grind
      rw [e1, e2]
      exact Int.mul_le_mul_of_nonneg_right h1 (by omega)
    exact Int.le_of_mul_le_mul_right this (by omega)
  have k2 : 2 * s.n ≤ x * s.d := by
    have : (2 * s.n) * b.d ≤ (x * s.d) * b.d := by
      have e1 : (2 * s.n) * b.d = b.n * s.d := by grind
      have e2 : (x * s.d) * b.d = (x * b.d) * s.d := by grind
      rw [e1, e2]
      exact Int.mul_le_mul_of_nonneg_right h2 (by omega)
    exact Int.le_of_mul_le_mul_right this (by omega)
  have k3 : x * t.d ≤ 2 * t.n := by
    have : (x * t.d) * s.d ≤ (2 * t.n) * s.d := by
      have e1 : (2 * t.n) * s.d = (2 * (x * s.d) - 2 * s.n) * t.d := by grind
      have e2 : (x * t.d) * s.d = (x * s.d) * t.d := by grind
      rw [e1, e2]
      exact Int.mul_le_mul_of_nonneg_right (by omega) (by omega)
    exact Int.le_of_mul_le_mul_right this (by omega)
  have k4 : (2 * p.n) * t.d ≤ (x * p.d) * t.d := Int.mul_le_mul_of_nonneg_right k1 (by omega)
  have k5 : (x * t.d) * p.d ≤ (2 * t.n) * p.d := Int.mul_le_mul_of_nonneg_right k3 (by omega)
  have e1 : (2 * p.n) * t.d = 2 * (p.n * t.d) := by grind
  have e2 : (x * p.d) * t.d = (x * t.d) * p.d := by grind
  have e3 : (2 * t.n) * p.d = 2 * (t.n * p.d) := by grind
  omega
theorem sh_mono {l : List Int} {e e' : Int} (h : okE l e) (h' : okE l e') (hee : e ≤ e') (q : Int) {i : Nat} (hi : i < l.length) : leR (shR l e q i) (shR l e' q i) := by
  have he := h.2
  have he' := h'.2
  have hd : ∀ f, okE l f → 1 ≤ (eqL l f i).d := fun f hf => (eqL_b hf.1 hf.2 hi).2.1
  have hd2 : ∀ f, okE l f → 1 ≤ (hvL (eqL l f) i).d := fun f hf => (hvL_b (eqL_b hf.1 hf.2 hi)).2.1
  unfold shR
  split
  · exact eq_mono h h' hee hi
  · split
    · exact le_ls (hd _ (okE_mis h)) (hd _ (okE_mis h')) (eq_mono (okE_mis h') (okE_mis h) (by omega) hi)
    · split
      · by_cases c1 : 2 * e ≤ sm l
        · rw [if_pos c1]
          by_cases c2 : 2 * e' ≤ sm l
          · rw [if_pos c2]
            exact le_hv (hd _ (okE_two h c1)) (hd _ (okE_two h' c2)) (eq_mono (okE_two h c1) (okE_two h' c2) (by omega) hi)
          · rw [if_neg c2]
            have o2 := okE_two (okE_mis h') (by omega)
            exact le_half (hd _ (okE_two h c1)) (hd _ o2) (gd_eq (okE_two h c1) hi).1.2 (gd_eq o2 hi).1.2
        · rw [if_neg c1, if_neg (by omega)]
          have o1 := okE_two (okE_mis h) (by omega)
          have o2 := okE_two (okE_mis h') (by omega)
          exact le_ls (hd2 _ o1) (hd2 _ o2) (le_hv (hd _ o2) (hd _ o1) (eq_mono o2 o1 (by omega) hi))
      · unfold leR prL
        have a1 := mk_val (el l i * e) (max (sm l) 1)
        have b1 := mk_val (el l i * e') (max (sm l) 1)
        have a2 := mk_pos (n := el l i * e) (show 1 ≤ max (sm l) 1 by omega)
        have b2 := mk_pos (n := el l i * e') (show 1 ≤ max (sm l) 1 by omega)
        have hx := h.1.2 i hi
        unfold okC at hx
        generalize mk (el l i * e) (max (sm l) 1) = a at *
        generalize mk (el l i * e') (max (sm l) 1) = b at *
        have hQ : 1 ≤ max (sm l) 1 := by omega
        generalize max (sm l) 1 = Q at *
        have hp : 0 < a.d * b.d := Int.mul_pos (by omega) (by omega)
        have : (a.n * b.d) * Q ≤ (b.n * a.d) * Q := by
          have e1 : (a.n * b.d) * Q = el l i * e * (a.d * b.d) := by grind
          have e2 : (b.n * a.d) * Q = el l i * e' * (a.d * b.d) := by grind
          rw [e1, e2]
          exact Int.mul_le_mul_of_nonneg_right (Int.mul_le_mul_of_nonneg_left hee hx.1) (by omega)
        exact Int.le_of_mul_le_mul_right this (by omega)
end M
end Go.Proofs.Ythleekdkbgnabaa
end

section
namespace Go.Proofs.Ythleekdkbgnabaa
open Go.RowKit Go.Deep M
set_option linter.unusedVariables false
set_option linter.unusedSimpArgs false
theorem fit_cross {a b : Rt} (ha : (-100000000 ≤ a.n ∧ a.n ≤ 100000000) ∧ 1 ≤ a.d ∧ a.d ≤ 100000000) (hb : (-100000000 ≤ b.n ∧ b.n ≤ 100000000) ∧ 1 ≤ b.d ∧ b.d ≤ 100000000) : fitP (a.n * b.d) ∧ fitP (b.n * a.d) := by
  have p1 := prod_b (a := a.n) (b := b.d) (x := 100000000) (y := 100000000) (by omega) (by omega) (by omega)
  have p2 := prod_b (a := b.n) (b := a.d) (x := 100000000) (y := 100000000) (by omega) (by omega) (by omega)
  unfold fitP
  omega
set_option maxRecDepth 100000 in
set_option maxHeartbeats 1000000 in
theorem most_true (a b : Rt) (w : World) (h1 : fitP (a.n * b.d)) (h2 : fitP (b.n * a.d)) (hle : leR a b) : Calls Try.prog 50 #[rtV a, rtV b] w fun e w' => e = .returned (.bool true) ∧ Below w.heap.size w w' := by
  have hT := Two.new w a b
  unfold leR at hle
  unfold rtV
  obtain ⟨an, ad⟩ := a
  obtain ⟨bn, bd⟩ := b
  simp only at *
  obtain ⟨p, hp⟩ : ∃ p, p = an * bd := ⟨_, rfl⟩
  obtain ⟨q, hq⟩ : ∃ q, q = bn * ad := ⟨_, rfl⟩
  rw [← hp, ← hq] at hle
  rw [← hp] at h1
  rw [← hq] at h2
  unfold fitP at h1 h2
  have w1 : IntKind.i64.wrap (an * bd) = p := by rw [← hp]; exact IntWalk.i64_in _ (by omega)
  have w2 : IntKind.i64.wrap (bn * ad) = q := by rw [← hq]; exact IntWalk.i64_in _ (by omega)
  obtain ⟨Y, hY⟩ : ∃ Y, Y = (w.alloc (.cells #[.int .i64 an, .int .i64 ad] 37)).alloc (.cells #[.int .i64 bn, .int .i64 bd] 37) := ⟨_, rfl⟩
  rw [← hY] at hT
  have c0 := hT.a.c0
  have c1 := hT.a.c1
  have c2 := hT.b.c0
  have c3 := hT.b.c1
  simp only at c0 c1 c2 c3
  have hend := Lib.hid hT.below
  have hYY := Lib.hid hY
  rw [hY] at c0 c1 c2 c3
  replace hT := Lib.hid hT
  replace hp := Lib.hid hp
  replace hq := Lib.hid hq
  replace hY := Lib.hid hY
  go_enter Try.func50, Try.ntmps50
  go_wp2
  go_ret
  exact ⟨rfl, by rw [← hYY.out]; exact hend.out⟩
end Go.Proofs.Ythleekdkbgnabaa

namespace Go.Proofs.Ythleekdkbgnabaa
open Go.Joins Go.ChangeShapes Go.WideShapes Go.ChangeAt Go.RowKit Go.Deep M
theorem cells55 : Try.prog.cellsOf 55 = 2 := by kernel_rfl
section
variable {H : Type} {enc : TypeId × Value → H} {W : World} {v : Value}
set_option maxRecDepth 100000 in
/-- TWO NUMBERS THAT CAME IN. -/
theorem arr2_in {d : DataW H} {p : List MemPlace} {b0 : Nat} (hv : Value.okWide Try.prog W .any b0 55 v) (h : DataW.Trod enc Try.prog W 0 (fun _ => true) true 55 v d p) :
    ∃ a0 a1 : Int, v = .agg #[.int .i64 a0, .int .i64 a1] ∧ (-9223372036854775808 ≤ a0 ∧ a0 ≤ 9223372036854775807) ∧ (-9223372036854775808 ≤ a1 ∧ a1 ≤ 9223372036854775807) := by
  obtain ⟨cs, rfl, hsz⟩ := okWide_arr4 Try.underlying55 hv
  obtain ⟨l, rfl⟩ : ∃ l : List Value, cs = l.toArray := ⟨cs.toList, by simp⟩
  have hl : l.length = 2 := by simpa using hsz.trans cells55
  obtain ⟨c0, c1, rfl⟩ : ∃ c0 c1, l = [c0, c1] := by
    match l, hl with
    | [c0, c1], _ => exact ⟨c0, c1, rfl⟩
  obtain ⟨fuel, hf⟩ := h
  obtain ⟨y0, y1, n, h0, h1⟩ := trod_arr2 Try.underlying55 cells3 hf
  obtain ⟨z0, e0, _, w0⟩ := DataW.trod_int Try.underlying3 h0
  obtain ⟨z1, e1, _, w1⟩ := DataW.trod_int Try.underlying3 h1
  obtain rfl : c0 = .int .i64 z0 := by simpa using e0
  obtain rfl : c1 = .int .i64 z1 := by simpa using e1
  exact ⟨z0, z1, rfl, i64_range w0, i64_range w1⟩
end
end Go.Proofs.Ythleekdkbgnabaa
end
