/-
  The awards of every rule share the estate. Mathematics alone.
-/
import Derived.Test.YthleekdkbgnabaaMathJ
namespace Go.Proofs.Ythleekdkbgnabaa
open Go.RowKit Go.Deep M
set_option linter.unusedVariables false
set_option linter.unusedSimpArgs false
namespace M
/-- Ratios over one denominator, with their sum. -/
def Cm (n : Nat) (e : Int) (F : Nat → Rt) : Prop := ∃ (q : Int) (f : Nat → Int), 1 ≤ q ∧ (∀ i, i < n → (F i).n * q = f i * (F i).d) ∧ suM f n = e * q
theorem suM_sub (f g : Nat → Int) : ∀ n, suM (fun i => f i - g i) n = suM f n - suM g n := by
  intro n
  induction n with
  | zero => rfl
  | succ n ih => rw [suM, suM, suM, ih]; omega
theorem cm_pr {l : List Int} {e : Int} (h : okE l e) : Cm l.length e (prL l e) := by
  refine ⟨max (sm l) 1, fun i => e * el l i, by omega, fun i hi => ?_, ?_⟩
  · unfold prL
    have := mk_val (el l i * e) (max (sm l) 1)
    show (mk (el l i * e) (max (sm l) 1)).n * max (sm l) 1 = e * el l i * (mk (el l i * e) (max (sm l) 1)).d
    rw [this, Int.mul_comm e]
  · rw [suM_mul, suM_tot]
    show e * sm l = e * max (sm l) 1
    have := h.2
    have s := sm_b h.1
    rcases Int.lt_or_le 0 (sm l) with hp | hp
    · rw [show max (sm l) 1 = sm l by omega]
    · have : e = 0 := by omega
      rw [this]; simp
theorem pay_cnt (r k : Int) (l : List Int) : ∀ m, m ≤ l.length → suM (fun i => if el l i * k ≤ r then el l i * k else r) m = pay r k (l.take m) * k + cnt r k (l.take m) * r := by
  intro m
  induction m with
  | zero => intro _; simp [suM, pay, cnt]
  | succ m ih =>
    intro hm
    rw [suM, ih (by omega)]
    have e : l.take (m + 1) = l.take m ++ [el l m] := by rw [el_eq l m (by omega), List.take_append_getElem]
    rw [e, pay_app, cnt_app]
    split
    · grind
    · grind
theorem cm_eq {l : List Int} {e : Int} (h : okE l e) : Cm l.length e (eqL l e) := by
  have f := lvl_fix h.1.2 h.2.1
  have b := lvl_b h.1 h.2
  rcases Int.lt_or_le 0 (lvl l e).2 with hk | hk
  · refine ⟨(lvl l e).2, fun i => if el l i * (lvl l e).2 ≤ (lvl l e).1 then el l i * (lvl l e).2 else (lvl l e).1, by omega, fun i hi => ?_, ?_⟩
    · unfold eqL eqA
      simp only
      split
      · simp
      · exact mk_val _ _
    · rw [pay_cnt _ _ l l.length (Nat.le_refl _), List.take_length, ← f.left]
      have := f.rest
      have e1 : pay (lvl l e).1 (lvl l e).2 l = e - (lvl l e).1 := by omega
      rw [e1]; grind
  · have h0 : (lvl l e).2 = 0 := by omega
    have e2 := f.rest
    rw [h0] at e2
    have hp := f.pos
    have hall : ∀ l' : List Int, pay (lvl l e).1 0 l' = l'.sum := by
      intro l'
      induction l' with
      | nil => rfl
      | cons y t ih => unfold pay; rw [ih]; simp [hp]
    rw [hall l, ← sm_sum] at e2
    have he := h.2
    refine ⟨1, el l, by omega, fun i hi => ?_, ?_⟩
    · unfold eqL eqA
      rw [h0]
      simp [hp]
    · rw [suM_tot]
      show sm l = e * 1
      omega
theorem cm_ls {l : List Int} {e : Int} {F : Nat → Rt} (h : Cm l.length (sm l - e) F) (hd : ∀ i, i < l.length → 1 ≤ (F i).d) : Cm l.length e (lsL l F) := by
  obtain ⟨q, f, hq, hf, hs⟩ := h
  refine ⟨q, fun i => el l i * q - f i, hq, fun i hi => ?_, ?_⟩
  · have h1 := hf i hi
    have h2 := mk_val (el l i * (F i).d - (F i).n) (F i).d
    have h3 := hd i hi
    unfold lsL
    show (mk (el l i * (F i).d - (F i).n) (F i).d).n * q = (el l i * q - f i) * (mk (el l i * (F i).d - (F i).n) (F i).d).d
    generalize (mk (el l i * (F i).d - (F i).n) (F i).d).n = a at *
    generalize (mk (el l i * (F i).d - (F i).n) (F i).d).d = b at *
    generalize (F i).n = n at *
    generalize (F i).d = d at *
    generalize el l i = x at *
    generalize f i = g at *
    have e1 : (a * q) * d = ((x * q - g) * b) * d := by
      have : (a * q) * d = (a * d) * q := by grind
      rw [this, h2]
      have : (x * d - n) * b * q = x * d * b * q - (n * q) * b := by grind
      rw [this, h1]; grind
    have e9 := Int.eq_of_mul_eq_mul_right (show d ≠ 0 by omega) e1
    exact e9
  · rw [suM_sub, hs]
    have e2 : suM (fun i => el l i * q) l.length = q * sm l := by
      rw [suM_congr (g := fun i => q * el l i) (fun i _ => Int.mul_comm _ _), suM_mul, suM_tot]; rfl
    rw [e2]; grind
theorem cm_hv {n : Nat} {e : Int} {F : Nat → Rt} (h : Cm n (2 * e) F) (hd : ∀ i, i < n → 1 ≤ (F i).d) : Cm n e (hvL F) := by
  obtain ⟨q, f, hq, hf, hs⟩ := h
  refine ⟨2 * q, f, by omega, fun i hi => ?_, by rw [hs]; grind⟩
  have h1 := hf i hi
  have h2 := mk_val (F i).n (2 * (F i).d)
  have h3 := hd i hi
  unfold hvL
  generalize (mk (F i).n (2 * (F i).d)).n = a at *
  generalize (mk (F i).n (2 * (F i).d)).d = b at *
  generalize (F i).n = n at *
  generalize (F i).d = d at *
  generalize f i = g at *
  have e1 : (a * (2 * q)) * d = (g * b) * d := by
    have : (a * (2 * q)) * d = (a * (2 * d)) * q := by grind
    rw [this, h2]
    have : n * b * q = (n * q) * b := by grind
    rw [this, h1]; grind
  have e9 := Int.eq_of_mul_eq_mul_right (show d ≠ 0 by omega) e1
  exact e9
/-- Every rule. -/
theorem cm_sh {l : List Int} {e : Int} (h : okE l e) (q : Int) : Cm l.length e (shR l e q) := by
  have he := h.2
  have hed : ∀ e', okE l e' → ∀ i, i < l.length → 1 ≤ (eqL l e' i).d := fun e' hk i hi => (eqL_b hk.1 hk.2 hi).2.1
  have hhd : ∀ e', okE l e' → ∀ i, i < l.length → 1 ≤ (hvL (eqL l e') i).d := fun e' hk i hi => (hvL_b (eqL_b hk.1 hk.2 hi)).2.1
  unfold shR
  split
  · exact cm_eq h
  · split
    · have hk : okE l (sm l - e) := ⟨h.1, by omega, by omega⟩
      exact cm_ls (cm_eq hk) (hed _ hk)
    · split
      · split
        · have hk : okE l (2 * e) := ⟨h.1, by omega, by omega⟩
          exact cm_hv (cm_eq hk) (hed _ hk)
        · have hk : okE l (2 * (sm l - e)) := ⟨h.1, by omega, by omega⟩
          exact cm_ls (cm_hv (cm_eq hk) (hed _ hk)) (hhd _ hk)
      · exact cm_pr h
/-- The awards of every rule are awards, and share the estate. -/
theorem sh_share {l : List Int} {e : Int} (h : okE l e) (q : Int) : okA l e (mkQ (shR l e q) l.length) ∧ shB l e (mkQ (shR l e q) l.length) = true := by
  have hl : (mkQ (shR l e q) l.length).length = l.length := mkQ_len _ _
  have hat : ∀ i, i < l.length → rt (mkQ (shR l e q) l.length) i = shR l e q i := fun i hi => mkQ_at _ _ _ hi
  have hw : ∀ i, i < l.length → okW (shR l e q i) := fun i hi => by
    obtain ⟨⟨a, b⟩, c, d⟩ := gd_sh h q hi
    have hx := h.1.2 i hi
    unfold okC at hx
    have := mul_b (a := el l i) (b := (shR l e q i).d) (A := 1000) (B := 10000) hx (by omega)
    unfold okW
    omega
  have hok : okA l e (mkQ (shR l e q) l.length) := ⟨h, hl, fun i hi => by rw [hl] at hi; rw [hat i hi]; exact hw i hi⟩
  refine ⟨hok, ?_⟩
  unfold shB
  have hbw : bwA l (mkQ (shR l e q) l.length) (mkQ (shR l e q) l.length).length := fun i hi => by
    rw [hl] at hi; rw [hat i hi]; exact (gd_sh h q hi).1
  rw [decide_eq_true hbw]
  obtain ⟨Q, f, hQ, hf, hs⟩ := cm_sh h q
  have : addsB (mkQ (shR l e q) l.length) e.toNat = true := by
    refine adds_of (q := Q) (f := f) (g := fun k => suM f k) hQ (fun i hi => ?_) (fun i hi => ?_) rfl (fun i _ => rfl) ?_
    · rw [hl] at hi
      exact awG_of (h.1.2 i hi) (by rw [hat i hi]; exact hw i hi) (by rw [hat i hi]; exact (gd_sh h q hi).1)
    · rw [hl] at hi; rw [hat i hi]; exact hf i hi
    · rw [hl, hs]
      have := h.2.1
      rw [show ((e.toNat : Nat) : Int) = e by omega]
  rw [this]; rfl
end M
end Go.Proofs.Ythleekdkbgnabaa
