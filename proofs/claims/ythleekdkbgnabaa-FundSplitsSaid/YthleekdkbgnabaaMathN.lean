/-
  A greater claim never gets less; what becomes of a claim that is split. Mathematics alone.
-/
import Derived.Test.YthleekdkbgnabaaMathM
namespace Go.Proofs.Ythleekdkbgnabaa
open Go.RowKit Go.Deep M
set_option linter.unusedVariables false
set_option linter.unusedSimpArgs false
namespace M
/-- A ratio is x over q. -/
def Vl (a : Rt) (x q : Int) : Prop := 1 ≤ q ∧ 1 ≤ a.d ∧ a.n * q = x * a.d
theorem vl_le {a b : Rt} {x q y q' : Int} (ha : Vl a x q) (hb : Vl b y q') (h : x * q' ≤ y * q) : leR a b := by
  obtain ⟨q1, d1, v1⟩ := ha
  obtain ⟨q2, d2, v2⟩ := hb
  unfold leR
  generalize a.n = n at *
  generalize a.d = d at *
  generalize b.n = n' at *
  generalize b.d = d' at *
  have h1 : (n * d') * (q * q') ≤ (n' * d) * (q * q') := by
    have e1 : (n * d') * (q * q') = (x * q') * (d * d') := by
      have : (n * d') * (q * q') = (n * q) * d' * q' := by grind
      rw [this, v1]; grind
    have e2 : (n' * d) * (q * q') = (y * q) * (d * d') := by
      have : (n' * d) * (q * q') = (n' * q') * d * q := by grind
      rw [this, v2]; grind
    rw [e1, e2]
    exact Int.mul_le_mul_of_nonneg_right h (Int.mul_nonneg (by omega) (by omega))
  exact Int.le_of_mul_le_mul_right h1 (Int.mul_pos (by omega) (by omega))
theorem vl_mk {n d : Int} (hd : 1 ≤ d) : Vl (mk n d) n d := ⟨hd, mk_pos hd, mk_val n d⟩
theorem vl_eq {l : List Int} {e : Int} (h : okE l e) {i : Nat} (hi : i < l.length) : Vl (eqL l e i) (lvF (lvl l e).1 (lvl l e).2 (el l i)) (lvQ (lvl l e).2) :=
  ⟨lvQ_pos (lvl_b h.1 h.2).2.1, (eqL_b h.1 h.2 hi).2.1, lvF_val h hi⟩
theorem vl_ls {l : List Int} {F : Nat → Rt} {i : Nat} {x q : Int} (h : Vl (F i) x q) : Vl (lsL l F i) (el l i * q - x) q := by
  obtain ⟨q1, d1, v1⟩ := h
  have h2 := mk_val (el l i * (F i).d - (F i).n) (F i).d
  have h4 := mk_pos (n := el l i * (F i).d - (F i).n) d1
  refine ⟨q1, h4, ?_⟩
  unfold lsL
  generalize (mk (el l i * (F i).d - (F i).n) (F i).d).n = a at *
  generalize (mk (el l i * (F i).d - (F i).n) (F i).d).d = b at *
  generalize (F i).n = n at *
  generalize (F i).d = d at *
  generalize el l i = z at *
  have e1 : (a * q) * d = ((z * q - x) * b) * d := by
    have : (a * q) * d = (a * d) * q := by grind
    rw [this, h2]
    have : (z * d - n) * b * q = z * d * b * q - (n * q) * b := by grind
    rw [this, v1]; grind
  have e9 := Int.eq_of_mul_eq_mul_right (show d ≠ 0 by omega) e1
  exact e9
theorem vl_hv {F : Nat → Rt} {i : Nat} {x q : Int} (h : Vl (F i) x q) : Vl (hvL F i) x (2 * q) := by
  obtain ⟨q1, d1, v1⟩ := h
  have h2 := mk_val (F i).n (2 * (F i).d)
  have h4 := mk_pos (n := (F i).n) (d := 2 * (F i).d) (by omega)
  refine ⟨by omega, h4, ?_⟩
  unfold hvL
  generalize (mk (F i).n (2 * (F i).d)).n = a at *
  generalize (mk (F i).n (2 * (F i).d)).d = b at *
  generalize (F i).n = n at *
  generalize (F i).d = d at *
  have e1 : (a * (2 * q)) * d = (x * b) * d := by
    have : (a * (2 * q)) * d = (a * (2 * d)) * q := by grind
    rw [this, h2]
    have : n * b * q = (n * q) * b := by grind
    rw [this, v1]; grind
  have e9 := Int.eq_of_mul_eq_mul_right (show d ≠ 0 by omega) e1
  exact e9
theorem vl_pl {a b : Rt} {x y q : Int} (ha : Vl a x q) (hb : Vl b y q) : Vl (plR a b) (x + y) q := by
  obtain ⟨q1, d1, v1⟩ := ha
  obtain ⟨_, d2, v2⟩ := hb
  have hd : 1 ≤ a.d * b.d := Int.mul_pos (by omega) (by omega)
  have h2 := mk_val (a.n * b.d + b.n * a.d) (a.d * b.d)
  have h4 := mk_pos (n := a.n * b.d + b.n * a.d) hd
  refine ⟨q1, h4, ?_⟩
  unfold plR
  generalize (mk (a.n * b.d + b.n * a.d) (a.d * b.d)).n = A at *
  generalize (mk (a.n * b.d + b.n * a.d) (a.d * b.d)).d = B at *
  generalize a.n = n at *
  generalize a.d = d at *
  generalize b.n = n' at *
  generalize b.d = d' at *
  have e1 : (A * q) * (d * d') = ((x + y) * B) * (d * d') := by
    have : (A * q) * (d * d') = (A * (d * d')) * q := by grind
    rw [this, h2]
    have : (n * d' + n' * d) * B * q = ((n * q) * d' + (n' * q) * d) * B := by grind
    rw [this, v1, v2]; grind
  have e9 := Int.eq_of_mul_eq_mul_right (show d * d' ≠ 0 by omega) e1
  exact e9
theorem mi_n {a b : Rt} (ha : 1 ≤ a.d) (hb : 1 ≤ b.d) (h : leR b a) : 0 ≤ (miR a b).n ∧ 1 ≤ (miR a b).d := by
  have hd : 1 ≤ a.d * b.d := Int.mul_pos (by omega) (by omega)
  unfold leR at h
  exact ⟨mk_n0 hd (by omega), mk_pos hd⟩
theorem mi_n' {a b : Rt} (ha : 1 ≤ a.d) (hb : 1 ≤ b.d) (h : leR a b) : (miR a b).n ≤ 0 ∧ 1 ≤ (miR a b).d := by
  have hd : 1 ≤ a.d * b.d := Int.mul_pos (by omega) (by omega)
  unfold leR at h
  have h1 := mk_val (a.n * b.d - b.n * a.d) (a.d * b.d)
  have h2 := mk_pos (n := a.n * b.d - b.n * a.d) hd
  refine ⟨?_, h2⟩
  unfold miR
  have h3 : (a.n * b.d - b.n * a.d) * (mk (a.n * b.d - b.n * a.d) (a.d * b.d)).d ≤ 0 * (mk (a.n * b.d - b.n * a.d) (a.d * b.d)).d := Int.mul_le_mul_of_nonneg_right (by omega) (by omega)
  rw [← h1, Int.zero_mul] at h3
  rcases Int.lt_or_le 0 (mk (a.n * b.d - b.n * a.d) (a.d * b.d)).n with hp | hp
  · have := Int.mul_pos hp (show 0 < a.d * b.d by omega)
    omega
  · exact hp

/-! ### a greater claim -/
theorem sm_inc {l : List Int} {j : Nat} (hj : j < l.length) : sm (incL l j) = sm l + 1 := by
  unfold sm
  rw [incL_len, tot_inc l j hj l.length (Nat.le_refl _), if_pos hj]
theorem el_inc {l : List Int} {j : Nat} (hj : j < l.length) : el (incL l j) j = el l j + 1 := by rw [incL_at l j j hj, if_pos rfl]
/-- Equal awards of a claim greater by 1, of an estate greater by d or not. -/
theorem inc_eq {l : List Int} {e e' : Int} {j : Nat} (hj : j < l.length) (h : okE l e) (h' : okE (incL l j) e') (hee : e ≤ e') :
    lvF (lvl l e).1 (lvl l e).2 (el l j) * lvQ (lvl (incL l j) e').2 ≤ lvF (lvl (incL l j) e').1 (lvl (incL l j) e').2 (el l j + 1) * lvQ (lvl l e).2 := by
  have k := (lvl_b h.1 h.2).2.1
  have k' := (lvl_b h'.1 h'.2).2.1
  have hx := h.1.2 j hj
  refine own_ge (O := oth l j) k k' (oth_pos h.1.2 j) (by rw [← sF_one _ _ hj]; exact sF_fix h) (by rw [← sF_inc _ _ hj]; exact sF_fix h') hee fun hl => ?_
  have a := lv_cmp k k' hx.1 hl
  have b := (lvF_mono (r := (lvl (incL l j) e').1) k' (show el l j ≤ el l j + 1 by omega)).1
  have c := Int.mul_le_mul_of_nonneg_right b (show 0 ≤ lvQ (lvl l e).2 by have := lvQ_pos k; omega)
  omega
theorem inc_ls {l : List Int} {e e' d : Int} {j : Nat} (hj : j < l.length) (h : okE l e) (h' : okE (incL l j) e') (hd : 1 ≤ d) (hee : e' ≤ e + d) :
    lvF (lvl (incL l j) e').1 (lvl (incL l j) e').2 (el l j + 1) * lvQ (lvl l e).2 ≤ lvF (lvl l e).1 (lvl l e).2 (el l j) * lvQ (lvl (incL l j) e').2 + d * (lvQ (lvl l e).2 * lvQ (lvl (incL l j) e').2) := by
  have k := (lvl_b h.1 h.2).2.1
  have k' := (lvl_b h'.1 h'.2).2.1
  have hx := h.1.2 j hj
  have q := lvQ_pos k
  have q' := lvQ_pos k'
  refine own_le (O := oth l j) k k' (oth_pos h.1.2 j) (by rw [← sF_one _ _ hj]; exact sF_fix h) (by rw [← sF_inc _ _ hj]; exact sF_fix h') hee fun hl => ?_
  have a := lv_cmp k' k hx.1 hl
  have b := (lvF_mono (r := (lvl (incL l j) e').1) k' (show el l j ≤ el l j + 1 by omega)).2
  generalize lvF (lvl (incL l j) e').1 (lvl (incL l j) e').2 (el l j + 1) = F1 at *
  generalize lvF (lvl (incL l j) e').1 (lvl (incL l j) e').2 (el l j) = F0 at *
  generalize lvF (lvl l e).1 (lvl l e).2 (el l j) = F at *
  generalize lvQ (lvl l e).2 = Q at *
  generalize lvQ (lvl (incL l j) e').2 = Q' at *
  have b2 : F1 ≤ F0 + Q' := by
    have : (el l j + 1 - el l j) * Q' = Q' := by grind
    omega
  have c := Int.mul_le_mul_of_nonneg_right b2 (show 0 ≤ Q by omega)
  have e1 : (F0 + Q') * Q = F0 * Q + Q * Q' := by grind
  have e2 : 1 * (Q * Q') ≤ d * (Q * Q') := Int.mul_le_mul_of_nonneg_right hd (Int.mul_nonneg (by omega) (by omega))
  omega
end M
end Go.Proofs.Ythleekdkbgnabaa
