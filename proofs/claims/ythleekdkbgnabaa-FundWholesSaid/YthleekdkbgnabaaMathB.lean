/-
  Plain mathematics of awards: equal awards by the level, the rules, the greatest of ratios; no word of Go in it.
-/
import Derived.Test.YthleekdkbgnabaaMath
namespace Go.Proofs.Ythleekdkbgnabaa
set_option linter.unusedVariables false
namespace M
/-- The greatest of the first k + 1 numbers. -/
def mxP (l : List Int) : Nat → Int
  | 0 => el l 0
  | k + 1 => max (mxP l k) (el l (k + 1))
def mx (l : List Int) : Int := mxP l (l.length - 1)
theorem mxP_ge (l : List Int) : ∀ k i, i ≤ k → el l i ≤ mxP l k := by
  intro k
  induction k with
  | zero => intro i h; have : i = 0 := by omega
            subst this; exact Int.le_refl _
  | succ k ih =>
    intro i h
    unfold mxP
    rcases Nat.lt_or_ge k i with h1 | h1
    · have : i = k + 1 := by omega
      subst this; omega
    · have := ih i h1; omega
theorem mx_ge {l : List Int} {i : Nat} (h : i < l.length) : el l i ≤ mx l := mxP_ge l _ i (by omega)
theorem mxP_b {l : List Int} {m : Nat} (h : Oks l m) : ∀ k, k < m → okC (mxP l k) := by
  intro k
  induction k with
  | zero => intro hk; exact h 0 hk
  | succ k ih =>
    intro hk
    have h1 := ih (by omega)
    have h2 := h (k + 1) hk
    unfold okC at *
    unfold mxP
    omega
theorem mx_b {l : List Int} (h : vC l) : okC (mx l) := mxP_b h.2 _ (by have := h.1.1; omega)

/-- Below. -/
def bel (a b : Rt) : Prop := a.n * b.d < b.n * a.d
instance (a b : Rt) : Decidable (bel a b) := by unfold bel; infer_instance
def lesR (a b : Rt) : Rt := if bel a b then a else b
/-- An equal award, where r is left for k others. -/
def eqA (r k x : Int) : Rt := if x * k ≤ r then ⟨x, 1⟩ else mk r k
def levR (p : Int × Int) (m : Int) : Rt := if p.2 = 0 then ⟨m, 1⟩ else mk p.1 p.2
theorem les_eq {r k x m : Int} (hk : 0 ≤ k) (h0 : k = 0 → 0 ≤ r ∧ x ≤ m) : lesR ⟨x, 1⟩ (levR (r, k) m) = eqA r k x := by
  unfold lesR levR eqA bel
  by_cases hz : k = 0
  · subst hz
    obtain ⟨a, b⟩ := h0 rfl
    simp only [if_true, Int.mul_zero, a, Int.mul_one]
    split
    · rfl
    · have : x = m := by omega
      rw [this]
  · simp only [hz, if_false, Int.mul_one]
    have h1 : 1 ≤ k := by omega
    have h2 := mk_le (n := r) (x := x) h1
    split
    · rw [if_pos (h2.1 (by omega))]
    · by_cases h3 : x * k ≤ r
      · rw [if_pos h3, ← mk_one x]
        have h4 := h2.2 h3
        have h5 : x * (mk r k).d = (mk r k).n := by omega
        have h6 := mk_val r k
        have h7 := mk_pos (n := r) h1
        refine mk_congr h1 (by omega) ?_
        rw [Int.mul_one]
        rw [← h5] at h6
        have h8 : x * k * (mk r k).d = r * (mk r k).d := by
          rw [← h6, Int.mul_assoc, Int.mul_comm k, Int.mul_assoc]
        exact (Int.eq_of_mul_eq_mul_right (by omega) h8).symm
      · rw [if_neg h3]
/-- Equal awards. -/
def eqL (l : List Int) (e : Int) (i : Nat) : Rt := eqA (lvl l e).1 (lvl l e).2 (el l i)
/-- Claims less losses. -/
def lsL (l : List Int) (f : Nat → Rt) (i : Nat) : Rt := mk (el l i * (f i).d - (f i).n) (f i).d
/-- Halves. -/
def hvL (f : Nat → Rt) (i : Nat) : Rt := mk (f i).n (2 * (f i).d)
def prL (l : List Int) (e : Int) (i : Nat) : Rt := mk (el l i * e) (max (sm l) 1)
/-- The awards by a rule. -/
def shR (l : List Int) (e q : Int) : Nat → Rt :=
  if q = 2 then eqL l e else if q = 3 then lsL l (eqL l (sm l - e)) else if q = 4 then (if 2 * e ≤ sm l then hvL (eqL l (2 * e)) else lsL l (hvL (eqL l (2 * (sm l - e))))) else prL l e
theorem lvl_b {l : List Int} {e : Int} (h : vC l) (he : 0 ≤ e ∧ e ≤ sm l) : (0 ≤ (lvl l e).1 ∧ (lvl l e).1 ≤ 8000) ∧ 0 ≤ (lvl l e).2 ∧ (lvl l e).2 ≤ 8 := by
  have f := lvl_fix h.2 he.1
  have c := cnt_b (lvl l e).1 (lvl l e).2 l
  have s := (sm_b h).2
  have n := h.1.2
  have p : ∀ l' : List Int, (∀ y ∈ l', 0 ≤ y) → 0 ≤ pay (lvl l e).1 (lvl l e).2 l' := by
    intro l'
    induction l' with
    | nil => intro _; simp [pay]
    | cons y t ih =>
      intro hh
      have h1 := ih fun z hz => hh z (by simp [hz])
      have h2 := hh y (by simp)
      unfold pay
      split <;> omega
  have p1 := p l fun y hy => (mem_ok h.2 hy).1
  have := f.rest
  have := f.left
  have := f.pos
  omega
theorem eqA_b {r k x : Int} (hr : 0 ≤ r ∧ r ≤ 8000) (hk : 0 ≤ k ∧ k ≤ 8) (hx : okC x) : (0 ≤ (eqA r k x).n ∧ (eqA r k x).n ≤ 8000) ∧ 1 ≤ (eqA r k x).d ∧ (eqA r k x).d ≤ 8 := by
  unfold okC at hx
  unfold eqA
  split
  · simp only; omega
  · rename_i h
    have h1 : 1 ≤ k := by
      rcases Int.lt_or_le k 1 with h2 | h2
      · have : k = 0 := by omega
        subst this
        rw [Int.mul_zero] at h
        omega
      · exact h2
    have a := mk_pos (n := r) h1
    have b := mk_dle (n := r) h1
    have c := mk_nb (n := r) (B := 8000) h1 (by omega)
    have d := mk_n0 (n := r) h1 hr.1
    omega
theorem eqL_b {l : List Int} {e : Int} (h : vC l) (he : 0 ≤ e ∧ e ≤ sm l) {i : Nat} (hi : i < l.length) : (0 ≤ (eqL l e i).n ∧ (eqL l e i).n ≤ 8000) ∧ 1 ≤ (eqL l e i).d ∧ (eqL l e i).d ≤ 8 := by
  have b := lvl_b h he
  exact eqA_b b.1 b.2 (h.2 i hi)
theorem hvL_b {f : Nat → Rt} {i : Nat} (h : (0 ≤ (f i).n ∧ (f i).n ≤ 8000) ∧ 1 ≤ (f i).d ∧ (f i).d ≤ 8) : (0 ≤ (hvL f i).n ∧ (hvL f i).n ≤ 8000) ∧ 1 ≤ (hvL f i).d ∧ (hvL f i).d ≤ 16 := by
  unfold hvL
  have h1 : 1 ≤ 2 * (f i).d := by omega
  have a := mk_pos (n := (f i).n) h1
  have b := mk_dle (n := (f i).n) h1
  have c := mk_nb (n := (f i).n) (B := 8000) h1 (by omega)
  have d := mk_n0 (n := (f i).n) h1 h.1.1
  omega
theorem lsL_b {l : List Int} {f : Nat → Rt} {i : Nat} (hx : okC (el l i)) (h : (0 ≤ (f i).n ∧ (f i).n ≤ 8000) ∧ 1 ≤ (f i).d ∧ (f i).d ≤ 16) : (-16000 ≤ (lsL l f i).n ∧ (lsL l f i).n ≤ 16000) ∧ 1 ≤ (lsL l f i).d ∧ (lsL l f i).d ≤ 16 := by
  unfold lsL
  unfold okC at hx
  have h1 : 1 ≤ (f i).d := h.2.1
  have g1 : 0 ≤ el l i * (f i).d := Int.mul_nonneg hx.1 (by omega)
  have g2 : el l i * (f i).d ≤ 1000 * (f i).d := Int.mul_le_mul_of_nonneg_right hx.2 (by omega)
  have a := mk_pos (n := el l i * (f i).d - (f i).n) h1
  have b := mk_dle (n := el l i * (f i).d - (f i).n) h1
  have c := mk_nb (n := el l i * (f i).d - (f i).n) (B := 16000) h1 (by omega)
  omega
theorem prL_b {l : List Int} {e : Int} (h : vC l) (he : 0 ≤ e ∧ e ≤ sm l) {i : Nat} (hi : i < l.length) : (0 ≤ (prL l e i).n ∧ (prL l e i).n ≤ 8000000) ∧ 1 ≤ (prL l e i).d ∧ (prL l e i).d ≤ 8000 := by
  unfold prL
  have hx := h.2 i hi
  unfold okC at hx
  have s := sm_b h
  have h1 : 1 ≤ max (sm l) 1 := by omega
  have g1 : 0 ≤ el l i * e := Int.mul_nonneg hx.1 he.1
  have g2 : el l i * e ≤ 1000 * e := Int.mul_le_mul_of_nonneg_right hx.2 he.1
  have a := mk_pos (n := el l i * e) h1
  have b := mk_dle (n := el l i * e) h1
  have c := mk_nb (n := el l i * e) (B := 8000000) h1 (by omega)
  have d := mk_n0 (n := el l i * e) h1 g1
  omega
theorem shR_b {l : List Int} {e q : Int} (h : vC l) (he : 0 ≤ e ∧ e ≤ sm l) {i : Nat} (hi : i < l.length) : (-8000000 ≤ (shR l e q i).n ∧ (shR l e q i).n ≤ 8000000) ∧ 1 ≤ (shR l e q i).d ∧ (shR l e q i).d ≤ 8000 := by
  unfold shR
  split
  · have := eqL_b h he hi; omega
  · split
    · have := lsL_b (h.2 i hi) (f := eqL l (sm l - e)) (by have := eqL_b (e := sm l - e) h (by omega) hi; omega); omega
    · split
      · split
        · have := hvL_b (f := eqL l (2 * e)) (eqL_b h (by omega) hi); omega
        · have := lsL_b (h.2 i hi) (hvL_b (f := eqL l (2 * (sm l - e))) (eqL_b h (by omega) hi)); omega
      · have := prL_b h he hi; omega

/-! ### the greatest -/
theorem bel_trans {a b c : Rt} (ha : 0 < a.d) (hb : 0 < b.d) (hc : 0 < c.d) (h1 : ¬ bel a b) (h2 : ¬ bel b c) : ¬ bel a c := by
  unfold bel at *
  intro h
  have e1 : b.n * a.d * c.d ≤ a.n * b.d * c.d := Int.mul_le_mul_of_nonneg_right (by omega) (by omega)
  have e2 : c.n * b.d * a.d ≤ b.n * c.d * a.d := Int.mul_le_mul_of_nonneg_right (by omega) (by omega)
  have e3 : a.n * c.d * b.d < c.n * a.d * b.d := Int.mul_lt_mul_of_pos_right h hb
  grind
/-- The greatest of the first k ratios, the first one to begin with. -/
def grt (f : Nat → Rt) : Nat → Rt
  | 0 => f 0
  | k + 1 => if bel (grt f k) (f k) then f k else grt f k
theorem grt_spec (f : Nat → Rt) (n : Nat) (hn : 1 ≤ n) (hd : ∀ i, i < n → 1 ≤ (f i).d) : ∀ k, k ≤ n → (∃ j, j < n ∧ grt f k = f j) ∧ ∀ i, i < k → ¬ bel (grt f k) (f i) := by
  intro k
  induction k with
  | zero => intro _; exact ⟨⟨0, by omega, rfl⟩, fun i h => by omega⟩
  | succ k ih =>
    intro hk
    obtain ⟨⟨j, hj, e⟩, h2⟩ := ih (by omega)
    unfold grt
    split
    · rename_i hb
      refine ⟨⟨k, by omega, rfl⟩, fun i hi => ?_⟩
      rcases Nat.lt_succ_iff_lt_or_eq.1 hi with h' | rfl
      · refine bel_trans (b := grt f k) (by have := hd k (by omega); omega) (by rw [e]; have := hd j hj; omega) (by have := hd i (by omega); omega) ?_ (h2 i h')
        unfold bel at *; omega
      · unfold bel; omega
    · rename_i hb
      refine ⟨⟨j, hj, e⟩, fun i hi => ?_⟩
      rcases Nat.lt_succ_iff_lt_or_eq.1 hi with h' | rfl
      · exact h2 i h'
      · exact hb
theorem cnt_ex {r k : Int} : ∀ l : List Int, 0 < cnt r k l → ∃ i, i < l.length ∧ ¬ el l i * k ≤ r := by
  intro l
  induction l with
  | nil => intro h; simp [cnt] at h
  | cons x t ih =>
    intro h
    by_cases hx : x * k ≤ r
    · unfold cnt at h
      rw [if_pos hx] at h
      obtain ⟨i, hi, e⟩ := ih (by omega)
      exact ⟨i + 1, by simp; omega, by simpa [el] using e⟩
    · exact ⟨0, by simp, by simpa [el] using hx⟩
theorem mx_mem {l : List Int} (h : 1 ≤ l.length) : ∃ i, i < l.length ∧ el l i = mx l := by
  have : ∀ k, k < l.length → ∃ i, i < l.length ∧ el l i = mxP l k := by
    intro k
    induction k with
    | zero => intro hk; exact ⟨0, hk, rfl⟩
    | succ k ih =>
      intro hk
      obtain ⟨i, hi, e⟩ := ih (by omega)
      unfold mxP
      rcases Int.le_total (mxP l k) (el l (k + 1)) with h1 | h1
      · exact ⟨k + 1, hk, by omega⟩
      · exact ⟨i, hi, by omega⟩
  exact this _ (by omega)
theorem grt_lev {l : List Int} {e : Int} (h : vC l) (he : 0 ≤ e ∧ e ≤ sm l) : grt (eqL l e) l.length = levR (lvl l e) (mx l) := by
  obtain ⟨⟨j, hj, e1⟩, h2⟩ := grt_spec (eqL l e) l.length h.1.1 (fun i hi => (eqL_b h he hi).2.1) l.length (Nat.le_refl _)
  have b := lvl_b h he
  have f := lvl_fix h.2 he.1
  unfold levR
  unfold eqL at *
  generalize lvl l e = p at *
  obtain ⟨r, k⟩ := p
  simp only at *
  rw [e1] at h2 ⊢
  have hjx := mx_ge hj
  by_cases hz : k = 0
  · subst hz
    obtain ⟨i, hi, hx⟩ := mx_mem h.1.1
    have h3 := h2 i hi
    unfold eqA bel at *
    simp only [Int.mul_zero, b.1.1, if_true, Int.mul_one] at *
    have : el l j = mx l := by omega
    rw [this]
  · rw [if_neg hz]
    have h1 : 1 ≤ k := by omega
    obtain ⟨i, hi, hx⟩ := cnt_ex (r := r) (k := k) l (by have := f.left; omega)
    have h3 := h2 i hi
    unfold eqA at *
    rw [if_neg hx] at h3
    split
    · rename_i hp
      rw [if_pos hp] at h3
      have h4 : ¬ (el l j * (mk r k).d < (mk r k).n * 1) := h3
      rw [Int.mul_one] at h4
      have h5 := (mk_le (n := r) (x := el l j) h1).2 hp
      have h6 := les_eq (r := r) (k := k) (x := el l j) (m := 0) (by omega) (fun h => absurd h hz)
      unfold lesR levR eqA bel at h6
      simp only [hz, if_false, Int.mul_one, hp, if_true] at h6
      rw [if_neg (by omega)] at h6
      exact h6.symm
    · rfl
theorem levR_b {l : List Int} {e : Int} (h : vC l) (he : 0 ≤ e ∧ e ≤ sm l) : (0 ≤ (levR (lvl l e) (mx l)).n ∧ (levR (lvl l e) (mx l)).n ≤ 8000) ∧ 1 ≤ (levR (lvl l e) (mx l)).d ∧ (levR (lvl l e) (mx l)).d ≤ 8 := by
  rw [← grt_lev h he]
  obtain ⟨⟨j, hj, e1⟩, _⟩ := grt_spec (eqL l e) l.length h.1.1 (fun i hi => (eqL_b h he hi).2.1) l.length (Nat.le_refl _)
  rw [e1]
  exact eqL_b h he hj
theorem les_lev {l : List Int} {e : Int} (h : vC l) (he : 0 ≤ e ∧ e ≤ sm l) {i : Nat} (hi : i < l.length) : lesR ⟨el l i, 1⟩ (levR (lvl l e) (mx l)) = eqL l e i := by
  have b := lvl_b h he
  exact les_eq (r := (lvl l e).1) (k := (lvl l e).2) b.2.1 fun _ => ⟨b.1.1, mx_ge hi⟩
end M
end Go.Proofs.Ythleekdkbgnabaa
