/-
  Plain mathematics of claims: ratios in lowest terms, sums, the level of equal awards; no word of Go in it.
-/
namespace Go.Proofs.Ythleekdkbgnabaa
set_option linter.unusedVariables false
namespace M
def el (l : List Int) (i : Nat) : Int := l.getD i 0
theorem el_eq (l : List Int) (i : Nat) (h : i < l.length) : el l i = l[i] := by simp [el, List.getD, h]
/-- A ratio: its N and its D. -/
structure Rt where
  n : Int
  d : Int
deriving DecidableEq
def rt (l : List Rt) (i : Nat) : Rt := l.getD i ⟨0, 0⟩
theorem rt_eq (l : List Rt) (i : Nat) (h : i < l.length) : rt l i = l[i] := by simp [rt, List.getD, h]

/-! ### lowest terms -/
/-- A fraction in lowest terms. -/
def mk (n d : Int) : Rt := ⟨n / (Int.gcd n d : Int), d / (Int.gcd n d : Int)⟩
theorem gcd_pos {n d : Int} (h : 1 ≤ d) : 1 ≤ (Int.gcd n d : Int) := by
  have : 0 < Int.gcd n d := Int.gcd_pos_of_ne_zero_right n (by omega)
  omega
theorem gcd_dn (n d : Int) : (Int.gcd n d : Int) ∣ n := Int.gcd_dvd_left ..
theorem gcd_dd (n d : Int) : (Int.gcd n d : Int) ∣ d := Int.gcd_dvd_right ..
theorem gcd_le {n d : Int} (h : 1 ≤ d) : (Int.gcd n d : Int) ≤ d := Int.le_of_dvd (by omega) (gcd_dd n d)
theorem mk_tdiv (n d : Int) : n.tdiv (Int.gcd n d : Int) = (mk n d).n ∧ d.tdiv (Int.gcd n d : Int) = (mk n d).d :=
  ⟨Int.tdiv_eq_ediv_of_dvd (gcd_dn n d), Int.tdiv_eq_ediv_of_dvd (gcd_dd n d)⟩
theorem mk_n (n d : Int) : (mk n d).n * (Int.gcd n d : Int) = n := Int.ediv_mul_cancel (gcd_dn n d)
theorem mk_d (n d : Int) : (mk n d).d * (Int.gcd n d : Int) = d := Int.ediv_mul_cancel (gcd_dd n d)
theorem mk_pos {n d : Int} (h : 1 ≤ d) : 1 ≤ (mk n d).d := by
  have h1 := mk_d n d
  have h2 := gcd_pos (n := n) h
  rcases Int.lt_or_le 0 (mk n d).d with h3 | h3
  · exact h3
  · have := Int.mul_le_mul_of_nonneg_right h3 (show (0 : Int) ≤ (Int.gcd n d : Int) by omega)
    omega
theorem mk_dle {n d : Int} (h : 1 ≤ d) : (mk n d).d ≤ d := by
  have h1 := mk_d n d
  have h2 := gcd_pos (n := n) h
  have h3 := mk_pos (n := n) h
  have := Int.mul_le_mul_of_nonneg_left h2 (show (0 : Int) ≤ (mk n d).d by omega)
  omega
/-- The same fraction. -/
theorem mk_val (n d : Int) : (mk n d).n * d = n * (mk n d).d := by
  have h1 := mk_n n d
  have h2 := mk_d n d
  calc (mk n d).n * d = (mk n d).n * ((mk n d).d * (Int.gcd n d : Int)) := by rw [h2]
    _ = ((mk n d).n * (Int.gcd n d : Int)) * (mk n d).d := by rw [Int.mul_assoc, Int.mul_comm (mk n d).d]
    _ = n * (mk n d).d := by rw [h1]
theorem mk_nb {n d B : Int} (h : 1 ≤ d) (hB : -B ≤ n ∧ n ≤ B) : -B ≤ (mk n d).n ∧ (mk n d).n ≤ B := by
  have h1 := mk_n n d
  have h2 := gcd_pos (n := n) h
  generalize (mk n d).n = a at *
  generalize (Int.gcd n d : Int) = g at *
  constructor
  · rcases Int.lt_or_le a 0 with h3 | h3
    · have : a * g ≤ a * 1 := Int.mul_le_mul_of_nonpos_left (by omega) h2
      omega
    · omega
  · rcases Int.lt_or_le a 0 with h3 | h3
    · omega
    · have := Int.mul_le_mul_of_nonneg_left h2 h3
      omega
theorem mk_n0 {n d : Int} (h : 1 ≤ d) (hn : 0 ≤ n) : 0 ≤ (mk n d).n := Int.ediv_nonneg hn (by have := gcd_pos (n := n) h; omega)
theorem mk_scale {n d k : Int} (hk : 1 ≤ k) (hd : 1 ≤ d) : mk (k * n) (k * d) = mk n d := by
  have h2 := gcd_pos (n := n) hd
  unfold mk
  have h1 : (Int.gcd (k * n) (k * d) : Int) = k * (Int.gcd n d : Int) := by
    rw [Int.gcd_mul_left, Int.natCast_mul]
    congr 1
    omega
  rw [h1, Int.mul_ediv_mul_of_pos _ _ (by omega), Int.mul_ediv_mul_of_pos _ _ (by omega)]
theorem mk_congr {n d n' d' : Int} (hd : 1 ≤ d) (hd' : 1 ≤ d') (h : n * d' = n' * d) : mk n d = mk n' d' := by
  rw [← mk_scale (n := n) hd' hd, ← mk_scale (n := n') hd hd', Int.mul_comm d' n, h, Int.mul_comm d n', Int.mul_comm d d']
theorem mk_one (n : Int) : mk n 1 = ⟨n, 1⟩ := by simp [mk]
theorem mk_zero {d : Int} (hd : 1 ≤ d) : mk 0 d = ⟨0, 1⟩ := by
  rw [← mk_one 0]
  exact mk_congr hd (by omega) (by simp)
/-- Below and at most. -/
theorem mk_le {n d x : Int} (hd : 1 ≤ d) : (x * (mk n d).d ≤ (mk n d).n ↔ x * d ≤ n) := by
  have h1 := mk_n n d
  have h2 := mk_d n d
  have h3 := gcd_pos (n := n) hd
  generalize (mk n d).n = a at *
  generalize (mk n d).d = b at *
  generalize (Int.gcd n d : Int) = g at *
  have hx : x * d = (x * b) * g := by rw [← h2, Int.mul_assoc]
  rw [hx, ← h1]
  constructor
  · intro h; exact Int.mul_le_mul_of_nonneg_right h (by omega)
  · intro h; exact Int.le_of_mul_le_mul_right h (by omega)

/-! ### claims -/
def okC (x : Int) : Prop := 0 ≤ x ∧ x ≤ 1000
instance (x : Int) : Decidable (okC x) := by unfold okC; infer_instance
def Oks (l : List Int) (k : Nat) : Prop := ∀ i, i < k → okC (el l i)
instance (l : List Int) (k : Nat) : Decidable (Oks l k) := by unfold Oks; infer_instance
theorem oks_zero (l : List Int) : Oks l 0 := fun _ h => absurd h (Nat.not_lt_zero _)
theorem oks_succ {l : List Int} {k : Nat} (h : Oks l k) (h1 : okC (el l k)) : Oks l (k + 1) := fun j hj => by
  rcases Nat.lt_succ_iff_lt_or_eq.1 hj with h' | rfl
  · exact h j h'
  · exact h1
def vC (l : List Int) : Prop := (1 ≤ l.length ∧ l.length ≤ 8) ∧ Oks l l.length
instance (l : List Int) : Decidable (vC l) := by unfold vC; infer_instance
def valB (l : List Int) : Bool := decide (vC l)
theorem val_of {l : List Int} (h : valB l = true) : vC l := by unfold valB at h; simpa using h
/-- The sum of the first k. -/
def tot (l : List Int) : Nat → Int
  | 0 => 0
  | k + 1 => tot l k + el l k
theorem tot_succ (l : List Int) (k : Nat) : tot l (k + 1) = tot l k + el l k := rfl
theorem tot_b {l : List Int} {m : Nat} (h : Oks l m) : ∀ k, k ≤ m → 0 ≤ tot l k ∧ tot l k ≤ 1000 * k := by
  intro k
  induction k with
  | zero => intro _; simp [tot]
  | succ k ih =>
    intro hk
    have h1 := ih (by omega)
    have h2 := h k (by omega)
    unfold okC at h2
    rw [tot_succ]
    omega
theorem tot_sum (l : List Int) : ∀ k, tot l k = (l.take k).sum := by
  intro k
  induction k with
  | zero => simp [tot]
  | succ k ih =>
    rw [tot_succ, ih]
    by_cases h : k < l.length
    · rw [List.take_succ_eq_append_getElem h, List.sum_append, el_eq l k h]; simp
    · rw [List.take_of_length_le (by omega), List.take_of_length_le (by omega)]
      simp [el, List.getD, h]
/-- The sum of all. -/
def sm (l : List Int) : Int := tot l l.length
theorem sm_sum (l : List Int) : sm l = l.sum := by rw [sm, tot_sum, List.take_length]
theorem sm_b {l : List Int} (h : vC l) : 0 ≤ sm l ∧ sm l ≤ 8000 := by
  have := tot_b h.2 l.length (Nat.le_refl _)
  have h2 := h.1.2
  unfold sm
  omega
/-- The error of claims and an estate. -/
def errC (l : List Int) (e : Int) : Int := if valB l = true then if 0 ≤ e ∧ e ≤ sm l then 0 else 2 else 80

/-! ### the level -/
def pay (r k : Int) : List Int → Int
  | [] => 0
  | x :: t => (if x * k ≤ r then x else 0) + pay r k t
def cnt (r k : Int) : List Int → Int
  | [] => 0
  | x :: t => (if x * k ≤ r then 0 else 1) + cnt r k t
/-- Who claims at most an even share r / k of what is left is paid, and the others are k. -/
structure Fix (l : List Int) (e r k : Int) : Prop where
  rest : r = e - pay r k l
  left : k = cnt r k l
  pos : 0 ≤ r
theorem cnt_b (r k : Int) (l : List Int) : 0 ≤ cnt r k l ∧ cnt r k l ≤ l.length := by
  induction l with
  | nil => simp [cnt]
  | cons x t ih => unfold cnt; split <;> simp <;> omega
theorem pay_cmp {r1 k1 r2 k2 : Int} (hk1 : 0 ≤ k1) (h : ∀ x : Int, x * k1 ≤ r1 → x * k2 ≤ r2) (l : List Int) :
    (r1 + 1) * (cnt r1 k1 l - cnt r2 k2 l) ≤ (pay r2 k2 l - pay r1 k1 l) * k1 ∧ cnt r2 k2 l ≤ cnt r1 k1 l ∧ (cnt r1 k1 l ≤ cnt r2 k2 l → pay r1 k1 l = pay r2 k2 l) := by
  induction l with
  | nil => simp [cnt, pay]
  | cons x t ih =>
    obtain ⟨h1, h2, h3⟩ := ih
    unfold cnt pay
    generalize cnt r1 k1 t = c1 at *
    generalize cnt r2 k2 t = c2 at *
    generalize pay r1 k1 t = p1 at *
    generalize pay r2 k2 t = p2 at *
    by_cases a : x * k1 ≤ r1
    · have b := h x a
      simp only [a, b, if_true]
      refine ⟨?_, by omega, fun hh => by have := h3 (by omega); omega⟩
      have e1 : (0 + c1 - (0 + c2)) = c1 - c2 := by omega
      have e2 : (x + p2 - (x + p1)) = p2 - p1 := by omega
      rw [e1, e2]; exact h1
    · by_cases b : x * k2 ≤ r2
      · simp only [a, b, if_true, if_false]
        refine ⟨?_, by omega, fun hh => by omega⟩
        have e1 : (1 + c1 - (0 + c2)) = (c1 - c2) + 1 := by omega
        have e2 : (x + p2 - (0 + p1)) = (p2 - p1) + x := by omega
        rw [e1, e2, Int.mul_add, Int.add_mul (p2 - p1) x k1, Int.mul_one]
        omega
      · simp only [a, b, if_false]
        refine ⟨?_, by omega, fun hh => by have := h3 (by omega); omega⟩
        have e1 : (1 + c1 - (1 + c2)) = c1 - c2 := by omega
        have e2 : (0 + p2 - (0 + p1)) = p2 - p1 := by omega
        rw [e1, e2]; exact h1
theorem fix_half {l : List Int} {e r1 k1 r2 k2 : Int} (f1 : Fix l e r1 k1) (f2 : Fix l e r2 k2) (h : ∀ x : Int, x * k1 ≤ r1 → x * k2 ≤ r2) (hc : k2 = 0 ∨ r1 * k2 ≤ r2 * k1) : r1 = r2 ∧ k1 = k2 := by
  have c1 := cnt_b r1 k1 l
  have c2 := cnt_b r2 k2 l
  obtain ⟨a, b, c⟩ := pay_cmp (by have := f1.left; omega) h l
  have e1 := f1.rest
  have e2 := f2.rest
  have e3 := f1.left
  have e4 := f2.left
  have p2 := f2.pos
  have p1 := f1.pos
  rw [← e3, ← e4] at a b c
  rw [← e3] at c1
  rw [← e4] at c2
  generalize pay r1 k1 l = p1 at *
  generalize pay r2 k2 l = p2 at *
  have e5 : p2 - p1 = r1 - r2 := by omega
  rw [e5] at a
  have hk : k1 ≤ k2 := by
    rcases hc with rfl | hc
    · rcases Int.lt_or_le 0 k1 with hp | hp
      · exfalso
        rw [Int.sub_zero] at a
        have := Int.le_of_mul_le_mul_right a hp
        omega
      · exact hp
    · have e6 : (r1 + 1) * (k1 - k2) = r1 * k1 - r1 * k2 + (k1 - k2) := by grind
      have e7 : (r1 - r2) * k1 = r1 * k1 - r2 * k1 := by grind
      omega
  have := c hk
  omega
theorem fix_uniq {l : List Int} {e r1 k1 r2 k2 : Int} (f1 : Fix l e r1 k1) (f2 : Fix l e r2 k2) : r1 = r2 ∧ k1 = k2 := by
  have c1 := (cnt_b r1 k1 l).1
  have c2 := (cnt_b r2 k2 l).1
  rw [← f1.left] at c1
  rw [← f2.left] at c2
  have p1 := f1.pos
  have p2 := f2.pos
  rcases Int.lt_or_le 0 k2 with h2 | h2
  · rcases Int.lt_or_le 0 k1 with h1 | h1
    · have key : ∀ {a b c d : Int}, 0 < b → 0 < d → a * d ≤ c * b → ∀ x : Int, x * b ≤ a → x * d ≤ c := fun {a b c d} hb hd h x hx => by
        have h3 : x * b * d ≤ c * b := Int.le_trans (Int.mul_le_mul_of_nonneg_right hx (by omega)) h
        have h4 : x * d * b ≤ c * b := by rw [Int.mul_assoc, Int.mul_comm d b, ← Int.mul_assoc]; exact h3
        exact Int.le_of_mul_le_mul_right h4 hb
      rcases Int.le_total (r1 * k2) (r2 * k1) with hc | hc
      · exact fix_half f1 f2 (key h1 h2 hc) (.inr hc)
      · obtain ⟨a, b⟩ := fix_half f2 f1 (key h2 h1 hc) (.inr hc)
        exact ⟨a.symm, b.symm⟩
    · have h0 : k1 = 0 := by omega
      obtain ⟨a, b⟩ := fix_half f2 f1 (fun x _ => by rw [h0]; simpa using p1) (.inl h0)
      exact ⟨a.symm, b.symm⟩
  · have h0 : k2 = 0 := by omega
    exact fix_half f1 f2 (fun x _ => by rw [h0]; simpa using p2) (.inl h0)
/-- The level of claims in ascending order: what is left, and for how many. -/
def lvS : List Int → Int → Int × Int
  | [], e => (e, 0)
  | x :: t, e => if e < x * ((t.length : Int) + 1) then (e, (t.length : Int) + 1) else lvS t (e - x)
theorem lvS_le (x : Int) : ∀ (t : List Int) (e : Int), (∀ y ∈ t, x ≤ y) → x * (t.length : Int) ≤ e → x * (lvS t e).2 ≤ (lvS t e).1 := by
  intro t
  induction t with
  | nil => intro e _ h; simpa [lvS] using h
  | cons y t ih =>
    intro e hx h
    unfold lvS
    have hxy := hx y (by simp)
    split
    · simpa using h
    · refine ih (e - y) (fun z hz => hx z (by simp [hz])) ?_
      have h1 : y * ((t.length : Int) + 1) = y * t.length + y := by rw [Int.mul_add, Int.mul_one]
      have h2 : x * (t.length : Int) ≤ y * t.length := Int.mul_le_mul_of_nonneg_right hxy (by omega)
      omega
theorem lvS_pos : ∀ (t : List Int) (e : Int), (∀ y ∈ t, 0 ≤ y) → 0 ≤ e → 0 ≤ (lvS t e).1 := by
  intro t
  induction t with
  | nil => intro e _ h; simpa [lvS] using h
  | cons y t ih =>
    intro e hx h
    unfold lvS
    have hy := hx y (by simp)
    split
    · exact h
    · refine ih (e - y) (fun z hz => hx z (by simp [hz])) ?_
      have h1 : y * ((t.length : Int) + 1) = y * t.length + y := by rw [Int.mul_add, Int.mul_one]
      have h2 : 0 ≤ y * (t.length : Int) := Int.mul_nonneg hy (by omega)
      omega
theorem none_paid {r k : Int} : ∀ l : List Int, (∀ y ∈ l, ¬ y * k ≤ r) → pay r k l = 0 ∧ cnt r k l = l.length := by
  intro l
  induction l with
  | nil => simp [pay, cnt]
  | cons y t ih =>
    intro h
    obtain ⟨a, b⟩ := ih fun z hz => h z (by simp [hz])
    unfold pay cnt
    rw [if_neg (h y (by simp)), if_neg (h y (by simp)), a, b]
    simp
    omega
theorem lvS_fix : ∀ (l : List Int) (e : Int), l.Pairwise (· ≤ ·) → (∀ y ∈ l, 0 ≤ y) → 0 ≤ e → Fix l e (lvS l e).1 (lvS l e).2 := by
  intro l
  induction l with
  | nil => intro e _ _ h; exact ⟨by simp [lvS, pay], by simp [lvS, cnt], by simpa [lvS] using h⟩
  | cons x t ih =>
    intro e hs hp he
    have hx : ∀ y ∈ t, x ≤ y := (List.pairwise_cons.1 hs).1
    have h0 := hp x (by simp)
    by_cases hc : e < x * ((t.length : Int) + 1)
    · have e1 : lvS (x :: t) e = (e, (t.length : Int) + 1) := by unfold lvS; rw [if_pos hc]
      rw [e1]
      obtain ⟨a, b⟩ := none_paid (r := e) (k := (t.length : Int) + 1) (x :: t) fun y hy => by
        have : x * ((t.length : Int) + 1) ≤ y * ((t.length : Int) + 1) := Int.mul_le_mul_of_nonneg_right (by
          rcases List.mem_cons.1 hy with rfl | hy
          · exact Int.le_refl _
          · exact hx y hy) (by omega)
        omega
      exact ⟨by simp only; rw [a]; omega, by simp only; rw [b]; simp, he⟩
    · have e1 : lvS (x :: t) e = lvS t (e - x) := by conv => lhs; unfold lvS; rw [if_neg hc]
      have h1 : x * ((t.length : Int) + 1) = x * t.length + x := by rw [Int.mul_add, Int.mul_one]
      have h2 : 0 ≤ x * (t.length : Int) := Int.mul_nonneg h0 (by omega)
      have f := ih (e - x) (List.pairwise_cons.1 hs).2 (fun y hy => hp y (by simp [hy])) (by omega)
      have g := lvS_le x t (e - x) hx (by omega)
      rw [e1]
      generalize lvS t (e - x) = p at *
      obtain ⟨r, k⟩ := p
      simp only at *
      refine ⟨?_, ?_, f.pos⟩
      · have := f.rest; unfold pay; rw [if_pos g]; omega
      · have := f.left; unfold cnt; rw [if_pos g]; omega
theorem pay_perm (r k : Int) {l l' : List Int} (h : l.Perm l') : pay r k l = pay r k l' := by
  induction h with
  | nil => rfl
  | cons x _ ih => unfold pay; rw [ih]
  | swap x y l => simp only [pay]; omega
  | trans _ _ a b => exact a.trans b
theorem cnt_perm (r k : Int) {l l' : List Int} (h : l.Perm l') : cnt r k l = cnt r k l' := by
  induction h with
  | nil => rfl
  | cons x _ ih => unfold cnt; rw [ih]
  | swap x y l => simp only [cnt]; omega
  | trans _ _ a b => exact a.trans b
/-- The numbers of a list in ascending order. -/
def srt (l : List Int) : List Int := l.mergeSort (fun x y => decide (x ≤ y))
theorem srt_len (l : List Int) : (srt l).length = l.length := by simp [srt]
theorem srt_perm (l : List Int) : (srt l).Perm l := List.mergeSort_perm _ _
theorem srt_sorted (l : List Int) : (srt l).Pairwise (· ≤ ·) := by
  have h := List.pairwise_mergeSort (le := fun x y : Int => decide (x ≤ y)) (fun a b c h1 h2 => by simp at *; omega) (fun a b => by simp; omega) l
  exact h.imp fun h => by simpa using h
/-- The level of claims. -/
def lvl (l : List Int) (e : Int) : Int × Int := lvS (srt l) e
theorem mem_ok {l : List Int} (h : Oks l l.length) {y : Int} (hy : y ∈ l) : okC y := by
  obtain ⟨i, hi, rfl⟩ := List.getElem_of_mem hy
  have := h i hi
  rwa [el_eq l i hi] at this
theorem lvl_fix {l : List Int} {e : Int} (h : Oks l l.length) (he : 0 ≤ e) : Fix l e (lvl l e).1 (lvl l e).2 := by
  have hp := srt_perm l
  have f := lvS_fix (srt l) e (srt_sorted l) (fun y hy => (mem_ok h (hp.mem_iff.1 hy)).1) he
  exact ⟨by rw [← pay_perm _ _ hp]; exact f.rest, by rw [← cnt_perm _ _ hp]; exact f.left, f.pos⟩
theorem fix_lvl {l : List Int} {e r k : Int} (h : Oks l l.length) (he : 0 ≤ e) (f : Fix l e r k) : r = (lvl l e).1 ∧ k = (lvl l e).2 := fix_uniq f (lvl_fix h he)
end M
end Go.Proofs.Ythleekdkbgnabaa
