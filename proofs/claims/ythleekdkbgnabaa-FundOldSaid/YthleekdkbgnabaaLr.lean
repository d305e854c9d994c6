/-
  The awards of every rule share the estate. Mathematics alone.
  Do awards agree: Agrees of the program (apart from the text Al, which has the specification as well).
  Mathematics of the old rule: every two of its awards are those of the garment, and no other awards are; two claims.
-/
import Derived.Test.YthleekdkbgnabaaMathJ
import Derived.Test.YthleekdkbgnabaaAh
import Derived.Test.YthleekdkbgnabaaMathM
section
namespace Go.Proofs.Ythleekdkbgnabaa
open Go.RowKit Go.Deep M
set_option linter.unusedVariables false
set_option linter.unusedSimpArgs false
namespace M
/-- Ratios over one denominator, with their sum. -/
def Cm (n : Nat) (e : Int) (F : Nat → Rt) : Prop := ∃ (q : Int) (f : Nat → Int), 1 ≤ q ∧ (∀ i, i < n → (F i).n * q = f i * (F i).d) ∧ suM f n = e * q
theorem suM_sub (f g : Nat → Int) : ∀ n, suM (fun i => f i - g i) n = suM f n - suM g n := by
  intro n
  induction n with
  | zero => rfl
  | succ n ih => rw [suM, suM, suM, ih]; omega
theorem cm_pr {l : List Int} {e : Int} (h : okE l e) : Cm l.length e (prL l e) := by
  refine ⟨max (sm l) 1, fun i => e * el l i, by omega, fun i hi => ?_, ?_⟩
  · unfold prL
    have := mk_val (el l i * e) (max (sm l) 1)
    show (mk (el l i * e) (max (sm l) 1)).n * max (sm l) 1 = e * el l i * (mk (el l i * e) (max (sm l) 1)).d
    rw [this, Int.mul_comm e]
  · rw [suM_mul, suM_tot]
    show e * sm l = e * max (sm l) 1
    have := h.2
    have s := sm_b h.1
    rcases Int.lt_or_le 0 (sm l) with hp | hp
    · rw [show max (sm l) 1 = sm l by omega]
    · have : e = 0 := by omega
      rw [this]; simp
theorem pay_cnt (r k : Int) (l : List Int) : ∀ m, m ≤ l.length → suM (fun i => if el l i * k ≤ r then el l i * k else r) m = pay r k (l.take m) * k + cnt r k (l.take m) * r := by
  intro m
  induction m with
  | zero => intro _; simp [suM, pay, cnt]
  | succ m ih =>
    intro hm
    rw [suM, ih (by omega)]
    have e : l.take (m + 1) = l.take m ++ [el l m] := by rw [el_eq l m (by omega), List.take_append_getElem]
    rw [e, pay_app, cnt_app]
    split
    · grind
    · grind
theorem cm_eq {l : List Int} {e : Int} (h : okE l e) : Cm l.length e (eqL l e) := by
  have f := lvl_fix h.1.2 h.2.1
  have b := lvl_b h.1 h.2
  rcases Int.lt_or_le 0 (lvl l e).2 with hk | hk
  · refine ⟨(lvl l e).2, fun i => if el l i * (lvl l e).2 ≤ (lvl l e).1 then el l i * (lvl l e).2 else (lvl l e).1, by omega, fun i hi => ?_, ?_⟩
    · unfold eqL eqA
      simp only
      split
      · simp
      · exact mk_val _ _
    · rw [pay_cnt _ _ l l.length (Nat.le_refl _), List.take_length, ← f.left]
      have := f.rest
      have e1 : pay (lvl l e).1 (lvl l e).2 l = e - (lvl l e).1 := by omega
      rw [e1]; grind
  · have h0 : (lvl l e).2 = 0 := by omega
    have e2 := f.rest
    rw [h0] at e2
    have hp := f.pos
    have hall : ∀ l' : List Int, pay (lvl l e).1 0 l' = l'.sum := by
      intro l'
      induction l' with
      | nil => rfl
      | cons y t ih => unfold pay; rw [ih]; simp [hp]
    rw [hall l, ← sm_sum] at e2
    have he := h.2
    refine ⟨1, el l, by omega, fun i hi => ?_, ?_⟩
    · unfold eqL eqA
      rw [h0]
      simp [hp]
    · rw [suM_tot]
      show sm l = e * 1
      omega
theorem cm_ls {l : List Int} {e : Int} {F : Nat → Rt} (h : Cm l.length (sm l - e) F) (hd : ∀ i, i < l.length → 1 ≤ (F i).d) : Cm l.length e (lsL l F) := by
  obtain ⟨q, f, hq, hf, hs⟩ := h
  refine ⟨q, fun i => el l i * q - f i, hq, fun i hi => ?_, ?_⟩
  · have h1 := hf i hi
    have h2 := mk_val (el l i * (F i).d - (F i).n) (F i).d
    have h3 := hd i hi
    unfold lsL
    show (mk (el l i * (F i).d - (F i).n) (F i).d).n * q = (el l i * q - f i) * (mk (el l i * (F i).d - (F i).n) (F i).d).d
    generalize (mk (el l i * (F i).d - (F i).n) (F i).d).n = a at *
    generalize (mk (el l i * (F i).d - (F i).n) (F i).d).d = b at *
    generalize (F i).n = n at *
    generalize (F i).d = d at *
    generalize el l i = x at *
    generalize f i = g at *
    have e1 : (a * q) * d = ((x * q - g) * b) * d := by
      have : (a * q) * d = (a * d) * q := by grind
      rw [this, h2]
      have : (x * d - n) * b * q = x * d * b * q - (n * q) * b := by grind
      rw [this, h1]; grind
    have e9 := Int.eq_of_mul_eq_mul_right (show d ≠ 0 by omega) e1
    exact e9
  · rw [suM_sub, hs]
    have e2 : suM (fun i => el l i * q) l.length = q * sm l := by
      rw [suM_congr (g := fun i => q * el l i) (fun i _ => Int.mul_comm _ _), suM_mul, suM_tot]; rfl
    rw [e2]; grind
theorem cm_hv {n : Nat} {e : Int} {F : Nat → Rt} (h : Cm n (2 * e) F) (hd : ∀ i, i < n → 1 ≤ (F i).d) : Cm n e (hvL F) := by
  obtain ⟨q, f, hq, hf, hs⟩ := h
  refine ⟨2 * q, f, by omega, fun i hi => ?_, by rw [hs]; grind⟩
  have h1 := hf i hi
  have h2 := mk_val (F i).n (2 * (F i).d)
  have h3 := hd i hi
  unfold hvL
  generalize (mk (F i).n (2 * (F i).d)).n = a at *
  generalize (mk (F i).n (2 * (F i).d)).d = b at *
  generalize (F i).n = n at *
  generalize (F i).d = d at *
  generalize f i = g at *
  have e1 : (a * (2 * q)) * d = (g * b) * d := by
    have : (a * (2 * q)) * d = (a * (2 * d)) * q := by grind
    rw [this, h2]
    have : n * b * q = (n * q) * b := by grind
    rw [this, h1]; grind
  have e9 := Int.eq_of_mul_eq_mul_right (show d ≠ 0 by omega) e1
  exact e9
/-- Every rule. -/
theorem cm_sh {l : List Int} {e : Int} (h : okE l e) (q : Int) : Cm l.length e (shR l e q) := by
  have he := h.2
  have hed : ∀ e', okE l e' → ∀ i, i < l.length → 1 ≤ (eqL l e' i).d := fun e' hk i hi => (eqL_b hk.1 hk.2 hi).2.1
  have hhd : ∀ e', okE l e' → ∀ i, i < l.length → 1 ≤ (hvL (eqL l e') i).d := fun e' hk i hi => (hvL_b (eqL_b hk.1 hk.2 hi)).2.1
  unfold shR
  split
  · exact cm_eq h
  · split
    · have hk : okE l (sm l - e) := ⟨h.1, by omega, by omega⟩
      exact cm_ls (cm_eq hk) (hed _ hk)
    · split
      · split
        · have hk : okE l (2 * e) := ⟨h.1, by omega, by omega⟩
          exact cm_hv (cm_eq hk) (hed _ hk)
        · have hk : okE l (2 * (sm l - e)) := ⟨h.1, by omega, by omega⟩
          exact cm_ls (cm_hv (cm_eq hk) (hed _ hk)) (hhd _ hk)
      · exact cm_pr h
/-- The awards of every rule are awards, and share the estate. -/
theorem sh_share {l : List Int} {e : Int} (h : okE l e) (q : Int) : okA l e (mkQ (shR l e q) l.length) ∧ shB l e (mkQ (shR l e q) l.length) = true := by
  have hl : (mkQ (shR l e q) l.length).length = l.length := mkQ_len _ _
  have hat : ∀ i, i < l.length → rt (mkQ (shR l e q) l.length) i = shR l e q i := fun i hi => mkQ_at _ _ _ hi
  have hw : ∀ i, i < l.length → okW (shR l e q i) := fun i hi => by
    obtain ⟨⟨a, b⟩, c, d⟩ := gd_sh h q hi
    have hx := h.1.2 i hi
    unfold okC at hx
    have := mul_b (a := el l i) (b := (shR l e q i).d) (A := 1000) (B := 10000) hx (by omega)
    unfold okW
    omega
  have hok : okA l e (mkQ (shR l e q) l.length) := ⟨h, hl, fun i hi => by rw [hl] at hi; rw [hat i hi]; exact hw i hi⟩
  refine ⟨hok, ?_⟩
  unfold shB
  have hbw : bwA l (mkQ (shR l e q) l.length) (mkQ (shR l e q) l.length).length := fun i hi => by
    rw [hl] at hi; rw [hat i hi]; exact (gd_sh h q hi).1
  rw [decide_eq_true hbw]
  obtain ⟨Q, f, hQ, hf, hs⟩ := cm_sh h q
  have : addsB (mkQ (shR l e q) l.length) e.toNat = true := by
    refine adds_of (q := Q) (f := f) (g := fun k => suM f k) hQ (fun i hi => ?_) (fun i hi => ?_) rfl (fun i _ => rfl) ?_
    · rw [hl] at hi
      exact awG_of (h.1.2 i hi) (by rw [hat i hi]; exact hw i hi) (by rw [hat i hi]; exact (gd_sh h q hi).1)
    · rw [hl] at hi; rw [hat i hi]; exact hf i hi
    · rw [hl, hs]
      have := h.2.1
      rw [show ((e.toNat : Nat) : Int) = e by omega]
  rw [this]; rfl
end M
end Go.Proofs.Ythleekdkbgnabaa
end

section
namespace Go.Proofs.Ythleekdkbgnabaa
open Go.RowKit Go.Deep M
set_option linter.unusedVariables false
set_option linter.unusedSimpArgs false

namespace M
def agB (l : List Int) (e : Int) (D : List Rt) : Bool := if okA l e D then (shB l e D && decide (allF l D l.length)) else false
theorem sh_bw {l : List Int} {e : Int} {D : List Rt} (h : shB l e D = true) : bwA l D D.length := by
  unfold shB at h
  rw [Bool.and_eq_true, decide_eq_true_eq] at h
  exact h.1
end M
theorem errA_ne {l : List Int} {e : Int} {D : List Rt} (hk : ¬ okA l e D) : errA l e D ≠ 0 := by
  unfold errA
  by_cases hE : okE l e
  · rw [if_pos hE, if_neg (fun hh => hk ⟨hE, hh⟩)]; decide
  · rw [if_neg hE]; have := errC_ne hE; omega
set_option maxRecDepth 100000 in
set_option maxHeartbeats 2000000 in
theorem Agrees_any (A Aw : Option Addr) (c cw : Nat) (l : List Int) (e : Int) (D : List Rt) (w : World) (h : Row w w.heap.size A l) (hw : Rts w w.heap.size Aw D) (hD : D.length ≤ 40) :
    Calls Try.prog 28 #[.slice A l.length c, .int .i64 e, .slice Aw D.length cw] w fun r w' => r = .returned (.tuple #[.bool (agB l e D), .int .i64 (errA l e D)]) ∧ Below w.heap.size w w' := by
  unfold agB
  by_cases hk : okA l e D
  · rw [if_pos hk, errA_ok hk]
    have k1 := cAwards_ok A Aw c cw l e D w h hw hk
    have k2 := fun X (hX : Below w.heap.size w X) => isShared_any A Aw c cw l e D X (h.up hX) (hw.up hX) hk
    have k3 := fun X (hX : Below w.heap.size w X) (hs : shB l e D = true) => areGar_any A Aw c cw l D X (h.up hX) (hw.up hX) hk.1.1 hk.2 (sh_bw hs)
    generalize shB l e D = R at *
    generalize decide (allF l D l.length) = G at *
    generalize l.length = n at *
    generalize D.length = m at *
    replace k1 := Lib.hid k1
    replace k2 := Lib.hid k2
    replace k3 := Lib.hid k3
    replace h := Lib.hid h
    replace hw := Lib.hid hw
    replace hk := Lib.hid hk
    replace hD := Lib.hid hD
    go_enter Try.func28, Try.ntmps28
    go_wp2_with fail
    refine k1.out.mono ?_
    rintro _ X ⟨rfl, hb⟩
    have kk := Lib.hid (k2.out X hb)
    replace hb := Lib.hid hb
    go_wp2_with fail
    refine kk.out.mono ?_
    rintro _ X2 ⟨rfl, hb2⟩
    have hfin := Lib.hid (bel_trans hb.out hb2)
    replace hb2 := Lib.hid hb2
    cases hR : R with
    | true =>
      have k4 := Lib.hid (k3.out X2 hfin.out hR)
      subst hR
      go_wp2_with fail
      refine k4.out.mono ?_
      rintro _ X3 ⟨rfl, hb3⟩
      have hfin2 := Lib.hid (bel_trans hfin.out hb3)
      replace hb3 := Lib.hid hb3
      go_wp2
      go_ret2
      exact ⟨rfl, hfin2.out⟩
    | false =>
      subst hR
      go_wp2
      go_ret2
      exact ⟨rfl, hfin.out⟩
  · rw [if_neg hk]
    have k1 := cAwards_bad A Aw c cw l e D w h hw hD hk
    have hne := errA_ne hk
    generalize errA l e D = E at *
    generalize l.length = n at *
    generalize D.length = m at *
    have hn : (E != 0) = true := by simpa using hne
    replace k1 := Lib.hid k1
    replace h := Lib.hid h
    replace hw := Lib.hid hw
    replace hk := Lib.hid hk
    replace hne := Lib.hid hne
    replace hD := Lib.hid hD
    go_enter Try.func28, Try.ntmps28
    go_wp2_with fail
    refine k1.out.mono ?_
    rintro _ X ⟨rfl, hb⟩
    replace hb := Lib.hid hb
    go_wp2
    go_ret2
    exact ⟨rfl, hb.out⟩
end Go.Proofs.Ythleekdkbgnabaa
end

section
namespace Go.Proofs.Ythleekdkbgnabaa
open Go.RowKit Go.Deep M
set_option linter.unusedVariables false
set_option linter.unusedSimpArgs false
namespace M
theorem max_mul0 {t M : Int} (hM : 0 ≤ M) : max t 0 * M = max (t * M) 0 := by
  rcases Int.le_total t 0 with h | h
  · have : t * M ≤ 0 := Int.mul_nonpos_of_nonpos_of_nonneg h hM
    rw [Int.max_eq_right h, Int.max_eq_right this, Int.zero_mul]
  · have : 0 ≤ t * M := Int.mul_nonneg h hM
    rw [Int.max_eq_left h, Int.max_eq_left this]
theorem fa_scale {M X Y a b : Int} {x y : Rt} (hx : x.n * M = X * x.d) (hy : y.n * M = Y * y.d) (hM : 1 ≤ M) (dx : 1 ≤ x.d) (dy : 1 ≤ y.d) :
    faB a b x y = true ↔ X - max (X + Y - b * M) 0 = Y - max (X + Y - a * M) 0 := by
  unfold faB
  rw [decide_eq_true_eq]
  obtain ⟨xn, xd⟩ := x
  obtain ⟨yn, yd⟩ := y
  simp only at *
  obtain ⟨P, hP⟩ : ∃ P, P = xn * yd := ⟨_, rfl⟩
  obtain ⟨Q, hQ⟩ : ∃ Q, Q = yn * xd := ⟨_, rfl⟩
  obtain ⟨C, hC⟩ : ∃ C, C = xd * yd := ⟨_, rfl⟩
  have hC1 : 1 ≤ C := by rw [hC]; exact Int.mul_pos (by omega) (by omega)
  rw [← hP, ← hQ, ← hC]
  have k1 : P * M = X * C := by rw [hP, hC]; grind
  have k2 : Q * M = Y * C := by rw [hQ, hC]; grind
  have u1 : ∀ z : Int, (P + Q - z * C) * M = (X + Y - z * M) * C := fun z => by grind
  have v1 : ∀ z : Int, max (P + Q - z * C) 0 * M = max (X + Y - z * M) 0 * C := fun z => by
    rw [max_mul0 (by omega), max_mul0 (by omega), u1 z]
  have l1 : (P - max (P + Q - b * C) 0) * M = (X - max (X + Y - b * M) 0) * C := by
    have := v1 b
    rw [Int.sub_mul, Int.sub_mul, this, k1]
  have l2 : (Q - max (P + Q - a * C) 0) * M = (Y - max (X + Y - a * M) 0) * C := by
    have := v1 a
    rw [Int.sub_mul, Int.sub_mul, this, k2]
  constructor
  · intro h
    rw [h, l2] at l1
    exact (Int.eq_of_mul_eq_mul_right (by omega) l1).symm
  · intro h
    rw [h, ← l2] at l1
    exact Int.eq_of_mul_eq_mul_right (by omega) l1
theorem fa_comm {a b : Int} {x y : Rt} (h : faB a b x y = true) : faB b a y x = true := by
  unfold faB at *
  rw [decide_eq_true_eq] at *
  have e1 : y.n * x.d + x.n * y.d = x.n * y.d + y.n * x.d := by omega
  have e2 : y.d * x.d = x.d * y.d := by grind
  rw [e1, e2]
  exact h.symm
/-- Two claimants can't get more and less by the garment. -/
theorem pair_no {a b : Int} {x y x' y' : Rt} (dx : 1 ≤ x.d) (dy : 1 ≤ y.d) (dx' : 1 ≤ x'.d) (dy' : 1 ≤ y'.d) (h : faB a b x y = true) (h' : faB a b x' y' = true)
    (h1 : x.n * x'.d < x'.n * x.d) (h2 : y'.n * y.d < y.n * y'.d) : False := by
  have q1 : 1 ≤ y.d * y'.d := Int.mul_pos (by omega) (by omega)
  have q2 : 1 ≤ x.d * x'.d := Int.mul_pos (by omega) (by omega)
  obtain ⟨M, hM⟩ : ∃ M, M = (x.d * x'.d) * (y.d * y'.d) := ⟨_, rfl⟩
  have hM1 : 1 ≤ M := by rw [hM]; exact Int.mul_pos (by omega) (by omega)
  have s1 := (fa_scale (M := M) (X := x.n * x'.d * (y.d * y'.d)) (Y := y.n * y'.d * (x.d * x'.d)) (by rw [hM]; grind) (by rw [hM]; grind) hM1 dx dy).1 h
  have s2 := (fa_scale (M := M) (X := x'.n * x.d * (y.d * y'.d)) (Y := y'.n * y.d * (x.d * x'.d)) (by rw [hM]; grind) (by rw [hM]; grind) hM1 dx' dy').1 h'
  have t1 : x.n * x'.d * (y.d * y'.d) < x'.n * x.d * (y.d * y'.d) := Int.mul_lt_mul_of_pos_right h1 (by omega)
  have t2 : y'.n * y.d * (x.d * x'.d) < y.n * y'.d * (x.d * x'.d) := Int.mul_lt_mul_of_pos_right h2 (by omega)
  generalize x.n * x'.d * (y.d * y'.d) = X1 at *
  generalize x'.n * x.d * (y.d * y'.d) = X2 at *
  generalize y'.n * y.d * (x.d * x'.d) = Y2 at *
  generalize y.n * y'.d * (x.d * x'.d) = Y1 at *
  generalize a * M = A at *
  generalize b * M = B at *
  omega
/-! ### sums -/
theorem sums_cmp {D Z : List Rt} {n : Nat} (hD : ∀ i, i < n → 1 ≤ dN D i) (hZ : ∀ i, i < n → 1 ≤ dN Z i) (hle : ∀ i, i < n → nN D i * dN Z i ≤ nN Z i * dN D i) :
    ∀ k, k ≤ n → (1 ≤ cmN D k ∧ 1 ≤ cmN Z k) ∧ suN D k * cmN Z k ≤ suN Z k * cmN D k ∧ ((∃ i, i < k ∧ nN D i * dN Z i < nN Z i * dN D i) → suN D k * cmN Z k < suN Z k * cmN D k) := by
  intro k
  induction k with
  | zero => intro _; exact ⟨⟨Nat.le_refl _, Nat.le_refl _⟩, by simp [suN], fun ⟨i, h, _⟩ => absurd h (Nat.not_lt_zero _)⟩
  | succ k ih =>
    intro hk
    obtain ⟨⟨c1, c2⟩, a, b⟩ := ih (by omega)
    have d1 := hD k (by omega)
    have d2 := hZ k (by omega)
    have l := hle k (by omega)
    rw [suN_succ, cmN_succ, suN_succ, cmN_succ]
    have b' : (∃ i, i < k ∧ nN D i * dN Z i < nN Z i * dN D i) → suN D k * cmN Z k < suN Z k * cmN D k := b
    clear b
    have hs : (∃ i, i < k + 1 ∧ nN D i * dN Z i < nN Z i * dN D i) → (∃ i, i < k ∧ nN D i * dN Z i < nN Z i * dN D i) ∨ nN D k * dN Z k < nN Z k * dN D k := fun ⟨i, h1, h2⟩ => by
      rcases Nat.lt_succ_iff_lt_or_eq.1 h1 with h | rfl
      · exact .inl ⟨i, h, h2⟩
      · exact .inr h2
    generalize (∃ i, i < k + 1 ∧ nN D i * dN Z i < nN Z i * dN D i) = E1 at *
    generalize (∃ i, i < k ∧ nN D i * dN Z i < nN Z i * dN D i) = E0 at *
    generalize cmN D k = cD at *
    generalize cmN Z k = cZ at *
    generalize suN D k = sD at *
    generalize suN Z k = sZ at *
    generalize dN D k = dD at *
    generalize dN Z k = dZ at *
    generalize nN D k = nD at *
    generalize nN Z k = nZ at *
    have p1 : 1 ≤ dD * dZ := Nat.mul_pos d1 d2
    have p2 : 1 ≤ cD * cZ := Nat.mul_pos c1 c2
    have e1 : (sD * dD + cD * nD) * (cZ * dZ) = sD * cZ * (dD * dZ) + cD * cZ * (nD * dZ) := by grind
    have e2 : (sZ * dZ + cZ * nZ) * (cD * dD) = sZ * cD * (dD * dZ) + cD * cZ * (nZ * dD) := by grind
    rw [e1, e2]
    have m1 : sD * cZ * (dD * dZ) ≤ sZ * cD * (dD * dZ) := Nat.mul_le_mul_right _ a
    have m2 : cD * cZ * (nD * dZ) ≤ cD * cZ * (nZ * dD) := Nat.mul_le_mul_left _ l
    refine ⟨⟨Nat.mul_pos c1 d1, Nat.mul_pos c2 d2⟩, by omega, fun h => ?_⟩
    rcases hs h with h | h
    · have := Nat.mul_lt_mul_of_pos_right (b' h) p1
      omega
    · have := Nat.mul_lt_mul_of_pos_left h p2
      omega
/-- No award by pairs is below another one by pairs that share the same. -/
theorem uniq_le {l : List Int} {D Z : List Rt} {n e : Nat} (hD : ∀ i, i < n → awG (rt D i)) (hZ : ∀ i, i < n → awG (rt Z i)) (sD : suN D n = cmN D n * e) (sZ : suN Z n = cmN Z n * e)
    (fD : ∀ i j, i < n → j < n → i ≠ j → faB (el l i) (el l j) (rt D i) (rt D j) = true) (fZ : ∀ i j, i < n → j < n → i ≠ j → faB (el l i) (el l j) (rt Z i) (rt Z j) = true) :
    ∀ i, i < n → ¬ (rt D i).n * (rt Z i).d < (rt Z i).n * (rt D i).d := by
  intro i hi hlt
  have gD : ∀ i, i < n → ((nN D i : Nat) : Int) = (rt D i).n ∧ ((dN D i : Nat) : Int) = (rt D i).d ∧ 1 ≤ (rt D i).d := fun i hi => by
    have := hD i hi; unfold awG at this; unfold nN dN; omega
  have gZ : ∀ i, i < n → ((nN Z i : Nat) : Int) = (rt Z i).n ∧ ((dN Z i : Nat) : Int) = (rt Z i).d ∧ 1 ≤ (rt Z i).d := fun i hi => by
    have := hZ i hi; unfold awG at this; unfold nN dN; omega
  by_cases hall : ∀ j, j < n → nN D j * dN Z j ≤ nN Z j * dN D j
  · have hi' : nN D i * dN Z i < nN Z i * dN D i := by
      obtain ⟨a1, a2, _⟩ := gD i hi
      obtain ⟨b1, b2, _⟩ := gZ i hi
      rw [← a1, ← a2, ← b1, ← b2] at hlt
      exact_mod_cast hlt
    have := (sums_cmp (fun i hi => by have := gD i hi; omega) (fun i hi => by have := gZ i hi; omega) hall n (Nat.le_refl _)).2.2 ⟨i, hi, hi'⟩
    rw [sD, sZ] at this
    have e1 : cmN D n * e * cmN Z n = cmN Z n * e * cmN D n := by grind
    omega
  · have : ∃ j, j < n ∧ nN Z j * dN D j < nN D j * dN Z j := by
      refine Classical.byContradiction fun hc => hall fun j hj => ?_
      rcases Nat.lt_or_ge (nN Z j * dN D j) (nN D j * dN Z j) with h | h
      · exact absurd ⟨j, hj, h⟩ hc
      · exact h
    obtain ⟨j, hj, hlt2⟩ := this
    have hlt3 : (rt Z j).n * (rt D j).d < (rt D j).n * (rt Z j).d := by
      obtain ⟨a1, a2, _⟩ := gD j hj
      obtain ⟨b1, b2, _⟩ := gZ j hj
      rw [← a1, ← a2, ← b1, ← b2]
      exact_mod_cast hlt2
    have hij : i ≠ j := fun h => by subst h; omega
    exact pair_no (gD i hi).2.2 (gD j hj).2.2 (gZ i hi).2.2 (gZ j hj).2.2 (fD i j hi hj hij) (fZ i j hi hj hij) hlt (by
      have e1 : (rt Z j).n * (rt D j).d = (rt Z j).n * (rt D j).d := rfl
      exact hlt3)
/-! ### the old rule -/
theorem hv_val {g : Rt} {Q F : Int} (hd : 1 ≤ g.d) (h : g.n * Q = F * g.d) : (mk g.n (2 * g.d)).n * (2 * Q) = F * (mk g.n (2 * g.d)).d := by
  have h4 := mk_val g.n (2 * g.d)
  have h5 : ((mk g.n (2 * g.d)).n * (2 * Q)) * g.d = (F * (mk g.n (2 * g.d)).d) * g.d := by grind
  exact Int.eq_of_mul_eq_mul_right (by omega) h5
theorem ls_val {g : Rt} {Q F x : Int} (hd : 1 ≤ g.d) (h : g.n * Q = F * g.d) : (mk (x * g.d - g.n) g.d).n * Q = (x * Q - F) * (mk (x * g.d - g.n) g.d).d := by
  have h4 := mk_val (x * g.d - g.n) g.d
  have h5 : ((mk (x * g.d - g.n) g.d).n * Q) * g.d = ((x * Q - F) * (mk (x * g.d - g.n) g.d).d) * g.d := by grind
  exact Int.eq_of_mul_eq_mul_right (by omega) h5
theorem old_pair {l : List Int} {e : Int} (h : okE l e) {i k : Nat} (hi : i < l.length) (hk : k < l.length) : faB (el l i) (el l k) (shR l e 4 i) (shR l e 4 k) = true := by
  have he := h.2
  have xi := h.1.2 i hi
  have xk := h.1.2 k hk
  unfold okC at xi xk
  have di := (gd_sh h 4 hi).2.1
  have dk := (gd_sh h 4 hk).2.1
  have key : ∀ E, okE l E → ∃ Q α β X Y : Int, 1 ≤ Q ∧ (α = el l i * Q ∧ β = el l k * Q) ∧ ((eqL l E i).n * Q = X * (eqL l E i).d ∧ (eqL l E k).n * Q = Y * (eqL l E k).d) ∧ (1 ≤ (eqL l E i).d ∧ 1 ≤ (eqL l E k).d) ∧ ((X = α ∧ Y = β) ∨ ∃ r, 0 ≤ r ∧ X = min α r ∧ Y = min β r) := fun E hE => by
    have b := lvl_b hE.1 hE.2
    have v1 := lvF_val hE hi
    have v2 := lvF_val hE hk
    refine ⟨lvQ (lvl l E).2, _, _, lvF (lvl l E).1 (lvl l E).2 (el l i), lvF (lvl l E).1 (lvl l E).2 (el l k), lvQ_pos b.2.1, ⟨rfl, rfl⟩, ⟨v1, v2⟩, ⟨(eqL_b hE.1 hE.2 hi).2.1, (eqL_b hE.1 hE.2 hk).2.1⟩, ?_⟩
    unfold lvF lvQ
    by_cases h0 : (lvl l E).2 = 0
    · left; rw [if_pos h0, if_pos h0, if_pos h0]; omega
    · right
      rw [if_neg h0, if_neg h0, if_neg h0]
      refine ⟨(lvl l E).1, b.1.1, ?_, ?_⟩ <;> split <;> omega
  have hs : shR l e 4 = (if 2 * e ≤ sm l then hvL (eqL l (2 * e)) else lsL l (hvL (eqL l (2 * (sm l - e))))) := rfl
  rw [hs] at di dk ⊢
  by_cases h2 : 2 * e ≤ sm l
  · rw [if_pos h2] at di dk ⊢
    obtain ⟨Q, α, β, X, Y, hQ, ⟨ha, hb⟩, ⟨v1, v2⟩, ⟨d1, d2⟩, hm⟩ := key _ (okE_two h h2)
    have hα : 0 ≤ α := by rw [ha]; exact Int.mul_nonneg (by omega) (by omega)
    have hβ : 0 ≤ β := by rw [hb]; exact Int.mul_nonneg (by omega) (by omega)
    refine (fa_scale (M := 2 * Q) (X := X) (Y := Y) (hv_val d1 v1) (hv_val d2 v2) (by omega) di dk).2 ?_
    have e1 : el l i * (2 * Q) = 2 * α := by rw [ha]; grind
    have e2 : el l k * (2 * Q) = 2 * β := by rw [hb]; grind
    rw [e1, e2]
    rcases hm with ⟨rfl, rfl⟩ | ⟨r, hr, rfl, rfl⟩
    · clear v1 v2 ha hb e1 e2 di dk; omega
    · clear v1 v2 ha hb e1 e2 di dk; omega
  · rw [if_neg h2] at di dk ⊢
    obtain ⟨Q, α, β, X, Y, hQ, ⟨ha, hb⟩, ⟨v1, v2⟩, ⟨d1, d2⟩, hm⟩ := key _ (okE_two (okE_mis h) (by omega))
    have hα : 0 ≤ α := by rw [ha]; exact Int.mul_nonneg (by omega) (by omega)
    have hβ : 0 ≤ β := by rw [hb]; exact Int.mul_nonneg (by omega) (by omega)
    have e1 : el l i * (2 * Q) = 2 * α := by rw [ha]; grind
    have e2 : el l k * (2 * Q) = 2 * β := by rw [hb]; grind
    refine (fa_scale (M := 2 * Q) (X := el l i * (2 * Q) - X) (Y := el l k * (2 * Q) - Y) (ls_val (mk_pos (by omega)) (hv_val d1 v1)) (ls_val (mk_pos (by omega)) (hv_val d2 v2)) (by omega) di dk).2 ?_
    rw [e1, e2]
    rcases hm with ⟨rfl, rfl⟩ | ⟨r, hr, rfl, rfl⟩
    · clear v1 v2 ha hb e1 e2 di dk; omega
    · clear v1 v2 ha hb e1 e2 di dk; omega
/-- The old rule's awards agree. -/
theorem old_agrees {l : List Int} {e : Int} (h : okE l e) : agB l e (mkQ (shR l e 4) l.length) = true := by
  obtain ⟨p, q⟩ := sh_share h 4
  have ha : allF l (mkQ (shR l e 4) l.length) l.length := fun i hi k hk => by
    unfold faP
    rw [mkQ_at _ _ _ hi, mkQ_at _ _ _ (by omega)]
    exact old_pair h hi (by omega)
  unfold agB
  rw [if_pos p, q, decide_eq_true ha]; rfl
theorem awG_all {l : List Int} {e : Int} {D : List Rt} (hk : okA l e D) (hs : shB l e D = true) : (∀ i, i < l.length → awG (rt D i)) ∧ suN D l.length = cmN D l.length * e.toNat := by
  have hl := hk.2.1
  have hb := sh_bw hs
  refine ⟨fun i hi => awG_of (hk.1.1.2 i hi) (hk.2.2 i (by omega)) (hb i (by omega)), ?_⟩
  unfold shB at hs
  rw [Bool.and_eq_true] at hs
  have := hs.2
  unfold addsB at this
  rw [decide_eq_true_eq, hl] at this
  exact this
/-- And no others. -/
theorem old_alone {l : List Int} {e : Int} {D : List Rt} (h : agB l e D = true) : D.length = l.length ∧ ∀ i, i < l.length → (rt D i).n * (shR l e 4 i).d = (shR l e 4 i).n * (rt D i).d := by
  unfold agB at h
  by_cases hk : okA l e D
  · rw [if_pos hk, Bool.and_eq_true, decide_eq_true_eq] at h
    obtain ⟨hs, ha⟩ := h
    obtain ⟨p, q⟩ := sh_share hk.1 4
    obtain ⟨g1, s1⟩ := awG_all hk hs
    obtain ⟨g2, s2⟩ := awG_all p q
    have f1 : ∀ i j, i < l.length → j < l.length → i ≠ j → faB (el l i) (el l j) (rt D i) (rt D j) = true := fun i j hi hj hij => by
      rcases Nat.lt_or_gt_of_ne hij with h | h
      · exact fa_comm (ha j hj i h)
      · exact ha i hi j h
    have f2 : ∀ i j, i < l.length → j < l.length → i ≠ j → faB (el l i) (el l j) (rt (mkQ (shR l e 4) l.length) i) (rt (mkQ (shR l e 4) l.length) j) = true := fun i j hi hj _ => by
      rw [mkQ_at _ _ _ hi, mkQ_at _ _ _ hj]; exact old_pair hk.1 hi hj
    refine ⟨hk.2.1, fun i hi => ?_⟩
    have a := uniq_le g1 g2 s1 s2 f1 f2 i hi
    have b := uniq_le g2 g1 s2 s1 f2 f1 i hi
    rw [mkQ_at _ _ _ hi] at a b
    omega
  · rw [if_neg hk] at h; cases h
/-! ### two claims -/
theorem mk_mk {n d : Int} (hd : 1 ≤ d) : mk (mk n d).n (mk n d).d = mk n d := mk_congr (mk_pos hd) hd (mk_val n d)
theorem old_mk {l : List Int} {e : Int} (h : okE l e) {i : Nat} (hi : i < l.length) : mk (shR l e 4 i).n (shR l e 4 i).d = shR l e 4 i := by
  have he := h.2
  have hs : shR l e 4 = (if 2 * e ≤ sm l then hvL (eqL l (2 * e)) else lsL l (hvL (eqL l (2 * (sm l - e))))) := rfl
  rw [hs]
  by_cases h2 : 2 * e ≤ sm l
  · rw [if_pos h2]
    have := (eqL_b (okE_two h h2).1 (okE_two h h2).2 hi).2.1
    exact mk_mk (by omega)
  · rw [if_neg h2]
    have o := okE_two (okE_mis h) (by omega)
    exact mk_mk (hvL_b (eqL_b o.1 o.2 hi)).2.1
theorem two_one {a b e C P Q : Int} (hC : 1 ≤ C) (hs : P + Q = e * C) (hf : P - max (P + Q - b * C) 0 = Q - max (P + Q - a * C) 0) : 2 * P = tgR a b e * C := by
  have e1 : max (e * C - b * C) 0 = max (e - b) 0 * C := by rw [max_mul0 (by omega)]; congr 1; grind
  have e2 : max (e * C - a * C) 0 = max (e - a) 0 * C := by rw [max_mul0 (by omega)]; congr 1; grind
  rw [hs, e1, e2] at hf
  have e3 : tgR a b e = e + max (e - b) 0 - max (e - a) 0 := by unfold tgR; omega
  rw [e3]
  have : (e + max (e - b) 0 - max (e - a) 0) * C = e * C + max (e - b) 0 * C - max (e - a) 0 * C := by grind
  omega
theorem two_gar {l : List Int} {e : Int} (h : okE l e) (hl : l.length = 2) : gaOk (el l 0) (el l 1) e ∧ shR l e 4 0 = mk (tgR (el l 0) (el l 1) e) 2 ∧ shR l e 4 1 = mk (tgR (el l 1) (el l 0) e) 2 := by
  have hsm : sm l = el l 0 + el l 1 := by unfold sm; rw [hl]; simp [tot]
  have he := h.2
  rw [hsm] at he
  refine ⟨⟨h.1.2 0 (by omega), h.1.2 1 (by omega), he.1, he.2⟩, ?_⟩
  obtain ⟨p, q⟩ := sh_share h 4
  obtain ⟨g, s⟩ := awG_all p q
  have m0 := mkQ_at (shR l e 4) l.length 0 (by omega)
  have m1 := mkQ_at (shR l e 4) l.length 1 (by omega)
  have g0 := g 0 (by omega)
  have g1 := g 1 (by omega)
  rw [m0] at g0
  rw [m1] at g1
  rw [hl] at s
  have f := old_pair h (i := 0) (k := 1) (by omega) (by omega)
  have k0 := old_mk h (i := 0) (by omega)
  have k1 := old_mk h (i := 1) (by omega)
  have hs : (shR l e 4 0).n * (shR l e 4 1).d + (shR l e 4 1).n * (shR l e 4 0).d = e * ((shR l e 4 0).d * (shR l e 4 1).d) := by
    have s' : ((suN (mkQ (shR l e 4) l.length) 2 : Nat) : Int) = ((cmN (mkQ (shR l e 4) l.length) 2 * e.toNat : Nat) : Int) := by
      have := s
      rw [hl]
      exact_mod_cast this
    simp only [suN, cmN, nN, dN, m0, m1] at s'
    unfold awG at g0 g1
    push_cast at s'
    rw [Int.toNat_of_nonneg (by omega), Int.toNat_of_nonneg (by omega), Int.toNat_of_nonneg (by omega), Int.toNat_of_nonneg (by omega), Int.toNat_of_nonneg (by omega)] at s'
    grind
  have d0 : 1 ≤ (shR l e 4 0).d := by unfold awG at g0; omega
  have d1 : 1 ≤ (shR l e 4 1).d := by unfold awG at g1; omega
  have f' := fa_comm f
  unfold faB at f f'
  rw [decide_eq_true_eq] at f f'
  generalize shR l e 4 0 = x at *
  generalize shR l e 4 1 = y at *
  generalize el l 0 = a at *
  generalize el l 1 = b at *
  have hC : 1 ≤ x.d * y.d := Int.mul_pos (by omega) (by omega)
  have hC' : 1 ≤ y.d * x.d := Int.mul_pos (by omega) (by omega)
  have r1 := two_one (a := a) (b := b) (e := e) hC hs f
  have r2 := two_one (a := b) (b := a) (e := e) hC' (by grind) f'
  constructor
  · rw [← k0]
    refine mk_congr d0 (by omega) ?_
    have : (x.n * 2) * y.d = (tgR a b e * x.d) * y.d := by grind
    exact Int.eq_of_mul_eq_mul_right (by omega) this
  · rw [← k1]
    refine mk_congr d1 (by omega) ?_
    have : (y.n * 2) * x.d = (tgR b a e * y.d) * x.d := by grind
    exact Int.eq_of_mul_eq_mul_right (by omega) this
theorem two_mid {l : List Int} {e : Int} (h : okE l e) (hl : l.length = 2) {i : Nat} (hi : i < 2) : meR l e i = shR l e 4 i := by
  obtain ⟨ho, g0, g1⟩ := two_gar h hl
  obtain ⟨o1, o2, o3, o4⟩ := ho
  unfold okC at o1 o2
  have h4 : (2 : Nat) ^ 2 = 0 + 1 + 1 + 1 + 1 := rfl
  have hf : fac 2 = 2 := by decide
  rcases (show i = 0 ∨ i = 1 by omega) with rfl | rfl
  · rw [g0]
    unfold meR
    rw [hl, h4, hf]
    have : toS l e 0 (0 + 1 + 1 + 1 + 1) = tgR (el l 0) (el l 1) e := by
      simp only [toS_succ, toS, trS, lfS, hl, suS, cnS, inS, fac]
      simp
      unfold tgR
      rw [show fac 0 = 1 from rfl, show fac 1 = 1 from rfl]
      omega
    rw [this]
  · rw [g1]
    unfold meR
    rw [hl, h4, hf]
    have : toS l e 1 (0 + 1 + 1 + 1 + 1) = tgR (el l 1) (el l 0) e := by
      simp only [toS_succ, toS, trS, lfS, hl, suS, cnS, inS, fac]
      simp
      unfold tgR
      rw [show fac 0 = 1 from rfl, show fac 1 = 1 from rfl]
      omega
    rw [this]
end M
end Go.Proofs.Ythleekdkbgnabaa
end
