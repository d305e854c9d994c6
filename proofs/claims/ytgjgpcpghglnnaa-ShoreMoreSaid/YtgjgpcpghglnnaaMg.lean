/-
  No order does less harm than the best one: plain mathematics.
-/
import Derived.Test.YtgjgpcpghglnnaaMathC
namespace Go.Proofs.Ytgjgpcpghglnnaa.M
set_option linter.unusedVariables false
set_option linter.unusedSimpArgs false

/-! ### the lead has the greatest rate -/
theorem tr {a b c d e f : Int} (hd : 0 < d) (hb : 0 ≤ b) (hf : 0 ≤ f) (h1 : a * d ≤ c * b) (h2 : c * f ≤ e * d) : a * f ≤ e * b := by
  have e1 := Int.mul_le_mul_of_nonneg_right h1 hf
  have e2 := Int.mul_le_mul_of_nonneg_right h2 hb
  have e3 : d * (a * f) ≤ d * (e * b) := by grind
  exact Int.le_of_mul_le_mul_left e3 hd
/-- All jobs of a beach take an hour at least. -/
def Hp (l : List Jb) : Prop := ∀ i, i < l.length → 1 ≤ (jb l i).h
theorem sh_pos {l : List Jb} (h : Hp l) (f : Nat) : ∀ k, f + k ≤ l.length → (k : Int) ≤ sh l f k := by
  intro k
  induction k with
  | zero => intro _; exact Int.le_refl _
  | succ k ih =>
    intro hk
    have h1 := ih (by omega)
    have h2 := h (f + k) (by omega)
    rw [sh_succ]
    omega
theorem bk_max {l : List Jb} (h : Hp l) (f : Nat) : ∀ k, f + k + 1 ≤ l.length → ∀ u, 1 ≤ u → u ≤ k + 1 → sm l f u * sh l f (bk l f k) ≤ sm l f (bk l f k) * sh l f u := by
  intro k
  induction k with
  | zero =>
    intro hk u h1 h2
    have : u = 1 := by omega
    subst this
    exact Int.le_refl _
  | succ k ih =>
    intro hk u h1 h2
    have hb := bk_b l f k
    have p1 := sh_pos h f (bk l f k) (by omega)
    have p2 := sh_pos h f u (by omega)
    have p3 := sh_pos h f (k + 2) (by omega)
    rw [bk_succ]
    by_cases hc : sm l f (k + 2) * sh l f (bk l f k) < sm l f (bk l f k) * sh l f (k + 2)
    · rw [if_pos hc]
      rcases Nat.lt_or_ge u (k + 2) with h3 | h3
      · exact ih (by omega) u h1 (by omega)
      · have : u = k + 2 := by omega
        subst this
        omega
    · rw [if_neg hc]
      rcases Nat.lt_or_ge u (k + 2) with h3 | h3
      · exact tr (d := sh l f (bk l f k)) (c := sm l f (bk l f k)) (by omega) (by omega) (by omega) (ih (by omega) u h1 (by omega)) (by omega)
      · have : u = k + 2 := by omega
        subst this
        exact Int.le_refl _
/-- No piece of a beach has a greater rate than its lead. -/
theorem ld_max {l : List Jb} (h : Hp l) {f : Nat} (hf : f < l.length) {u : Nat} (h2 : f + u ≤ l.length) : sm l f u * sh l f (ld l f) ≤ sm l f (ld l f) * sh l f u := by
  rcases Nat.eq_zero_or_pos u with rfl | h1
  · simp [sm, sh]
  · exact bk_max h f _ (by omega) u h1 (by omega)
/-- Nor has the lead of any beach a greater one than the greatest. -/
theorem gr_max {J : List (List Jb)} {nx : Nat → Nat} (hJ : ∀ a, Hp (be J a)) (hn : ∀ i, nx i ≤ (be J i).length) : ∀ k p c, gr J nx k = some (p, c) → ∀ a, a < k → nx a < (be J a).length →
    sm (be J a) (nx a) (ld (be J a) (nx a)) * sh (be J p) (nx p) c ≤ sm (be J p) (nx p) c * sh (be J a) (nx a) (ld (be J a) (nx a)) := by
  intro k
  induction k with
  | zero => intro p c h; cases h
  | succ k ih =>
    intro p c h a ha hla
    have hpos : ∀ b, nx b < (be J b).length → 0 < sh (be J b) (nx b) (ld (be J b) (nx b)) := fun b hb => by
      have h1 := ld_b (be J b) (nx b) hb
      have := sh_pos (hJ b) (nx b) _ h1.2
      omega
    unfold gr at h
    by_cases hk : nx k = (be J k).length
    · rw [if_pos hk] at h
      have : a ≠ k := fun e => by subst e; omega
      exact ih p c h a (by omega) hla
    · rw [if_neg hk] at h
      have hlk : nx k < (be J k).length := by have := hn k; omega
      cases hg : gr J nx k with
      | none =>
        rw [hg] at h
        simp only [Option.some.injEq, Prod.mk.injEq] at h
        obtain ⟨rfl, rfl⟩ := h
        rcases Nat.lt_or_ge a k with h1 | h1
        · exfalso
          exact gr_none hn k hg a h1 hla
        · have : a = k := by omega
          subst this
          exact Int.le_refl _
      | some q =>
        obtain ⟨i, c'⟩ := q
        rw [hg] at h
        simp only [] at h
        obtain ⟨s1, s2, s3⟩ := gr_spec J nx hn k i c' hg
        have hp1 := hpos i s2
        rw [← s3] at hp1
        have hp2 := hpos k hlk
        by_cases hlt : sm (be J i) (nx i) c' * sh (be J k) (nx k) (ld (be J k) (nx k)) < sm (be J k) (nx k) (ld (be J k) (nx k)) * sh (be J i) (nx i) c'
        · rw [if_pos hlt] at h
          simp only [Option.some.injEq, Prod.mk.injEq] at h
          obtain ⟨rfl, rfl⟩ := h
          rcases Nat.lt_or_ge a k with h1 | h1
          · have hp3 := hpos a hla
            exact tr (d := sh (be J i) (nx i) c') (c := sm (be J i) (nx i) c') hp1 (by omega) (by omega) (ih i c' hg a h1 hla) (by omega)
          · have : a = k := by omega
            subst this
            exact Int.le_refl _
        · rw [if_neg hlt] at h
          simp only [Option.some.injEq, Prod.mk.injEq] at h
          obtain ⟨rfl, rfl⟩ := h
          rcases Nat.lt_or_ge a k with h1 | h1
          · exact ih i c' hg a h1 hla
          · have : a = k := by omega
            subst this
            omega
where
  gr_none {J : List (List Jb)} {nx : Nat → Nat} (hn : ∀ i, nx i ≤ (be J i).length) : ∀ k, gr J nx k = none → ∀ a, a < k → nx a < (be J a).length → False := by
    intro k
    induction k with
    | zero => intro _ a ha; omega
    | succ k ih =>
      intro h a ha hla
      unfold gr at h
      by_cases hk : nx k = (be J k).length
      · rw [if_pos hk] at h
        have : a ≠ k := fun e => by subst e; omega
        exact ih h a (by omega) hla
      · rw [if_neg hk] at h
        cases hg : gr J nx k with
        | none => rw [hg] at h; cases h
        | some q =>
          rw [hg] at h
          simp only [] at h
          split at h <;> cases h

/-! ### the harm of an order from a state on -/
def upd (nx : Nat → Nat) (b c : Nat) : Nat → Nat := fun k => if k = b then nx b + c else nx k
theorem upd_self (nx : Nat → Nat) (b c : Nat) : upd nx b c b = nx b + c := if_pos rfl
theorem upd_ne (nx : Nat → Nat) {b k : Nat} (c : Nat) (h : k ≠ b) : upd nx b c k = nx k := if_neg h
theorem upd_upd (nx : Nat → Nat) (b c d : Nat) : upd (upd nx b c) b d = upd nx b (c + d) := by
  funext k
  by_cases e : k = b
  · subst e; rw [upd_self, upd_self, upd_self]; omega
  · rw [upd_ne _ _ e, upd_ne _ _ e, upd_ne _ _ e]
theorem upd_comm (nx : Nat → Nat) {a b : Nat} (c d : Nat) (h : a ≠ b) : upd (upd nx a c) b d = upd (upd nx b d) a c := by
  funext k
  by_cases e : k = b
  · subst e; rw [upd_self, upd_ne _ _ (Ne.symm h), upd_ne _ _ (Ne.symm h), upd_self]
  · rw [upd_ne _ _ e]
    by_cases e2 : k = a
    · subst e2; rw [upd_self, upd_self, upd_ne _ _ h]
    · rw [upd_ne _ _ e2, upd_ne _ _ e2, upd_ne _ _ e]
/-- The harm of the jobs that are done in this order, from a state and an hour on. -/
def hL (J : List (List Jb)) : (Nat → Nat) → Int → List Nat → Int
  | _, _, [] => 0
  | nx, t, b :: o => (jb (be J b) (nx b)).m * (t + (jb (be J b) (nx b)).h) + hL J (upd nx b 1) (t + (jb (be J b) (nx b)).h) o
/-- Their Harm. -/
def mL (J : List (List Jb)) : (Nat → Nat) → List Nat → Int
  | _, [] => 0
  | nx, b :: o => (jb (be J b) (nx b)).m + mL J (upd nx b 1) o
/-- Can they be done? -/
def Vl (J : List (List Jb)) : (Nat → Nat) → List Nat → Prop
  | _, [] => True
  | nx, b :: o => b < J.length ∧ nx b < (be J b).length ∧ Vl J (upd nx b 1) o
theorem hL_cons (J : List (List Jb)) (nx : Nat → Nat) (t : Int) (b : Nat) (o : List Nat) : hL J nx t (b :: o) = (jb (be J b) (nx b)).m * (t + (jb (be J b) (nx b)).h) + hL J (upd nx b 1) (t + (jb (be J b) (nx b)).h) o := rfl
theorem mL_cons (J : List (List Jb)) (nx : Nat → Nat) (b : Nat) (o : List Nat) : mL J nx (b :: o) = (jb (be J b) (nx b)).m + mL J (upd nx b 1) o := rfl
/-- The state with x jobs of beach p done, while k of its lead are left. -/
def cu (q : Nat → Nat) (p k x : Nat) : Nat → Nat := fun a => if a = p ∧ 0 < k then x else q a
theorem cu_p (q : Nat → Nat) (p k x : Nat) : cu q p (k + 1) x p = x := if_pos ⟨rfl, by omega⟩
theorem cu_ne (q : Nat → Nat) {p a : Nat} (k x : Nat) (h : a ≠ p) : cu q p k x a = q a := if_neg fun e => h e.1
theorem cu_0 (q : Nat → Nat) (p x : Nat) : cu q p 0 x = q := by funext a; exact if_neg fun e => absurd e.2 (Nat.lt_irrefl _)
theorem hL_add (J : List (List Jb)) : ∀ o nx t d, hL J nx (t + d) o = hL J nx t o + d * mL J nx o := by
  intro o
  induction o with
  | nil => intro nx t d; simp [hL, mL]
  | cons b o ih =>
    intro nx t d
    unfold hL mL
    have e : t + d + (jb (be J b) (nx b)).h = t + (jb (be J b) (nx b)).h + d := by omega
    rw [e, ih]
    grind
/-- Sums over the first n beaches. -/
def qs (f : Nat → Int) : Nat → Int
  | 0 => 0
  | n + 1 => qs f n + f n
theorem qs_upd {f g : Nat → Int} {b : Nat} {d : Int} (h1 : g b = f b + d) (h2 : ∀ a, a ≠ b → g a = f a) : ∀ n, qs g n = qs f n + if b < n then d else 0 := by
  intro n
  induction n with
  | zero => rfl
  | succ n ih =>
    show qs g n + g n = qs f n + f n + _
    rw [ih]
    by_cases e : n = b
    · subst e
      rw [if_neg (Nat.lt_irrefl _), if_pos (Nat.lt_succ_self _), h1]
      omega
    · rw [h2 n e]
      by_cases h : b < n
      · rw [if_pos h, if_pos (by omega)]; omega
      · rw [if_neg h, if_neg (by omega)]; omega
theorem qs_nonneg {f : Nat → Int} : ∀ n, (∀ a, a < n → 0 ≤ f a) → 0 ≤ qs f n := by
  intro n
  induction n with
  | zero => intro _; exact Int.le_refl _
  | succ n ih =>
    intro h
    have h1 := ih fun a ha => h a (by omega)
    have h2 := h n (Nat.lt_succ_self _)
    show 0 ≤ qs f n + f n
    omega
/-- What is left out of a list: the first k times that a beach is named. -/
def rem (p : Nat) : Nat → List Nat → List Nat
  | 0, o => o
  | _ + 1, [] => []
  | k + 1, b :: o => if b = p then rem p k o else b :: rem p (k + 1) o
/-- The harm of the jobs of a beach, done one after the other from the hour at which u of them are done. -/
def wL (l : List Jb) (f : Nat) (u : Nat) : Nat → Int
  | 0 => 0
  | k + 1 => (jb l (f + u)).m * sh l f (u + 1) + wL l f (u + 1) k

section
variable {J : List (List Jb)} {p c : Nat} {s0 : Nat → Nat} {f : Nat}
/-- What the others are ahead of the lead's rate. -/
def dd (J : List (List Jb)) (HP MP : Int) (s0 q : Nat → Nat) (a : Nat) : Int := MP * sh (be J a) (s0 a) (q a - s0 a) - HP * sm (be J a) (s0 a) (q a - s0 a)
def qh (J : List (List Jb)) (s0 q : Nat → Nat) : Int := qs (fun a => sh (be J a) (s0 a) (q a - s0 a)) J.length
def qm (J : List (List Jb)) (s0 q : Nat → Nat) : Int := qs (fun a => sm (be J a) (s0 a) (q a - s0 a)) J.length
theorem dd_sum (J : List (List Jb)) (HP MP : Int) (s0 q : Nat → Nat) : ∀ n, qs (dd J HP MP s0 q) n = MP * qs (fun a => sh (be J a) (s0 a) (q a - s0 a)) n - HP * qs (fun a => sm (be J a) (s0 a) (q a - s0 a)) n := by
  intro n
  induction n with
  | zero => simp [qs]
  | succ n ih =>
    show qs (dd J HP MP s0 q) n + dd J HP MP s0 q n = MP * (qs _ n + _) - HP * (qs _ n + _)
    rw [ih]
    unfold dd
    grind
theorem qh_step {s0 q : Nat → Nat} {a : Nat} (ha : a < J.length) (hq : s0 a ≤ q a) : qh J s0 (upd q a 1) = qh J s0 q + (jb (be J a) (q a)).h := by
  unfold qh
  rw [qs_upd (b := a) (d := (jb (be J a) (q a)).h) (f := fun a => sh (be J a) (s0 a) (q a - s0 a)) ?_ ?_, if_pos ha]
  · rw [upd_self, show q a + 1 - s0 a = (q a - s0 a) + 1 by omega, sh_succ, show s0 a + (q a - s0 a) = q a by omega]
  · intro b hb
    rw [upd_ne _ _ hb]
theorem qm_step {s0 q : Nat → Nat} {a : Nat} (ha : a < J.length) (hq : s0 a ≤ q a) : qm J s0 (upd q a 1) = qm J s0 q + (jb (be J a) (q a)).m := by
  unfold qm
  rw [qs_upd (b := a) (d := (jb (be J a) (q a)).m) (f := fun a => sm (be J a) (s0 a) (q a - s0 a)) ?_ ?_, if_pos ha]
  · rw [upd_self, show q a + 1 - s0 a = (q a - s0 a) + 1 by omega, sm_succ, show s0 a + (q a - s0 a) = q a by omega]
  · intro b hb
    rw [upd_ne _ _ hb]

theorem ineq1 (HP MP Hu Mu T S xm xh W R Z : Int) (hD : 0 ≤ xh * (MP * T - HP * S)) (ih : HP * (W + R) + Z ≤ HP * R + HP * W + Z) (G : Int)
    (hi : G + HP * (Hu + xh) * S + (HP * (Mu + xm) - MP * (Hu + xh)) * T ≥ HP * (W + R) + Z) :
    HP * (xm * (Hu + T + xh)) + G + HP * Hu * S + (HP * Mu - MP * Hu) * T ≥ HP * (xm * (Hu + xh) + W + R) + Z := by
  grind
theorem ineq2 (HP MP Hu Mu T S xm xh W R Z G : Int) (hA : 0 ≤ xh * (MP * Hu - HP * Mu))
    (hi : G + HP * Hu * (S + xm) + (HP * Mu - MP * Hu) * (T + xh) ≥ HP * (W + R) + Z) :
    HP * (xm * (Hu + T + xh)) + G + HP * Hu * S + (HP * Mu - MP * Hu) * T ≥ HP * (W + (xm * (T + xh) + R)) + Z := by
  grind

/-- THE LEAD DONE AHEAD OF ALL ELSE DOES NO MORE HARM. -/
theorem front (hJ : ∀ a, Hp (be J a)) (hp : p < J.length) (hs : s0 p = f + c) (hc : f + c ≤ (be J p).length)
    (A1 : ∀ u, u ≤ c → sm (be J p) f u * sh (be J p) f c ≤ sm (be J p) f c * sh (be J p) f u)
    (A2 : ∀ a, a < J.length → ∀ t, s0 a + t ≤ (be J a).length → sm (be J a) (s0 a) t * sh (be J p) f c ≤ sm (be J p) f c * sh (be J a) (s0 a) t) :
    ∀ (o : List Nat) (u k : Nat) (q : Nat → Nat), u + k = c → (∀ a, s0 a ≤ q a ∧ q a ≤ (be J a).length) → (0 < k → q p = s0 p) → k ≤ o.count p →
      Vl J (cu q p k (f + u)) o →
      sh (be J p) f c * hL J (cu q p k (f + u)) (sh (be J p) f u + qh J s0 q) o + sh (be J p) f c * sh (be J p) f u * qm J s0 q + (sh (be J p) f c * sm (be J p) f u - sm (be J p) f c * sh (be J p) f u) * qh J s0 q
        ≥ sh (be J p) f c * (wL (be J p) f u k + hL J q (qh J s0 q) (rem p k o)) + sh (be J p) f c * sh (be J p) f c * (qm J s0 q + mL J q (rem p k o)) ∧ Vl J q (rem p k o) := by
  intro o
  induction o with
  | nil =>
    intro u k q huk hq hqp hcn hv
    have hk : k = 0 := by simpa using hcn
    subst hk
    have hu : u = c := by omega
    subst hu
    rw [cu_0]
    refine ⟨?_, trivial⟩
    simp only [rem, hL, mL, wL]
    grind
  | cons b o ih =>
    intro u k q huk hq hqp hcn hv
    have hDq : 0 ≤ sm (be J p) f c * qh J s0 q - sh (be J p) f c * qm J s0 q := by
      unfold qh qm
      rw [← dd_sum]
      refine qs_nonneg _ fun a ha => ?_
      have h1 := A2 a ha (q a - s0 a) (by have := hq a; omega)
      unfold dd
      rw [Int.mul_comm (sh (be J p) f c)]
      omega
    rcases Nat.eq_zero_or_pos k with rfl | hk
    · have hu : u = c := by omega
      subst hu
      rw [cu_0] at hv ⊢
      refine ⟨?_, hv⟩
      show _ ≥ sh (be J p) f u * (0 + hL J q (qh J s0 q) (b :: o)) + sh (be J p) f u * sh (be J p) f u * (qm J s0 q + mL J q (b :: o))
      rw [Int.add_comm (sh (be J p) f u) (qh J s0 q), hL_add]
      grind
    · obtain ⟨k, rfl⟩ : ∃ k', k = k' + 1 := ⟨k - 1, by omega⟩
      obtain ⟨v1, v2, v3⟩ := hv
      by_cases e : b = p
      · subst e
        have e0 : cu q b (k + 1) (f + u) b = f + u := cu_p _ _ _ _
        have e1 : upd (cu q b (k + 1) (f + u)) b 1 = cu q b k (f + (u + 1)) := by
          funext a
          by_cases ea : a = b
          · rw [ea, upd_self, e0]
            cases k with
            | zero => rw [cu_0]; have := hqp (by omega); omega
            | succ k => rw [cu_p]; omega
          · rw [upd_ne _ _ ea, cu_ne _ _ _ ea, cu_ne _ _ _ ea]
        rw [e0] at v2
        rw [e1] at v3
        have hcn' : k ≤ o.count b := by rw [List.count_cons_self] at hcn; omega
        obtain ⟨i1, i2⟩ := ih (u + 1) k q (by omega) hq (fun _ => hqp (by omega)) hcn' v3
        have hr : rem b (k + 1) (b :: o) = rem b k o := by show (if b = b then _ else _) = _; rw [if_pos rfl]
        rw [hr]
        refine ⟨?_, i2⟩
        have hxh := hJ b (f + u) v2
        have hD2 : 0 ≤ (jb (be J b) (f + u)).h * (sm (be J b) f c * qh J s0 q - sh (be J b) f c * qm J s0 q) := Int.mul_nonneg (by omega) hDq
        rw [hL_cons, e0, e1]
        show _ ≥ sh (be J b) f c * ((jb (be J b) (f + u)).m * sh (be J b) f (u + 1) + wL (be J b) f (u + 1) k + hL J q (qh J s0 q) (rem b k o)) + _
        have es : sh (be J b) f (u + 1) = sh (be J b) f u + (jb (be J b) (f + u)).h := sh_succ _ _ _
        have em : sm (be J b) f (u + 1) = sm (be J b) f u + (jb (be J b) (f + u)).m := sm_succ _ _ _
        rw [es, em] at i1
        rw [es]
        have et : sh (be J b) f u + (jb (be J b) (f + u)).h + qh J s0 q = sh (be J b) f u + qh J s0 q + (jb (be J b) (f + u)).h := by omega
        rw [et] at i1
        have := ineq1 (sh (be J b) f c) (sm (be J b) f c) (sh (be J b) f u) (sm (be J b) f u) (qh J s0 q) (qm J s0 q) (jb (be J b) (f + u)).m (jb (be J b) (f + u)).h (wL (be J b) f (u + 1) k) (hL J q (qh J s0 q) (rem b k o)) (sh (be J b) f c * sh (be J b) f c * (qm J s0 q + mL J q (rem b k o))) hD2 (by grind) _ i1
        grind
      · have e0 : cu q p (k + 1) (f + u) b = q b := cu_ne _ _ _ e
        have e1 : upd (cu q p (k + 1) (f + u)) b 1 = cu (upd q b 1) p (k + 1) (f + u) := by
          funext a
          by_cases ea : a = b
          · rw [ea, upd_self, e0, cu_ne _ _ _ e, upd_self]
          · rw [upd_ne _ _ ea]
            by_cases ep : a = p
            · rw [ep, cu_p, cu_p]
            · rw [cu_ne _ _ _ ep, cu_ne _ _ _ ep, upd_ne _ _ ea]
        rw [e0] at v2
        rw [e1] at v3
        have hcn' : k + 1 ≤ o.count p := by rw [List.count_cons_of_ne e] at hcn; exact hcn
        obtain ⟨i1, i2⟩ := ih u (k + 1) (upd q b 1) huk (fun a => by
          by_cases ea : a = b
          · subst ea; rw [upd_self]; have := hq a; omega
          · rw [upd_ne _ _ ea]; exact hq a) (fun h => by rw [upd_ne _ _ (Ne.symm e)]; exact hqp h) hcn' v3
        have hr : rem p (k + 1) (b :: o) = b :: rem p (k + 1) o := by show (if b = p then _ else _) = _; rw [if_neg e]
        rw [hr]
        refine ⟨?_, v1, v2, i2⟩
        have hxh := hJ b (q b) v2
        have hA : 0 ≤ (jb (be J b) (q b)).h * (sm (be J p) f c * sh (be J p) f u - sh (be J p) f c * sm (be J p) f u) := by
          have := A1 u (by omega)
          refine Int.mul_nonneg (by omega) ?_
          rw [Int.mul_comm (sh (be J p) f c)]
          omega
        rw [qh_step v1 (hq b).1, qm_step v1 (hq b).1] at i1
        rw [hL_cons, e0, e1, hL_cons, mL_cons]
        have et : sh (be J p) f u + (qh J s0 q + (jb (be J b) (q b)).h) = sh (be J p) f u + qh J s0 q + (jb (be J b) (q b)).h := by omega
        rw [et] at i1
        have := ineq2 (sh (be J p) f c) (sm (be J p) f c) (sh (be J p) f u) (sm (be J p) f u) (qh J s0 q) (qm J s0 q) (jb (be J b) (q b)).m (jb (be J b) (q b)).h (wL (be J p) f u (k + 1)) (hL J (upd q b 1) (qh J s0 q + (jb (be J b) (q b)).h) (rem p (k + 1) o)) (sh (be J p) f c * sh (be J p) f c * (qm J s0 q + (jb (be J b) (q b)).m + mL J (upd q b 1) (rem p (k + 1) o))) _ hA i1
        grind
end
end Go.Proofs.Ytgjgpcpghglnnaa.M
