/-
  Plain mathematics of jobs on beaches: which are valid, leads, the best order, the harm; no word of Go in it.
-/
namespace Go.Proofs.Ytgjgpcpghglnnaa
namespace M
def el (l : List Int) (i : Nat) : Int := l.getD i 0
theorem el_eq (l : List Int) (i : Nat) (h : i < l.length) : el l i = l[i] := by simp [el, List.getD, h]
/-- A job: its Hours and its Harm. -/
structure Jb where
  h : Int
  m : Int
deriving DecidableEq
def jb (l : List Jb) (i : Nat) : Jb := l.getD i ⟨0, 0⟩
theorem jb_eq (l : List Jb) (i : Nat) (h : i < l.length) : jb l i = l[i] := by simp [jb, List.getD, h]
/-- The beaches, as lists of jobs. -/
def be (J : List (List Jb)) (i : Nat) : List Jb := J.getD i []
def okJ (x : Jb) : Prop := (1 ≤ x.h ∧ x.h ≤ 100) ∧ 0 ≤ x.m ∧ x.m ≤ 100
instance (x : Jb) : Decidable (okJ x) := by unfold okJ; infer_instance
def Oks (l : List Jb) (k : Nat) : Prop := ∀ i, i < k → okJ (jb l i)
instance (l : List Jb) (k : Nat) : Decidable (Oks l k) := by unfold Oks; infer_instance
theorem oks_zero (l : List Jb) : Oks l 0 := fun _ h => absurd h (Nat.not_lt_zero _)
theorem oks_succ {l : List Jb} {k : Nat} (h : Oks l k) (h1 : okJ (jb l k)) : Oks l (k + 1) := fun j hj => by
  rcases Nat.lt_succ_iff_lt_or_eq.1 hj with h' | rfl
  · exact h j h'
  · exact h1
/-- How many jobs the first k beaches have. -/
def tn (J : List (List Jb)) : Nat → Nat
  | 0 => 0
  | k + 1 => tn J k + (be J k).length
theorem tn_succ (J : List (List Jb)) (k : Nat) : tn J (k + 1) = tn J k + (be J k).length := rfl
theorem tn_mono (J : List (List Jb)) {i k : Nat} (h : i ≤ k) : tn J i ≤ tn J k := by
  induction k with
  | zero => have : i = 0 := by omega
            subst this; exact Nat.le_refl _
  | succ k ih =>
    rcases Nat.lt_or_ge k i with h1 | h1
    · have : i = k + 1 := by omega
      subst this; exact Nat.le_refl _
    · have := ih h1; rw [tn_succ]; omega
/-- Are the first k beaches as they should be? -/
def Bok (J : List (List Jb)) (k : Nat) : Prop := ∀ i, i < k → Oks (be J i) (be J i).length
instance (J : List (List Jb)) (k : Nat) : Decidable (Bok J k) := by unfold Bok; infer_instance
theorem bok_zero (J : List (List Jb)) : Bok J 0 := fun _ h => absurd h (Nat.not_lt_zero _)
theorem bok_succ {J : List (List Jb)} {k : Nat} (h : Bok J k) (h1 : Oks (be J k) (be J k).length) : Bok J (k + 1) := fun j hj => by
  rcases Nat.lt_succ_iff_lt_or_eq.1 hj with h' | rfl
  · exact h j h'
  · exact h1
def vJ (J : List (List Jb)) : Prop := (1 ≤ J.length ∧ J.length ≤ 6) ∧ tn J J.length ≤ 12 ∧ Bok J J.length
instance (J : List (List Jb)) : Decidable (vJ J) := by unfold vJ; infer_instance
def valB (J : List (List Jb)) : Bool := decide (vJ J)
theorem val_of {J : List (List Jb)} (h : valB J = true) : vJ J := by unfold valB at h; simpa using h
theorem be_le {J : List (List Jb)} {i : Nat} (hi : i < J.length) : (be J i).length ≤ tn J J.length := by
  have := tn_mono J (show i + 1 ≤ J.length from hi)
  rw [tn_succ] at this
  omega

/-! ### leads -/
/-- The Hours, and the Harm, of k jobs from the job f on. -/
def sh (l : List Jb) (f : Nat) : Nat → Int
  | 0 => 0
  | k + 1 => sh l f k + (jb l (f + k)).h
def sm (l : List Jb) (f : Nat) : Nat → Int
  | 0 => 0
  | k + 1 => sm l f k + (jb l (f + k)).m
theorem sh_succ (l : List Jb) (f k : Nat) : sh l f (k + 1) = sh l f k + (jb l (f + k)).h := rfl
theorem sm_succ (l : List Jb) (f k : Nat) : sm l f (k + 1) = sm l f k + (jb l (f + k)).m := rfl
theorem s_b {l : List Jb} {f : Nat} (h : Oks l l.length) : ∀ k, f + k ≤ l.length → ((k : Int) ≤ sh l f k ∧ sh l f k ≤ 100 * k) ∧ 0 ≤ sm l f k ∧ sm l f k ≤ 100 * k := by
  intro k
  induction k with
  | zero => intro _; simp [sh, sm]
  | succ k ih =>
    intro hk
    have h1 := ih (by omega)
    obtain ⟨⟨a, b⟩, c, d⟩ := h (f + k) (by omega)
    rw [sh_succ, sm_succ]
    omega
/-- How many jobs the best piece has, of those with at most k + 1 jobs from the job f on. -/
def bk (l : List Jb) (f : Nat) : Nat → Nat
  | 0 => 1
  | k + 1 => if sm l f (k + 2) * sh l f (bk l f k) < sm l f (bk l f k) * sh l f (k + 2) then bk l f k else k + 2
theorem bk_b (l : List Jb) (f k : Nat) : 1 ≤ bk l f k ∧ bk l f k ≤ k + 1 := by
  induction k with
  | zero => exact ⟨Nat.le_refl _, Nat.le_refl _⟩
  | succ k ih => unfold bk; split <;> omega
theorem bk_succ (l : List Jb) (f k : Nat) : bk l f (k + 1) = if sm l f (k + 2) * sh l f (bk l f k) < sm l f (bk l f k) * sh l f (k + 2) then bk l f k else k + 2 := rfl
/-- The lead of a beach from the job f on: how many jobs it has. -/
def ld (l : List Jb) (f : Nat) : Nat := bk l f (l.length - f - 1)
theorem ld_b (l : List Jb) (f : Nat) (hf : f < l.length) : 1 ≤ ld l f ∧ f + ld l f ≤ l.length := by
  have := bk_b l f (l.length - f - 1)
  unfold ld
  omega

/-! ### the best order -/
/-- The beach of those before k with the greatest lead, and how many jobs that lead has. -/
def gr (J : List (List Jb)) (nx : Nat → Nat) : Nat → Option (Nat × Nat)
  | 0 => none
  | k + 1 => if nx k = (be J k).length then gr J nx k else
      match gr J nx k with
      | none => some (k, ld (be J k) (nx k))
      | some (i, c) => if sm (be J i) (nx i) c * sh (be J k) (nx k) (ld (be J k) (nx k)) < sm (be J k) (nx k) (ld (be J k) (nx k)) * sh (be J i) (nx i) c then some (k, ld (be J k) (nx k)) else some (i, c)
theorem gr_spec (J : List (List Jb)) (nx : Nat → Nat) (hn : ∀ i, nx i ≤ (be J i).length) : ∀ k i c, gr J nx k = some (i, c) → i < k ∧ nx i < (be J i).length ∧ c = ld (be J i) (nx i) := by
  intro k
  induction k with
  | zero => intro i c h; cases h
  | succ k ih =>
    intro i c h
    unfold gr at h
    by_cases hk : nx k = (be J k).length
    · rw [if_pos hk] at h
      obtain ⟨a, b, d⟩ := ih i c h
      exact ⟨by omega, b, d⟩
    · rw [if_neg hk] at h
      have hlt : nx k < (be J k).length := by have := hn k; omega
      cases hg : gr J nx k with
      | none =>
        rw [hg] at h
        simp only [Option.some.injEq, Prod.mk.injEq] at h
        obtain ⟨rfl, rfl⟩ := h
        exact ⟨by omega, hlt, rfl⟩
      | some p =>
        obtain ⟨i', c'⟩ := p
        rw [hg] at h
        simp only [] at h
        split at h
        · simp only [Option.some.injEq, Prod.mk.injEq] at h
          obtain ⟨rfl, rfl⟩ := h
          exact ⟨by omega, hlt, rfl⟩
        · simp only [Option.some.injEq, Prod.mk.injEq] at h
          obtain ⟨rfl, rfl⟩ := h
          obtain ⟨a, b, d⟩ := ih i' c' hg
          exact ⟨by omega, b, d⟩
/-- The jobs done on each beach behind so many leads. -/
def nxt (J : List (List Jb)) : Nat → Nat → Nat
  | 0 => fun _ => 0
  | s + 1 => match gr J (nxt J s) J.length with
    | none => nxt J s
    | some (i, c) => fun k => if k = i then nxt J s i + c else nxt J s k
/-- The order behind so many leads. -/
def ord (J : List (List Jb)) : Nat → List Int
  | 0 => []
  | s + 1 => match gr J (nxt J s) J.length with
    | none => ord J s
    | some (i, c) => ord J s ++ List.replicate c (i : Int)
theorem nxt_le (J : List (List Jb)) (s : Nat) : ∀ i, nxt J s i ≤ (be J i).length := by
  induction s with
  | zero => intro i; exact Nat.zero_le _
  | succ s ih =>
    intro i
    unfold nxt
    cases hg : gr J (nxt J s) J.length with
    | none => exact ih i
    | some p =>
      obtain ⟨k, c⟩ := p
      obtain ⟨_, h2, h3⟩ := gr_spec J _ ih _ _ _ hg
      have := (ld_b (be J k) _ h2).2
      simp only []
      split
      · subst h3; rename_i e; subst e; exact this
      · exact ih i
/-- How many jobs are done behind so many leads. -/
def dn (J : List (List Jb)) (nx : Nat → Nat) : Nat → Nat
  | 0 => 0
  | k + 1 => dn J nx k + nx k
theorem dn_le (J : List (List Jb)) (nx : Nat → Nat) (hn : ∀ i, nx i ≤ (be J i).length) (k : Nat) : dn J nx k ≤ tn J k := by
  induction k with
  | zero => exact Nat.le_refl _
  | succ k ih => have := hn k; show dn J nx k + nx k ≤ tn J k + _; omega
theorem dn_upd (J : List (List Jb)) (nx : Nat → Nat) (i c : Nat) : ∀ k, dn J (fun z => if z = i then nx i + c else nx z) k = dn J nx k + if i < k then c else 0 := by
  intro k
  induction k with
  | zero => rfl
  | succ k ih =>
    show dn J _ k + (if k = i then nx i + c else nx k) = dn J nx k + nx k + _
    rw [ih]
    by_cases e : k = i
    · subst e
      rw [if_pos rfl, if_neg (Nat.lt_irrefl _), if_pos (Nat.lt_succ_self _)]
      omega
    · rw [if_neg e]
      by_cases h : i < k
      · rw [if_pos h, if_pos (by omega)]; omega
      · rw [if_neg h, if_neg (by omega)]; omega
/-- As long as there is a lead, one more job is done at least. -/
theorem dn_step (J : List (List Jb)) (s : Nat) {i c : Nat} (h : gr J (nxt J s) J.length = some (i, c)) : dn J (nxt J (s + 1)) J.length = dn J (nxt J s) J.length + c ∧ 1 ≤ c := by
  obtain ⟨h1, h2, h3⟩ := gr_spec J _ (nxt_le J s) _ _ _ h
  have hc := (ld_b (be J i) _ h2).1
  refine ⟨?_, by omega⟩
  have : nxt J (s + 1) = fun k => if k = i then nxt J s i + c else nxt J s k := by
    show (match gr J (nxt J s) J.length with | none => nxt J s | some (i, c) => fun k => if k = i then nxt J s i + c else nxt J s k) = _
    rw [h]
  rw [this, dn_upd, if_pos h1]
theorem nxt_some {J : List (List Jb)} {s i c : Nat} (h : gr J (nxt J s) J.length = some (i, c)) : nxt J (s + 1) = fun k => if k = i then nxt J s i + c else nxt J s k := by
  show (match gr J (nxt J s) J.length with | none => nxt J s | some (i, c) => fun k => if k = i then nxt J s i + c else nxt J s k) = _
  rw [h]
theorem ord_some {J : List (List Jb)} {s i c : Nat} (h : gr J (nxt J s) J.length = some (i, c)) : ord J (s + 1) = ord J s ++ List.replicate c (i : Int) := by
  show (match gr J (nxt J s) J.length with | none => ord J s | some (i, c) => ord J s ++ List.replicate c (i : Int)) = _
  rw [h]
theorem ord_len (J : List (List Jb)) (s : Nat) : (ord J s).length = dn J (nxt J s) J.length := by
  induction s with
  | zero =>
    have : ∀ k, dn J (nxt J 0) k = 0 := by
      intro k
      induction k with
      | zero => rfl
      | succ k ih => show dn J (nxt J 0) k + 0 = 0; rw [ih]
    rw [this]; rfl
  | succ s ih =>
    cases hg : gr J (nxt J s) J.length with
    | none =>
      have e1 : ord J (s + 1) = ord J s := by
        show (match gr J (nxt J s) J.length with | none => ord J s | some (i, c) => ord J s ++ List.replicate c (i : Int)) = _
        rw [hg]
      have e2 : nxt J (s + 1) = nxt J s := by
        show (match gr J (nxt J s) J.length with | none => nxt J s | some (i, c) => fun k => if k = i then nxt J s i + c else nxt J s k) = _
        rw [hg]
      rw [e1, e2, ih]
    | some p =>
      obtain ⟨i, c⟩ := p
      rw [ord_some hg, List.length_append, List.length_replicate, (dn_step J s hg).1, ih]
/-- The order is whole behind so many leads: no beach has a lead then. -/
def Whole (J : List (List Jb)) (s : Nat) : Prop := gr J (nxt J s) J.length = none

/-! ### the harm of an order -/
def cnt (o : List Int) (b : Int) : Nat → Nat
  | 0 => 0
  | k + 1 => cnt o b k + if el o k = b then 1 else 0
theorem cnt_succ (o : List Int) (b : Int) (k : Nat) : cnt o b (k + 1) = cnt o b k + if el o k = b then 1 else 0 := rfl
/-- The job that is done at place i of an order. -/
def jbAt (J : List (List Jb)) (o : List Int) (i : Nat) : Jb := jb (be J (el o i).toNat) (cnt o (el o i) i)
/-- Can the jobs be done in this order? -/
def Runs (J : List (List Jb)) (o : List Int) : Prop := ∀ i, i < o.length → (0 ≤ el o i ∧ (el o i).toNat < J.length) ∧ cnt o (el o i) i < (be J (el o i).toNat).length
instance (J : List (List Jb)) (o : List Int) : Decidable (Runs J o) := by unfold Runs; infer_instance
/-- The hour behind the first k jobs, and the harm of these. -/
def hr (J : List (List Jb)) (o : List Int) : Nat → Int
  | 0 => 0
  | k + 1 => hr J o k + (jbAt J o k).h
def hm (J : List (List Jb)) (o : List Int) : Nat → Int
  | 0 => 0
  | k + 1 => hm J o k + (jbAt J o k).m * hr J o (k + 1)
theorem hr_succ (J : List (List Jb)) (o : List Int) (k : Nat) : hr J o (k + 1) = hr J o k + (jbAt J o k).h := rfl
theorem hm_succ (J : List (List Jb)) (o : List Int) (k : Nat) : hm J o (k + 1) = hm J o k + (jbAt J o k).m * hr J o (k + 1) := rfl
theorem at_ok {J : List (List Jb)} {o : List Int} (hv : vJ J) (hr' : Runs J o) {i : Nat} (hi : i < o.length) : okJ (jbAt J o i) := by
  obtain ⟨⟨h1, h2⟩, h3⟩ := hr' i hi
  exact hv.2.2 _ h2 _ h3
theorem hr_b {J : List (List Jb)} {o : List Int} (hv : vJ J) (hr' : Runs J o) : ∀ k, k ≤ o.length → 0 ≤ hr J o k ∧ hr J o k ≤ 100 * k := by
  intro k
  induction k with
  | zero => intro _; simp [hr]
  | succ k ih =>
    intro hk
    have h1 := ih (by omega)
    obtain ⟨⟨a, b⟩, _⟩ := at_ok hv hr' (show k < o.length by omega)
    rw [hr_succ]
    omega
theorem hm_b {J : List (List Jb)} {o : List Int} (hv : vJ J) (hr' : Runs J o) (h12 : o.length ≤ 100) : ∀ k, k ≤ o.length → 0 ≤ hm J o k ∧ hm J o k ≤ 1000000 * k := by
  intro k
  induction k with
  | zero => intro _; simp [hm]
  | succ k ih =>
    intro hk
    have h1 := ih (by omega)
    have h2 := hr_b hv hr' (k + 1) hk
    obtain ⟨_, c, d⟩ := at_ok hv hr' (show k < o.length by omega)
    rw [hm_succ]
    have e1 : 0 ≤ (jbAt J o k).m * hr J o (k + 1) := Int.mul_nonneg c h2.1
    have e2 : (jbAt J o k).m * hr J o (k + 1) ≤ 100 * 10000 := Int.mul_le_mul d (by omega) h2.1 (by omega)
    omega
end M
end Go.Proofs.Ytgjgpcpghglnnaa
