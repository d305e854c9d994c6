/-
  The pairs' bound: it is the same in whatever order one tells it, and no harm is below it: plain mathematics.
-/
import Derived.Test.YtgjgpcpghglnnaaBa
import Derived.Test.YtgjgpcpghglnnaaMi
namespace Go.Proofs.Ytgjgpcpghglnnaa.M
set_option linter.unusedVariables false
set_option linter.unusedSimpArgs false

/-! ### sums -/
theorem qs_add (f g : Nat → Int) : ∀ n, qs (fun i => f i + g i) n = qs f n + qs g n := by
  intro n
  induction n with
  | zero => rfl
  | succ n ih =>
    show qs (fun i => f i + g i) n + (f n + g n) = (qs f n + f n) + (qs g n + g n)
    rw [ih]; omega
/-- Sums over places are sums over the jobs of the beaches. -/
theorem qs_places {o : List Int} {n : Nat} (h : ∀ i, i < o.length → 0 ≤ el o i ∧ el o i < n) (g : Nat → Nat → Int) : ∀ k, k ≤ o.length →
    qs (fun i => g (el o i).toNat (cnt o (el o i) i)) k = qs (fun a => qs (g a) (cnt o (a : Nat) k)) n := by
  intro k
  induction k with
  | zero =>
    intro _
    have : ∀ n, qs (fun a => qs (g a) (cnt o ((a : Nat) : Int) 0)) n = 0 := by
      intro n
      induction n with
      | zero => rfl
      | succ n ih => show qs _ n + 0 = 0; rw [ih]; rfl
    rw [this]; rfl
  | succ k ih =>
    intro hk
    obtain ⟨h1, h2⟩ := h k (by omega)
    obtain ⟨b, hb⟩ := Int.eq_ofNat_of_zero_le h1
    show qs _ k + g (el o k).toNat (cnt o (el o k) k) = _
    rw [ih (by omega)]
    have := qs_upd (b := b) (d := g b (cnt o (b : Nat) k)) (f := fun a => qs (g a) (cnt o ((a : Nat) : Int) k)) (g := fun a => qs (g a) (cnt o ((a : Nat) : Int) (k + 1)))
      (by show qs (g b) (cnt o ((b : Nat) : Int) (k + 1)) = _; rw [cnt_succ, if_pos hb]; rfl)
      (fun a ha => by show qs (g a) (cnt o ((a : Nat) : Int) (k + 1)) = qs (g a) (cnt o ((a : Nat) : Int) k); rw [cnt_succ, if_neg (by omega)]; rfl) n
    rw [this, if_pos (by omega), hb, Int.toNat_natCast]

/-! ### the bound as a sum over all pairs of jobs -/
/-- What two jobs tell, each given by its beach and its place there; a job with itself twice. -/
def ly (J : List (List Jb)) (a i b j : Nat) : Int :=
  if a = b then (if i = j then 2 * ((jb (be J a) i).h * (jb (be J a) i).m) else if i < j then (jb (be J a) i).h * (jb (be J b) j).m else (jb (be J b) j).h * (jb (be J a) i).m)
  else min ((jb (be J a) i).h * (jb (be J b) j).m) ((jb (be J b) j).h * (jb (be J a) i).m)
theorem ly_comm (J : List (List Jb)) (a i b j : Nat) : ly J a i b j = ly J b j a i := by
  unfold ly
  by_cases h : a = b
  · subst h
    rw [if_pos rfl, if_pos rfl]
    by_cases h1 : i = j
    · subst h1; rw [if_pos rfl]
    · have h1' : ¬ j = i := fun e => h1 e.symm
      by_cases h2 : i < j
      · have h3 : ¬ j < i := by omega
        simp [h1, h1', h2, h3]
      · have h3 : j < i := by omega
        simp [h1, h1', h2, h3]
  · rw [if_neg h, if_neg (fun e => h e.symm), Int.min_comm]
/-- The same of two places of an order. -/
def lz (J : List (List Jb)) (o : List Int) (i k : Nat) : Int := ly J (el o i).toNat (cnt o (el o i) i) (el o k).toNat (cnt o (el o k) k)
theorem lz_comm (J : List (List Jb)) (o : List Int) (i k : Nat) : lz J o i k = lz J o k i := ly_comm _ _ _ _ _
theorem lz_self (J : List (List Jb)) (o : List Int) (k : Nat) : lz J o k k = 2 * ((jbAt J o k).h * (jbAt J o k).m) := by
  unfold lz ly
  rw [if_pos rfl, if_pos rfl]
  rfl
theorem lz_lt (J : List (List Jb)) {o : List Int} {i k : Nat} (hik : i < k) (hi : 0 ≤ el o i) (hk : 0 ≤ el o k) : lz J o i k = lsF J o i k := by
  unfold lz ly lsF lsP
  by_cases h : el o i = el o k
  · have h1 : cnt o (el o i) (i + 1) ≤ cnt o (el o k) k := by rw [h]; exact cnt_mono o _ hik
    rw [cnt_succ, if_pos rfl] at h1
    rw [if_pos (by rw [h]), if_neg (by omega), if_pos (by omega), decide_eq_true h, if_pos rfl]
    rfl
  · rw [if_neg (by omega), decide_eq_false h, if_neg (by decide)]
    rfl
/-- The bound, each pair told by its later place. -/
def s2 (J : List (List Jb)) (o : List Int) : Nat → Int
  | 0 => 0
  | k + 1 => s2 J o k + (jbAt J o k).h * (jbAt J o k).m + qs (fun i => lsF J o i k) k
theorem s2_succ (J : List (List Jb)) (o : List Int) (k : Nat) : s2 J o (k + 1) = s2 J o k + (jbAt J o k).h * (jbAt J o k).m + qs (fun i => lsF J o i k) k := rfl
/-- By the earlier place of each pair, of the first N places. -/
def s1 (J : List (List Jb)) (o : List Int) (N : Nat) : Nat → Int
  | 0 => 0
  | i + 1 => s1 J o N i + (jbAt J o i).h * (jbAt J o i).m + bi J o i (N - (i + 1))
theorem s1_bs (J : List (List Jb)) (o : List Int) : ∀ i, s1 J o o.length i = bs J o i := by
  intro i
  induction i with
  | zero => rfl
  | succ i ih => show s1 J o o.length i + _ + _ = _; rw [ih]; rfl
theorem s1_step (J : List (List Jb)) (o : List Int) (N : Nat) : ∀ i, i ≤ N → s1 J o (N + 1) i = s1 J o N i + qs (fun i => lsF J o i N) i := by
  intro i
  induction i with
  | zero => intro _; rfl
  | succ i ih =>
    intro hi
    show s1 J o (N + 1) i + _ + bi J o i (N + 1 - (i + 1)) = s1 J o N i + _ + bi J o i (N - (i + 1)) + (qs (fun i => lsF J o i N) i + lsF J o i N)
    rw [ih (by omega), show N + 1 - (i + 1) = (N - (i + 1)) + 1 by omega, bi_succ, show i + 1 + (N - (i + 1)) = N by omega]
    omega
theorem s1_s2 (J : List (List Jb)) (o : List Int) : ∀ N, s1 J o N N = s2 J o N := by
  intro N
  induction N with
  | zero => rfl
  | succ N ih =>
    show s1 J o (N + 1) N + _ + bi J o N (N + 1 - (N + 1)) = _
    rw [s1_step J o N N (Nat.le_refl _), ih, Nat.sub_self, s2_succ]
    show s2 J o N + qs (fun i => lsF J o i N) N + _ + 0 = _
    omega
theorem s2_twice (J : List (List Jb)) {o : List Int} (h : ∀ i, i < o.length → 0 ≤ el o i) : ∀ N, N ≤ o.length → qs (fun k => qs (fun i => lz J o i k) N) N = 2 * s2 J o N := by
  intro N
  induction N with
  | zero => intro _; rfl
  | succ N ih =>
    intro hN
    have e1 : qs (fun k => qs (fun i => lz J o i k) (N + 1)) N = qs (fun k => qs (fun i => lz J o i k) N) N + qs (fun k => lz J o N k) N := by
      rw [← qs_add]; rfl
    have e2 : qs (fun k => lz J o N k) N = qs (fun i => lsF J o i N) N := qs_congr N fun i hi => by rw [lz_comm, lz_lt J hi (h i (by omega)) (h N (by omega))]
    have e3 : qs (fun i => lz J o i N) N = qs (fun i => lsF J o i N) N := qs_congr N fun i hi => lz_lt J hi (h i (by omega)) (h N (by omega))
    show qs (fun k => qs (fun i => lz J o i k) (N + 1)) N + (qs (fun i => lz J o i N) N + lz J o N N) = _
    rw [e1, e2, e3, ih (by omega), lz_self, s2_succ]
    omega
/-- THE BOUND IS THE SAME BY WHATEVER ORDER. -/
theorem s2_same {J : List (List Jb)} {o : List Int} (h : ∀ i, i < o.length → 0 ≤ el o i ∧ el o i < J.length) (hc : ∀ b, b < J.length → cnt o (b : Nat) o.length = (be J b).length) :
    2 * s2 J o o.length = qs (fun b => qs (fun j => qs (fun a => qs (fun i => ly J a i b j) (be J a).length) J.length) (be J b).length) J.length := by
  rw [← s2_twice J (fun i hi => (h i hi).1) o.length (Nat.le_refl _)]
  have e1 : ∀ b j, qs (fun i => ly J (el o i).toNat (cnt o (el o i) i) b j) o.length = qs (fun a => qs (fun i => ly J a i b j) (be J a).length) J.length := fun b j => by
    rw [qs_places h (fun a i => ly J a i b j) o.length (Nat.le_refl _)]
    exact qs_congr _ fun a ha => by rw [hc a ha]
  have e2 : (fun k => qs (fun i => lz J o i k) o.length) = fun k => (fun b j => qs (fun a => qs (fun i => ly J a i b j) (be J a).length) J.length) (el o k).toNat (cnt o (el o k) k) := by
    funext k
    exact e1 _ _
  rw [e2, qs_places h (fun b j => qs (fun a => qs (fun i => ly J a i b j) (be J a).length) J.length) o.length (Nat.le_refl _)]
  exact qs_congr _ fun b hb => by rw [hc b hb]
theorem hr_qs (J : List (List Jb)) (o : List Int) (x : Int) : ∀ k, qs (fun i => (jbAt J o i).h * x) k = hr J o k * x := by
  intro k
  induction k with
  | zero => show (0 : Int) = 0 * x; omega
  | succ k ih =>
    show qs (fun i => (jbAt J o i).h * x) k + _ = _
    rw [ih, hr_succ, Int.add_mul]
theorem qs_le {f g : Nat → Int} : ∀ n, (∀ i, i < n → f i ≤ g i) → qs f n ≤ qs g n := by
  intro n
  induction n with
  | zero => intro _; exact Int.le_refl _
  | succ n ih =>
    intro h
    have h1 := ih fun i hi => h i (by omega)
    have h2 := h n (Nat.lt_succ_self _)
    show qs f n + f n ≤ qs g n + g n
    omega
theorem lsF_le (J : List (List Jb)) (o : List Int) (i k : Nat) : lsF J o i k ≤ (jbAt J o i).h * (jbAt J o k).m := by
  unfold lsF lsP
  split
  · exact Int.le_refl _
  · exact Int.min_le_left _ _
/-- No order does less harm than the pairs by its own places. -/
theorem s2_le (J : List (List Jb)) (o : List Int) : ∀ k, s2 J o k ≤ hm J o k := by
  intro k
  induction k with
  | zero => exact Int.le_refl _
  | succ k ih =>
    have h1 : qs (fun i => lsF J o i k) k ≤ qs (fun i => (jbAt J o i).h * (jbAt J o k).m) k := qs_le k fun i _ => lsF_le J o i k
    rw [hr_qs] at h1
    rw [s2_succ, hm_succ, hr_succ, Int.mul_add, Int.mul_comm (jbAt J o k).m (hr J o k), Int.mul_comm (jbAt J o k).m]
    omega
/-- And just as much, where of any two places the first one has no less a rate. -/
theorem s2_eq {J : List (List Jb)} {o : List Int} {n : Nat} (h : ∀ i k, i < k → k < n → (jbAt J o k).m * (jbAt J o i).h ≤ (jbAt J o i).m * (jbAt J o k).h) : ∀ k, k ≤ n → s2 J o k = hm J o k := by
  intro k
  induction k with
  | zero => intro _; rfl
  | succ k ih =>
    intro hk
    have h1 : qs (fun i => lsF J o i k) k = qs (fun i => (jbAt J o i).h * (jbAt J o k).m) k := qs_congr k fun i hi => by
      have := h i k hi (by omega)
      rw [Int.mul_comm, Int.mul_comm (jbAt J o i).m] at this
      unfold lsF lsP
      split
      · rfl
      · exact Int.min_eq_left this
    rw [hr_qs] at h1
    rw [s2_succ, hm_succ, hr_succ, Int.mul_add, Int.mul_comm (jbAt J o k).m (hr J o k), Int.mul_comm (jbAt J o k).m, ih (by omega), h1]
    omega
/-- The bound of the first order is that of any order. -/
theorem bound_s2 {J : List (List Jb)} {o : List Int} (hv : vJ J) (ho : ordB J o = true) : bs J (fo J J.length) (fo J J.length).length = s2 J o o.length := by
  obtain ⟨_, _, h1, h2, _⟩ := ord_spec hv ho
  have hr := fo_runs J J.length (Nat.le_refl _)
  have h3 := s2_same h1 h2
  have h4 := s2_same (J := J) (o := fo J J.length) (fun i hi => by obtain ⟨⟨a, b⟩, _⟩ := hr.2 i hi; omega) (fun b hb => by rw [hr.1 b, if_pos hb])
  rw [← s1_bs, s1_s2]
  omega
/-- NO ORDER DOES LESS HARM THAN THE BOUND. -/
theorem bound_le {J : List (List Jb)} {o : List Int} (hv : vJ J) (ho : ordB J o = true) : bs J (fo J J.length) (fo J J.length).length ≤ hm J o o.length := by
  rw [bound_s2 hv ho]; exact s2_le J o _
/-- WHERE NO BEACH HAS TWO JOBS, THE BEST ORDER DOES JUST AS MUCH. -/
theorem one_sorted {J : List (List Jb)} (hJ : ∀ a, Hp (be J a)) (h1 : ∀ a, (be J a).length ≤ 1) : ∀ s,
    (∀ i a, i < (ord J s).length → a < J.length → nxt J s a < (be J a).length → (jb (be J a) 0).m * (jbAt J (ord J s) i).h ≤ (jbAt J (ord J s) i).m * (jb (be J a) 0).h) ∧
    (∀ i k, i < k → k < (ord J s).length → (jbAt J (ord J s) k).m * (jbAt J (ord J s) i).h ≤ (jbAt J (ord J s) i).m * (jbAt J (ord J s) k).h) := by
  intro s
  induction s with
  | zero => exact ⟨fun i a hi => absurd hi (Nat.not_lt_zero _), fun i k _ hk => absurd hk (Nat.not_lt_zero _)⟩
  | succ s ih =>
    obtain ⟨i1, i2⟩ := ih
    cases hg : gr J (nxt J s) J.length with
    | none =>
      have e1 : ord J (s + 1) = ord J s := by
        show (match gr J (nxt J s) J.length with | none => ord J s | some (i, c) => ord J s ++ List.replicate c (i : Int)) = _
        rw [hg]
      have e2 : nxt J (s + 1) = nxt J s := by
        show (match gr J (nxt J s) J.length with | none => nxt J s | some (i, c) => fun k => if k = i then nxt J s i + c else nxt J s k) = _
        rw [hg]
      rw [e1, e2]; exact ⟨i1, i2⟩
    | some q =>
      obtain ⟨p, c⟩ := q
      obtain ⟨g1, g2, g3⟩ := gr_spec J _ (nxt_le J s) _ _ _ hg
      have hlb := ld_b (be J p) (nxt J s p) g2
      have hp1 := h1 p
      have hn0 : nxt J s p = 0 := by omega
      have hc : c = 1 := by omega
      subst hc
      have e1 : ord J (s + 1) = ord J s ++ [(p : Int)] := by rw [ord_some hg]; rfl
      have e2 := nxt_some hg
      have hcp : cnt (ord J s) (p : Nat) (ord J s).length = 0 := by rw [(ord_runs J s).1 p, hn0]
      have hold : ∀ i, i < (ord J s).length → jbAt J (ord J s ++ [(p : Int)]) i = jbAt J (ord J s) i := fun i hi => by
        unfold jbAt
        rw [el_left hi, cnt_left _ _ _ _ (by omega)]
      have hnew : jbAt J (ord J s ++ [(p : Int)]) (ord J s).length = jb (be J p) 0 := by
        have h := el_right (ord J s) [(p : Int)] 0
        rw [Nat.add_zero] at h
        unfold jbAt
        rw [h, cnt_left _ _ _ _ (Nat.le_refl _)]
        show jb (be J ((p : Nat) : Int).toNat) (cnt (ord J s) (p : Nat) (ord J s).length) = _
        rw [hcp, Int.toNat_natCast]
      have hgm := gr_max hJ (nxt_le J s) _ _ _ hg
      have hone : ∀ a, nxt J s a < (be J a).length → sh (be J a) (nxt J s a) (ld (be J a) (nxt J s a)) = (jb (be J a) 0).h ∧ sm (be J a) (nxt J s a) (ld (be J a) (nxt J s a)) = (jb (be J a) 0).m := fun a ha => by
        have := ld_b (be J a) (nxt J s a) ha
        have := h1 a
        have e3 : nxt J s a = 0 := by omega
        have e4 : ld (be J a) (nxt J s a) = 1 := by omega
        rw [e4, e3, sh_succ, sm_succ]
        constructor
        · show (0 : Int) + _ = _; rw [Int.zero_add]
        · show (0 : Int) + _ = _; rw [Int.zero_add]
      obtain ⟨p1, p2⟩ := hone p g2
      rw [← g3] at p1 p2
      rw [e1]
      refine ⟨fun i a hi ha hla => ?_, fun i k hik hk => ?_⟩
      · have hap : a ≠ p := fun e => by rw [e, e2] at hla; simp only [if_pos] at hla; omega
        have hla' : nxt J s a < (be J a).length := by rw [e2] at hla; simpa [hap] using hla
        rw [List.length_append] at hi
        rcases Nat.lt_or_ge i (ord J s).length with h | h
        · rw [hold i h]; exact i1 i a h ha hla'
        · have : i = (ord J s).length := by simp at hi; omega
          rw [this, hnew]
          have := hgm a ha hla'
          obtain ⟨a1, a2⟩ := hone a hla'
          rw [a1, a2, p1, p2] at this
          exact this
      · rw [List.length_append] at hk
        rcases Nat.lt_or_ge k (ord J s).length with h | h
        · rw [hold k h, hold i (by omega)]; exact i2 i k hik h
        · have : k = (ord J s).length := by simp at hk; omega
          subst this
          rw [hnew, hold i hik]
          exact i1 i p hik g1 g2
theorem one_eq {J : List (List Jb)} {s : Nat} (hv : vJ J) (hW : Whole J s) (h1 : ∀ a, a < J.length → (be J a).length ≤ 1) : bs J (fo J J.length) (fo J J.length).length = hm J (ord J s) (ord J s).length := by
  have h1' : ∀ a, (be J a).length ≤ 1 := fun a => by
    rcases Nat.lt_or_ge a J.length with h | h
    · exact h1 a h
    · have : be J a = [] := by unfold be; simp [List.getD_eq_getElem?_getD, h]
      rw [this]; exact Nat.zero_le _
  rw [bound_s2 hv (best_ord hv hW).1]
  exact s2_eq (one_sorted (hp_of hv) h1' s).2 _ (Nat.le_refl _)
end Go.Proofs.Ytgjgpcpghglnnaa.M
