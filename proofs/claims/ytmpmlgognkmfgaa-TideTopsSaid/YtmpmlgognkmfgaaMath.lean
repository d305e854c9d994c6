/-
  Plain mathematics of tides: sums over hours, periods, rounds, drifts. It imports nothing of the program.
-/
import Derived.Below
namespace Go.Proofs.Ytmpmlgognkmfgaa
namespace M

def row (T : List (List Int)) (i : Nat) : List Int := T.getD i []
def el (l : List Int) (i : Nat) : Int := l.getD i 0
theorem row_eq (T : List (List Int)) (i : Nat) (h : i < T.length) : row T i = T[i] := by simp [row, List.getD, h]
theorem el_eq (l : List Int) (i : Nat) (h : i < l.length) : el l i = l[i] := by simp [el, List.getD, h]
theorem row_mem (T : List (List Int)) (i : Nat) (h : i < T.length) : row T i ∈ T := by rw [row_eq T i h]; exact List.getElem_mem h
theorem el_mem (l : List Int) (i : Nat) (h : i < l.length) : el l i ∈ l := by rw [el_eq l i h]; exact List.getElem_mem h

/-! ### sums -/
def sm (f : Nat → Int) : Nat → Int
  | 0 => 0
  | n + 1 => sm f n + f n
theorem sm_zero (f : Nat → Int) : sm f 0 = 0 := rfl
theorem sm_succ (f : Nat → Int) (n : Nat) : sm f (n + 1) = sm f n + f n := rfl
theorem sm_congr {f g : Nat → Int} (n : Nat) (h : ∀ i, i < n → f i = g i) : sm f n = sm g n := by
  induction n with
  | zero => rfl
  | succ n ih => rw [sm_succ, sm_succ, ih (fun i hi => h i (by omega)), h n (by omega)]
theorem sm_add (f g : Nat → Int) (n : Nat) : sm (fun i => f i + g i) n = sm f n + sm g n := by
  induction n with
  | zero => rfl
  | succ n ih => rw [sm_succ, sm_succ, sm_succ, ih]; omega
theorem sm_const0 (n : Nat) : sm (fun _ => 0) n = 0 := by
  induction n with
  | zero => rfl
  | succ n ih => rw [sm_succ, ih]; rfl
theorem sm_swap (g : Nat → Nat → Int) (m n : Nat) : sm (fun k => sm (fun i => g i k) m) n = sm (fun i => sm (fun k => g i k) n) m := by
  induction n with
  | zero => exact (sm_const0 m).symm
  | succ n ih => rw [sm_succ, ih, ← sm_add]; rfl
theorem sm_bound {f : Nat → Int} (n : Nat) (c : Int) (h : ∀ i, i < n → -c ≤ f i ∧ f i ≤ c) : -(c * n) ≤ sm f n ∧ sm f n ≤ c * n := by
  induction n with
  | zero => simp [sm_zero]
  | succ n ih =>
    have h1 := ih (fun i hi => h i (by omega))
    have h2 := h n (by omega)
    rw [sm_succ]
    have e : c * ((n + 1 : Nat) : Int) = c * n + c := by rw [Int.natCast_add, Int.mul_add]; simp
    rw [e]; omega
theorem sm_split (f : Nat → Int) (n m : Nat) : sm f (n + m) = sm f n + sm (fun i => f (n + i)) m := by
  induction m with
  | zero => simp [sm_zero]
  | succ m ih => rw [← Nat.add_assoc, sm_succ, ih, sm_succ]; omega
theorem sm_neg (f : Nat → Int) (n : Nat) : sm (fun i => - f i) n = - sm f n := by
  induction n with
  | zero => rfl
  | succ n ih => rw [sm_succ, sm_succ, ih]; omega
theorem sm_rev (f : Nat → Int) (n : Nat) : sm (fun i => f (n - 1 - i)) n = sm f n := by
  induction n with
  | zero => rfl
  | succ n ih =>
    have e : sm (fun i => f (n + 1 - 1 - i)) (n + 1) = f n + sm (fun i => f (n - 1 - i)) n := by
      rw [show n + 1 = 1 + n by omega, sm_split, sm_succ, sm_zero]
      have : sm (fun i => f (1 + n - 1 - (1 + i))) n = sm (fun i => f (n - 1 - i)) n := sm_congr n (fun i _ => by congr 1; omega)
      rw [this]
      simp
    rw [e, ih, sm_succ]; omega

/-- The sum of g over n hours from f on. -/
def sg (g : Int → Int) (f : Int) (n : Nat) : Int := sm (fun j => g (f + j)) n
theorem sg_zero (g : Int → Int) (f : Int) : sg g f 0 = 0 := rfl
theorem sg_succ (g : Int → Int) (f : Int) (n : Nat) : sg g f (n + 1) = sg g f n + g (f + n) := rfl
theorem sg_add (g : Int → Int) (f : Int) (n m : Nat) : sg g f (n + m) = sg g f n + sg g (f + n) m := by
  unfold sg
  rw [sm_split]
  congr 1
  exact sm_congr m (fun i _ => by congr 1; rw [Int.natCast_add]; omega)
theorem sg_head (g : Int → Int) (f : Int) (n : Nat) : sg g f (n + 1) = g f + sg g (f + 1) n := by
  rw [show n + 1 = 1 + n by omega, sg_add]
  simp [sg_succ, sg_zero]
theorem sg_congr {g h : Int → Int} (f : Int) (n : Nat) (e : ∀ t, g t = h t) : sg g f n = sg h f n := sm_congr n fun _ _ => e _
theorem sg_move (g : Int → Int) (f : Int) (L : Nat) (hp : ∀ t, g (t + L) = g t) : sg g (f + 1) L = sg g f L := by
  have h1 := sg_head g f L
  rw [sg_succ, hp] at h1
  omega
theorem sg_move_nat (g : Int → Int) (f : Int) (L : Nat) (hp : ∀ t, g (t + L) = g t) (k : Nat) : sg g (f + k) L = sg g f L := by
  induction k with
  | zero => simp
  | succ k ih => rw [show f + ((k + 1 : Nat) : Int) = f + k + 1 by omega, sg_move g _ L hp, ih]
theorem sg_any (g : Int → Int) (f f' : Int) (L : Nat) (hp : ∀ t, g (t + L) = g t) : sg g f L = sg g f' L := by
  rcases Int.le_total f f' with h | h
  · have := sg_move_nat g f L hp (f' - f).toNat
    rw [show f + ((f' - f).toNat : Int) = f' by omega] at this
    exact this.symm
  · have := sg_move_nat g f' L hp (f - f').toNat
    rw [show f' + ((f - f').toNat : Int) = f by omega] at this
    exact this
theorem sg_lin (g : Int → Int) (f f' : Int) (L q r : Nat) (hp : ∀ t, g (t + L) = g t) : sg g f (q * L + r) = q * sg g f' L + sg g f r := by
  induction q generalizing f with
  | zero => simp
  | succ q ih =>
    rw [show (q + 1) * L + r = L + (q * L + r) by rw [Nat.succ_mul]; omega, sg_add, ih, sg_any g f f' L hp]
    have e1 : sg g (f + L) r = sg g f r := sm_congr r (fun i _ => by rw [show f + (L : Int) + i = f + i + L by omega, hp])
    rw [e1, Int.natCast_add, Int.add_mul]; simp; omega
theorem sg_bound {g : Int → Int} (f : Int) (n : Nat) (c : Int) (h : ∀ t, -c ≤ g t ∧ g t ≤ c) : -(c * n) ≤ sg g f n ∧ sg g f n ≤ c * n := sm_bound n c (fun _ _ => h _)

/-! ### tides -/
/-- The speed of a wave at an hour. -/
def at_ (l : List Int) (t : Int) : Int := el l (t % (l.length : Int)).toNat
def spdK (T : List (List Int)) (t : Int) (k : Nat) : Int := sm (fun i => at_ (row T i) t) k
def spd (T : List (List Int)) (t : Int) : Int := spdK T t T.length
def tot (l : List Int) : Int := sm (fun i => el l i) l.length
def drf (T : List (List Int)) (f : Int) (n : Nat) : Int := sg (spd T) f n
def drfK (T : List (List Int)) (f : Int) (n k : Nat) : Int := sm (fun i => sg (at_ (row T i)) f n) k

def Val (T : List (List Int)) : Prop :=
  (1 ≤ T.length ∧ T.length ≤ 4) ∧ ∀ i, i < T.length → (1 ≤ (row T i).length ∧ (row T i).length ≤ 12) ∧ ∀ j, j < (row T i).length → -100 ≤ el (row T i) j ∧ el (row T i) j ≤ 100
instance (T : List (List Int)) : Decidable (Val T) := by unfold Val; infer_instance
def validB (T : List (List Int)) : Bool := decide (Val T)
theorem validB_true {T : List (List Int)} (h : Val T) : validB T = true := decide_eq_true h
theorem validB_false {T : List (List Int)} (h : ¬ Val T) : validB T = false := decide_eq_false h
theorem val_of {T : List (List Int)} (h : validB T = true) : Val T := of_decide_eq_true h

theorem idx_lt (t : Int) (n : Nat) (h : 1 ≤ n) : (t % (n : Int)).toNat < n := by
  have h1 := Int.emod_lt_of_pos t (show (0 : Int) < n by omega)
  have h2 := Int.emod_nonneg t (show (n : Int) ≠ 0 by omega)
  omega
theorem at_bound {T : List (List Int)} (h : Val T) (i : Nat) (hi : i < T.length) (t : Int) : -100 ≤ at_ (row T i) t ∧ at_ (row T i) t ≤ 100 :=
  (h.2 i hi).2 _ (idx_lt t _ (h.2 i hi).1.1)
theorem at_period (l : List Int) (t : Int) : at_ l (t + l.length) = at_ l t := by unfold at_; rw [Int.add_emod_right]
theorem at_period' (l : List Int) (t : Int) (n : Nat) (h : l.length ∣ n) : at_ l (t + n) = at_ l t := by
  obtain ⟨c, rfl⟩ := h
  unfold at_
  rw [Int.natCast_mul, Int.add_mul_emod_self_left]
theorem tot_eq (l : List Int) : sg (at_ l) 0 l.length = tot l := by
  unfold sg tot
  refine sm_congr _ (fun i hi => ?_)
  unfold at_
  congr 1
  rw [Int.zero_add, Int.emod_eq_of_lt (by omega) (by omega)]; omega
theorem spdK_succ (T : List (List Int)) (t : Int) (k : Nat) : spdK T t (k + 1) = spdK T t k + at_ (row T k) t := rfl
theorem spdK_bound {T : List (List Int)} (h : Val T) (t : Int) (k : Nat) (hk : k ≤ T.length) : -400 ≤ spdK T t k ∧ spdK T t k ≤ 400 := by
  have := sm_bound (f := fun i => at_ (row T i) t) k 100 (fun i hi => at_bound h i (by omega) t)
  have h4 := h.1.2
  unfold spdK
  omega
theorem spd_bound {T : List (List Int)} (h : Val T) (t : Int) : -400 ≤ spd T t ∧ spd T t ≤ 400 := spdK_bound h t _ (Nat.le_refl _)
theorem drf_bound {T : List (List Int)} (h : Val T) (f : Int) (n : Nat) : -(400 * n) ≤ drf T f n ∧ drf T f n ≤ 400 * n := sg_bound f n 400 (fun t => spd_bound h t)
theorem sgat_bound {T : List (List Int)} (h : Val T) (i : Nat) (hi : i < T.length) (f : Int) (n : Nat) : -(100 * n) ≤ sg (at_ (row T i)) f n ∧ sg (at_ (row T i)) f n ≤ 100 * n := sg_bound f n 100 (fun t => at_bound h i hi t)
theorem drfK_bound {T : List (List Int)} (h : Val T) (f : Int) (n k : Nat) (hk : k ≤ T.length) : -(400 * n) ≤ drfK T f n k ∧ drfK T f n k ≤ 400 * n := by
  have := sm_bound (f := fun i => sg (at_ (row T i)) f n) k (100 * n) (fun i hi => sgat_bound h i (by omega) f n)
  have h4 := h.1.2
  unfold drfK
  have e : (100 * (n : Int)) * (k : Int) ≤ (100 * n) * 4 := Int.mul_le_mul_of_nonneg_left (by omega) (by omega)
  omega
theorem drfK_succ (T : List (List Int)) (f : Int) (n k : Nat) : drfK T f n (k + 1) = drfK T f n k + sg (at_ (row T k)) f n := rfl
/-- The drift, wave by wave. -/
theorem drf_waves (T : List (List Int)) (f : Int) (n : Nat) : drfK T f n T.length = drf T f n := by
  unfold drfK drf sg spd spdK
  exact (sm_swap (fun i k => at_ (row T i) (f + k)) T.length n).symm
/-- A wave's drift by whole turns and the rest. -/
theorem wave_turns (l : List Int) (f : Int) (n : Nat) : sg (at_ l) f n = ((n / l.length : Nat) : Int) * tot l + sg (at_ l) f (n % l.length) := by
  have := sg_lin (at_ l) f 0 l.length (n / l.length) (n % l.length) (at_period l)
  rw [tot_eq] at this
  rw [← this, Nat.mul_comm, Nat.div_add_mod]

/-! ### rounds -/
def rndK (T : List (List Int)) : Nat → Nat
  | 0 => 1
  | k + 1 => Nat.lcm (rndK T k) (row T k).length
def rnd (T : List (List Int)) : Nat := rndK T T.length
theorem rndK_succ (T : List (List Int)) (k : Nat) : rndK T (k + 1) = Nat.lcm (rndK T k) (row T k).length := rfl
theorem rndK_pos {T : List (List Int)} (h : Val T) (k : Nat) (hk : k ≤ T.length) : 1 ≤ rndK T k := by
  induction k with
  | zero => exact Nat.le_refl _
  | succ k ih => exact Nat.lcm_pos (ih (by omega)) (h.2 k (by omega)).1.1
theorem lcm_le_mul (a b : Nat) (ha : 0 < a) (hb : 0 < b) : Nat.lcm a b ≤ a * b := Nat.le_of_dvd (Nat.mul_pos ha hb) (Nat.lcm_dvd (Nat.dvd_mul_right a b) (Nat.dvd_mul_left b a))
theorem rndK_le {T : List (List Int)} (h : Val T) (k : Nat) (hk : k ≤ T.length) : rndK T k ≤ 12 ^ k := by
  induction k with
  | zero => exact Nat.le_refl _
  | succ k ih =>
    have hl := (h.2 k (by omega)).1
    refine Nat.le_trans (lcm_le_mul _ _ (rndK_pos h k (by omega)) hl.1) ?_
    rw [Nat.pow_succ]
    exact Nat.mul_le_mul (ih (by omega)) hl.2
theorem rndK_bound {T : List (List Int)} (h : Val T) (k : Nat) (hk : k ≤ T.length) : rndK T k ≤ 20736 := by
  have h1 := rndK_le h k hk
  have h2 : 12 ^ k ≤ 12 ^ 4 := Nat.pow_le_pow_right (by omega) (by have := h.1.2; omega)
  have : (12 : Nat) ^ 4 = 20736 := by decide
  omega
theorem rnd_bound {T : List (List Int)} (h : Val T) : 1 ≤ rnd T ∧ rnd T ≤ 20736 := ⟨rndK_pos h _ (Nat.le_refl _), rndK_bound h _ (Nat.le_refl _)⟩
theorem rndK_dvd (T : List (List Int)) (i k : Nat) (hi : i < k) : (row T i).length ∣ rndK T k := by
  induction k with
  | zero => omega
  | succ k ih =>
    rcases Nat.lt_succ_iff_lt_or_eq.1 hi with h | rfl
    · exact Nat.dvd_trans (ih h) (Nat.dvd_lcm_left _ _)
    · exact Nat.dvd_lcm_right _ _
theorem spd_period (T : List (List Int)) (t : Int) (n : Nat) (hn : rnd T ∣ n) : spd T (t + n) = spd T t := by
  unfold spd spdK
  exact sm_congr _ (fun i hi => at_period' _ _ _ (Nat.dvd_trans (rndK_dvd T i _ hi) hn))
theorem drf_round (T : List (List Int)) (f : Int) (n : Nat) : drf T f n = ((n / rnd T : Nat) : Int) * drf T 0 (rnd T) + drf T f (n % rnd T) := by
  have := sg_lin (spd T) f 0 (rnd T) (n / rnd T) (n % rnd T) (fun t => spd_period T t _ (Nat.dvd_refl _))
  unfold drf
  rw [← this, Nat.mul_comm, Nat.div_add_mod]

end M
end Go.Proofs.Ytmpmlgognkmfgaa
