/-
  Mathematics of awards in whole numbers: they share the estate, each within 1 of the rule's award.
-/
import Derived.Test.YthleekdkbgnabaaJc
import Derived.Test.YthleekdkbgnabaaMathK
namespace Go.Proofs.Ythleekdkbgnabaa
open Go.RowKit Go.Deep M
set_option linter.unusedVariables false
set_option linter.unusedSimpArgs false
namespace M
theorem wM_upd (f : Nat → Int) (x : Int) (j : Nat) : ∀ n, j < n → suM (fun i => if i = j then x else f i) n = suM f n + (x - f j) := by
  have hbe : ∀ n, n ≤ j → suM (fun i => if i = j then x else f i) n = suM f n := by
    intro n
    induction n with
    | zero => intro _; rfl
    | succ n ih => intro h; simp only [suM]; rw [ih (by omega), if_neg (by omega)]
  intro n
  induction n with
  | zero => intro h; omega
  | succ n ih =>
    intro h
    simp only [suM]
    by_cases e : n = j
    · subst e; rw [hbe n (Nat.le_refl _), if_pos rfl]; omega
    · rw [ih (by omega), if_neg e]; omega
theorem wM_le {f g : Nat → Int} : ∀ n, (∀ i, i < n → f i ≤ g i) → suM f n ≤ suM g n := by
  intro n
  induction n with
  | zero => intro _; exact Int.le_refl _
  | succ n ih => intro h; have := ih (fun i hi => h i (by omega)); have := h n (by omega); simp only [suM]; omega
theorem wM_congr {f g : Nat → Int} : ∀ n, (∀ i, i < n → f i = g i) → suM f n = suM g n := by
  intro n
  induction n with
  | zero => intro _; rfl
  | succ n ih => intro h; simp only [suM]; rw [ih (fun i hi => h i (by omega)), h n (by omega)]
theorem wM_const (c : Int) : ∀ n : Nat, suM (fun _ => c) n = n * c := by
  intro n
  induction n with
  | zero => simp [suM]
  | succ n ih => simp only [suM]; rw [ih]; push_cast; grind
theorem wM_mulr (f : Nat → Int) (c : Int) : ∀ n, suM (fun i => f i * c) n = suM f n * c := by
  intro n
  induction n with
  | zero => simp [suM]
  | succ n ih => simp only [suM]; rw [ih]; grind
theorem wM_sub (f g : Nat → Int) : ∀ n, suM (fun i => f i - g i) n = suM f n - suM g n := by
  intro n
  induction n with
  | zero => rfl
  | succ n ih => simp only [suM]; rw [ih]; omega
section
variable {σ : Nat → Nat} {n : Nat}
theorem addW_sum (q : Nat → Int) (hσ : ∀ k, k < n → σ k < n) : ∀ k : Nat, k ≤ n → suM (addW q σ k) n = suM q n + k := by
  intro k
  induction k with
  | zero => intro _; simp [addW]
  | succ k ih =>
    intro hk
    simp only [addW]
    rw [wM_upd _ _ _ n (hσ k (by omega)), ih (by omega)]
    push_cast; omega
theorem addW_val (q : Nat → Int) (hi : ∀ a b, a < b → b < n → σ a ≠ σ b) : ∀ k, k ≤ n → ∀ i, ((∃ j, j < k ∧ σ j = i) ∧ addW q σ k i = q i + 1) ∨ ((¬ ∃ j, j < k ∧ σ j = i) ∧ addW q σ k i = q i) := by
  intro k
  induction k with
  | zero => intro _ i; exact .inr ⟨fun ⟨j, h, _⟩ => absurd h (Nat.not_lt_zero _), rfl⟩
  | succ k ih =>
    intro hk i
    simp only [addW]
    by_cases e : i = σ k
    · left
      refine ⟨⟨k, by omega, e.symm⟩, ?_⟩
      rw [if_pos e]
      rcases ih (by omega) (σ k) with ⟨⟨j, hj, he⟩, _⟩ | ⟨_, h⟩
      · exact absurd he (hi j k hj (by omega))
      · rw [h, e]
    · rw [if_neg e]
      rcases ih (by omega) i with ⟨⟨j, hj, he⟩, h⟩ | ⟨hn, h⟩
      · exact .inl ⟨⟨j, by omega, he⟩, h⟩
      · refine .inr ⟨fun ⟨j, hj, he⟩ => ?_, h⟩
        rcases Nat.lt_succ_iff_lt_or_eq.1 hj with h' | rfl
        · exact hn ⟨j, h', he⟩
        · exact e he.symm
/-- All are met. -/
theorem met (hσ : ∀ k, k < n → σ k < n) (hi : ∀ a b, a < b → b < n → σ a ≠ σ b) : ∀ i, i < n → ∃ j, j < n ∧ σ j = i := by
  have h1 := addW_sum (fun _ => 0) hσ n (Nat.le_refl _)
  have h2 := addW_val (fun _ => (0 : Int)) hi n (Nat.le_refl _)
  intro i hin
  refine Classical.byContradiction fun hc => ?_
  have h3 : suM (addW (fun _ => 0) σ n) n ≤ suM (fun k => if k = i then (0 : Int) else 1) n := wM_le n fun k hk => by
    rcases h2 k with ⟨⟨j, hj, he⟩, h⟩ | ⟨_, h⟩
    · rw [h]
      by_cases e : k = i
      · subst e; exact absurd ⟨j, hj, he⟩ hc
      · rw [if_neg e]; omega
    · rw [h]; split <;> omega
  rw [wM_upd (fun _ => (1 : Int)) 0 i n hin, wM_const] at h3
  rw [wM_const] at h1
  omega
theorem wM_perm (g : Nat → Int) (hσ : ∀ k, k < n → σ k < n) (hi : ∀ a b, a < b → b < n → σ a ≠ σ b) : suM (fun j => g (σ j)) n = suM g n := by
  have key : ∀ k, k ≤ n → suM (fun j => g (σ j)) k = suM (fun i => g i * addW (fun _ => 0) σ k i) n := by
    intro k
    induction k with
    | zero => intro _; simp only [addW, suM]; rw [wM_congr (g := fun _ => (0 : Int)) n (fun i _ => by simp), wM_const]; simp
    | succ k ih =>
      intro hk
      have hz : addW (fun _ => (0 : Int)) σ k (σ k) = 0 := by
        rcases addW_val (fun _ => (0 : Int)) hi k (by omega) (σ k) with ⟨⟨j, hj, he⟩, _⟩ | ⟨_, h⟩
        · exact absurd he (hi j k hj (by omega))
        · exact h
      have : suM (fun i => g i * addW (fun _ => (0 : Int)) σ (k + 1) i) n = suM (fun i => if i = σ k then g (σ k) * 1 else g i * addW (fun _ => (0 : Int)) σ k i) n := wM_congr n fun i _ => by
        simp only [addW]
        by_cases e : i = σ k
        · rw [if_pos e, if_pos e, hz, e]; simp
        · rw [if_neg e, if_neg e]
      rw [this, wM_upd _ _ _ n (hσ k (by omega)), hz]
      simp only [suM]
      rw [ih (by omega)]
      omega
  rw [key n (Nat.le_refl _)]
  refine wM_congr n fun i hin => ?_
  obtain ⟨j, hj, he⟩ := met hσ hi i hin
  rcases addW_val (fun _ => (0 : Int)) hi n (Nat.le_refl _) i with ⟨_, h⟩ | ⟨hn, _⟩
  · rw [h]; omega
  · exact absurd ⟨j, hj, he⟩ hn
end
/-- Keys: by how much an award is above a whole number. -/
structure Keys (n : Nat) (e : Int) (F : Nat → Rt) (Q : Int) (s : Nat → Int) (L : Nat) : Prop where
  q1 : 1 ≤ Q
  val : ∀ i, i < n → (rW F i).n * Q = s i * (F i).d
  rng : ∀ i, i < n → 0 ≤ s i ∧ s i < Q
  tot : suM s n = L * Q
  left : e - suM (qW F) n = L
  le : L ≤ n
theorem keys_of {n : Nat} {e : Int} {F : Nat → Rt} (hc : Cm n e F) (hd : ∀ i, i < n → 1 ≤ (F i).d) : ∃ Q s L, Keys n e F Q s L := by
  obtain ⟨Q, f, hQ, hf, hs⟩ := hc
  have hval : ∀ i, i < n → (rW F i).n * Q = (f i - qW F i * Q) * (F i).d := fun i hi => by
    have h1 := hf i hi
    have h2 := Int.mul_ediv_add_emod (F i).n (F i).d
    unfold rW qW
    simp only
    generalize (F i).n / (F i).d = a at *
    generalize (F i).n % (F i).d = b at *
    have : (F i).n * Q = (F i).d * a * Q + b * Q := by rw [← h2]; grind
    grind
  have hrng : ∀ i, i < n → 0 ≤ f i - qW F i * Q ∧ f i - qW F i * Q < Q := fun i hi => by
    have h1 := hval i hi
    have h2 := hd i hi
    have h3 : 0 ≤ (rW F i).n ∧ (rW F i).n < (F i).d := ⟨Int.emod_nonneg _ (by omega), Int.emod_lt_of_pos _ (by omega)⟩
    generalize (rW F i).n = r at *
    generalize f i - qW F i * Q = s at *
    generalize (F i).d = d at *
    constructor
    · have : 0 ≤ s * d := by rw [← h1]; exact Int.mul_nonneg h3.1 (by omega)
      exact Int.nonneg_of_mul_nonneg_left this (by omega)
    · have : s * d < Q * d := by
        rw [← h1]
        have := Int.mul_lt_mul_of_pos_right h3.2 (show 0 < Q by omega)
        have e1 : d * Q = Q * d := Int.mul_comm _ _
        omega
      exact Int.lt_of_mul_lt_mul_right this (by omega)
  have htot : suM (fun i => f i - qW F i * Q) n = (e - suM (qW F) n) * Q := by
    rw [wM_sub, wM_mulr, hs]; grind
  have hlo : 0 ≤ suM (fun i => f i - qW F i * Q) n := by
    have := wM_le (f := fun _ => (0 : Int)) n (fun i hi => (hrng i hi).1)
    rw [wM_const] at this; simpa using this
  have hhi : suM (fun i => f i - qW F i * Q) n ≤ n * Q := by
    have := wM_le (g := fun _ => Q) n (fun i hi => Int.le_of_lt (hrng i hi).2)
    rw [wM_const] at this; exact this
  rw [htot] at hlo hhi
  have l0 : 0 ≤ e - suM (qW F) n := Int.nonneg_of_mul_nonneg_left hlo (by omega)
  have l1 : e - suM (qW F) n ≤ n := Int.le_of_mul_le_mul_right hhi (by omega)
  refine ⟨Q, fun i => f i - qW F i * Q, (e - suM (qW F) n).toNat, hQ, hval, hrng, ?_, by omega, by omega⟩
  rw [htot, Int.toNat_of_nonneg l0]
theorem Keys.cmp {n : Nat} {e : Int} {F : Nat → Rt} {Q : Int} {s : Nat → Int} {L : Nat} (h : Keys n e F Q s L) (hd : ∀ i, i < n → 1 ≤ (F i).d) {x y : Nat} (hx : x < n) (hy : y < n) :
    (rW F y).n * (rW F x).d < (rW F x).n * (rW F y).d ↔ s y < s x := by
  have vx := h.val x hx
  have vy := h.val y hy
  have dx := hd x hx
  have dy := hd y hy
  have hQ := h.q1
  have e1 : (rW F x).d = (F x).d := rfl
  have e2 : (rW F y).d = (F y).d := rfl
  rw [e1, e2]
  generalize (rW F x).n = a at *
  generalize (rW F y).n = b at *
  generalize (F x).d = c at *
  generalize (F y).d = d at *
  generalize s x = u at *
  generalize s y = v at *
  have k1 : (b * c) * Q = v * (c * d) := by grind
  have k2 : (a * d) * Q = u * (c * d) := by grind
  have hcd : 0 < c * d := Int.mul_pos (by omega) (by omega)
  constructor
  · intro hlt
    have := Int.mul_lt_mul_of_pos_right hlt (show 0 < Q by omega)
    rw [k1, k2] at this
    exact Int.lt_of_mul_lt_mul_right this (by omega)
  · intro hlt
    have := Int.mul_lt_mul_of_pos_right hlt hcd
    rw [← k1, ← k2] at this
    exact Int.lt_of_mul_lt_mul_right this (by omega)
/-- What whole awards are. -/
def WhP (l : List Int) (e : Int) (F : Nat → Rt) (W : Nat → Int) : Prop :=
  suM W l.length = e ∧ ∀ i, i < l.length → (0 ≤ W i ∧ W i ≤ el l i) ∧ -(F i).d < W i * (F i).d - (F i).n ∧ W i * (F i).d - (F i).n < (F i).d
theorem whole_ok {l : List Int} {e : Int} {F : Nat → Rt} {Q : Int} {s : Nat → Int} {L : Nat} {σ : Nat → Nat} (h : Keys l.length e F Q s L) (hg : ∀ i, i < l.length → gdR (el l i) (F i)) (hI : InsI s l.length l.length σ) :
    WhP l e F (addW (qW F) σ L) := by
  have hσ := hI.low
  have hinj : ∀ a b, a < b → b < l.length → σ a ≠ σ b := fun a b hab hb => (hI.srt a b hab hb).ne
  have hle := h.le
  have hpos : ∀ k, k < L → 1 ≤ s (σ k) := fun k hk => by
    refine Classical.byContradiction fun hc => ?_
    have hz : s (σ k) ≤ 0 := by omega
    have h1 := wM_perm s hσ hinj
    rw [h.tot] at h1
    have h2 : suM (fun j => s (σ j)) l.length ≤ suM (fun j => if j < k then Q else 0) l.length := wM_le _ fun j hj => by
      split
      · exact Int.le_of_lt (h.rng _ (hσ j hj)).2
      · rename_i hjk
        by_cases e : j = k
        · subst e; exact hz
        · have := hI.srt k j (by omega) hj
          unfold LtS at this
          omega
    have h3 : ∀ m : Nat, suM (fun j => if j < k then Q else 0) m = (min m k : Nat) * Q := by
      intro m
      induction m with
      | zero => simp [suM]
      | succ m ih =>
        simp only [suM]
        rw [ih]
        by_cases hm : m < k
        · rw [if_pos hm, Nat.min_eq_left (by omega), Nat.min_eq_left (by omega)]; push_cast; grind
        · rw [if_neg hm, Nat.min_eq_right (by omega), Nat.min_eq_right (by omega)]; omega
    rw [h3, Nat.min_eq_right (by omega), h1] at h2
    have hQ := h.q1
    have := Int.le_of_mul_le_mul_right h2 (show 0 < Q by omega)
    omega
  refine ⟨by rw [addW_sum (qW F) hσ L hle]; have := h.left; omega, fun i hi => ?_⟩
  obtain ⟨⟨g1, g2⟩, g3, g4⟩ := hg i hi
  have hv := h.val i hi
  have hr := h.rng i hi
  have hQ := h.q1
  have h2 := Int.mul_ediv_add_emod (F i).n (F i).d
  have h3 : 0 ≤ (F i).n % (F i).d ∧ (F i).n % (F i).d < (F i).d := ⟨Int.emod_nonneg _ (by omega), Int.emod_lt_of_pos _ (by omega)⟩
  have hq0 : 0 ≤ qW F i := Int.ediv_nonneg g1 (by omega)
  have hqe : qW F i = (F i).n / (F i).d := rfl
  have hre : (rW F i).n = (F i).n % (F i).d := rfl
  rw [hre] at hv
  rw [← hqe] at h2
  rcases addW_val (qW F) hinj L hle i with ⟨⟨j, hj, he⟩, hw⟩ | ⟨_, hw⟩
  · have hp := hpos j hj
    rw [he] at hp
    have hr1 : 1 ≤ (F i).n % (F i).d := by
      refine Classical.byContradiction fun hc => ?_
      have : (F i).n % (F i).d = 0 := by omega
      rw [this, Int.zero_mul] at hv
      have : 0 < s i * (F i).d := Int.mul_pos (by omega) (by omega)
      omega
    rw [hw]
    generalize qW F i = q at *
    generalize (F i).n % (F i).d = r at *
    have e1 : (q + 1) * (F i).d = (F i).d * q + (F i).d := by grind
    refine ⟨⟨by omega, ?_⟩, by omega, by omega⟩
    have : q * (F i).d < el l i * (F i).d := by
      have : q * (F i).d = (F i).d * q := Int.mul_comm _ _
      omega
    have := Int.lt_of_mul_lt_mul_right this (by omega)
    omega
  · rw [hw]
    generalize qW F i = q at *
    generalize (F i).n % (F i).d = r at *
    have e1 : q * (F i).d = (F i).d * q := Int.mul_comm _ _
    refine ⟨⟨hq0, ?_⟩, by omega, by omega⟩
    have : q * (F i).d ≤ el l i * (F i).d := by omega
    exact Int.le_of_mul_le_mul_right this (by omega)
/-- The first one of those with the least award. -/
def lsI (f : Nat → Rt) : Nat → Nat
  | 0 => 0
  | k + 1 => if (f k).n * (f (lsI f k)).d < (f (lsI f k)).n * (f k).d then k else lsI f k
end M
end Go.Proofs.Ythleekdkbgnabaa
