/-
  Plain windows: the least period by which an opening repeats.
-/
import Derived.Test.YtlnpnfjdcnijhaaAf
import Derived.Test.YtlnpnfjdcnijhaaMathC
namespace Go.Proofs.Ytlnpnfjdcnijhaa
set_option linter.unusedVariables false
set_option linter.unusedSimpArgs false
namespace M

/-- An opening that is the same in each period. -/
def PerM (f : Int → Bool) (k : Nat) : Prop := ∀ h : Int, f (h % (k : Int)) = f h
theorem PerM.step {f : Int → Bool} {k : Nat} (h : PerM f k) (z : Int) : f (z + k) = f z := by
  rw [← h (z + k), Int.add_emod_right, h]
theorem step_mul {f : Int → Bool} {k : Nat} (h : ∀ z : Int, f (z + k) = f z) (n : Nat) (z : Int) : f (z + n * k) = f z := by
  induction n with
  | zero => simp
  | succ n ih =>
    rw [show z + ((n + 1 : Nat) : Int) * (k : Int) = (z + n * k) + k by rw [Int.natCast_add, Int.add_mul]; simp; omega, h, ih]
theorem perM_of_step {f : Int → Bool} {k : Nat} (hk : 1 ≤ k) (h : ∀ z : Int, f (z + k) = f z) : PerM f k := by
  intro z
  have e := Int.emod_add_mul_ediv z k
  rcases Int.le_total 0 (z / k) with hq | hq
  · obtain ⟨n, hn⟩ := Int.eq_ofNat_of_zero_le hq
    rw [hn, Int.mul_comm] at e
    rw [← step_mul h n (z % k), e]
  · obtain ⟨n, hn⟩ := Int.eq_ofNat_of_zero_le (show 0 ≤ -(z / k) by omega)
    have e2 : z % k = z + n * k := by
      rw [← hn, Int.neg_mul, Int.mul_comm]; omega
    rw [e2, step_mul h n z]
theorem PerM.dvd {f : Int → Bool} {k m : Nat} (h : PerM f k) (hd : k ∣ m) : PerM f m := by
  intro z
  rw [← h (z % m), Int.emod_emod_of_dvd z (Int.natCast_dvd_natCast.2 hd), h]
theorem opB_perM {x : Wn} {p : Nat} (hp : x.p = (p : Int)) : PerM (opB x) p := fun h => by
  have := opB_mod hp 0 h
  simpa using this
theorem PerM.and {f g : Int → Bool} {k : Nat} (h : PerM f k) (h' : PerM g k) : PerM (fun z => f z && g z) k := fun z => by
  show (f _ && g _) = (f z && g z); rw [h z, h' z]
theorem PerM.or {f g : Int → Bool} {k : Nat} (h : PerM f k) (h' : PerM g k) : PerM (fun z => f z || g z) k := fun z => by
  show (f _ || g _) = (f z || g z); rw [h z, h' z]
theorem PerM.not {f : Int → Bool} {k : Nat} (h : PerM f k) : PerM (fun z => !f z) k := fun z => by
  show (!f _) = (!f z); rw [h z]
theorem dvd_mulN_left (m n : Nat) : m ∣ mulN m n := by rw [mulN_lcm]; exact Nat.dvd_lcm_left _ _
theorem dvd_mulN_right (m n : Nat) : n ∣ mulN m n := by rw [mulN_lcm]; exact Nat.dvd_lcm_right _ _

/-- Does an opening repeat itself after so many hours, at all hours of a period? -/
def Rep (p : Nat) (f : Int → Bool) (k : Nat) (n : Nat) : Prop := ∀ h : Nat, h < n → f (h : Int) = f ((h : Int) + k)
instance (p : Nat) (f : Int → Bool) (k n : Nat) : Decidable (Rep p f k n) := by unfold Rep; infer_instance
theorem rep_zero (p : Nat) (f : Int → Bool) (k : Nat) : Rep p f k 0 := fun h hh => absurd hh (Nat.not_lt_zero _)
theorem rep_succ {p : Nat} {f : Int → Bool} {k n : Nat} (h : Rep p f k n) (h1 : f (n : Int) = f ((n : Int) + k)) : Rep p f k (n + 1) := fun j hj => by
  rcases Nat.lt_succ_iff_lt_or_eq.1 hj with h' | rfl
  · exact h j h'
  · exact h1
def repB (p : Nat) (f : Int → Bool) (k : Nat) : Bool := decide (Rep p f k p)
theorem repB_no {p : Nat} {f : Int → Bool} {k n : Nat} (hn : n < p) (h : ¬ f (n : Int) = f ((n : Int) + k)) : repB p f k = false := by
  unfold repB; rw [decide_eq_false]; exact fun hh => h (hh n hn)
/-- Does a period serve? -/
def serB (p : Nat) (f : Int → Bool) (k : Nat) : Bool := decide (1 ≤ k) && decide (p % k = 0) && repB p f k
theorem serB_zero (p : Nat) (f : Int → Bool) : serB p f 0 = false := rfl
theorem serB_iff {p : Nat} {f : Int → Bool} {k : Nat} (hp : 1 ≤ p) (h : PerM f p) : serB p f k = true ↔ 1 ≤ k ∧ k ∣ p ∧ PerM f k := by
  unfold serB repB
  rw [Bool.and_eq_true, Bool.and_eq_true, decide_eq_true_iff, decide_eq_true_iff, decide_eq_true_iff, Nat.dvd_iff_mod_eq_zero]
  constructor
  · rintro ⟨⟨h1, h2⟩, h3⟩
    refine ⟨h1, h2, perM_of_step h1 fun z => ?_⟩
    have m0 := Int.emod_nonneg z (show (p : Int) ≠ 0 by omega)
    have m1 := Int.emod_lt_of_pos z (show (0 : Int) < p by omega)
    obtain ⟨j, hj⟩ := Int.eq_ofNat_of_zero_le m0
    have := h3 j (by omega)
    rw [← hj] at this
    rw [← h z, this, ← h (z + k), ← Int.emod_add_emod, h]
  · rintro ⟨h1, h2, h3⟩
    exact ⟨⟨h1, h2⟩, fun j _ => (h3.step j).symm⟩
/-- The least period. -/
def plN (p : Nat) (f : Int → Bool) : Nat := ((List.range p).find? (serB p f)).getD p
theorem plN_yes {p : Nat} {f : Int → Bool} {k : Nat} (hk : k < p) (h : serB p f k = true) (hn : ∀ j, j < k → serB p f j = false) : plN p f = k := by
  unfold plN
  have : (List.range p).find? (serB p f) = some k := by
    rw [List.find?_range_eq_some]
    exact ⟨h, by simpa using hk, fun j hj => by rw [hn j hj]; rfl⟩
  rw [this]; rfl
theorem plN_no {p : Nat} {f : Int → Bool} (hn : ∀ j, j < p → serB p f j = false) : plN p f = p := by
  unfold plN
  have : (List.range p).find? (serB p f) = none := by
    rw [List.find?_range_eq_none]
    intro j hj
    simpa using hn j hj
  rw [this]; rfl
theorem plN_spec {p : Nat} {f : Int → Bool} (hp : 1 ≤ p) (h : PerM f p) : (1 ≤ plN p f ∧ plN p f ≤ p) ∧ plN p f ∣ p ∧ PerM f (plN p f) ∧ ∀ j, 1 ≤ j → j < plN p f → j ∣ p → ¬ PerM f j := by
  unfold plN
  cases e : (List.range p).find? (serB p f) with
  | none =>
    rw [List.find?_range_eq_none] at e
    simp only [Option.getD_none]
    refine ⟨⟨hp, Nat.le_refl _⟩, Nat.dvd_refl _, h, fun j j1 j2 j3 j4 => ?_⟩
    have := e j j2
    rw [(serB_iff hp h).2 ⟨j1, j3, j4⟩] at this
    simp at this
  | some k =>
    rw [List.find?_range_eq_some] at e
    obtain ⟨e1, e2, e3⟩ := e
    simp only [Option.getD_some]
    obtain ⟨h1, h2, h3⟩ := (serB_iff hp h).1 e1
    refine ⟨⟨h1, by have : k < p := by simpa using e2
                    omega⟩, h2, h3, fun j j1 j2 j3 j4 => ?_⟩
    have := e3 j j2
    rw [(serB_iff hp h).2 ⟨j1, j3, j4⟩] at this
    simp at this
theorem plN_eq {p k : Nat} {f : Int → Bool} (hp : 1 ≤ p) (h : PerM f p) (h1 : 1 ≤ k) (h2 : k ∣ p) (h3 : PerM f k) (h4 : ∀ j, 1 ≤ j → j < k → j ∣ p → ¬ PerM f j) : plN p f = k := by
  obtain ⟨⟨a1, a2⟩, a3, a4, a5⟩ := plN_spec hp h
  rcases Nat.lt_trichotomy (plN p f) k with e | e | e
  · exact absurd a4 (h4 _ a1 e a3)
  · exact e
  · exact absurd h3 (a5 _ h1 e h2)
/-- The plain window of a window. -/
def plW (x : Wn) : Wn := ⟨(plN x.p.toNat (opB x) : Nat), hrsL (fun j => opB x (j : Nat)) (plN x.p.toNat (opB x))⟩
theorem plW_op {x : Wn} {p : Nat} (hp : x.p = (p : Int)) (h1 : 1 ≤ p) : ∀ z, opB (plW x) z = opB x z := by
  intro z
  obtain ⟨⟨a1, _⟩, _, a4, _⟩ := plN_spec h1 (opB_perM hp)
  unfold plW
  rw [hp, Int.toNat_natCast]
  exact hrsL_op (f := opB x) a1 a4 z
theorem plW_fun {x : Wn} {p : Nat} (hp : x.p = (p : Int)) (h1 : 1 ≤ p) : opB (plW x) = opB x := funext (plW_op hp h1)
theorem plW_again {x : Wn} {p : Nat} (hp : x.p = (p : Int)) (h1 : 1 ≤ p) : plW (plW x) = plW x := by
  have hper := opB_perM hp
  obtain ⟨⟨a1, a2⟩, a3, a4, a5⟩ := plN_spec h1 hper
  have e : plN (plN p (opB x)) (opB x) = plN p (opB x) := plN_eq a1 a4 a1 (Nat.dvd_refl _) a4 fun j j1 j2 j3 => a5 j j1 j2 (Nat.dvd_trans j3 a3)
  have hf := plW_fun hp h1
  have hpl : (plW x).p.toNat = plN p (opB x) := by unfold plW; rw [hp]; simp
  show Wn.mk _ _ = _
  rw [hf, hpl, e]
  unfold plW
  rw [hp, Int.toNat_natCast]
theorem plW_win {x : Wn} {p : Nat} (hp : x.p = (p : Int)) (h1 : 1 ≤ p) {most : Int} (hm : (p : Int) ≤ most) : winB (plW x) most = true := by
  obtain ⟨⟨a1, a2⟩, _, _, _⟩ := plN_spec h1 (opB_perM hp)
  unfold plW
  rw [hp, Int.toNat_natCast]
  exact hrsL_win a1 (by omega)
/-- The specification's own condition. -/
def Rem (f : Int → Bool) (k n : Nat) : Prop := ∀ h : Nat, h < n → f (h : Int) = f ((h % k : Nat) : Int)
instance (f : Int → Bool) (k n : Nat) : Decidable (Rem f k n) := by unfold Rem; infer_instance
theorem rem_zero (f : Int → Bool) (k : Nat) : Rem f k 0 := fun h hh => absurd hh (Nat.not_lt_zero _)
theorem rem_succ {f : Int → Bool} {k n : Nat} : Rem f k (n + 1) ↔ Rem f k n ∧ f (n : Int) = f ((n % k : Nat) : Int) := by
  constructor
  · intro h; exact ⟨fun j hj => h j (by omega), h n (by omega)⟩
  · rintro ⟨h, h1⟩ j hj
    rcases Nat.lt_succ_iff_lt_or_eq.1 hj with h' | rfl
    · exact h j h'
    · exact h1
theorem ser_rem {p : Nat} {f : Int → Bool} {k : Nat} (hp : 1 ≤ p) (h : PerM f p) (h1 : 1 ≤ k) (h2 : k ∣ p) : serB p f k = decide (Rem f k p) := by
  rw [Bool.eq_iff_iff, serB_iff hp h, decide_eq_true_iff]
  constructor
  · rintro ⟨_, _, h3⟩ j _
    rw [Int.natCast_emod]; exact (h3 j).symm
  · intro h3
    refine ⟨h1, h2, fun z => ?_⟩
    have m0 := Int.emod_nonneg z (show (p : Int) ≠ 0 by omega)
    have m1 := Int.emod_lt_of_pos z (show (0 : Int) < p by omega)
    obtain ⟨j, hj⟩ := Int.eq_ofNat_of_zero_le m0
    have := h3 j (by omega)
    rw [Int.natCast_emod, ← hj, Int.emod_emod_of_dvd z (Int.natCast_dvd_natCast.2 h2), h] at this
    exact this.symm
end M
end Go.Proofs.Ytlnpnfjdcnijhaa
