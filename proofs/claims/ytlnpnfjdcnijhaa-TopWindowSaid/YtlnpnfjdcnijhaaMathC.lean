/-
  Where a list of rounds meets: the hours that are in all of them; they meet exactly if no two of them never do.
-/
import Derived.Test.YtlnpnfjdcnijhaaMathB
namespace Go.Proofs.Ytlnpnfjdcnijhaa
set_option linter.unusedVariables false
set_option linter.unusedSimpArgs false
namespace M

theorem mulN_lcm (m n : Nat) : mulN m n = Nat.lcm m n := by
  unfold mulN Nat.lcm
  rw [Nat.mul_comm m n, Nat.mul_comm (m / Nat.gcd m n) n]
  exact (Nat.mul_div_assoc n (Nat.gcd_dvd_left m n)).symm
/-- An hour in both is one of the common ones. -/
theorem both_iff {A M b n q h : Nat} (hA : A < M) (hn : 1 ≤ n) (hq : fstK A M b n = some q) (hlt : A + q * M < mulN M n) :
    (h % M = A ∧ h % n = b) ↔ h % mulN M n = A + q * M := by
  have hb : (A + q * M) % n = b := by
    obtain ⟨_, hh, _⟩ := fstK_spec hq
    unfold hitB at hh; simpa using hh
  have hAm : (A + q * M) % M = A := by rw [Nat.mul_comm, Nat.add_mul_mod_self_left]; exact Nat.mod_eq_of_lt hA
  rw [mulN_lcm] at hlt ⊢
  generalize A + q * M = p at *
  constructor
  · rintro ⟨h1, h2⟩
    have d1 : (M : Int) ∣ (h : Int) - p := by
      have e2 : ((h : Int)) % M = (p : Int) % M := by
        have h3 : (((h % M : Nat) : Int)) = ((p % M : Nat) : Int) := by rw [h1, hAm]
        exact h3
      exact Int.emod_eq_emod_iff_emod_sub_eq_zero.1 e2 |> Int.dvd_of_emod_eq_zero
    have d2 : (n : Int) ∣ (h : Int) - p := by
      have e2 : ((h : Int)) % n = (p : Int) % n := by
        have h3 : (((h % n : Nat) : Int)) = ((p % n : Nat) : Int) := by rw [h2, hb]
        exact h3
      exact Int.emod_eq_emod_iff_emod_sub_eq_zero.1 e2 |> Int.dvd_of_emod_eq_zero
    have d3 : ((Nat.lcm M n : Nat) : Int) ∣ (h : Int) - p := by
      have hM' : M ∣ ((h : Int) - p).natAbs := Int.natAbs_dvd_natAbs.2 d1
      have hn' : n ∣ ((h : Int) - p).natAbs := Int.natAbs_dvd_natAbs.2 d2
      exact Int.natAbs_dvd_natAbs.1 (Nat.lcm_dvd hM' hn')
    have e3 := Int.emod_eq_emod_iff_emod_sub_eq_zero.2 (Int.emod_eq_zero_of_dvd d3)
    have e4 : ((h % Nat.lcm M n : Nat) : Int) = ((p % Nat.lcm M n : Nat) : Int) := e3
    have e5 : h % Nat.lcm M n = p % Nat.lcm M n := by omega
    rw [e5]; exact Nat.mod_eq_of_lt hlt
  · intro h1
    have e1 : h % Nat.lcm M n % M = h % M := Nat.mod_mod_of_dvd h (Nat.dvd_lcm_left M n)
    have e2 : h % Nat.lcm M n % n = h % n := Nat.mod_mod_of_dvd h (Nat.dvd_lcm_right M n)
    rw [h1] at e1 e2
    exact ⟨by omega, by omega⟩
/-- Is an hour (a whole number from 0 on) in the first k rounds? -/
def InN (l : List Rd) (h k : Nat) : Prop := ∀ i, i < k → h % (rd l i).e.toNat = (rd l i).a.toNat
theorem inN_succ {l : List Rd} {h k : Nat} : InN l h (k + 1) ↔ InN l h k ∧ h % (rd l k).e.toNat = (rd l k).a.toNat := by
  constructor
  · intro hh
    exact ⟨fun i hi => hh i (by omega), hh k (by omega)⟩
  · rintro ⟨h1, h2⟩ i hi
    rcases Nat.lt_succ_iff_lt_or_eq.1 hi with h3 | rfl
    · exact h1 i h3
    · exact h2
theorem meetN_spec {l : List Rd} (hv : vR l) : ∀ k, k ≤ l.length →
    (∀ A M, meetN l k = some (A, M) → Met l k A M ∧ ∀ h, InN l h k ↔ h % M = A) ∧ (meetN l k = none → ∀ h, ¬ InN l h k) := by
  intro k
  induction k with
  | zero =>
    intro _
    refine ⟨fun A M hm => ?_, fun hm => by cases hm⟩
    injection hm with hm
    injection hm with h1 h2
    subst h1 h2
    exact ⟨met_zero l, fun h => ⟨fun _ => Nat.mod_one h, fun _ i hi => absurd hi (Nat.not_lt_zero _)⟩⟩
  | succ k ih =>
    intro hk
    obtain ⟨h1, h2⟩ := ih (by omega)
    have hstep : meetN l (k + 1) = stp (meetN l k) (rd l k) := rfl
    obtain ⟨⟨g1, g2⟩, g3, g4⟩ := hv.2 k (by omega)
    cases hm : meetN l k with
    | none =>
      rw [hm] at hstep
      refine ⟨fun A M h => (by rw [hstep] at h; cases h), fun _ h hh => ?_⟩
      exact h2 hm h (inN_succ.1 hh).1
    | some s =>
      obtain ⟨A, M⟩ := s
      obtain ⟨hmet, hin⟩ := h1 A M hm
      rw [hm] at hstep
      unfold stp at hstep
      simp only [] at hstep
      cases hf : fstK A M (rd l k).a.toNat (rd l k).e.toNat with
      | none =>
        rw [hf] at hstep
        refine ⟨fun A M h => (by rw [hstep] at h; cases h), fun _ h hh => ?_⟩
        obtain ⟨i1, i2⟩ := inN_succ.1 hh
        have i3 := (hin h).1 i1
        have hno := no_hit (A := A) (M := M) (b := (rd l k).a.toNat) (n := (rd l k).e.toNat) (by have := hmet.lt; omega) (by omega) (fun j hj => fstK_spec0 hf j (by have := q_le M (rd l k).e.toNat; omega)) (h / M)
        unfold hitB at hno
        have hd := Nat.div_add_mod h M
        rw [i3, Nat.mul_comm] at hd
        rw [show A + h / M * M = h by omega] at hno
        simp only [beq_eq_false_iff_ne, ne_eq] at hno
        exact hno i2
      | some q =>
        rw [hf] at hstep
        refine ⟨fun A' M' h => ?_, fun h => (by rw [hstep] at h; cases h)⟩
        rw [hstep] at h
        injection h with h
        injection h with e1 e2
        subst e1 e2
        have hm2 := met_step hmet hv (by omega) hf
        refine ⟨hm2, fun h => ?_⟩
        rw [inN_succ, hin h]
        exact both_iff hmet.lt (by omega) hf hm2.lt

/-! ### they meet exactly if no two never do -/
theorem dvd_split {m n : Nat} {z : Int} (h : ((Nat.gcd m n : Nat) : Int) ∣ z) : ∃ x y : Int, z = m * x + n * y := by
  obtain ⟨t, ht⟩ := h
  obtain ⟨x, y, hxy⟩ := bez m n
  exact ⟨x * t, y * t, by rw [ht, hxy]; grind⟩
theorem gcd_lcm {M e n : Nat} {z : Int} (hM : 1 ≤ M) (h1 : ((Nat.gcd M n : Nat) : Int) ∣ z) (h2 : ((Nat.gcd e n : Nat) : Int) ∣ z) : ((Nat.gcd (mulN M e) n : Nat) : Int) ∣ z := by
  obtain ⟨X, Y, hz1⟩ := dvd_split h1
  obtain ⟨X', Y', hz2⟩ := dvd_split h2
  obtain ⟨u, v, hb⟩ := bez M e
  obtain ⟨m, hm⟩ := Nat.gcd_dvd_left M e
  obtain ⟨f, hf⟩ := Nat.gcd_dvd_right M e
  have hg := gcd_pos (n := e) hM
  have hL : mulN M e = Nat.gcd M e * m * f := by
    rw [mulN_eq hM]
    have : e / Nat.gcd M e = f := by
      have h3 := Nat.mul_div_cancel_left f hg
      rw [← hf] at h3; exact h3
    rw [this, ← hm]
  generalize Nat.gcd M e = g at *
  have hg0 : (g : Int) ≠ 0 := by omega
  have hmI : (M : Int) = g * m := by rw [hm, Int.natCast_mul]
  have hfI : (e : Int) = g * f := by rw [hf, Int.natCast_mul]
  have h1' : (1 : Int) = m * u + f * v := by
    rw [hmI, hfI] at hb
    have : (g : Int) * 1 = g * (m * u + f * v) := by rw [Int.mul_one]; rw [Int.mul_add, ← Int.mul_assoc, ← Int.mul_assoc]; exact hb
    exact Int.eq_of_mul_eq_mul_left hg0 this
  have hz : z = ((mulN M e : Nat) : Int) * (X' * u + X * v) + n * (Y' * m * u + Y * f * v) := by
    have e1 : z = z * (m * u + f * v) := by rw [← h1', Int.mul_one]
    have e2 : z * (m * u + f * v) = z * (m * u) + z * (f * v) := Int.mul_add _ _ _
    rw [e2] at e1
    rw [e1]
    have e3 : z * (m * u) = (e * X' + n * Y') * (m * u) := by rw [← hz2]
    have e4 : z * (f * v) = (M * X + n * Y) * (f * v) := by rw [← hz1]
    rw [e3, e4, hL, hmI, hfI, Int.natCast_mul, Int.natCast_mul]
    grind
  obtain ⟨p, hp⟩ := Nat.gcd_dvd_left (mulN M e) n
  obtain ⟨q, hq⟩ := Nat.gcd_dvd_right (mulN M e) n
  have hpI : ((mulN M e : Nat) : Int) = ((Nat.gcd (mulN M e) n : Nat) : Int) * p := by rw [← Int.natCast_mul, ← hp]
  have hqI : ((n : Nat) : Int) = ((Nat.gcd (mulN M e) n : Nat) : Int) * q := by rw [← Int.natCast_mul, ← hq]
  generalize ((Nat.gcd (mulN M e) n : Nat) : Int) = d at *
  refine ⟨p * (X' * u + X * v) + q * (Y' * m * u + Y * f * v), ?_⟩
  rw [hz, hpI, hqI]
  grind
theorem meet_gcd {l : List Rd} (hv : vR l) : ∀ k, k ≤ l.length → ∀ A M, meetN l k = some (A, M) → ∀ (n : Nat) (z : Int), (∀ i, i < k → ((Nat.gcd (rd l i).e.toNat n : Nat) : Int) ∣ z) → ((Nat.gcd M n : Nat) : Int) ∣ z := by
  intro k
  induction k with
  | zero =>
    intro _ A M hm n z _
    injection hm with hm
    injection hm with h1 h2
    subst h2
    rw [Nat.gcd_one_left]
    exact ⟨z, by simp⟩
  | succ k ih =>
    intro hk A M hm n z hz
    have hstep : meetN l (k + 1) = stp (meetN l k) (rd l k) := rfl
    rw [hm] at hstep
    cases hm' : meetN l k with
    | none => rw [hm'] at hstep; cases hstep
    | some s =>
      obtain ⟨A', M'⟩ := s
      rw [hm'] at hstep
      unfold stp at hstep
      simp only [] at hstep
      cases hf : fstK A' M' (rd l k).a.toNat (rd l k).e.toNat with
      | none => rw [hf] at hstep; cases hstep
      | some q =>
        rw [hf] at hstep
        injection hstep with hstep
        injection hstep with e1 e2
        subst e2
        have hmet := ((meetN_spec hv k (by omega)).1 A' M' hm').1
        exact gcd_lcm (by have := hmet.lt; omega) (ih (by omega) A' M' hm' n z fun i hi => hz i (by omega)) (hz k (by omega))
theorem sub_dvd {a h e b n g : Nat} (h1 : h % e = a) (h2 : h % n = b) (d1 : g ∣ e) (d2 : g ∣ n) : (g : Int) ∣ (a : Int) - b := by
  obtain ⟨p, hp⟩ := d1
  obtain ⟨q, hq⟩ := d2
  have k1 := Nat.div_add_mod h e
  have k2 := Nat.div_add_mod h n
  rw [h1] at k1
  rw [h2] at k2
  refine ⟨(q : Int) * (h / n : Nat) - p * (h / e : Nat), ?_⟩
  generalize h / e = s at *
  generalize h / n = t at *
  have k3 : ((e * s + a : Nat) : Int) = ((n * t + b : Nat) : Int) := by rw [k1, k2]
  rw [hp, hq, Int.natCast_add, Int.natCast_add, Int.natCast_mul, Int.natCast_mul, Int.natCast_mul, Int.natCast_mul] at k3
  grind
theorem meet_pairs {l : List Rd} (hv : vR l) {A M : Nat} (hm : meetN l l.length = some (A, M)) {i k : Nat} (hi : i < l.length) (hk : k < l.length) :
    nevN (rd l i).a.toNat (rd l i).e.toNat (rd l k).a.toNat (rd l k).e.toNat = false := by
  obtain ⟨hmet, hin⟩ := (meetN_spec hv l.length (Nat.le_refl _)).1 A M hm
  have hA := (hin A).2 (Nat.mod_eq_of_lt hmet.lt)
  rw [nevN_false]
  exact sub_dvd (hA i hi) (hA k hk) (Nat.gcd_dvd_left _ _) (Nat.gcd_dvd_right _ _)
theorem nev_symm (a e b n : Nat) : nevN a e b n = nevN b n a e := by
  rw [Bool.eq_iff_iff, ← Bool.not_eq_false, ← Bool.not_eq_false, nevN_false, nevN_false, Nat.gcd_comm]
  have : (a : Int) - b = -((b : Int) - a) := by omega
  rw [this, Int.dvd_neg]
theorem pairs_meet {l : List Rd} (hv : vR l) (hp : ∀ i k, i < k → k < l.length → nevN (rd l i).a.toNat (rd l i).e.toNat (rd l k).a.toNat (rd l k).e.toNat = false) : ∀ k, k ≤ l.length → meetN l k ≠ none := by
  intro k
  induction k with
  | zero => intro _ h; cases h
  | succ k ih =>
    intro hk hn
    have hstep : meetN l (k + 1) = stp (meetN l k) (rd l k) := rfl
    rw [hn] at hstep
    obtain ⟨⟨g1, g2⟩, g3, g4⟩ := hv.2 k (by omega)
    cases hm : meetN l k with
    | none => exact ih (by omega) hm
    | some s =>
      obtain ⟨A, M⟩ := s
      obtain ⟨hmet, hin⟩ := (meetN_spec hv k (by omega)).1 A M hm
      have hA := (hin A).2 (Nat.mod_eq_of_lt hmet.lt)
      rw [hm] at hstep
      unfold stp at hstep
      simp only [] at hstep
      cases hf : fstK A M (rd l k).a.toNat (rd l k).e.toNat with
      | some q => rw [hf] at hstep; cases hstep
      | none =>
        have hd : ((Nat.gcd M (rd l k).e.toNat : Nat) : Int) ∣ (A : Int) - ((rd l k).a.toNat : Nat) := by
          refine meet_gcd hv k (by omega) A M hm _ _ fun i hi => ?_
          have h1 := nevN_false.1 (hp i k hi (by omega))
          have h2 := hA i hi
          have h3 := Nat.div_add_mod A (rd l i).e.toNat
          rw [h2] at h3
          obtain ⟨p, hp'⟩ := Nat.gcd_dvd_left (rd l i).e.toNat (rd l k).e.toNat
          obtain ⟨t, ht⟩ := h1
          generalize Nat.gcd (rd l i).e.toNat (rd l k).e.toNat = g at *
          refine ⟨(p : Int) * (A / (rd l i).e.toNat : Nat) + t, ?_⟩
          generalize A / (rd l i).e.toNat = s at *
          have h4 : (((rd l i).e.toNat * s + (rd l i).a.toNat : Nat) : Int) = (A : Int) := by rw [h3]
          rw [hp', Int.natCast_add, Int.natCast_mul, Int.natCast_mul] at h4
          generalize (((rd l i).a.toNat : Nat) : Int) = a at *
          generalize (((rd l k).a.toNat : Nat) : Int) = b at *
          grind
        obtain ⟨j, hj, hh⟩ := dvd_hit (by omega) (by omega) hd
        rw [fstK_spec0 hf j hj] at hh; cases hh
end M
end Go.Proofs.Ytlnpnfjdcnijhaa
