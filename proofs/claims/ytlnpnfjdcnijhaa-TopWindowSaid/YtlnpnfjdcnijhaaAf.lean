/-
  Lists of hours: ascending ones with the same hours are equal; the hours of an opening.
-/
import Derived.Test.YtlnpnfjdcnijhaaAe
namespace Go.Proofs.Ytlnpnfjdcnijhaa
set_option linter.unusedVariables false
set_option linter.unusedSimpArgs false
namespace M

theorem asc_eq : ∀ (a b : List Int), a.Pairwise (· < ·) → b.Pairwise (· < ·) → (∀ z, z ∈ a ↔ z ∈ b) → a = b := by
  intro a
  induction a with
  | nil =>
    intro b _ _ h
    cases b with
    | nil => rfl
    | cons y b => exact absurd ((h y).2 (by simp)) (by simp)
  | cons x a ih =>
    intro b ha hb h
    cases b with
    | nil => exact absurd ((h x).1 (by simp)) (by simp)
    | cons y b =>
      rw [List.pairwise_cons] at ha hb
      have h1 : x = y := by
        have hx := (h x).1 (by simp)
        have hy := (h y).2 (by simp)
        rcases List.mem_cons.1 hx with e | e
        · exact e
        · rcases List.mem_cons.1 hy with e' | e'
          · exact e'.symm
          · have := hb.1 x e; have := ha.1 y e'; omega
      subst h1
      have h2 : a = b := ih b ha.2 hb.2 fun z => by
        constructor
        · intro hz
          rcases List.mem_cons.1 ((h z).1 (List.mem_cons_of_mem _ hz)) with e | e
          · have := ha.1 z hz; omega
          · exact e
        · intro hz
          rcases List.mem_cons.1 ((h z).2 (List.mem_cons_of_mem _ hz)) with e | e
          · have := hb.1 z hz; omega
          · exact e
      rw [h2]
theorem mem_el {l : List Int} {z : Int} : (∃ i, i < l.length ∧ el l i = z) ↔ z ∈ l := by
  rw [List.mem_iff_getElem]
  constructor
  · rintro ⟨i, hi, h⟩
    exact ⟨i, hi, by rw [← el_eq l i hi]; exact h⟩
  · rintro ⟨i, hi, h⟩
    exact ⟨i, hi, by rw [el_eq l i hi]; exact h⟩
theorem opB_mem {x : Wn} {h : Int} : opB x h = true ↔ h % x.p ∈ x.hs := by
  unfold opB
  rw [decide_eq_true_iff]
  exact mem_el
theorem gds_asc {x : Wn} (h : Gds x x.hs.length) : x.hs.Pairwise (· < ·) := by
  rw [List.pairwise_iff_getElem]
  intro i j hi hj hij
  rw [← el_eq _ _ hi, ← el_eq _ _ hj]
  exact gds_lt h hij hj
theorem hrsL_mem {f : Nat → Bool} {k : Nat} {z : Int} : z ∈ hrsL f k ↔ ∃ j : Nat, j < k ∧ f j = true ∧ z = (j : Int) := by
  induction k with
  | zero => exact ⟨fun h => (by cases h), fun ⟨j, hj, _⟩ => absurd hj (Nat.not_lt_zero _)⟩
  | succ k ih =>
    cases hf : f k with
    | true =>
      rw [hrsL_yes hf, List.mem_append, ih]
      constructor
      · rintro (⟨j, h1, h2, h3⟩ | h)
        · exact ⟨j, by omega, h2, h3⟩
        · exact ⟨k, by omega, hf, by simpa using h⟩
      · rintro ⟨j, h1, h2, h3⟩
        rcases Nat.lt_succ_iff_lt_or_eq.1 h1 with h4 | rfl
        · exact .inl ⟨j, h4, h2, h3⟩
        · exact .inr (by simp [h3])
    | false =>
      rw [hrsL_no hf, ih]
      constructor
      · rintro ⟨j, h1, h2, h3⟩; exact ⟨j, by omega, h2, h3⟩
      · rintro ⟨j, h1, h2, h3⟩
        rcases Nat.lt_succ_iff_lt_or_eq.1 h1 with h4 | rfl
        · exact ⟨j, h4, h2, h3⟩
        · rw [hf] at h2; cases h2
theorem hrsL_asc (f : Nat → Bool) (k : Nat) : (hrsL f k).Pairwise (· < ·) := by
  induction k with
  | zero => exact .nil
  | succ k ih =>
    cases hf : f k with
    | true =>
      rw [hrsL_yes hf, List.pairwise_append]
      refine ⟨ih, by simp, fun a ha b hb => ?_⟩
      obtain ⟨j, h1, _, h3⟩ := hrsL_mem.1 ha
      have : b = (k : Int) := by simpa using hb
      omega
    | false => rw [hrsL_no hf]; exact ih
/-- The window of an opening is valid. -/
theorem hrsL_win {f : Nat → Bool} {p : Nat} {most : Int} (h1 : 1 ≤ p) (h2 : (p : Int) ≤ most) : winB ⟨p, hrsL f p⟩ most = true := by
  refine winB_iff.2 ⟨⟨by simp only []; omega, h2⟩, fun i hi => ?_⟩
  have hm : ∀ i, i < (hrsL f p).length → ∃ j : Nat, j < p ∧ f j = true ∧ el (hrsL f p) i = (j : Int) := fun i hi => hrsL_mem.1 (mem_el.1 ⟨i, hi, rfl⟩)
  obtain ⟨j, j1, _, j3⟩ := hm i hi
  refine ⟨?_, by rw [j3]; simp only []; omega⟩
  cases i with
  | zero => rw [lst_zero, j3]; omega
  | succ i =>
    rw [lst_succ]
    have hp := hrsL_asc f p
    rw [List.pairwise_iff_getElem] at hp
    have hi' : i + 1 < (hrsL f p).length := hi
    have := hp i (i + 1) (by omega) hi' (by omega)
    rw [← el_eq _ _ (show i < (hrsL f p).length by omega), ← el_eq _ _ hi'] at this
    show el (hrsL f p) i + 1 ≤ el (hrsL f p) (i + 1)
    omega
/-- .. and open when the opening is. -/
theorem hrsL_op {f : Int → Bool} {p : Nat} (h1 : 1 ≤ p) (hper : ∀ h : Int, f (h % (p : Int)) = f h) (h : Int) : opB ⟨p, hrsL (fun j => f (j : Nat)) p⟩ h = f h := by
  rw [Bool.eq_iff_iff, opB_mem, hrsL_mem]
  simp only []
  have m0 := Int.emod_nonneg h (show (p : Int) ≠ 0 by omega)
  have m1 := Int.emod_lt_of_pos h (show (0 : Int) < p by omega)
  constructor
  · rintro ⟨j, j1, j2, j3⟩
    rw [← hper, j3]; exact j2
  · intro hf
    obtain ⟨j, hj⟩ := Int.eq_ofNat_of_zero_le m0
    exact ⟨j, by omega, by rw [← hj, hper]; exact hf, hj⟩
/-- A valid window is that of its opening. -/
theorem hrsL_self {x : Wn} {p : Nat} (hp : x.p = (p : Int)) (h1 : 1 ≤ p) (hg : Gds x x.hs.length) : hrsL (fun j => opB x (j : Nat)) p = x.hs := by
  refine asc_eq _ _ (hrsL_asc _ _) (gds_asc hg) fun z => ?_
  rw [hrsL_mem]
  constructor
  · rintro ⟨j, j1, j2, rfl⟩
    rw [opB_mem, hp, Int.emod_eq_of_lt (by omega) (by omega)] at j2
    exact j2
  · intro hz
    obtain ⟨i, hi, he⟩ := mem_el.2 hz
    have z0 := gds_pos hg i hi
    have z1 := (hg i hi).2
    rw [he] at z0 z1
    obtain ⟨j, rfl⟩ := Int.eq_ofNat_of_zero_le z0
    exact ⟨j, by omega, by rw [opB_mem, hp, Int.emod_eq_of_lt (by omega) (by omega)]; exact hz, rfl⟩
theorem opB_mod {x : Wn} {p : Nat} (hp : x.p = (p : Int)) (a h : Int) : opB x (h % (p : Int) + a) = opB x (h + a) := by
  unfold opB; rw [hp, Int.emod_add_emod]
end M
end Go.Proofs.Ytlnpnfjdcnijhaa
