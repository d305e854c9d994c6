/-
  Windows of one hour each, taken together, against rounds that meet.
-/
import Derived.Test.YtlnpnfjdcnijhaaBw
namespace Go.Proofs.Ytlnpnfjdcnijhaa
open Go.RowKit Go.Deep M
set_option linter.unusedVariables false
set_option linter.unusedSimpArgs false
namespace M
theorem opB_one {e a : Int} (h : Int) : opB ⟨e, [a]⟩ h = decide (a = h % e) := by
  unfold opB
  refine decide_eq_decide.2 ⟨?_, fun hh => ⟨0, by simp, by simpa [el] using hh⟩⟩
  rintro ⟨i, hi, he⟩
  have : i = 0 := by simpa using hi
  subst this
  simpa [el] using he
/-- The windows are the rounds. -/
def WinOf (l : List Rd) (D : List Wc) (n : Nat) : Prop := ∀ i, i < n → (wc D i).x = ⟨(rd l i).e, [(rd l i).a]⟩
theorem perT_meet {l : List Rd} {D : List Wc} {n : Nat} (hw : WinOf l D n) (hv : vR l) (hn : n ≤ l.length) : ∀ k, k ≤ n → ∀ A M, meetN l k = some (A, M) → perT D k = M := by
  intro k
  induction k with
  | zero =>
    intro _ A M h
    have : (0, 1) = (A, M) := Option.some.inj h
    exact (Prod.mk.inj this).2
  | succ k ih =>
    intro hk A M h
    have hs : meetN l (k + 1) = stp (meetN l k) (rd l k) := rfl
    rw [hs] at h
    cases hm : meetN l k with
    | none => rw [hm] at h; cases h
    | some s =>
      obtain ⟨A', M'⟩ := s
      rw [hm] at h
      unfold stp at h
      simp only [] at h
      cases hf : fstK A' M' (rd l k).a.toNat (rd l k).e.toNat with
      | none => rw [hf] at h; cases h
      | some q =>
        rw [hf] at h
        injection h with h
        injection h with e1 e2
        show mulN (perT D k) (wc D k).x.p.toNat = M
        rw [ih (by omega) A' M' hm, hw k (by omega), ← e2]
theorem opT_in {l : List Rd} {D : List Wc} {n : Nat} (hw : WinOf l D n) (hv : vR l) (hn : n ≤ l.length) (h : Nat) : ∀ k, k ≤ n → (opT D k (h : Nat) = true ↔ InN l h k) := by
  intro k
  induction k with
  | zero => intro _; exact ⟨fun _ i hi => absurd hi (Nat.not_lt_zero _), fun _ => rfl⟩
  | succ k ih =>
    intro hk
    obtain ⟨⟨g1, g2⟩, g3, g4⟩ := hv.2 k (by omega)
    rw [inN_succ, ← ih (by omega)]
    show (opT D k (h : Nat) && opB (wc D k).x (h : Nat)) = true ↔ _
    rw [hw k (by omega), opB_one, Bool.and_eq_true, decide_eq_true_iff]
    refine and_congr_right fun _ => ?_
    have e1 : (rd l k).e = (((rd l k).e.toNat : Nat) : Int) := by omega
    have e2 : (rd l k).a = (((rd l k).a.toNat : Nat) : Int) := by omega
    generalize (rd l k).e.toNat = p at *
    generalize (rd l k).a.toNat = q at *
    rw [e1, e2]
    constructor
    · intro hh; omega
    · intro hh; rw [← hh]; simp
theorem wns_of {l : List Rd} {D : List Wc} (hw : WinOf l D D.length) (hv : vR l) (hn : D.length ≤ l.length) (hp : ∀ i, i < D.length → (rd l i).e ≤ 60) : wnsB D 60 = true := by
  unfold wnsB
  refine decide_eq_true fun i hi => ?_
  obtain ⟨⟨g1, g2⟩, g3, g4⟩ := hv.2 i (by omega)
  rw [hw i hi]
  refine winB_iff.2 ⟨⟨g1, hp i hi⟩, fun j hj => ?_⟩
  have : j = 0 := by simpa using hj
  subst this
  unfold Gd1
  simp [el, lst]
  omega
theorem hrs_only {f : Nat → Bool} {A : Nat} : ∀ M, (∀ j, j < M → (f j = true ↔ j = A)) → hrsL f M = if A < M then [(A : Int)] else [] := by
  intro M
  induction M with
  | zero => intro _; simp [hrsL]
  | succ M ih =>
    intro h
    have h1 := ih fun j hj => h j (by omega)
    cases hf : f M with
    | true =>
      have : M = A := (h M (by omega)).1 hf
      subst this
      rw [hrsL_yes hf, h1]; simp
    | false =>
      have : ¬ M = A := fun e => by rw [(h M (by omega)).2 e] at hf; cases hf
      rw [hrsL_no hf, h1]
      by_cases hA : A < M
      · rw [if_pos hA, if_pos (by omega)]
      · rw [if_neg hA, if_neg (by omega)]
theorem hrs_none {f : Nat → Bool} (M : Nat) (h : ∀ j, j < M → f j = false) : hrsL f M = [] := by
  induction M with
  | zero => rfl
  | succ M ih => rw [hrsL_no (h M (by omega)), ih fun j hj => h j (by omega)]
theorem next_some {f : Int → Bool} {A M from' : Nat} (hA : A < M) (hf : ∀ h : Nat, f (h : Nat) = true ↔ h % M = A) :
    nextO M f (from' : Nat) = ((from' : Int) + ((((A : Int) - from').tmod M + M).tmod M), 0) := by
  have hM : (0 : Int) < M := by omega
  have e : (((A : Int) - from').tmod M + M).tmod M = ((A : Int) - from') % M := by
    have h1 := Int.tmod_add_mul_tdiv ((A : Int) - from') M
    have hl : -(M : Int) < ((A : Int) - from').tmod M := by
      have := Int.lt_tmod_of_pos ((A : Int) - from') hM
      exact this
    rw [Int.tmod_eq_emod_of_nonneg (by omega), Int.add_emod_right]
    have : ((A : Int) - from').tmod M = ((A : Int) - from') - M * ((A : Int) - from').tdiv M := by omega
    rw [this, Int.sub_mul_emod_self_left]
  rw [e]
  have m0 := Int.emod_nonneg ((A : Int) - from') (show (M : Int) ≠ 0 by omega)
  have m1 := Int.emod_lt_of_pos ((A : Int) - from') hM
  obtain ⟨k, hk⟩ := Int.eq_ofNat_of_zero_le m0
  have key : ∀ j : Nat, (from' + j) % M = A ↔ (j : Int) % M = k := fun j => by
    constructor
    · intro h
      have : (((from' + j) % M : Nat) : Int) = A := by rw [h]
      rw [Int.natCast_emod] at this
      push_cast at this
      rw [← hk, ← this, Int.emod_sub_emod]
      congr 1
      omega
    · intro h
      have : (((from' + j) % M : Nat) : Int) = (A : Int) := by
        rw [Int.natCast_emod]
        push_cast
        have : ((from' : Int) + j) % M = (from' + ((A : Int) - from')) % M := by
          rw [Int.add_emod, h, ← hk, Int.add_emod (from' : Int) ((A : Int) - from')]
        rw [this, show (from' : Int) + ((A : Int) - from') = A by omega]
        exact Int.emod_eq_of_lt (by omega) (by omega)
      omega
  have hkM : k < M := by omega
  have hsm : ∀ j : Nat, j < M → ((j : Int) % M = k ↔ j = k) := fun j hj => by
    rw [Int.emod_eq_of_lt (by omega) (by omega)]; omega
  have : fstO M f (from' : Nat) = some k := by
    refine fstO_some hkM ?_ fun j hj => ?_
    · rw [show ((from' : Int) + (k : Nat)) = ((from' + k : Nat) : Int) by push_cast; rfl, hf, key, hsm k hkM]
    · cases hb : f ((from' : Int) + (j : Nat)) with
      | false => rfl
      | true =>
        rw [show ((from' : Int) + (j : Nat)) = ((from' + j : Nat) : Int) by push_cast; rfl, hf, key, hsm j (by omega)] at hb
        omega
  unfold nextO
  rw [this, hk]
theorem next_none {f : Int → Bool} {M from' : Nat} (hf : ∀ h : Nat, f (h : Nat) = false) : nextO M f (from' : Nat) = (0, 5) := by
  unfold nextO
  rw [fstO_none fun j _ => by rw [show ((from' : Int) + (j : Nat)) = ((from' + j : Nat) : Int) by push_cast; rfl, hf]]
/-- What First and Number answer, of windows that are rounds. -/
theorem firnum_of {l : List Rd} {D : List Wc} (hw : WinOf l D l.length) (hD : D.length = l.length) (hv : vR l) (h4 : l.length ≤ 4) (hp : ∀ i, i < l.length → (rd l i).e ≤ 60) (from' : Nat) (hf : from' ≤ 1000000000) :
    ((firR D (from' : Nat)).2 = 4 ∧ (numR D).2.2 = 4) ∨
    ((∃ A M : Nat, meetN l l.length = some (A, M) ∧ A < M ∧ firR D (from' : Nat) = ((from' : Int) + ((((A : Int) - from').tmod M + M).tmod M), 0) ∧ numR D = (1, (M : Int), 0)) ∨
    (meetN l l.length = none ∧ firR D (from' : Nat) = (0, 5) ∧ ∃ p : Nat, 1 ≤ p ∧ numR D = (0, (p : Int), 0))) := by
  have hwn := wns_of (hD ▸ hw) hv (by omega) (by rw [hD]; exact hp)
  have hpl := perT_le hwn D.length (Nat.le_refl _)
  have hok : okB D true = true := by unfold okB; have := hv.1; simp; omega
  have hh : hourB (from' : Nat) = true := hourB_iff.2 ⟨by omega, by omega⟩
  have ht : togE D true = if 100000 < perT D D.length then 4 else 0 := by unfold togE; rw [if_pos hwn, if_pos hok]
  unfold firR numR
  rw [hh]
  by_cases hb : 100000 < perT D D.length
  · rw [if_pos hb] at ht
    left
    rw [ht, if_neg (by omega), if_neg (by omega)]
    exact ⟨rfl, rfl⟩
  · rw [if_neg hb] at ht
    right
    rw [ht, if_pos rfl, if_pos rfl]
    obtain ⟨s1, s2⟩ := meetN_spec hv l.length (Nat.le_refl _)
    have ho := fun h => opT_in hw hv (Nat.le_refl _) h l.length (Nat.le_refl _)
    have hpm := perT_meet hw hv (Nat.le_refl _) l.length (Nat.le_refl _)
    rw [hD] at hpl ⊢
    cases hm : meetN l l.length with
    | none =>
      right
      have hno := s2 hm
      have hf : ∀ h : Nat, opT D l.length (h : Nat) = false := fun h => by
        cases hb : opT D l.length (h : Nat) with
        | false => rfl
        | true => exact absurd ((ho h).1 hb) (hno h)
      refine ⟨rfl, next_none hf, perT D l.length, hpl.1, ?_⟩
      rw [hrs_none _ fun j _ => hf j]; rfl
    | some s =>
      obtain ⟨A, M⟩ := s
      left
      obtain ⟨hmet, hin⟩ := s1 A M hm
      have hper := hpm A M hm
      have hf : ∀ h : Nat, opT D l.length (h : Nat) = true ↔ h % M = A := fun h => (ho h).trans (hin h)
      refine ⟨A, M, rfl, hmet.lt, ?_, ?_⟩
      · rw [hper]; exact next_some hmet.lt hf
      · rw [hper, hrs_only (A := A) M fun j hj => by rw [hf j, Nat.mod_eq_of_lt hj], if_pos hmet.lt]
        rfl
end M
end Go.Proofs.Ytlnpnfjdcnijhaa
