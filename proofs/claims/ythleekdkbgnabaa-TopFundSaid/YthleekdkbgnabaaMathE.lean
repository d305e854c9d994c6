/-
  Plain mathematics of a greater claim and of a claim that is split; no word of Go in it.
-/
import Derived.Test.YthleekdkbgnabaaMathD
import Derived.Test.YthleekdkbgnabaaJ
namespace Go.Proofs.Ythleekdkbgnabaa
set_option linter.unusedVariables false
namespace M
/-- The claims with one of them greater by 1. -/
def incL (l : List Int) (k : Nat) : List Int := l.set k (el l k + 1)
theorem incL_len (l : List Int) (k : Nat) : (incL l k).length = l.length := by simp [incL]
theorem incL_at (l : List Int) (k i : Nat) (h : i < l.length) : el (incL l k) i = if i = k then el l k + 1 else el l i := by
  rw [el_eq _ _ (by rw [incL_len]; exact h)]
  unfold incL
  rw [List.getElem_set]
  by_cases e : i = k
  · subst e; simp
  · have e2 : ¬ k = i := fun h => e h.symm
    rw [if_neg e, if_neg e2, el_eq l i h]
theorem tot_inc (l : List Int) (k : Nat) (hk : k < l.length) : ∀ i, i ≤ l.length → tot (incL l k) i = tot l i + (if k < i then 1 else 0) := by
  intro i
  induction i with
  | zero => intro _; simp [tot]
  | succ i ih =>
    intro hi
    rw [tot_succ, tot_succ, ih (by omega), incL_at l k i (by omega)]
    by_cases e : i = k
    · subst e; simp; omega
    · rw [if_neg e]
      by_cases h : k < i
      · simp [h, show k < i + 1 by omega]; omega
      · simp [h, show ¬ k < i + 1 by omega]
theorem inc_ok {l : List Int} {e : Int} {k : Nat} (h : okE l e) (hk : k < l.length) (hne : el l k ≠ 1000) : okE (incL l k) e := by
  refine ⟨⟨by rw [incL_len]; exact h.1.1, fun i hi => ?_⟩, h.2.1, ?_⟩
  · rw [incL_len] at hi
    rw [incL_at l k i hi]
    have a := h.1.2 i hi
    have b := h.1.2 k hk
    unfold okC at *
    split <;> omega
  · have := tot_inc l k hk l.length (Nat.le_refl _)
    have h2 := h.2.2
    unfold sm at *
    rw [incL_len, this, if_pos hk]
    omega
/-- The claims with two in place of one, the first one being so great. -/
def splL (l : List Int) (k : Nat) (a : Int) : List Int := l.take k ++ [a, el l k - a] ++ l.drop (k + 1)
theorem splL_len (l : List Int) (k : Nat) (a : Int) (h : k < l.length) : (splL l k a).length = l.length + 1 := by simp [splL]; omega
theorem spl_sum (l : List Int) (k : Nat) (a : Int) (h : k < l.length) : (splL l k a).sum = l.sum := by
  have h1 : l = l.take k ++ (l[k] :: l.drop (k + 1)) := by rw [← List.drop_eq_getElem_cons h, List.take_append_drop]
  have h2 : l.sum = (l.take k).sum + (l[k] + (l.drop (k + 1)).sum) := by
    have := congrArg List.sum h1
    rw [List.sum_append, List.sum_cons] at this
    exact this
  unfold splL
  rw [h2, el_eq l k h]
  simp
  omega
theorem spl_mem {l : List Int} {k : Nat} {a y : Int} (h : k < l.length) (hy : y ∈ splL l k a) : y = a ∨ y = el l k - a ∨ y ∈ l := by
  unfold splL at hy
  simp only [List.mem_append, List.mem_cons, List.not_mem_nil, or_false] at hy
  rcases hy with (hy | rfl | rfl) | hy
  · exact .inr (.inr (List.mem_of_mem_take hy))
  · exact .inl rfl
  · exact .inr (.inl rfl)
  · exact .inr (.inr (List.mem_of_mem_drop hy))
theorem spl_ok {l : List Int} {e a : Int} {k : Nat} (h : okE l e) (hk : k < l.length) (ha : 0 ≤ a ∧ a ≤ el l k) (h8 : l.length ≠ 8) : okE (splL l k a) e := by
  have hl := splL_len l k a hk
  refine ⟨⟨by rw [hl]; have := h.1.1; omega, fun i hi => ?_⟩, h.2.1, by rw [sm_sum, spl_sum l k a hk, ← sm_sum]; exact h.2.2⟩
  rw [el_eq _ _ hi]
  have b := h.1.2 k hk
  unfold okC at b ⊢
  rcases spl_mem hk (List.getElem_mem hi) with e1 | e1 | e1
  · omega
  · omega
  · exact mem_ok h.1.2 e1
/-- The error of claims, an estate, a rule and a claimant. -/
def okT (l : List Int) (e q c : Int) : Prop := okS l e q ∧ 0 ≤ c ∧ c < l.length
instance (l : List Int) (e q c : Int) : Decidable (okT l e q c) := by unfold okT; infer_instance
def errT (l : List Int) (e q c : Int) : Int := if okS l e q then if 0 ≤ c ∧ c < l.length then 0 else 2 else errS l e q
theorem errT_ok {l : List Int} {e q c : Int} (h : okT l e q c) : errT l e q c = 0 := by unfold errT; rw [if_pos h.1, if_pos h.2]
theorem errT_bad {l : List Int} {e q c : Int} (h : ¬ okT l e q c) : ¬ okS l e q ∧ errT l e q c = errS l e q ∨ okS l e q ∧ (c < 0 ∨ 0 ≤ c ∧ (l.length : Int) ≤ c) ∧ errT l e q c = 2 := by
  by_cases h1 : okS l e q
  · have h2 : ¬ (0 ≤ c ∧ c < l.length) := fun hh => h ⟨h1, hh⟩
    exact .inr ⟨h1, by omega, by unfold errT; rw [if_pos h1, if_neg h2]⟩
  · exact .inl ⟨h1, by unfold errT; rw [if_neg h1]⟩
theorem errT_ne {l : List Int} {e q c : Int} (h : ¬ okT l e q c) : errT l e q c = 80 ∨ errT l e q c = 2 := by
  rcases errT_bad h with ⟨h1, h2⟩ | ⟨h1, h2, h3⟩
  · rw [h2]; exact errS_ne h1
  · exact .inr h3
/-- What More answers. -/
def okM (l : List Int) (e q c : Int) : Prop := okT l e q c ∧ el l c.toNat ≠ 1000
instance (l : List Int) (e q c : Int) : Decidable (okM l e q c) := by unfold okM; infer_instance
def moE (l : List Int) (e q c : Int) : Int := if okT l e q c then if el l c.toNat = 1000 then 5 else 0 else errT l e q c
def moR (l : List Int) (e q c : Int) : Rt := if okM l e q c then miR (shR (incL l c.toNat) e q c.toNat) (shR l e q c.toNat) else ⟨0, 0⟩
theorem okT_nat {l : List Int} {e q c : Int} (h : okT l e q c) : ∃ j : Nat, j < l.length ∧ c = (j : Int) := ⟨c.toNat, by have := h.2; omega, by have := h.2; omega⟩
end M
end Go.Proofs.Ythleekdkbgnabaa
