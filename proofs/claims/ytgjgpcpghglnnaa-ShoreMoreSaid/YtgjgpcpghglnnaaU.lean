/-
  A list is an order just where it is the first order once it is sorted.
-/
import Derived.Test.YtgjgpcpghglnnaaT
namespace Go.Proofs.Ytgjgpcpghglnnaa
namespace M
theorem cnt_take (o : List Int) (b : Int) : ∀ k, k ≤ o.length → cnt o b k = (o.take k).count b := by
  intro k
  induction k with
  | zero => intro _; simp [cnt]
  | succ k ih =>
    intro hk
    rw [cnt_succ, ih (by omega), ← List.take_append_getElem (show k < o.length by omega), List.count_append, List.count_singleton, el_eq o k (by omega)]
    by_cases e : o[k] = b
    · simp [e]
    · simp [e]
theorem cnt_count (o : List Int) (b : Int) : cnt o b o.length = o.count b := by rw [cnt_take o b _ (Nat.le_refl _), List.take_length]
theorem fo_mem {J : List (List Jb)} {x : Int} : ∀ {n : Nat}, x ∈ fo J n → 0 ≤ x ∧ x < n := by
  intro n
  induction n with
  | zero => intro h; cases h
  | succ n ih =>
    intro h
    rw [fo_succ, List.mem_append] at h
    rcases h with h | h
    · have := ih h; omega
    · obtain rfl := (List.mem_replicate.1 h).2; omega
theorem fo_sorted (J : List (List Jb)) : ∀ n : Nat, (fo J n).Pairwise (· ≤ ·) := by
  intro n
  induction n with
  | zero => exact List.Pairwise.nil
  | succ n ih =>
    rw [fo_succ, List.pairwise_append]
    refine ⟨ih, List.pairwise_replicate.2 (.inr (Int.le_refl _)), fun a ha b hb => ?_⟩
    obtain rfl := (List.mem_replicate.1 hb).2
    have := fo_mem ha
    omega
theorem fo_count (J : List (List Jb)) (b : Nat) (hb : b < J.length) : (fo J J.length).count (b : Int) = (be J b).length := by
  rw [← cnt_count, (fo_runs J J.length (Nat.le_refl _)).1 b, if_pos hb]
theorem ord_sorted {J : List (List Jb)} {o S : List Int} (hv : vJ J) (hp : S.Perm o) (hs : S.Pairwise (· ≤ ·)) (hl : o.length = (fo J J.length).length) : decide (S = fo J J.length) = ordB J o := by
  by_cases h : ordB J o = true
  · rw [h]
    obtain ⟨_, _, h1, h2, _⟩ := ord_spec hv h
    refine decide_eq_true (List.Perm.eq_of_pairwise (le := (· ≤ ·)) (fun a b _ _ x y => Int.le_antisymm x y) hs (fo_sorted J _) (hp.trans ?_))
    rw [List.perm_iff_count]
    intro a
    by_cases ha : 0 ≤ a ∧ a < J.length
    · obtain ⟨b, rfl⟩ := Int.eq_ofNat_of_zero_le ha.1
      have hb : b < J.length := by omega
      show o.count ((b : Nat) : Int) = (fo J J.length).count ((b : Nat) : Int)
      rw [fo_count J b hb, ← cnt_count, h2 b hb]
    · rw [List.count_eq_zero.2 fun hm => ?_, List.count_eq_zero.2 fun hm => ha (fo_mem hm)]
      obtain ⟨i, hi, e⟩ := List.mem_iff_getElem.1 hm
      have := h1 i hi
      rw [el_eq o i hi, e] at this
      exact ha this
  · rw [show ordB J o = false by simpa using h]
    refine decide_eq_false fun e => h ?_
    subst e
    have h12 : o.length ≤ 12 := by rw [hl, fo_len]; exact hv.2.1
    refine ord_of (by omega) (fun i hi => ?_) (fun b hb => ?_)
    · have hm : o[i] ∈ fo J J.length := hp.symm.subset (List.getElem_mem hi)
      rw [el_eq o i hi]
      exact fo_mem hm
    · rw [cnt_count, ← hp.count_eq, fo_count J b hb]
end M
end Go.Proofs.Ytgjgpcpghglnnaa
