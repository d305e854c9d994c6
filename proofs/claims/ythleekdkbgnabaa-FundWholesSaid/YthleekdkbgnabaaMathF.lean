/-
  Plain mathematics of orders: a list sorts to 0, 1, 2, .. just where its numbers are in range and all different; no word of Go in it.
-/
import Derived.Test.YthleekdkbgnabaaTb
namespace Go.Proofs.Ythleekdkbgnabaa
set_option linter.unusedVariables false
namespace M
/-- The first k numbers of a list are below n and all different. -/
def difP (o : List Int) (n k : Nat) : Prop := (∀ i, i < k → 0 ≤ el o i ∧ el o i < n) ∧ ∀ i j, i < j → j < k → el o i ≠ el o j
theorem dif_zero (o : List Int) (n : Nat) : difP o n 0 := ⟨fun i h => by omega, fun i j _ h => by omega⟩
theorem dif_succ {o : List Int} {n k : Nat} (h : difP o n k) (h1 : 0 ≤ el o k ∧ el o k < n) (h2 : ∀ i, i < k → el o i ≠ el o k) : difP o n (k + 1) :=
  ⟨fun i hi => by
    rcases Nat.lt_succ_iff_lt_or_eq.1 hi with h' | rfl
    · exact h.1 i h'
    · exact h1, fun i j hij hj => by
    rcases Nat.lt_succ_iff_lt_or_eq.1 hj with h' | rfl
    · exact h.2 i j hij h'
    · exact h2 i hij⟩
theorem el_nodup (o : List Int) : o.Nodup ↔ ∀ i j, i < j → j < o.length → el o i ≠ el o j := by
  unfold List.Nodup
  rw [List.pairwise_iff_getElem]
  constructor
  · intro h i j hij hj
    rw [el_eq o i (by omega), el_eq o j hj]
    exact h i j (by omega) hj hij
  · intro h i j hi hj hij
    have := h i j hij hj
    rwa [el_eq o i hi, el_eq o j hj] at this
theorem el_mem {o : List Int} {i : Nat} (h : i < o.length) : el o i ∈ o := by rw [el_eq o i h]; exact List.getElem_mem h
theorem ord_dif {o : List Int} {n : Nat} : ordP o n ↔ o.length = n ∧ difP o n n := by
  have hp := srt_perm o
  have hl := srt_len o
  constructor
  · rintro ⟨h1, h2⟩
    refine ⟨h1, fun i hi => ?_, ?_⟩
    · have hm := hp.mem_iff.2 (el_mem (show i < o.length by omega))
      obtain ⟨k, hk, e⟩ := List.getElem_of_mem hm
      have := h2 k (by omega)
      rw [el_eq _ _ hk, e] at this
      omega
    · have hs : (srt o).Nodup := (el_nodup _).2 fun i j hij hj => by
        rw [h2 i (by omega), h2 j (by omega)]
        omega
      have ho := (el_nodup o).1 (hp.nodup_iff.1 hs)
      exact fun i j hij hj => ho i j hij (by omega)
  · rintro ⟨h1, h2, h3⟩
    refine ⟨h1, ?_⟩
    have ho : o.Nodup := (el_nodup o).2 fun i j hij hj => h3 i j hij (by omega)
    have hs := (el_nodup _).1 (hp.nodup_iff.2 ho)
    have hr : ∀ k, k < n → 0 ≤ el (srt o) k ∧ el (srt o) k < n := fun k hk => by
      have hm := hp.mem_iff.1 (el_mem (show k < (srt o).length by omega))
      obtain ⟨i, hi, e⟩ := List.getElem_of_mem hm
      have := h2 i (by omega)
      rw [el_eq o i hi, e] at this
      exact this
    have hlt : ∀ k, k + 1 < n → el (srt o) k < el (srt o) (k + 1) := fun k hk => by
      have h4 := List.pairwise_iff_getElem.1 (srt_sorted o) k (k + 1) (by omega) (by omega) (by omega)
      rw [← el_eq _ k (by omega), ← el_eq _ (k + 1) (by omega)] at h4
      have := hs k (k + 1) (by omega) (by omega)
      omega
    have hlo : ∀ k, k < n → (k : Int) ≤ el (srt o) k := by
      intro k
      induction k with
      | zero => intro hk; exact (hr 0 hk).1
      | succ k ih => intro hk; have := ih (by omega); have := hlt k hk; omega
    have hhi : ∀ d, d < n → el (srt o) (n - 1 - d) ≤ ((n - 1 - d : Nat) : Int) := by
      intro d
      induction d with
      | zero => intro hd; have := (hr (n - 1 - 0) (by omega)).2; omega
      | succ d ih =>
        intro hd
        have h5 := ih (by omega)
        have h6 := hlt (n - 1 - (d + 1)) (by omega)
        have h7 : n - 1 - (d + 1) + 1 = n - 1 - d := by omega
        rw [h7] at h6
        omega
    intro k hk
    have h8 := hlo k hk
    have h9 := hhi (n - 1 - k) (by omega)
    have h10 : n - 1 - (n - 1 - k) = k := by omega
    rw [h10] at h9
    omega
end M
end Go.Proofs.Ythleekdkbgnabaa
