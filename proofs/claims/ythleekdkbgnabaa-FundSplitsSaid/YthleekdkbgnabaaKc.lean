/-
  What Split and More answer for any claimant: the errors, and the signs.
-/
import Derived.Test.YthleekdkbgnabaaXf
import Derived.Test.YthleekdkbgnabaaWd
import Derived.Test.YthleekdkbgnabaaMathP
namespace Go.Proofs.Ythleekdkbgnabaa
open Go.RowKit Go.Deep M
set_option linter.unusedVariables false
set_option linter.unusedSimpArgs false
theorem errT_no {l : List Int} {e q c : Int} (hv : vC l) (h : ¬ okE l e) : errT l e q c = 2 ∧ ¬ okT l e q c := by
  have hn : ¬ okT l e q c := fun hh => h hh.1.1
  refine ⟨?_, hn⟩
  unfold errT
  rw [if_neg (fun hh => h hh.1)]
  unfold errS
  rw [if_neg h]
  unfold errC
  rw [if_pos (show valB l = true from decide_eq_true hv), if_neg (fun hh => h ⟨hv, hh⟩)]
theorem shd {l : List Int} {e q : Int} (h : okE l e) {i : Nat} (hi : i < l.length) : 1 ≤ (shR l e q i).d := (shR_b h.1 h.2 hi).2.1
theorem pld {a b : Rt} (ha : 1 ≤ a.d) (hb : 1 ≤ b.d) : 1 ≤ (plR a b).d := mk_pos (Int.mul_pos (by omega) (by omega))
theorem sp_facts {l : List Int} {e a q : Int} {i : Nat} (hv : vC l) (hi : i < l.length) (ha : 0 ≤ a ∧ a ≤ el l i) (hq : 1 ≤ q ∧ q ≤ 4) :
    (spE l e q i a = 2 ∨ spE l e q i a = 5) ∨ (spE l e q i a = 0 ∧ 1 ≤ (spR l e q i a).d ∧ (q = 1 → (spR l e q i a).n = 0) ∧ (q = 2 → 0 ≤ (spR l e q i a).n) ∧ (q = 3 → (spR l e q i a).n ≤ 0)) := by
  by_cases hE : okE l e
  · have ht : okT l e q i := ⟨⟨hE, hq⟩, by omega, by omega⟩
    have hc : ((i : Nat) : Int).toNat = i := Int.toNat_natCast i
    by_cases h8 : l.length = 8
    · exact .inl (.inr (spE_five ht (by rw [hc]; exact ha) h8))
    · have hp : okP l e q i a := ⟨⟨ht, by rw [hc]; exact ha⟩, h8⟩
      refine .inr ⟨spE_ok hp, ?_⟩
      rw [spR_ok hp, hc]
      have h' := spl_ok hE hi ha h8
      have hl := splL_len l i a hi
      obtain ⟨⟨s1, s2⟩, s3, s4⟩ := split_sign (a := a) hE hi ha h8
      have d1 : ∀ q, 1 ≤ (plR (shR (splL l i a) e q i) (shR (splL l i a) e q (i + 1))).d := fun q => pld (shd h' (by omega)) (shd h' (by omega))
      have d2 : ∀ q, 1 ≤ (shR l e q i).d := fun q => shd hE hi
      refine ⟨mk_pos (Int.mul_pos (by have := d1 q; omega) (by have := d2 q; omega)), fun hq => ?_, fun hq => ?_, fun hq => ?_⟩
      · subst hq
        have p1 := (mi_n (d1 1) (d2 1) s2).1
        have p2 := (mi_n' (d1 1) (d2 1) s1).1
        omega
      · subst hq; exact (mi_n (d1 2) (d2 2) s3).1
      · subst hq; exact (mi_n' (d1 3) (d2 3) s4).1
  · obtain ⟨x, y⟩ := errT_no (q := q) (c := i) hv hE
    exact .inl (.inl (by rw [spE_bad y, x]))
theorem mo_facts {l : List Int} {e q : Int} {i : Nat} (hv : vC l) (hi : i < l.length) (hq : 1 ≤ q ∧ q ≤ 4) :
    (moE l e q i = 2 ∨ moE l e q i = 5) ∨ (moE l e q i = 0 ∧ 1 ≤ (moR l e q i).d ∧ 0 ≤ (moR l e q i).n) := by
  by_cases hE : okE l e
  · have ht : okT l e q i := ⟨⟨hE, hq⟩, by omega, by omega⟩
    have hc : ((i : Nat) : Int).toNat = i := Int.toNat_natCast i
    by_cases h5 : el l i = 1000
    · exact .inl (.inr (moE_five ht (by rw [hc]; exact h5)))
    · have hm : okM l e q i := ⟨ht, by rw [hc]; exact h5⟩
      refine .inr ⟨moE_ok hm, ?_⟩
      rw [moR_ok hm, hc]
      have h' := inc_ok hE hi h5
      have hl := incL_len l i
      have hg := more_ge hE hi h5 q (by omega)
      have := mi_n (shd h' (by omega)) (shd hE hi) hg
      exact ⟨this.2, this.1⟩
  · obtain ⟨x, y⟩ := errT_no (q := q) (c := i) hv hE
    exact .inl (.inl (by rw [moE_bad y, x]))
end Go.Proofs.Ythleekdkbgnabaa
