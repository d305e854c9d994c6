/-
  Are two lists of integers that came out the same.
-/
import Derived.Test.YthleekdkbgnabaaTe
namespace Go.Proofs.Ythleekdkbgnabaa
open Go.RowKit Go.Deep M
set_option linter.unusedVariables false
set_option linter.unusedSimpArgs false

set_option maxRecDepth 100000 in
set_option maxHeartbeats 4000000 in
theorem sameI_true (A A' : Option Addr) (N c c' : Nat) (f : Nat → Int) (w : World) (h : ItF w A N f) (h' : ItF w A' N f) (hN : N ≤ 1000) :
    Calls Try.prog 40 #[.slice A N c, .slice A' N c'] w fun r w' => r = .returned (.bool true) ∧ Below w.heap.size w w' := by
  have hc : ∀ (j k : Nat), k < N → ∃ g g', A = some ⟨g, 0, none⟩ ∧ A' = some ⟨g', 0, none⟩ ∧ (w.drewN j).cell? ⟨g, k, none⟩ = some (.int .i64 (f k)) ∧ (w.drewN j).cell? ⟨g', k, none⟩ = some (.int .i64 (f k)) := fun j k hk => by
    obtain ⟨g, e, hg⟩ := h (by omega)
    obtain ⟨g', e', hg'⟩ := h' (by omega)
    exact ⟨g, g', e, e', hg.cell hk, hg'.cell hk⟩
  have hb := fun j => below_drewN (Below.refl w.heap.size w) j
  replace hc := Lib.hid hc
  replace hb := Lib.hid hb
  replace h := Lib.hid h
  replace h' := Lib.hid h'
  go_enter Try.func40, Try.ntmps40
  go_wp2
  go_loopw [5] (fun i wr => ∃ k j : Nat, k ≤ N ∧ i = .int .i64 (k : Nat) ∧ wr = w.drewN j) (fun i _ => N - (intOf i).toNat)
  case atStart => exact ⟨0, 0, by omega, rfl, rfl⟩
  case round =>
    obtain ⟨k, j, hk, rfl, hw⟩ := hrel
    by_cases hkn : k < N
    · obtain ⟨g, g', rfl, rfl, c0, c1⟩ := hc.out j k hkn
      rw [← hw] at c0 c1
      have he : (f k != f k) = false := by simp
      have hkn2 : (k : Int) < (N : Int) := by omega
      replace hw := Lib.hid hw
      generalize f k = q at *
      go_wp2_with fail
      go_quiet (fail)
      go_wp2
      go_roundw
      case rel => exact ⟨k + 1, j + nq, by omega, by go_num, by rw [hw.out, World.drewN_drewN]⟩
      case measure => simp [intOf]; omega
    · have : k = N := by omega
      subst this
      have hfin := hb.out j
      rw [← hw] at hfin
      replace hfin := Lib.hid hfin
      replace hw := Lib.hid hw
      go_wp2
      go_ret
      exact ⟨rfl, hfin.out⟩

end Go.Proofs.Ythleekdkbgnabaa
