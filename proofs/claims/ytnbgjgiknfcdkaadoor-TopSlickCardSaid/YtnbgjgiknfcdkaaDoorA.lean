/-
  The contracts of small functions: tests of sides, numbers of moves, sixteenths; powers.
-/
import Derived.Test.YtnbgjgiknfcdkaaDoorData
namespace Go.Proofs.YtnbgjgiknfcdkaaDoor
open Go.RowKit Go.Deep M
set_option linter.unusedVariables false
set_option linter.unusedSimpArgs false
attribute [local go_sem] run_idx0 run_idx1 run_idx2 run_idx3 run_idx4

def sideB (n : Int) : Bool := decide (1 ≤ n) && decide (n ≤ 6)
def movesB (n : Int) : Bool := decide (0 ≤ n) && decide (n ≤ 5)
theorem isSide_any (n : Int) (w : World) : Calls Tryd.prog 61 #[.int .i64 n] w fun e w' => e = .returned (.bool (sideB n)) ∧ w = w' := by
  by_cases h1 : 1 ≤ n <;> by_cases h2 : n ≤ 6
  all_goals
    go_enter Tryd.func61, Tryd.ntmps61
    go_wp2
    go_ret
    exact ⟨ret_bool (by simp [sideB]; try omega), rfl⟩
theorem isMoves_any (n : Int) (w : World) : Calls Tryd.prog 68 #[.int .i64 n] w fun e w' => e = .returned (.bool (movesB n)) ∧ w = w' := by
  by_cases h1 : 0 ≤ n <;> by_cases h2 : n ≤ 5
  all_goals
    go_enter Tryd.func68, Tryd.ntmps68
    go_wp2
    go_ret
    exact ⟨ret_bool (by simp [movesB]; try omega), rfl⟩

def wholeB (a0 a1 a2 a3 a4 : Int) : Bool := decide ((0 ≤ a0 ∧ a0 ≤ 16) ∧ (0 ≤ a1 ∧ a1 ≤ 16) ∧ (0 ≤ a2 ∧ a2 ≤ 16) ∧ (0 ≤ a3 ∧ a3 ≤ 16) ∧ (0 ≤ a4 ∧ a4 ≤ 16) ∧ a0 + a1 + a2 + a3 + a4 = 16)
set_option maxHeartbeats 4000000 in
set_option maxRecDepth 100000 in
theorem isWhole_any (a0 a1 a2 a3 a4 : Int) (w : World) : Calls Tryd.prog 62 #[.agg #[.int .i64 a0, .int .i64 a1, .int .i64 a2, .int .i64 a3, .int .i64 a4]] w fun e w' => e = .returned (.bool (wholeB a0 a1 a2 a3 a4)) ∧ Below w.heap.size w w' := by
  go_enter Tryd.func62, Tryd.ntmps62
  go_wp2
  go_rounds 6
  all_goals
    go_ret
    exact ⟨ret_bool (by unfold wholeB; first | (simp; done) | (rw [Bool.eq_iff_iff]; simp; omega) | (simp; omega)), (Below.refl _ _).alloc (Nat.le_refl _) _⟩

set_option maxHeartbeats 1000000 in
theorem parts_any (k : Nat) (w : World) (hk : k ≤ 5) : Calls Tryd.prog 75 #[.int .i64 k] w fun e w' => e = .returned (.int .i64 ((16 : Int) ^ k)) ∧ w = w' := by
  have hk' : k = 0 ∨ k = 1 ∨ k = 2 ∨ k = 3 ∨ k = 4 ∨ k = 5 := by omega
  rcases hk' with rfl | rfl | rfl | rfl | rfl | rfl
  all_goals
    go_enter Tryd.func75, Tryd.ntmps75
    go_wp2
    go_rounds 6
    go_ret
    exact ⟨rfl, rfl⟩
theorem most_any (k : Nat) (w : World) (hk : k ≤ 5) : Calls Tryd.prog 83 #[.int .i64 k] w fun e w' => e = .returned (.int .i64 (36000 * (16 : Int) ^ k)) ∧ w = w' := by
  have hp := parts_any k w hk
  have hb : 1 ≤ (16 : Int) ^ k ∧ (16 : Int) ^ k ≤ 1048576 := by
    have hk' : k = 0 ∨ k = 1 ∨ k = 2 ∨ k = 3 ∨ k = 4 ∨ k = 5 := by omega
    rcases hk' with rfl | rfl | rfl | rfl | rfl | rfl <;> decide
  generalize (16 : Int) ^ k = p at *
  obtain ⟨h1, h2⟩ := hb
  replace hp := Lib.hid hp
  go_enter Tryd.func83, Tryd.ntmps83
  go_wp2_with fail
  refine hp.out.mono ?_
  rintro e w' ⟨rfl, rfl⟩
  go_wp2
  go_ret
  exact ⟨rfl, rfl⟩
theorem sixteen_ref (k : Nat) (w : World) (hk : k ≤ 5) : Calls Tryd.prog 52 #[.int .i64 k] w fun e w' => e = .returned (.int .i64 ((16 : Int) ^ k)) ∧ w = w' := by
  have hk' : k = 0 ∨ k = 1 ∨ k = 2 ∨ k = 3 ∨ k = 4 ∨ k = 5 := by omega
  rcases hk' with rfl | rfl | rfl | rfl | rfl | rfl
  all_goals
    go_enter Tryd.func52, Tryd.ntmps52
    go_wp2
    go_rounds 6
    go_ret
    exact ⟨rfl, rfl⟩
end Go.Proofs.YtnbgjgiknfcdkaaDoor
