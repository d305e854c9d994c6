/-
  The sanity check of every statement: the round of one given tide is 6.
-/
import Derived.Test.YtmpmlgognkmfgaaTideE
namespace Go.Proofs.Ytmpmlgognkmfgaa
open Go.RowKit M
set_option linter.unusedVariables false
set_option linter.unusedSimpArgs false

def T0 : List (List Int) := [[3, 0, -3], [1, -1]]
theorem round0 : roundR T0 = (6, 0) := by decide +kernel

/-- The world in which the given tide has been built. -/
def built (w : World) : World :=
  ((w.alloc (.cells #[.int .i64 3, .int .i64 0, .int .i64 (-3)] 3)).alloc (.cells #[.int .i64 1, .int .i64 (-1)] 3)).alloc (.cells #[.slice (some ⟨w.heap.size, 0, none⟩) 3 3, .slice (some ⟨w.heap.size + 1, 0, none⟩) 2 2] 31)

theorem built_mat (w : World) : Mat (built w) (w.heap.size + 3) (some ⟨w.heap.size + 1 + 1, 0, none⟩) T0 := by
  refine ⟨by decide, fun _ => ⟨w.heap.size + 1 + 1, 0, rfl, by omega, fun i hi => ?_⟩⟩
  have hi : i = 0 ∨ i = 1 := by simp [T0] at hi; omega
  rcases hi with rfl | rfl
  · refine ⟨some ⟨w.heap.size, 0, none⟩, 3, by unfold built; simp [go_sem, row, T0], by decide, fun _ => ⟨w.heap.size, 0, rfl, by omega, fun j hj => ?_⟩⟩
    have hj : j = 0 ∨ j = 1 ∨ j = 2 := by simp [row, T0] at hj; omega
    rcases hj with rfl | rfl | rfl <;> (unfold built; simp [go_sem, row, T0, el])
  · refine ⟨some ⟨w.heap.size + 1, 0, none⟩, 2, by unfold built; simp [go_sem, row, T0], by decide, fun _ => ⟨w.heap.size + 1, 0, rfl, by omega, fun j hj => ?_⟩⟩
    have hj : j = 0 ∨ j = 1 := by simp [row, T0] at hj; omega
    rcases hj with rfl | rfl <;> (unfold built; simp [go_sem, row, T0, el])

theorem built_below (w : World) : Below w.heap.size w (built w) := (((Below.refl _ _).alloc (Nat.le_refl _) _).alloc (by simp) _).alloc (by simp; omega) _

theorem awake_any (w : World) : Calls Try.prog 16 #[] w fun e w' => e = .returned (.bool true) ∧ Below w.heap.size w w' := by
  have h3 : Calls Try.prog 23 #[.slice (some ⟨w.heap.size + 1 + 1, 0, none⟩) 2 2] (built w) fun e w' => e = .returned (.tuple #[.int .i64 6, .int .i64 0]) ∧ Below w.heap.size w w' := by
    refine (Round_any (w.heap.size + 3) _ 2 T0 (built w) (built_mat w)).mono ?_
    rintro e w' ⟨rfl, hb⟩
    exact ⟨by rw [round0]; rfl, (built_below w).trans (hb.mono (by unfold built; simp; omega))⟩
  unfold built at h3
  replace h3 := Lib.hid h3
  go_enter Try.func16, Try.ntmps16
  go_wp2_with fail
  refine h3.out.mono ?_
  rintro e w' ⟨rfl, hb⟩
  go_wp2
  go_ret
  exact ⟨rfl, hb⟩

end Go.Proofs.Ytmpmlgognkmfgaa
