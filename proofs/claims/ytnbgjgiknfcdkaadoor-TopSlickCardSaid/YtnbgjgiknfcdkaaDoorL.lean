/-
  The sanity check of every statement: the slick of example 1 behind one move. And the tests of lengths.
-/
import Derived.Test.YtnbgjgiknfcdkaaDoorK
namespace Go.Proofs.YtnbgjgiknfcdkaaDoor
open Go.RowKit Go.Deep M
set_option linter.unusedVariables false
set_option linter.unusedSimpArgs false

def L0 : List Bool := [false, true]
def S0 : List Int := [8, 4, 4, 0, 0, 0, 0, 0, 0, 0]
def O0 : List Int := [100, 0]
theorem val0 : ValP 2 1 L0 2 S0 := by
  refine ⟨by omega, by decide, fun i hi => ?_⟩
  have : i = 0 ∨ i = 1 := by omega
  rcases this with rfl | rfl
  · exact ⟨fun k hk => by have : k = 0 ∨ k = 1 ∨ k = 2 ∨ k = 3 ∨ k = 4 := by omega
                          rcases this with rfl | rfl | rfl | rfl | rfl <;> decide, by decide⟩
  · exact ⟨fun k hk => by have : k = 0 ∨ k = 1 ∨ k = 2 ∨ k = 3 ∨ k = 4 := by omega
                          rcases this with rfl | rfl | rfl | rfl | rfl <;> decide, by decide⟩
theorem slk0 : slkB L0.length 0 O0 0 = true := slkB_true rfl ⟨by omega, fun i hi => by
  have : i = 0 ∨ i = 1 ∨ i = 2 := by simp [amt, O0] at hi; omega
  rcases this with rfl | rfl | rfl <;> decide, by decide⟩
theorem aft0 : aftR 2 1 L0 2 S0 0 O0 0 1 = (1, [800, 400], 400, 0) := by
  unfold aftR
  rw [validB_true val0, slk0, show movesB 1 = true from rfl]
  simp only [if_true]
  rw [if_pos (by omega)]
  have e : af (2 : Int).toNat (1 : Int).toNat L0 S0 (1 : Int).toNat (amt O0 0) = [800, 400, 400] := by decide +kernel
  rw [e]
  rfl

/-- The world in which the given bay and slick have been built. -/
def built (w : World) : World :=
  ((((w.alloc (.cells #[.bool false, .bool true] 4)).alloc (.cells #[.int .i64 8, .int .i64 4, .int .i64 4, .int .i64 0, .int .i64 0, .int .i64 0, .int .i64 0, .int .i64 0, .int .i64 0, .int .i64 0] 74)).alloc
    (.cells #[.int .i64 2, .int .i64 1, .slice (some ⟨w.heap.size, 0, none⟩) 2 2, .slice (some ⟨w.heap.size + 1, 0, none⟩) 2 2] 25)).alloc (.cells #[.int .i64 100, .int .i64 0] 3))
theorem built_below (w : World) : Below w.heap.size w (built w) := ba4 w _ _ _ _
theorem built_size (w : World) : (built w).heap.size = w.heap.size + 4 := by unfold built; simp
theorem built_bay (w : World) : BayIn (built w) (w.heap.size + 4) (some ⟨w.heap.size, 0, none⟩) L0 (some ⟨w.heap.size + 1, 0, none⟩) 2 S0 := by
  refine ⟨⟨by decide, fun _ => ⟨w.heap.size, 0, rfl, by omega, fun i hi => ?_⟩⟩, ⟨by decide, by decide, fun _ => ⟨w.heap.size + 1, 0, rfl, by omega, fun i k hi hk => ?_⟩⟩⟩
  · have hi : i = 0 ∨ i = 1 := by simp [L0] at hi; omega
    rcases hi with rfl | rfl <;> (unfold built; simp [go_sem, L0, bl])
  · have hi : i = 0 ∨ i = 1 := by omega
    have hk : k = 0 ∨ k = 1 ∨ k = 2 ∨ k = 3 ∨ k = 4 := by omega
    rcases hi with rfl | rfl <;> rcases hk with rfl | rfl | rfl | rfl | rfl <;> (unfold built; simp [go_sem, S0, sh, el])
theorem built_row (w : World) : Row (built w) (w.heap.size + 4) (some ⟨w.heap.size + 1 + 1 + 1, 0, none⟩) O0 := by
  refine ⟨by decide, fun _ => ⟨w.heap.size + 1 + 1 + 1, 0, rfl, by omega, fun i hi => ?_⟩⟩
  have hi : i = 0 ∨ i = 1 := by simp [O0] at hi; omega
  rcases hi with rfl | rfl <;> (unfold built; simp [go_sem, O0, el])

set_option maxRecDepth 100000 in
set_option maxHeartbeats 4000000 in
theorem Sane_any (w : World) (hd : Dirs w) : Calls Tryd.prog 17 #[] w fun e w' => e = .returned (.bool true) ∧ Below w.heap.size w w' := by
  have c29 : Calls Tryd.prog 29 #[.agg #[.int .i64 2, .int .i64 1, .slice (some ⟨w.heap.size, 0, none⟩) 2 2, .slice (some ⟨w.heap.size + 1, 0, none⟩) 2 2], .agg #[.int .i64 0, .slice (some ⟨w.heap.size + 1 + 1 + 1, 0, none⟩) 2 2, .int .i64 0]] (built w) fun e w' =>
      ∃ b o c, e = .returned (.tuple #[.agg #[.int .i64 1, .slice (some ⟨b, o, none⟩) 2 c, .int .i64 400], .int .i64 0]) ∧ Below w.heap.size w w' ∧ b < w'.heap.size ∧ w'.cell? ⟨b, o, none⟩ = some (.int .i64 800) ∧ w'.cell? ⟨b, o + 1, none⟩ = some (.int .i64 400) := by
    have h1 := Move_any (w.heap.size + 4) 2 1 (some ⟨w.heap.size, 0, none⟩) (some ⟨w.heap.size + 1, 0, none⟩) (some ⟨w.heap.size + 1 + 1 + 1, 0, none⟩) 2 2 2 L0 2 S0 0 O0 0 (built w) (built_bay w) (built_row w) (by rw [built_size]; omega) (by omega) (hd.below (built_below w) hd.1)
    rw [aft0] at h1
    refine h1.mono ?_
    rintro e w' ⟨A, c, rfl, hb, hr, hf⟩
    obtain ⟨b, o, rfl, hbl, hc⟩ := hr.2 (by decide)
    exact ⟨b, o, c, rfl, (built_below w).trans (hb.mono (by rw [built_size]; omega)), hbl, hc 0 (by decide), hc 1 (by decide)⟩
  unfold built at c29
  replace c29 := Lib.hid c29
  go_enter Tryd.func17, Tryd.ntmps17
  go_wp2_with fail
  refine c29.out.mono ?_
  rintro e w1 ⟨b, o, c, rfl, hb1, hbl, h1, h2⟩
  have hne : b ≠ w1.heap.size := by omega
  have hbb := hb1.alloc hb1.size (.cells #[.int .i64 1, .slice (some ⟨b, o, none⟩) 2 c, .int .i64 400] 28)
  go_wp2
  go_ret
  exact ⟨rfl, hbb⟩

/-! ### tests of lengths -/
theorem Long_any (W H : Int) (aL aS : Option Addr) (cL nS cS nL : Nat) (w : World) (h1 : nL ≤ 9223372036854775807) (h2 : nS ≤ 9223372036854775807) :
    Calls Tryd.prog 15 #[.agg #[.int .i64 W, .int .i64 H, .slice aL nL cL, .slice aS nS cS]] w fun e w' => e = .returned (.bool (decide (100 < nL) || decide (100 < nS))) ∧ Below w.heap.size w w' := by
  by_cases h3 : 100 < nL <;> by_cases h4 : 100 < nS
  all_goals
    go_enter Tryd.func15, Tryd.ntmps15
    go_wp2
    go_ret
    exact ⟨ret_bool (by first | (rw [Bool.eq_iff_iff]; done) | (rw [Bool.eq_iff_iff]; simp; done) | (rw [Bool.eq_iff_iff]; simp; omega)), ba1 _ _⟩
theorem long_any (K aw : Int) (aO : Option Addr) (cO nO : Nat) (w : World) (h1 : nO ≤ 9223372036854775807) :
    Calls Tryd.prog 16 #[.agg #[.int .i64 K, .slice aO nO cO, .int .i64 aw]] w fun e w' => e = .returned (.bool (decide (100 < nO))) ∧ Below w.heap.size w w' := by
  by_cases h3 : 100 < nO
  all_goals
    go_enter Tryd.func16, Tryd.ntmps16
    go_wp2
    go_ret
    exact ⟨ret_bool (by first | (rw [Bool.eq_iff_iff]; done) | (rw [Bool.eq_iff_iff]; simp; done) | (rw [Bool.eq_iff_iff]; simp; omega)), ba1 _ _⟩
end Go.Proofs.YtnbgjgiknfcdkaaDoor
