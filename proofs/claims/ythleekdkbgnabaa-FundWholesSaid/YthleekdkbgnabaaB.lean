/-
  The specification's ratio; one garment; which claims may be given; the law's sanity.
-/
import Derived.Test.YthleekdkbgnabaaA
import Derived.Laws.StructEq
namespace Go.Proofs.Ythleekdkbgnabaa
open Go.RowKit Go.Deep M
set_option linter.unusedVariables false
set_option linter.unusedSimpArgs false

set_option maxRecDepth 100000 in
set_option maxHeartbeats 2000000 in
theorem Ratio_ref (n d : Int) (w : World) (hn : -1000000000000000000 ≤ n ∧ n ≤ 1000000000000000000) (hd : 1 ≤ d ∧ d ≤ 1000000000000000000) :
    Calls Try.prog 72 #[.int .i64 n, .int .i64 d] w fun e w' => e = .returned (rtV (mk n d)) ∧ Below w.heap.size w w' := by
  have hg1 := gcd_pos (n := n) hd.1
  have hgl := gcd_le (n := n) hd.1
  obtain ⟨t1, t2⟩ := mk_tdiv n d
  have hb1 := mk_nb (n := n) hd.1 hn
  have hb2 := mk_pos (n := n) hd.1
  have hb3 := mk_dle (n := n) hd.1
  have hge : Nat.gcd n.natAbs d.toNat = Int.gcd n d := by
    unfold Int.gcd; congr 1; omega
  have k99 := fun X => gcd_ref n d.toNat X (by omega) (by omega)
  rw [hge] at k99
  have hdn : (d.toNat : Int) = d := by omega
  rw [hdn] at k99
  have hr := Bxr.new w 0 0
  have hb0 := ba1 w (.cells #[.int .i64 0, .int .i64 0] 37)
  unfold rtV
  generalize mk n d = q at *
  obtain ⟨N, D⟩ := q
  simp only at *
  generalize Int.gcd n d = g at *
  have g1 : ¬ ((g : Int) = 0) := by omega
  have g2 : ¬ (g = 0) := by omega
  have g3 : (1 : Int) ≤ (g : Int) := by omega
  obtain ⟨L, hL⟩ : ∃ L : Int, L = 1000000000000000000 := ⟨_, rfl⟩
  rw [← hL] at hn hd hb1
  have hL9 : L ≤ 9000000000000000000 := by omega
  replace hL := Lib.hid hL
  obtain ⟨hn1, hn2⟩ := hn
  obtain ⟨hd1, hd2⟩ := hd
  have hw2 : IntKind.i64.wrap N = N := IntWalk.i64_in _ (by omega)
  have hw3 : IntKind.i64.wrap D = D := IntWalk.i64_in _ (by omega)
  obtain ⟨Y, hY⟩ : ∃ Y, Y = w.alloc (.cells #[.int .i64 0, .int .i64 0] 37) := ⟨_, rfl⟩
  rw [← hY] at hr hb0
  have kk := Lib.hid (k99 Y)
  clear k99
  replace hY := Lib.hid hY
  replace hge := Lib.hid hge
  replace hdn := Lib.hid hdn
  replace hr := Lib.hid hr
  replace hb0 := Lib.hid hb0
  replace hgl := Lib.hid hgl
  go_enter Try.func72, Try.ntmps72
  go_wp2_with fail
  rw [← hY.out]
  refine kk.out.mono ?_
  rintro e X ⟨rfl, n0, hX⟩
  have hrX : Bxr X w.heap.size 0 0 := by rw [hX]; exact hr.out.to rfl
  have hbX : Below w.heap.size w X := by rw [hX]; exact below_drewN hb0.out n0
  clear hX
  have r0 := hrX.c0
  have r1 := hrX.c1
  have f0 := hrX.fz 0
  have f1 := hrX.fz 1
  have rl := hrX.lt
  have y := hrX.set N D
  have y0 := y.c0
  have y1 := y.c1
  have hend := Lib.hid (below_drewN (set2_below hbX (Nat.le_refl w.heap.size) (.int .i64 N) (.int .i64 D)) 1)
  replace y := Lib.hid y
  replace hrX := Lib.hid hrX
  replace hbX := Lib.hid hbX
  go_wp2_with fail
  go_region
  all_goals
    go_wp2
    exact bodyPost_ret (v := .agg #[.int .i64 N, .int .i64 D]) (by simp [results, Try.results72, go_sem, y0, y1]) rfl ⟨rfl, hend.out⟩

namespace M
/-- Twice the award of the first one of two claims. -/
def tgR (a b e : Int) : Int := 2 * max 0 (e - b) + (e - max 0 (e - b) - max 0 (e - a))
theorem tgR_cases (a b e : Int) : ∃ x y : Int, x = max 0 (e - b) ∧ y = max 0 (e - a) ∧ tgR a b e = 2 * x + (e - x - y) := ⟨_, _, rfl, rfl, rfl⟩
end M

set_option maxHeartbeats 1000000 in
theorem twice_any (a b e : Int) (w : World) (ha : -100000000000000000 ≤ a ∧ a ≤ 100000000000000000) (hb : -100000000000000000 ≤ b ∧ b ≤ 100000000000000000) (he : -100000000000000000 ≤ e ∧ e ≤ 100000000000000000) :
    Calls Try.prog 71 #[.int .i64 a, .int .i64 b, .int .i64 e] w fun r w' => r = .returned (.int .i64 (tgR a b e)) ∧ w' = w := by
  obtain ⟨L, hL⟩ : ∃ L : Int, L = 100000000000000000 := ⟨_, rfl⟩
  rw [← hL] at ha hb he
  have hL9 : L * 50 ≤ 9000000000000000000 := by omega
  replace hL := Lib.hid hL
  obtain ⟨R, hR⟩ : ∃ R, R = tgR a b e := ⟨_, rfl⟩
  have hR2 : R = 2 * max 0 (e - b) + (e - max 0 (e - b) - max 0 (e - a)) := hR
  rw [← hR]
  have w1 : IntKind.i64.wrap (e - b) = e - b := IntWalk.i64_in _ (by omega)
  have w2 : IntKind.i64.wrap (e - a) = e - a := IntWalk.i64_in _ (by omega)
  replace hR := Lib.hid hR
  rcases Int.lt_or_le 0 (e - b) with h1 | h1
  all_goals rcases Int.lt_or_le 0 (e - a) with h2 | h2
  all_goals
    replace hR2 := Lib.hid hR2
    go_enter Try.func71, Try.ntmps71
    go_wp2
    go_ret
    refine ⟨ret_int ?_, rfl⟩
    have := hR2.out
    omega

theorem bad_any (x : Int) (w : World) : Calls Try.prog 59 #[.int .i64 x] w fun e w' => e = .returned (.bool !decide (okC x)) ∧ w' = w := by
  unfold okC
  go_enter Try.func59, Try.ntmps59
  by_cases h1 : x < 0
  · have : decide (0 ≤ x ∧ x ≤ 1000) = false := by simp; omega
    rw [this]
    go_wp2
    go_ret
    exact ⟨rfl, rfl⟩
  · by_cases h2 : 1000 < x
    · have : decide (0 ≤ x ∧ x ≤ 1000) = false := by simp; omega
      rw [this]
      go_wp2
      go_ret
      exact ⟨rfl, rfl⟩
    · have : decide (0 ≤ x ∧ x ≤ 1000) = true := by simp; omega
      rw [this]
      go_wp2
      go_ret
      exact ⟨rfl, rfl⟩
theorem within_any (lo n hi : Int) (w : World) : Calls Try.prog 60 #[.int .i64 lo, .int .i64 n, .int .i64 hi] w fun e w' => e = .returned (.bool (decide (lo ≤ n ∧ n ≤ hi))) ∧ w' = w := by
  go_enter Try.func60, Try.ntmps60
  by_cases h1 : lo ≤ n
  · by_cases h2 : n ≤ hi
    · have : decide (lo ≤ n ∧ n ≤ hi) = true := by simp; omega
      rw [this]
      go_wp2
      go_ret
      exact ⟨rfl, rfl⟩
    · have : decide (lo ≤ n ∧ n ≤ hi) = false := by simp; omega
      rw [this]
      go_wp2
      go_ret
      exact ⟨rfl, rfl⟩
  · have : decide (lo ≤ n ∧ n ≤ hi) = false := by simp; omega
    rw [this]
    go_wp2
    go_ret
    exact ⟨rfl, rfl⟩
end Go.Proofs.Ythleekdkbgnabaa
