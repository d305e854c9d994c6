/-
  By how much less a claimant gets than the two in its place: the program's function, rules 1 and 2.
-/
import Derived.Test.YthleekdkbgnabaaXb
import Derived.Test.YthleekdkbgnabaaXc
namespace Go.Proofs.Ythleekdkbgnabaa
open Go.RowKit Go.Deep M
set_option linter.unusedVariables false
set_option linter.unusedSimpArgs false

set_option maxRecDepth 100000 in
set_option maxHeartbeats 8000000 in
theorem Split_ok01 (B : Nat) (A : Option Addr) (c : Nat) (l : List Int) (e a : Int) (w : World) (h : Row w B A l) (hB : B ≤ w.heap.size) (hk : okE l e) (k j : Nat) (hk1 : k < 2) (hj : j < l.length) (ha : 0 ≤ a ∧ a ≤ el l j) (h8 : l.length ≠ 8) (hcap : l.length ≤ c) (hc9 : c ≤ 9223372036854775807) :
    Calls Try.prog 43 #[.slice A l.length c, .int .i64 e, .int .i64 (k + 1 : Nat), .int .i64 j, .int .i64 a] w fun r w' => r = .returned (.tuple #[rtV (miR (plR (shR (splL l j a) e (k + 1 : Nat) j) (shR (splL l j a) e (k + 1 : Nat) (j + 1))) (shR l e (k + 1 : Nat) j)), .int .i64 0]) ∧ Below w.heap.size w w' := by
  have hk4 : k < 4 := by omega
  have h63 := h.1
  have hn := val_len hk.1
  have hxj := hk.1.2 j hj
  have hk' := spl_ok hk hj ha h8
  have hll := splL_len l j a hj
  have hr0 := Bxr.new w 0 0
  have hb0 := ba1 w (.cells #[.int .i64 0, .int .i64 0] 37)
  have hrow := fun X (hX : Below w.heap.size w X) => h.below (hX.mono hB)
  have hBB := fun X (hX : Below w.heap.size w X) => Nat.le_trans hB hX.size
  obtain ⟨Y, hY⟩ : ∃ Y, Y = w.alloc (.cells #[.int .i64 0, .int .i64 0] 37) := ⟨_, rfl⟩
  rw [← hY] at hr0 hb0
  have k1 := cClaim_ok B A c l e Y (hrow Y hb0) hk k j hk4 hj
  have hat := fun X (hX : Below w.heap.size w X) => (hrow X hX).at_ j hj
  have k2 := fun X (hX : Below w.heap.size w X) => split_any B A c l j a X (hrow X hX) (hBB X hX) (by omega) hj hcap hxj ha hc9
  have k3 := fun X g cap (hX : Row X X.heap.size (some ⟨g, 0, none⟩) (splL l j a)) => rule_any X.heap.size (some ⟨g, 0, none⟩) cap (splL l j a) e X hX (Nat.le_refl _) hk' k hk4
  have k4 := fun X (hX : Below w.heap.size w X) => rule_any B A c l e X (hrow X hX) (hBB X hX) hk k hk4
  have sm1 := sh_sml (q := (k + 1 : Nat)) hk' (show j < (splL l j a).length by omega)
  have sm2 := sh_sml (q := (k + 1 : Nat)) hk' (show j + 1 < (splL l j a).length by omega)
  have sm3 := sh_sml (q := (k + 1 : Nat)) hk hj
  have k5 := fun X => plus_wide (shR (splL l j a) e (k + 1 : Nat) j) (shR (splL l j a) e (k + 1 : Nat) (j + 1)) X (sml_wide sm1) sm2
  have k6 := fun X => minus_wide (plR (shR (splL l j a) e (k + 1 : Nat) j) (shR (splL l j a) e (k + 1 : Nat) (j + 1))) (shR l e (k + 1 : Nat) j) X (pl_wide sm1 sm2).1 sm3
  rw [hll] at k2 k3
  generalize miR (plR (shR (splL l j a) e (k + 1 : Nat) j) (shR (splL l j a) e (k + 1 : Nat) (j + 1))) (shR l e (k + 1 : Nat) j) = Q at *
  generalize plR (shR (splL l j a) e (k + 1 : Nat) j) (shR (splL l j a) e (k + 1 : Nat) (j + 1)) = S at *
  generalize shR (splL l j a) e (k + 1 : Nat) = F' at *
  generalize shR l e (k + 1 : Nat) = F at *
  generalize splL l j a = L at *
  generalize l.length = n at *
  have hcel3 : ∀ X3 X4 gm, AwW X3 (n + 1) gm F' X4 → (X4.drew.cell? ⟨gm, j * 2, none⟩ = some (.int .i64 (F' j).n) ∧ X4.drew.cell? ⟨gm, j * 2 + 1, none⟩ = some (.int .i64 (F' j).d)) ∧ (X4.drew.cell? ⟨gm, (j + 1) * 2, none⟩ = some (.int .i64 (F' (j + 1)).n) ∧ X4.drew.cell? ⟨gm, (j + 1) * 2 + 1, none⟩ = some (.int .i64 (F' (j + 1)).d)) := fun X3 X4 gm hW => ⟨⟨hW.blk.c0 (by omega), hW.blk.c1 (by omega)⟩, hW.blk.c0 (by omega), hW.blk.c1 (by omega)⟩
  have hcel4 : ∀ X4 X5 g2, AwW X4 n g2 F X5 → X5.cell? ⟨g2, j * 2, none⟩ = some (.int .i64 (F j).n) ∧ X5.cell? ⟨g2, j * 2 + 1, none⟩ = some (.int .i64 (F j).d) := fun X4 X5 g2 hW => ⟨hW.blk.c0 hj, hW.blk.c1 hj⟩
  obtain ⟨x, hx⟩ : ∃ x, x = el l j := ⟨_, rfl⟩
  rw [← hx] at hxj ha hat
  unfold okC at hxj
  have hne2 : ((n : Int) == 8) = false := by simp; omega
  have ha1 : ¬ a < 0 := by omega
  have ha2 : ¬ x < a := by omega
  obtain ⟨jj, hjj⟩ : ∃ jj, jj = j + 1 := ⟨_, rfl⟩
  rw [← hjj] at hcel3 k5
  have w2 : IntKind.i64.wrap ((j : Int) + 1) = (jj : Int) := by rw [hjj]; exact IntWalk.i64_in _ (by omega)
  have g1 : (jj : Int) < ((n + 1 : Nat) : Int) := by omega
  have g2 : (j : Int) < ((n + 1 : Nat) : Int) := by omega
  obtain ⟨m, hm⟩ : ∃ m, m = n + 1 := ⟨_, rfl⟩
  rw [← hm] at g1 g2 k2 k3 hcel3
  replace hm := Lib.hid hm
  replace hjj := Lib.hid hjj
  replace hx := Lib.hid hx
  unfold fnV at k1
  unfold rtV at *
  generalize hP' : F' j = P' at *
  generalize hP2 : F' jj = P2 at *
  generalize hP : F j = P at *
  have hjn : (j : Int) < (n : Int) := by omega
  replace hP' := Lib.hid hP'
  replace hP2 := Lib.hid hP2
  replace hP := Lib.hid hP
  replace hrow := Lib.hid hrow
  replace hBB := Lib.hid hBB
  replace hat := Lib.hid hat
  replace h := Lib.hid h
  replace hk := Lib.hid hk
  replace hk' := Lib.hid hk'
  replace hll := Lib.hid hll
  replace hY := Lib.hid hY
  replace hr0 := Lib.hid hr0
  replace hb0 := Lib.hid hb0
  replace hcel3 := Lib.hid hcel3
  replace hcel4 := Lib.hid hcel4
  replace k1 := Lib.hid k1
  replace k2 := Lib.hid k2
  replace k3 := Lib.hid k3
  replace k4 := Lib.hid k4
  replace k5 := Lib.hid k5
  replace k6 := Lib.hid k6
  replace sm1 := Lib.hid sm1
  replace sm2 := Lib.hid sm2
  replace sm3 := Lib.hid sm3
  obtain ⟨hn1, hn8⟩ := hn
  rcases (show k = 0 ∨ k = 1 by omega) with rfl | rfl
  all_goals
    go_enter Try.func43, Try.ntmps43
    go_wp2_with fail
    rw [← hY.out]
    refine k1.out.mono ?_
    rintro _ X1 ⟨rfl, hb1⟩
    have hX1 := bel_trans hb0.out hb1
    have hx1 := hr0.out.up hb1
    obtain ⟨bA, oA, rfl, hbA, a0⟩ := hat.out X1 hX1
    have kk2 := Lib.hid (k2.out X1 hX1)
    replace hX1 := Lib.hid hX1
    replace hx1 := Lib.hid hx1
    replace hb1 := Lib.hid hb1
    go_wp2_with fail
    refine kk2.out.mono ?_
    rintro _ X2 ⟨g, cap, rfl, hb2, hrw⟩
    have hX2 := bel_trans hX1.out hb2
    have hx2 := hx1.out.up hb2
    have kk3 := k3.out X2 g cap hrw
    simp only [Nat.add_zero, Nat.reduceAdd] at kk3
    replace kk3 := Lib.hid kk3
    replace hX2 := Lib.hid hX2
    replace hx2 := Lib.hid hx2
    replace hb2 := Lib.hid hb2
    replace hrw := Lib.hid hrw
    go_wp2_with fail
    refine kk3.out.mono ?_
    rintro _ X3 ⟨gm, rfl, hW3⟩
    have hX3 := bel_trans hX2.out hW3.below
    have hx3' := hx2.out.up hW3.below
    have hx3 : Bxr X3.drew w.heap.size 0 0 := hx3'
    obtain ⟨⟨d0, d1⟩, d2, d3⟩ := hcel3.out X2 X3 gm hW3
    have hX3d := Lib.hid (below_drewN hX3 1)
    have hx3d := Lib.hid hx3
    clear hx3 hx3'
    replace hW3 := Lib.hid hW3
    replace hX3 := Lib.hid hX3
    go_wp2
    go_region_with (first
      | (go_at_call 81; refine (k5.out _).mono ?_; rintro e X4 ⟨rfl, hb4⟩; have hX4 := bel_trans hX3d.out hb4; have hx4 := hx3d.out.up hb4; have kk4 := k4.out X4 hX4; simp only [Nat.add_zero, Nat.reduceAdd] at kk4; replace kk4 := Lib.hid kk4; replace hX4 := Lib.hid hX4; replace hx4 := Lib.hid hx4; replace hb4 := Lib.hid hb4)
      | ((first | go_at_call 109 | go_at_call 110 | go_at_call 111 | go_at_call 112); refine kk4.out.mono ?_; rintro e X5 ⟨g2', rfl, hW5⟩; obtain ⟨r0, r1⟩ := hcel4.out X4 X5 g2' hW5; have hX5 := Lib.hid (bel_trans hX4.out hW5.below); have hx5 := Lib.hid (hx4.out.up hW5.below); replace hW5 := Lib.hid hW5)
      | (go_at_call 78; refine (k6.out _).mono ?_; rintro e X6 ⟨rfl, hb6⟩; have hx6 := hx5.out.up hb6; have z0 := hx6.c0; have z1 := hx6.c1; have z2 := hx6.fz 0; have z3 := hx6.fz 1; have z4 := hx6.lt; have y := hx6.set Q.n Q.d; have y0 := y.c0; have y1 := y.c1; have hend := Lib.hid (set2_below (bel_trans hX5.out hb6) (Nat.le_refl _) (.int .i64 Q.n) (.int .i64 Q.d)); replace y := Lib.hid y; replace hx6 := Lib.hid hx6; replace hb6 := Lib.hid hb6))
    all_goals
      go_wp2
      exact bodyPost_ret (v := .tuple #[.agg #[.int .i64 Q.n, .int .i64 Q.d], .int .i64 0]) (by simp [results, Try.results43, go_sem, y0, y1]) rfl ⟨rfl, hend.out⟩
end Go.Proofs.Ythleekdkbgnabaa
