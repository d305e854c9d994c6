/-
  By how much an award is greater with a greater claim: the program's function.
-/
import Derived.Test.YthleekdkbgnabaaWa
namespace Go.Proofs.Ythleekdkbgnabaa
open Go.RowKit Go.Deep M
set_option linter.unusedVariables false
set_option linter.unusedSimpArgs false

set_option maxRecDepth 100000 in
set_option maxHeartbeats 8000000 in
theorem More_ok23 (B : Nat) (A : Option Addr) (c : Nat) (l : List Int) (e : Int) (w : World) (h : Row w B A l) (hB : B ≤ w.heap.size) (hk : okE l e) (k j : Nat) (hk1 : 2 ≤ k ∧ k < 4) (hj : j < l.length) (hne : el l j ≠ 1000) :
    Calls Try.prog 41 #[.slice A l.length c, .int .i64 e, .int .i64 (k + 1 : Nat), .int .i64 j] w fun r w' => r = .returned (.tuple #[rtV (miR (shR (incL l j) e (k + 1 : Nat) j) (shR l e (k + 1 : Nat) j)), .int .i64 0]) ∧ Below w.heap.size w w' := by
  have h63 := h.1
  have hn := val_len hk.1
  have hxj := hk.1.2 j hj
  have hk' := inc_ok hk hj hne
  have hll := incL_len l j
  have hr0 := Bxr.new w 0 0
  have hb0 := ba1 w (.cells #[.int .i64 0, .int .i64 0] 37)
  have hrow := fun X (hX : Below w.heap.size w X) => h.below (hX.mono hB)
  have hBB := fun X (hX : Below w.heap.size w X) => Nat.le_trans hB hX.size
  obtain ⟨Y, hY⟩ : ∃ Y, Y = w.alloc (.cells #[.int .i64 0, .int .i64 0] 37) := ⟨_, rfl⟩
  rw [← hY] at hr0 hb0
  have k1 := cClaim_ok B A c l e Y (hrow Y hb0) hk k j hk1.2 hj
  have hat := fun X (hX : Below w.heap.size w X) => (hrow X hX).at_ j hj
  have k2 := fun X (hX : Below w.heap.size w X) => greater_any B A c l j X (hrow X hX) (hBB X hX) (by omega) hj hxj
  have k3 := fun X g cap (hX : Row X X.heap.size (some ⟨g, 0, none⟩) (incL l j)) => rule_any X.heap.size (some ⟨g, 0, none⟩) cap (incL l j) e X hX (Nat.le_refl _) hk' k hk1.2
  have k4 := fun X (hX : Below w.heap.size w X) => rule_any B A c l e X (hrow X hX) (hBB X hX) hk k hk1.2
  have k5 := fun X => minus_any (shR (incL l j) e (k + 1 : Nat) j) (shR l e (k + 1 : Nat) j) X (sh_small hk' (by omega)) (sh_small hk hj)
  rw [hll] at k2 k3
  generalize miR (shR (incL l j) e (k + 1 : Nat) j) (shR l e (k + 1 : Nat) j) = Q at *
  generalize shR (incL l j) e (k + 1 : Nat) = F' at *
  generalize shR l e (k + 1 : Nat) = F at *
  generalize l.length = n at *
  have hcel3 : ∀ X3 X4 gm, AwW X3 n gm F' X4 → X4.drew.cell? ⟨gm, j * 2, none⟩ = some (.int .i64 (F' j).n) ∧ X4.drew.cell? ⟨gm, j * 2 + 1, none⟩ = some (.int .i64 (F' j).d) := fun X3 X4 gm hW => ⟨hW.blk.c0 hj, hW.blk.c1 hj⟩
  have hcel4 : ∀ X2 X3 gm X4 g2, Below w.heap.size w X2 → AwW X2 n gm F' X3 → Bxr X2 w.heap.size 0 0 → AwW X3.drew n g2 F X4 → (X4.cell? ⟨g2, j * 2, none⟩ = some (.int .i64 (F j).n) ∧ X4.cell? ⟨g2, j * 2 + 1, none⟩ = some (.int .i64 (F j).d)) ∧ (X4.cell? ⟨gm, j * 2, none⟩ = some (.int .i64 (F' j).n) ∧ X4.cell? ⟨gm, j * 2 + 1, none⟩ = some (.int .i64 (F' j).d)) ∧ Below w.heap.size w X4 ∧ Bxr X4 w.heap.size 0 0 := fun X2 X3 gm X4 g2 h2 h3 hb h4 => by
    have hbb : Below X3.heap.size X3 X4 := (below_drewN (Below.refl X3.heap.size X3) 1).trans h4.below
    have q := h3.up hbb
    exact ⟨⟨h4.blk.c0 hj, h4.blk.c1 hj⟩, ⟨q.blk.c0 hj, q.blk.c1 hj⟩, bel_trans h2 (bel_trans h3.below hbb), (hb.up h3.below).up hbb⟩
  obtain ⟨x, hx⟩ : ∃ x, x = el l j := ⟨_, rfl⟩
  rw [← hx] at hxj hne hat
  unfold okC at hxj
  have hne2 : (x == 1000) = false := by simp; omega
  replace hx := Lib.hid hx
  unfold fnV at k1
  unfold rtV at *
  generalize hP' : F' j = P' at *
  generalize hP : F j = P at *
  have hjn : (j : Int) < (n : Int) := by omega
  replace hP' := Lib.hid hP'
  replace hP := Lib.hid hP
  replace hne := Lib.hid hne
  replace hrow := Lib.hid hrow
  replace hBB := Lib.hid hBB
  replace hat := Lib.hid hat
  replace h := Lib.hid h
  replace hk := Lib.hid hk
  replace hk' := Lib.hid hk'
  replace hll := Lib.hid hll
  replace hY := Lib.hid hY
  replace hr0 := Lib.hid hr0
  replace hb0 := Lib.hid hb0
  replace hcel3 := Lib.hid hcel3
  replace hcel4 := Lib.hid hcel4
  replace k1 := Lib.hid k1
  replace k2 := Lib.hid k2
  replace k3 := Lib.hid k3
  replace k4 := Lib.hid k4
  replace k5 := Lib.hid k5
  obtain ⟨hn1, hn8⟩ := hn
  rcases (show k = 2 ∨ k = 3 by omega) with rfl | rfl
  all_goals
    go_enter Try.func41, Try.ntmps41
    go_wp2_with fail
    rw [← hY.out]
    refine k1.out.mono ?_
    rintro _ X1 ⟨rfl, hb1⟩
    have hX1 := bel_trans hb0.out hb1
    have hx1 := hr0.out.up hb1
    obtain ⟨bA, oA, rfl, hbA, a0⟩ := hat.out X1 hX1
    have kk2 := Lib.hid (k2.out X1 hX1)
    replace hX1 := Lib.hid hX1
    replace hx1 := Lib.hid hx1
    replace hb1 := Lib.hid hb1
    go_wp2_with fail
    refine kk2.out.mono ?_
    rintro _ X2 ⟨g, cap, rfl, hb2, hrw⟩
    have hX2 := bel_trans hX1.out hb2
    have hx2 := hx1.out.up hb2
    have kk3 := k3.out X2 g cap hrw
    simp only [Nat.add_zero, Nat.reduceAdd] at kk3
    replace kk3 := Lib.hid kk3
    replace hX2 := Lib.hid hX2
    replace hx2 := Lib.hid hx2
    replace hb2 := Lib.hid hb2
    replace hrw := Lib.hid hrw
    go_wp2_with fail
    refine kk3.out.mono ?_
    rintro _ X3 ⟨gm, rfl, hW3⟩
    have hX3 := bel_trans hX2.out hW3.below
    obtain ⟨d0, d1⟩ := hcel3.out X2 X3 gm hW3
    have kk4 := k4.out X3.drew (below_drewN hX3 1)
    simp only [Nat.add_zero, Nat.reduceAdd] at kk4
    have hc4 := Lib.hid (fun X4 g2 hW4 => hcel4.out X2 X3 gm X4 g2 hX2.out hW3 hx2.out hW4)
    replace kk4 := Lib.hid kk4
    replace hW3 := Lib.hid hW3
    replace hX3 := Lib.hid hX3
    go_wp2
    go_region_with (first
      | ((first | go_at_call 109 | go_at_call 110 | go_at_call 111 | go_at_call 112); refine kk4.out.mono ?_; rintro e X4 ⟨g2, rfl, hW4⟩; obtain ⟨⟨r0, r1⟩, ⟨m0, m1⟩, hb4, hx4⟩ := hc4.out X4 g2 hW4; replace hb4 := Lib.hid hb4; replace hx4 := Lib.hid hx4; replace hW4 := Lib.hid hW4)
      | (go_at_call 78; refine (k5.out _).mono ?_; rintro e X5 ⟨rfl, hb5⟩; have hx5 := hx4.out.up hb5; have z0 := hx5.c0; have z1 := hx5.c1; have z2 := hx5.fz 0; have z3 := hx5.fz 1; have z4 := hx5.lt; have y := hx5.set Q.n Q.d; have y0 := y.c0; have y1 := y.c1; have hend := Lib.hid (set2_below (bel_trans hb4.out hb5) (Nat.le_refl _) (.int .i64 Q.n) (.int .i64 Q.d)); replace y := Lib.hid y; replace hx5 := Lib.hid hx5; replace hb5 := Lib.hid hb5))
    all_goals
      go_wp2
      exact bodyPost_ret (v := .tuple #[.agg #[.int .i64 Q.n, .int .i64 Q.d], .int .i64 0]) (by simp [results, Try.results41, go_sem, y0, y1]) rfl ⟨rfl, hend.out⟩
end Go.Proofs.Ythleekdkbgnabaa
