/-
  By how much an award is greater with a greater claim: the specification's function.
-/
import Derived.Test.YthleekdkbgnabaaWa
import Derived.Test.YthleekdkbgnabaaT
namespace Go.Proofs.Ythleekdkbgnabaa
open Go.RowKit Go.Deep M
set_option linter.unusedVariables false
set_option linter.unusedSimpArgs false

set_option maxRecDepth 100000 in
set_option maxHeartbeats 8000000 in
theorem MoreR_good (B : Nat) (A : Option Addr) (c : Nat) (l : List Int) (e : Int) (w : World) (h : Row w B A l) (hB : B ≤ w.heap.size) (hk : okE l e) (k j : Nat) (hk1 : k < 4) (hj : j < l.length) (hne : el l j ≠ 1000) :
    Calls Try.prog 42 #[.slice A l.length c, .int .i64 e, .int .i64 (k + 1 : Nat), .int .i64 j] w fun r w' => r = .returned (.tuple #[rtV (miR (shR (incL l j) e (k + 1 : Nat) j) (shR l e (k + 1 : Nat) j)), .int .i64 0]) ∧ Below w.heap.size w w' := by
  obtain ⟨i3, ji, jz0, jz1, jz2⟩ := info_parts info3
  replace ji := Lib.hid ji
  replace jz0 := Lib.hid jz0
  replace jz1 := Lib.hid jz1
  replace jz2 := Lib.hid jz2
  have h63 := h.1
  have hn := val_len hk.1
  have hxj := hk.1.2 j hj
  have hk' := inc_ok hk hj hne
  have hll := incL_len l j
  have hr0 := Bxr.new w 0 0
  have hb0 := ba1 w (.cells #[.int .i64 0, .int .i64 0] 37)
  have hrow := fun X (hX : Below w.heap.size w X) => h.below (hX.mono hB)
  have hBB := fun X (hX : Below w.heap.size w X) => Nat.le_trans hB hX.size
  obtain ⟨Y, hY⟩ : ∃ Y, Y = w.alloc (.cells #[.int .i64 0, .int .i64 0] 37) := ⟨_, rfl⟩
  rw [← hY] at hr0 hb0
  have hoS : okS l e (k + 1 : Nat) := ⟨hk, by omega, by omega⟩
  have k1 := ruled_any B A c l e (k + 1 : Nat) Y (hrow Y hb0)
  rw [errS_ok hoS] at k1
  have kw := within_any 0 (j : Int) ((l.length : Int) - 1) Y
  rw [decide_eq_true (by omega)] at kw
  have hat := fun X (hX : Below w.heap.size w X) => (hrow X hX).at_ j hj
  have k3 := fun X g cap (hX : Row X X.heap.size (some ⟨g, 0, none⟩) (incL l j)) => share_ref X.heap.size (some ⟨g, 0, none⟩) cap (incL l j) e X hX (Nat.le_refl _) hk' k hk1
  have k4 := fun X (hX : Below w.heap.size w X) => share_ref B A c l e X (hrow X hX) (hBB X hX) hk k hk1
  have k5 := fun X => minus_ref (shR (incL l j) e (k + 1 : Nat) j) (shR l e (k + 1 : Nat) j) X (sh_small hk' (by omega)) (sh_small hk hj)
  have hinc := fun X g (hX : BlI X g l.length (fun i => if i = j then el l j + 1 else el l i)) => row_bl hX hll (by omega) (fun i hi => incL_at l j i hi)
  rw [hll] at k3
  unfold ShP at k3 k4
  -- the copy
  obtain ⟨b, o, hAe, _⟩ := hat w (Below.refl _ _)
  subst hAe
  have hnews : ∀ X, Below w.heap.size w X → ∀ i u, (vals l)[i]? = some u → X.cell? ((⟨b, o, none⟩ : Addr).add i) = some u := fun X hX i u hu => by
    obtain ⟨hi, rfl⟩ := news_get hu
    obtain ⟨b', o', e, _, hc⟩ := (hrow X hX).at_ i hi
    cases e
    rw [add_pl]; exact hc
  have hbk := fun X base v (hX : World.ownsRow X base 3 1 v l.length (vals l)) => own_blk hX (by omega)
  have hvl : (vals l).length = l.length * 1 := by rw [vals_len, Nat.mul_one]
  have hv1 : ∀ u ∈ vals l, u.oneCell' = true := fun u hu => by obtain ⟨_, _, rfl⟩ := List.mem_map.1 hu; rfl
  generalize miR (shR (incL l j) e (k + 1 : Nat) j) (shR l e (k + 1 : Nat) j) = Q at *
  generalize shR (incL l j) e (k + 1 : Nat) = F' at *
  generalize shR l e (k + 1 : Nat) = F at *
  generalize hnl : l.length = n at *
  have hcel3 : ∀ X3 X4 gm, AwW X3 n gm F' X4 → (X4.cell? ⟨gm, j * 2, none⟩ = some (.int .i64 (F' j).n) ∧ X4.cell? ⟨gm, j * 2 + 1, none⟩ = some (.int .i64 (F' j).d)) := fun X3 X4 gm hW => ⟨hW.blk.c0 hj, hW.blk.c1 hj⟩
  have hcel4 : ∀ X2 X3 gm X4 g2, Below w.heap.size w X2 → AwW X2 n gm F' X3 → Bxr X2 w.heap.size 0 0 → AwW X3 n g2 F X4 → (X4.cell? ⟨g2, j * 2, none⟩ = some (.int .i64 (F j).n) ∧ X4.cell? ⟨g2, j * 2 + 1, none⟩ = some (.int .i64 (F j).d)) ∧ (X4.cell? ⟨gm, j * 2, none⟩ = some (.int .i64 (F' j).n) ∧ X4.cell? ⟨gm, j * 2 + 1, none⟩ = some (.int .i64 (F' j).d)) ∧ Below w.heap.size w X4 ∧ Bxr X4 w.heap.size 0 0 := fun X2 X3 gm X4 g2 h2 h3 hb h4 => by
    have q := h3.up h4.below
    exact ⟨⟨h4.blk.c0 hj, h4.blk.c1 hj⟩, ⟨q.blk.c0 hj, q.blk.c1 hj⟩, bel_trans h2 (bel_trans h3.below h4.below), (hb.up h3.below).up h4.below⟩
  obtain ⟨x, hx⟩ : ∃ x, x = el l j := ⟨_, rfl⟩
  rw [← hx] at hxj hne hat hinc
  unfold okC at hxj
  have hne2 : (x == 1000) = false := by simp; omega
  have w1 : IntKind.i64.wrap (x + 1) = x + 1 := IntWalk.i64_in _ (by omega)
  replace hx := Lib.hid hx
  unfold rtV at *
  generalize hP' : F' j = P' at *
  generalize hP : F j = P at *
  have hjn : (j : Int) < (n : Int) := by omega
  obtain ⟨q, hq⟩ : ∃ q : Int, q = (k + 1 : Nat) := ⟨_, rfl⟩
  rw [← hq] at k1 k3 k4 ⊢
  replace hq := Lib.hid hq
  replace hP' := Lib.hid hP'
  replace hP := Lib.hid hP
  replace hnl := Lib.hid hnl
  replace hne := Lib.hid hne
  replace hrow := Lib.hid hrow
  replace hBB := Lib.hid hBB
  replace hat := Lib.hid hat
  replace hnews := Lib.hid hnews
  replace hbk := Lib.hid hbk
  replace hvl := Lib.hid hvl
  replace hv1 := Lib.hid hv1
  replace hinc := Lib.hid hinc
  replace h := Lib.hid h
  replace hk := Lib.hid hk
  replace hk' := Lib.hid hk'
  replace hoS := Lib.hid hoS
  replace hll := Lib.hid hll
  replace hY := Lib.hid hY
  replace hr0 := Lib.hid hr0
  replace hb0 := Lib.hid hb0
  replace hcel3 := Lib.hid hcel3
  replace hcel4 := Lib.hid hcel4
  replace k1 := Lib.hid k1
  replace kw := Lib.hid kw
  replace k3 := Lib.hid k3
  replace k4 := Lib.hid k4
  replace k5 := Lib.hid k5
  obtain ⟨hn1, hn8⟩ := hn
  go_enter Try.func42, Try.ntmps42
  go_wp2_with fail
  rw [← hY.out]
  refine k1.out.mono ?_
  rintro _ X ⟨rfl, rfl⟩
  go_wp2_with fail
  refine kw.out.mono ?_
  rintro _ X1 ⟨rfl, rfl⟩
  obtain ⟨b', o', he', hbA, a0⟩ := hat.out X1 hb0.out
  cases he'
  have ho := empty_own X1 3
  have hbe : Below w.heap.size w (X1.alloc (.cells #[] 3)) := bel_trans hb0.out (ba1 X1 _)
  have hnw := Lib.hid (hnews.out _ hbe)
  have hbe1 := ba1 X1 (.cells #[] 3)
  replace ho := Lib.hid ho
  replace hbe := Lib.hid hbe
  replace hbe1 := Lib.hid hbe1
  go_wp2_with (at_builtin; refine wpList_append_own _ rfl (.tmp 36) (.tmp 37) 22 rfl X1.heap.size 3 i3 (.int .i64 0) 1 8 Try.underlying22 ji.out jz0.out jz1.out jz2.out rfl (by decide) _ _ _ rfl ho.out ⟨b, o, none⟩ n c (vals l) rfl hvl.out hnw.out hv1.out (by unfold maxLen; omega) (by omega) (by simp) ?_; intro v' w9 hown' hgrow _; have hbb : Below X1.heap.size X1 w9 := (hbe1.out.trans (below_grown hgrow (B := X1.heap.size) (by simp) (fun k e => by cases e; exact Nat.le_refl _))); have hown2 : w9.ownsRow X1.heap.size 3 1 v' n (vals l) := (by simpa using hown'); obtain ⟨g, cap, rfl, hcap, hg, hbl⟩ := hbk.out w9 _ v' hown2; clear hown' hgrow hown2; have hbi := hbl.cell hj; rw [← hx.out] at hbi; have hbf := hbl.fz j; have hbt := hbl.lt; have hset := hbl.set hj (x + 1); replace hbl := Lib.hid hbl; replace hset := Lib.hid hset; replace hbb := Lib.hid hbb)
  have hZ1 := hbb.out.setCell (p := ⟨g, j, none⟩) hg (.int .i64 (x + 1))
  have hrz := hinc.out _ g hset.out
  have hZ := bel_trans hb0.out hZ1
  have hxz := hr0.out.up hZ1
  obtain ⟨Z, hZe⟩ : ∃ Z, Z = w9.setCell ⟨g, j, none⟩ (.int .i64 (x + 1)) := ⟨_, rfl⟩
  rw [← hZe] at hrz hZ hxz
  have hrd : Row Z.drew Z.drew.heap.size (some ⟨g, 0, none⟩) (incL l j) := hrz.below (below_drewN (Below.refl _ _) 1)
  have kk3 := k3.out Z.drew g cap hrd
  have hZd : Below w.heap.size w Z.drew := below_drewN hZ 1
  have hxd : Bxr Z.drew w.heap.size 0 0 := hxz
  have hc3 := fun X3 gm hW3 => hcel3.out Z.drew X3 gm hW3
  have hc4 := fun X3 gm X4 g2 hW3 hW4 => hcel4.out Z.drew X3 gm X4 g2 hZd hW3 hxd hW4
  have kk4 := fun X3 gm (hW3 : AwW Z.drew n gm F' X3) => k4.out X3 (bel_trans hZd hW3.below)
  clear hbb hZ1 hset hrz hZ hxz hrd
  replace kk3 := Lib.hid kk3
  replace kk4 := Lib.hid kk4
  replace hc3 := Lib.hid hc3
  replace hc4 := Lib.hid hc4
  replace hZd := Lib.hid hZd
  replace hxd := Lib.hid hxd
  have hZ2 := Lib.hid hZe.symm
  clear hZe
  rw [hZ2.out]
  go_region_with (first
    | (go_at_call 54; with_reducible refine kk3.out.mono ?_; rintro e X3 ⟨gm, cpm, rfl, hW3⟩; obtain ⟨d0, d1⟩ := hc3.out X3 gm hW3; have k44 := Lib.hid (kk4.out X3 gm hW3); replace hW3 := Lib.hid hW3)
    | (go_at_call 54; with_reducible refine k44.out.mono ?_; rintro e X4 ⟨g2, cp2, rfl, hW4⟩; obtain ⟨⟨r0, r1⟩, ⟨m0, m1⟩, hb4, hx4⟩ := hc4.out X3 gm X4 g2 hW3.out hW4; replace hb4 := Lib.hid hb4; replace hx4 := Lib.hid hx4; replace hW4 := Lib.hid hW4)
    | (go_at_call 79; refine (k5.out _).mono ?_; rintro e X5 ⟨rfl, hb5⟩; have hx5 := hx4.out.up hb5; have z0 := hx5.c0; have z1 := hx5.c1; have z2 := hx5.fz 0; have z3 := hx5.fz 1; have z4 := hx5.lt; have y := hx5.set Q.n Q.d; have y0 := y.c0; have y1 := y.c1; have hend := Lib.hid (set2_below (bel_trans hb4.out hb5) (Nat.le_refl _) (.int .i64 Q.n) (.int .i64 Q.d)); replace y := Lib.hid y; replace hx5 := Lib.hid hx5; replace hb5 := Lib.hid hb5))
  all_goals
    go_wp2
    exact bodyPost_ret (v := .tuple #[.agg #[.int .i64 Q.n, .int .i64 Q.d], .int .i64 0]) (by simp [results, Try.results42, go_sem, y0, y1]) rfl ⟨rfl, hend.out⟩
end Go.Proofs.Ythleekdkbgnabaa
