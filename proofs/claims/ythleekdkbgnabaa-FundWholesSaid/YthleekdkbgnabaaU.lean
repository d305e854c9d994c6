/-
  The greatest of ratios; the level and the loss: the specification's functions, and Level, Loss of both.
-/
import Derived.Test.YthleekdkbgnabaaT
namespace Go.Proofs.Ythleekdkbgnabaa
open Go.RowKit Go.Deep M
set_option linter.unusedVariables false
set_option linter.unusedSimpArgs false

set_option maxRecDepth 100000 in
set_option maxHeartbeats 1000000 in
theorem Below_ref (a b : Rt) (w : World) (h1 : fitP (a.n * b.d)) (h2 : fitP (b.n * a.d)) : Calls Try.prog 74 #[rtV a, rtV b] w fun e w' => e = .returned (.bool (decide (bel a b))) ∧ Below w.heap.size w w' := by
  have hT := Two.new w a b
  have hd : decide (bel a b) = decide (a.n * b.d < b.n * a.d) := rfl
  rw [hd]
  unfold rtV
  obtain ⟨an, ad⟩ := a
  obtain ⟨bn, bd⟩ := b
  simp only at *
  obtain ⟨p, hp⟩ : ∃ p, p = an * bd := ⟨_, rfl⟩
  obtain ⟨q, hq⟩ : ∃ q, q = bn * ad := ⟨_, rfl⟩
  rw [← hp] at h1 ⊢
  rw [← hq] at h2 ⊢
  unfold fitP at h1 h2
  have w1 : IntKind.i64.wrap (an * bd) = p := by rw [← hp]; exact IntWalk.i64_in _ (by omega)
  have w2 : IntKind.i64.wrap (bn * ad) = q := by rw [← hq]; exact IntWalk.i64_in _ (by omega)
  obtain ⟨Y, hY⟩ : ∃ Y, Y = (w.alloc (.cells #[.int .i64 an, .int .i64 ad] 37)).alloc (.cells #[.int .i64 bn, .int .i64 bd] 37) := ⟨_, rfl⟩
  rw [← hY] at hT
  have c0 := hT.a.c0
  have c1 := hT.a.c1
  have c2 := hT.b.c0
  have c3 := hT.b.c1
  simp only at c0 c1 c2 c3
  have hend := Lib.hid hT.below
  have hYY := Lib.hid hY
  rw [hY] at c0 c1 c2 c3
  replace hT := Lib.hid hT
  clear hY
  replace hp := Lib.hid hp
  replace hq := Lib.hid hq
  replace hd := Lib.hid hd
  go_enter Try.func74, Try.ntmps74
  go_wp2
  go_ret
  exact ⟨rfl, by rw [← hYY.out]; exact hend.out⟩

namespace M
theorem grt_succ (f : Nat → Rt) (k : Nat) : grt f (k + 1) = if bel (grt f k) (f k) then f k else grt f k := rfl
/-- Ratios whose cross products fit. -/
def crossR (f : Nat → Rt) (n : Nat) : Prop := ∀ i, i < n → (-100000000 ≤ (f i).n ∧ (f i).n ≤ 100000000) ∧ 1 ≤ (f i).d ∧ (f i).d ≤ 100000000
end M
theorem cross_fit {a b : Rt} (ha : (-100000000 ≤ a.n ∧ a.n ≤ 100000000) ∧ 1 ≤ a.d ∧ a.d ≤ 100000000) (hb : (-100000000 ≤ b.n ∧ b.n ≤ 100000000) ∧ 1 ≤ b.d ∧ b.d ≤ 100000000) : fitP (a.n * b.d) ∧ fitP (b.n * a.d) := by
  have p1 := prod_b (a := a.n) (b := b.d) (x := 100000000) (y := 100000000) (by omega) (by omega) (by omega)
  have p2 := prod_b (a := b.n) (b := a.d) (x := 100000000) (y := 100000000) (by omega) (by omega) (by omega)
  unfold fitP
  omega

/-- The boxes of the greatest: the answer's, and the best so far. -/
structure GtW (w : World) (n g : Nat) (f : Nat → Rt) (b : Rt) (X : World) : Prop where
  two : Two w ⟨0, 0⟩ b X
  blk : BlR X g n f
theorem GtW.up {w X Y : World} {n g : Nat} {f : Nat → Rt} {b : Rt} (h : GtW w n g f b X) (hb : Below X.heap.size X Y) : GtW w n g f b Y := ⟨h.two.up hb, h.blk.up hb⟩
theorem GtW.set {w X : World} {n g : Nat} {f : Nat → Rt} {b : Rt} (h : GtW w n g f b X) (hg : g < w.heap.size) (x : Rt) : GtW w n g f x ((X.setCell ⟨w.heap.size + 1, 0, none⟩ (.int .i64 x.n)).setCell ⟨w.heap.size + 1, 1, none⟩ (.int .i64 x.d)) :=
  ⟨h.two.setb x, h.blk.to (set2_far (by omega) _ _)⟩

set_option maxRecDepth 100000 in
set_option maxHeartbeats 4000000 in
theorem greatest_ref (g cp n : Nat) (f : Nat → Rt) (w : World) (hf : BlR w g n f) (hn : 1 ≤ n ∧ n ≤ 1000) (hc : crossR f n) (hs : ∀ k, k ≤ n → ∃ j, j < n ∧ grt f k = f j) :
    Calls Try.prog 68 #[.slice (some ⟨g, 0, none⟩) n cp] w fun r w' => r = .returned (rtV (grt f n)) ∧ Below w.heap.size w w' := by
  have hg := hf.lt
  have hW0 : GtW w n g f (grt f 0) ((w.alloc (.cells #[.int .i64 0, .int .i64 0] 37)).alloc (.cells #[.int .i64 (f 0).n, .int .i64 (f 0).d] 37)) := ⟨Two.new w ⟨0, 0⟩ (f 0), hf.up (Two.new w ⟨0, 0⟩ (f 0)).below⟩
  have hf1 := hf.up (ba1 w (.cells #[.int .i64 0, .int .i64 0] 37))
  have a0 := hf1.c0 (i := 0) (by omega)
  have a1 := hf1.c1 (i := 0) (by omega)
  simp only [Nat.zero_mul, Nat.zero_add] at a0 a1
  have kb := fun X k (hk : k < n) => Below_ref (grt f k) (f k) X (by
    obtain ⟨j, hj, e⟩ := hs k (by omega)
    rw [e]; exact (cross_fit (hc j hj) (hc k hk)).1) (by
    obtain ⟨j, hj, e⟩ := hs k (by omega)
    rw [e]; exact (cross_fit (hc j hj) (hc k hk)).2)
  have hgs := grt_succ f
  obtain ⟨Y, hY⟩ : ∃ Y, Y = (w.alloc (.cells #[.int .i64 0, .int .i64 0] 37)).alloc (.cells #[.int .i64 (f 0).n, .int .i64 (f 0).d] 37) := ⟨_, rfl⟩
  rw [← hY] at hW0
  obtain ⟨b1, hb1⟩ : ∃ b, b = w.heap.size + 1 := ⟨_, rfl⟩
  have hne : g ≠ b1 := by omega
  unfold rtV at *
  obtain ⟨R, hR⟩ : ∃ R, R = grt f n := ⟨_, rfl⟩
  rw [← hR]
  replace hR := Lib.hid hR
  replace hW0 := Lib.hid hW0
  replace hf := Lib.hid hf
  replace hf1 := Lib.hid hf1
  replace kb := Lib.hid kb
  replace hgs := Lib.hid hgs
  replace hs := Lib.hid hs
  replace hc := Lib.hid hc
  replace hY := Lib.hid hY
  replace hb1 := Lib.hid hb1
  obtain ⟨hn1, hn8⟩ := hn
  go_enter Try.func68, Try.ntmps68
  go_wp2
  rw [← hb1.out]
  go_loopw [4] (fun i wr => ∃ k : Nat, k ≤ n ∧ i = .int .i64 (k : Nat) ∧ GtW w n g f (grt f k) wr) (fun i _ => n - (intOf i).toNat)
  case atStart => exact ⟨0, by omega, rfl, by rw [← hY.out]; exact hW0.out⟩
  case round =>
    clear hW0
    obtain ⟨k, hkk, rfl, hW⟩ := hrel
    by_cases hkn : k < n
    · have hkn2 : (k : Int) < (n : Int) := by omega
      have kk := fun X => kb.out X k hkn
      have hgk := hgs.out k
      have hS : ∀ X, Below wr.heap.size wr X → X.cell? ⟨b1, 0, none⟩ = some (.int .i64 (grt f k).n) ∧ X.cell? ⟨b1, 1, none⟩ = some (.int .i64 (grt f k).d) ∧ X.cell? ⟨g, k * 2, none⟩ = some (.int .i64 (f k).n) ∧ X.cell? ⟨g, k * 2 + 1, none⟩ = some (.int .i64 (f k).d) := fun X hX => by
        have q := hW.up hX
        rw [hb1.out]
        exact ⟨q.two.b.c0, q.two.b.c1, q.blk.c0 hkn, q.blk.c1 hkn⟩
      have hup : ∀ X, Below wr.heap.size wr X → GtW w n g f (grt f k) X := fun X hX => hW.up hX
      have hset : ∀ X, Below wr.heap.size wr X → GtW w n g f (f k) ((X.setCell ⟨b1, 0, none⟩ (.int .i64 (f k).n)).setCell ⟨b1, 1, none⟩ (.int .i64 (f k).d)) := fun X hX => by
        rw [hb1.out]; exact (hW.up hX).set hg (f k)
      have hfz : ∀ X, Below wr.heap.size wr X → X.frozen? ⟨b1, 0, none⟩ = false ∧ X.frozen? ⟨b1, 1, none⟩ = false ∧ b1 < X.heap.size := fun X hX => by
        have q := hW.up hX
        rw [hb1.out]
        exact ⟨q.two.b.fz 0, q.two.b.fz 1, q.two.b.lt⟩
      by_cases hbl : bel (grt f k) (f k)
      · rw [decide_eq_true hbl] at kk
        rw [if_pos hbl] at hgk
        generalize grt f k = G at *
        generalize hq : f k = q at *
        replace kk := Lib.hid kk
        replace hgk := Lib.hid hgk
        replace hS := Lib.hid hS
        replace hup := Lib.hid hup
        replace hset := Lib.hid hset
        replace hfz := Lib.hid hfz
        replace hbl := Lib.hid hbl
        replace hW := Lib.hid hW
        replace hq := Lib.hid hq
        go_wp2
        go_region_held3 (fun X => X.cell? ⟨b1, 0, none⟩ = some (.int .i64 G.n) ∧ X.cell? ⟨b1, 1, none⟩ = some (.int .i64 G.d) ∧ X.cell? ⟨g, k * 2, none⟩ = some (.int .i64 q.n) ∧ X.cell? ⟨g, k * 2 + 1, none⟩ = some (.int .i64 q.d)) (first | with_reducible exact hS.out _ (by assumption) | exact hS.out _ (below_drewN (Below.refl _ _) 1)) ((go_at_call 74; refine (kk.out _).mono ?_; rintro e X4 ⟨rfl, hb4⟩; have hb5 : Below wr.heap.size wr X4 := (below_drewN (Below.refl wr.heap.size wr) 1).trans hb4))
        all_goals
          obtain ⟨s0, s1, s2, s3⟩ := hS.out X4 hb5
          obtain ⟨z0, z1, z2⟩ := hfz.out X4 hb5
          have hf5 := Lib.hid (hset.out X4 hb5)
          replace hb5 := Lib.hid hb5
          replace hb4 := Lib.hid hb4
          go_wp2
          go_roundw
          case rel => exact ⟨k + 1, by omega, by go_num, by rw [hgk.out]; exact hf5.out⟩
          case measure => simp [intOf]; omega
      · rw [decide_eq_false hbl] at kk
        rw [if_neg hbl] at hgk
        generalize grt f k = G at *
        generalize hq : f k = q at *
        replace kk := Lib.hid kk
        replace hgk := Lib.hid hgk
        replace hS := Lib.hid hS
        replace hup := Lib.hid hup
        replace hset := Lib.hid hset
        replace hfz := Lib.hid hfz
        replace hbl := Lib.hid hbl
        replace hW := Lib.hid hW
        replace hq := Lib.hid hq
        go_wp2
        go_region_held3 (fun X => X.cell? ⟨b1, 0, none⟩ = some (.int .i64 G.n) ∧ X.cell? ⟨b1, 1, none⟩ = some (.int .i64 G.d) ∧ X.cell? ⟨g, k * 2, none⟩ = some (.int .i64 q.n) ∧ X.cell? ⟨g, k * 2 + 1, none⟩ = some (.int .i64 q.d)) (first | with_reducible exact hS.out _ (by assumption) | exact hS.out _ (below_drewN (Below.refl _ _) 1)) ((go_at_call 74; refine (kk.out _).mono ?_; rintro e X4 ⟨rfl, hb4⟩; have hb5 : Below wr.heap.size wr X4 := (below_drewN (Below.refl wr.heap.size wr) 1).trans hb4))
        all_goals
          have hf5 := Lib.hid (hup.out X4 hb5)
          replace hb5 := Lib.hid hb5
          replace hb4 := Lib.hid hb4
          go_wp2
          go_roundw
          case rel => exact ⟨k + 1, by omega, by go_num, by rw [hgk.out]; exact hf5.out⟩
          case measure => simp [intOf]; omega
    · have : k = n := by omega
      subst this
      rw [← hR.out] at hW
      have c0 := hW.two.b.c0
      have c1 := hW.two.b.c1
      rw [← hb1.out] at c0 c1
      have r0 := hW.two.a.c0
      have r1 := hW.two.a.c1
      have f0 := hW.two.a.fz 0
      have f1 := hW.two.a.fz 1
      have rl := hW.two.a.lt
      have y := hW.two.seta R
      have y0 := y.a.c0
      have y1 := y.a.c1
      have hend := Lib.hid y.below
      replace y := Lib.hid y
      replace hW := Lib.hid hW
      go_wp2
      exact bodyPost_ret (v := .agg #[.int .i64 R.n, .int .i64 R.d]) (by simp [results, Try.results68, go_sem, y0, y1]) rfl ⟨rfl, hend.out⟩

namespace M
/-- The greatest equal award, and the greatest equal loss. -/
def leR (l : List Int) (e : Int) : Rt := if okE l e then levR (lvl l e) (mx l) else ⟨0, 0⟩
def loR (l : List Int) (e : Int) : Rt := if okE l e then levR (lvl l (sm l - e)) (mx l) else ⟨0, 0⟩
theorem cross_eq {l : List Int} {e : Int} (h : okE l e) : crossR (eqL l e) l.length := fun i hi => by
  have := eqL_b h.1 h.2 hi
  omega
theorem grt_ex {l : List Int} {e : Int} (h : okE l e) : ∀ k, k ≤ l.length → ∃ j, j < l.length ∧ grt (eqL l e) k = eqL l e j := fun k hk =>
  (grt_spec (eqL l e) l.length h.1.1.1 (fun i hi => (eqL_b h.1 h.2 hi).2.1) k hk).1
end M

set_option maxRecDepth 100000 in
set_option maxHeartbeats 2000000 in
theorem Level_any (B : Nat) (A : Option Addr) (c : Nat) (l : List Int) (e : Int) (w : World) (h : Row w B A l) (hB : B ≤ w.heap.size) :
    Calls Try.prog 30 #[.slice A l.length c, .int .i64 e] w fun r w' => r = .returned (.tuple #[rtV (leR l e), .int .i64 (errC l e)]) ∧ Below w.heap.size w w' := by
  by_cases hk : okE l e
  · unfold leR
    rw [if_pos hk, errC_ok hk]
    have hn := val_len hk.1
    have hsm := sm_b hk.1
    have he := hk.2
    have hr0 := Bxr.new w 0 0
    have hb0 := ba1 w (.cells #[.int .i64 0, .int .i64 0] 37)
    have hrow := fun X (hX : Below w.heap.size w X) => h.below (hX.mono hB)
    have hBB := fun X (hX : Below w.heap.size w X) => Nat.le_trans hB hX.size
    obtain ⟨Y, hY⟩ : ∃ Y, Y = w.alloc (.cells #[.int .i64 0, .int .i64 0] 37) := ⟨_, rfl⟩
    rw [← hY] at hr0 hb0
    have k1 := checked_ok B A c l e Y (hrow Y hb0) hk
    have k3 := level_any B A c l e Y (hrow Y hb0) (hBB Y hb0) hk.1 (by omega)
    generalize levR (lvl l e) (mx l) = L at *
    generalize sm l = S at *
    generalize l.length = n at *
    unfold rtV at *
    replace k1 := Lib.hid k1
    replace k3 := Lib.hid k3
    replace h := Lib.hid h
    replace hk := Lib.hid hk
    replace hrow := Lib.hid hrow
    replace hBB := Lib.hid hBB
    replace hY := Lib.hid hY
    replace hr0 := Lib.hid hr0
    replace hb0 := Lib.hid hb0
    go_enter Try.func30, Try.ntmps30
    go_wp2_with fail
    rw [← hY.out]
    refine k1.out.mono ?_
    rintro _ X ⟨rfl, rfl⟩
    go_wp2_with fail
    refine k3.out.mono ?_
    rintro _ X2 ⟨rfl, hb2⟩
    have hr2 := hr0.out.up hb2
    have z2 := bel_trans hb0.out hb2
    have r0 := hr2.c0
    have r1 := hr2.c1
    have f0 := hr2.fz 0
    have f1 := hr2.fz 1
    have rl := hr2.lt
    have y := hr2.set L.n L.d
    have y0 := y.c0
    have y1 := y.c1
    have hend := Lib.hid (set2_below z2 (Nat.le_refl _) (.int .i64 L.n) (.int .i64 L.d))
    replace y := Lib.hid y
    replace hr2 := Lib.hid hr2
    replace hb2 := Lib.hid hb2
    replace z2 := Lib.hid z2
    go_wp2
    exact bodyPost_ret (v := .tuple #[.agg #[.int .i64 L.n, .int .i64 L.d], .int .i64 0]) (by simp [results, Try.results30, go_sem, y0, y1]) rfl ⟨rfl, hend.out⟩
  · unfold leR
    rw [if_neg hk]
    have hne := errC_ne hk
    have k1 := checked_bad B A c l e (w.alloc (.cells #[.int .i64 0, .int .i64 0] 37)) (h.below ((ba1 w _).mono hB)) hk
    have hr0 := Bxr.new w 0 0
    have hb0 := ba1 w (.cells #[.int .i64 0, .int .i64 0] 37)
    obtain ⟨Y, hY⟩ : ∃ Y, Y = w.alloc (.cells #[.int .i64 0, .int .i64 0] 37) := ⟨_, rfl⟩
    rw [← hY] at hr0 hb0 k1
    generalize l.length = n at *
    generalize errC l e = E at *
    have hn : (E != 0) = true := by simp; omega
    have r0 := hr0.c0
    have r1 := hr0.c1
    have f0 := hr0.fz 0
    have f1 := hr0.fz 1
    have rl := hr0.lt
    have y := hr0.set 0 0
    have y0 := y.c0
    have y1 := y.c1
    have hend := Lib.hid (set2_below hb0 (Nat.le_refl _) (.int .i64 0) (.int .i64 0))
    unfold rtV
    simp only
    replace k1 := Lib.hid k1
    replace h := Lib.hid h
    replace hk := Lib.hid hk
    replace hne := Lib.hid hne
    replace hY := Lib.hid hY
    replace hr0 := Lib.hid hr0
    replace hb0 := Lib.hid hb0
    replace y := Lib.hid y
    go_enter Try.func30, Try.ntmps30
    go_wp2_with fail
    rw [← hY.out]
    refine k1.out.mono ?_
    rintro _ X ⟨rfl, rfl⟩
    go_wp2
    exact bodyPost_ret (v := .tuple #[.agg #[.int .i64 0, .int .i64 0], .int .i64 E]) (by simp [results, Try.results30, go_sem, y0, y1]) rfl ⟨rfl, hend.out⟩

set_option maxRecDepth 100000 in
set_option maxHeartbeats 2000000 in
theorem Level_ref (B : Nat) (A : Option Addr) (c : Nat) (l : List Int) (e : Int) (w : World) (h : Row w B A l) (hB : B ≤ w.heap.size) :
    Calls Try.prog 31 #[.slice A l.length c, .int .i64 e] w fun r w' => r = .returned (.tuple #[rtV (leR l e), .int .i64 (errC l e)]) ∧ Below w.heap.size w w' := by
  by_cases hk : okE l e
  · unfold leR
    rw [if_pos hk, errC_ok hk]
    have hn := val_len hk.1
    have hsm := sm_b hk.1
    have he := hk.2
    have hr0 := Bxr.new w 0 0
    have hb0 := ba1 w (.cells #[.int .i64 0, .int .i64 0] 37)
    have hrow := fun X (hX : Below w.heap.size w X) => h.below (hX.mono hB)
    have hBB := fun X (hX : Below w.heap.size w X) => Nat.le_trans hB hX.size
    obtain ⟨Y, hY⟩ : ∃ Y, Y = w.alloc (.cells #[.int .i64 0, .int .i64 0] 37) := ⟨_, rfl⟩
    rw [← hY] at hr0 hb0
    have k1 := asked_any B A c l e Y (hrow Y hb0)
    rw [errC_ok hk] at k1
    have k3 := equal_ref B A c l e Y (hrow Y hb0) (hBB Y hb0) hk
    have k4 := fun X g (hX : AwW Y l.length g (eqL l e) X) => greatest_ref g l.length l.length (eqL l e) X hX.blk (by omega) (cross_eq hk) (grt_ex hk)
    rw [grt_lev hk.1 hk.2] at k4
    generalize eqL l e = f at *
    generalize levR (lvl l e) (mx l) = L at *
    generalize sm l = S at *
    generalize l.length = n at *
    unfold rtV at *
    replace k1 := Lib.hid k1
    replace k3 := Lib.hid k3
    replace k4 := Lib.hid k4
    replace h := Lib.hid h
    replace hk := Lib.hid hk
    replace hrow := Lib.hid hrow
    replace hBB := Lib.hid hBB
    replace hY := Lib.hid hY
    replace hr0 := Lib.hid hr0
    replace hb0 := Lib.hid hb0
    go_enter Try.func31, Try.ntmps31
    go_wp2_with fail
    rw [← hY.out]
    refine k1.out.mono ?_
    rintro _ X ⟨rfl, rfl⟩
    go_wp2_with fail
    refine k3.out.mono ?_
    rintro _ X1 ⟨g, rfl, hW⟩
    have k5 := Lib.hid (k4.out X1 g hW)
    replace hW := Lib.hid hW
    go_wp2_with fail
    refine k5.out.mono ?_
    rintro _ X2 ⟨rfl, hb1⟩
    have hb2 := bel_trans hW.out.below hb1
    have hr2 := hr0.out.up hb2
    have z2 := bel_trans hb0.out hb2
    replace hb1 := Lib.hid hb1
    have r0 := hr2.c0
    have r1 := hr2.c1
    have f0 := hr2.fz 0
    have f1 := hr2.fz 1
    have rl := hr2.lt
    have y := hr2.set L.n L.d
    have y0 := y.c0
    have y1 := y.c1
    have hend := Lib.hid (set2_below z2 (Nat.le_refl _) (.int .i64 L.n) (.int .i64 L.d))
    replace y := Lib.hid y
    replace hr2 := Lib.hid hr2
    replace hb2 := Lib.hid hb2
    replace z2 := Lib.hid z2
    go_wp2
    exact bodyPost_ret (v := .tuple #[.agg #[.int .i64 L.n, .int .i64 L.d], .int .i64 0]) (by simp [results, Try.results31, go_sem, y0, y1]) rfl ⟨rfl, hend.out⟩
  · unfold leR
    rw [if_neg hk]
    have hne := errC_ne hk
    have k1 := asked_any B A c l e (w.alloc (.cells #[.int .i64 0, .int .i64 0] 37)) (h.below ((ba1 w _).mono hB))
    have hr0 := Bxr.new w 0 0
    have hb0 := ba1 w (.cells #[.int .i64 0, .int .i64 0] 37)
    obtain ⟨Y, hY⟩ : ∃ Y, Y = w.alloc (.cells #[.int .i64 0, .int .i64 0] 37) := ⟨_, rfl⟩
    rw [← hY] at hr0 hb0 k1
    generalize l.length = n at *
    generalize errC l e = E at *
    have hn : (E != 0) = true := by simp; omega
    have r0 := hr0.c0
    have r1 := hr0.c1
    have f0 := hr0.fz 0
    have f1 := hr0.fz 1
    have rl := hr0.lt
    have y := hr0.set 0 0
    have y0 := y.c0
    have y1 := y.c1
    have hend := Lib.hid (set2_below hb0 (Nat.le_refl _) (.int .i64 0) (.int .i64 0))
    unfold rtV
    simp only
    replace k1 := Lib.hid k1
    replace h := Lib.hid h
    replace hk := Lib.hid hk
    replace hne := Lib.hid hne
    replace hY := Lib.hid hY
    replace hr0 := Lib.hid hr0
    replace hb0 := Lib.hid hb0
    replace y := Lib.hid y
    go_enter Try.func31, Try.ntmps31
    go_wp2_with fail
    rw [← hY.out]
    refine k1.out.mono ?_
    rintro _ X ⟨rfl, rfl⟩
    go_wp2
    exact bodyPost_ret (v := .tuple #[.agg #[.int .i64 0, .int .i64 0], .int .i64 E]) (by simp [results, Try.results31, go_sem, y0, y1]) rfl ⟨rfl, hend.out⟩

set_option maxRecDepth 100000 in
set_option maxHeartbeats 2000000 in
theorem Loss_any (B : Nat) (A : Option Addr) (c : Nat) (l : List Int) (e : Int) (w : World) (h : Row w B A l) (hB : B ≤ w.heap.size) :
    Calls Try.prog 32 #[.slice A l.length c, .int .i64 e] w fun r w' => r = .returned (.tuple #[rtV (loR l e), .int .i64 (errC l e)]) ∧ Below w.heap.size w w' := by
  by_cases hk : okE l e
  · unfold loR
    rw [if_pos hk, errC_ok hk]
    have hn := val_len hk.1
    have hsm := sm_b hk.1
    have he := hk.2
    have hr0 := Bxr.new w 0 0
    have hb0 := ba1 w (.cells #[.int .i64 0, .int .i64 0] 37)
    have hrow := fun X (hX : Below w.heap.size w X) => h.below (hX.mono hB)
    have hBB := fun X (hX : Below w.heap.size w X) => Nat.le_trans hB hX.size
    obtain ⟨Y, hY⟩ : ∃ Y, Y = w.alloc (.cells #[.int .i64 0, .int .i64 0] 37) := ⟨_, rfl⟩
    rw [← hY] at hr0 hb0
    have k1 := checked_ok B A c l e Y (hrow Y hb0) hk
    have k2 := missing_any B A c l e Y (hrow Y hb0) hk
    have k3 := level_any B A c l (sm l - e) Y (hrow Y hb0) (hBB Y hb0) hk.1 (by omega)
    generalize levR (lvl l (sm l - e)) (mx l) = L at *
    obtain ⟨m, hm⟩ : ∃ m, m = sm l - e := ⟨_, rfl⟩
    rw [← hm] at k2 k3
    replace hm := Lib.hid hm.symm
    generalize sm l = S at *
    generalize l.length = n at *
    unfold rtV at *
    replace k1 := Lib.hid k1
    replace k3 := Lib.hid k3
    replace k2 := Lib.hid k2
    replace he := Lib.hid he
    replace hsm := Lib.hid hsm
    replace h := Lib.hid h
    replace hk := Lib.hid hk
    replace hrow := Lib.hid hrow
    replace hBB := Lib.hid hBB
    replace hY := Lib.hid hY
    replace hr0 := Lib.hid hr0
    replace hb0 := Lib.hid hb0
    go_enter Try.func32, Try.ntmps32
    go_wp2_with fail
    rw [← hY.out]
    refine k1.out.mono ?_
    rintro _ X ⟨rfl, rfl⟩
    go_wp2_with fail
    refine k2.out.mono ?_
    rintro _ X ⟨rfl, rfl⟩
    go_wp2_with fail
    refine k3.out.mono ?_
    rintro _ X2 ⟨rfl, hb2⟩
    have hr2 := hr0.out.up hb2
    have z2 := bel_trans hb0.out hb2
    have r0 := hr2.c0
    have r1 := hr2.c1
    have f0 := hr2.fz 0
    have f1 := hr2.fz 1
    have rl := hr2.lt
    have y := hr2.set L.n L.d
    have y0 := y.c0
    have y1 := y.c1
    have hend := Lib.hid (set2_below z2 (Nat.le_refl _) (.int .i64 L.n) (.int .i64 L.d))
    replace y := Lib.hid y
    replace hr2 := Lib.hid hr2
    replace hb2 := Lib.hid hb2
    replace z2 := Lib.hid z2
    go_wp2
    exact bodyPost_ret (v := .tuple #[.agg #[.int .i64 L.n, .int .i64 L.d], .int .i64 0]) (by simp [results, Try.results32, go_sem, y0, y1]) rfl ⟨rfl, hend.out⟩
  · unfold loR
    rw [if_neg hk]
    have hne := errC_ne hk
    have k1 := checked_bad B A c l e (w.alloc (.cells #[.int .i64 0, .int .i64 0] 37)) (h.below ((ba1 w _).mono hB)) hk
    have hr0 := Bxr.new w 0 0
    have hb0 := ba1 w (.cells #[.int .i64 0, .int .i64 0] 37)
    obtain ⟨Y, hY⟩ : ∃ Y, Y = w.alloc (.cells #[.int .i64 0, .int .i64 0] 37) := ⟨_, rfl⟩
    rw [← hY] at hr0 hb0 k1
    generalize l.length = n at *
    generalize errC l e = E at *
    have hn : (E != 0) = true := by simp; omega
    have r0 := hr0.c0
    have r1 := hr0.c1
    have f0 := hr0.fz 0
    have f1 := hr0.fz 1
    have rl := hr0.lt
    have y := hr0.set 0 0
    have y0 := y.c0
    have y1 := y.c1
    have hend := Lib.hid (set2_below hb0 (Nat.le_refl _) (.int .i64 0) (.int .i64 0))
    unfold rtV
    simp only
    replace k1 := Lib.hid k1
    replace h := Lib.hid h
    replace hk := Lib.hid hk
    replace hne := Lib.hid hne
    replace hY := Lib.hid hY
    replace hr0 := Lib.hid hr0
    replace hb0 := Lib.hid hb0
    replace y := Lib.hid y
    go_enter Try.func32, Try.ntmps32
    go_wp2_with fail
    rw [← hY.out]
    refine k1.out.mono ?_
    rintro _ X ⟨rfl, rfl⟩
    go_wp2
    exact bodyPost_ret (v := .tuple #[.agg #[.int .i64 0, .int .i64 0], .int .i64 E]) (by simp [results, Try.results32, go_sem, y0, y1]) rfl ⟨rfl, hend.out⟩

set_option maxRecDepth 100000 in
set_option maxHeartbeats 2000000 in
theorem Loss_ref (B : Nat) (A : Option Addr) (c : Nat) (l : List Int) (e : Int) (w : World) (h : Row w B A l) (hB : B ≤ w.heap.size) :
    Calls Try.prog 33 #[.slice A l.length c, .int .i64 e] w fun r w' => r = .returned (.tuple #[rtV (loR l e), .int .i64 (errC l e)]) ∧ Below w.heap.size w w' := by
  by_cases hk : okE l e
  · unfold loR
    rw [if_pos hk, errC_ok hk]
    have hn := val_len hk.1
    have hsm := sm_b hk.1
    have he := hk.2
    have hr0 := Bxr.new w 0 0
    have hb0 := ba1 w (.cells #[.int .i64 0, .int .i64 0] 37)
    have hrow := fun X (hX : Below w.heap.size w X) => h.below (hX.mono hB)
    have hBB := fun X (hX : Below w.heap.size w X) => Nat.le_trans hB hX.size
    obtain ⟨Y, hY⟩ : ∃ Y, Y = w.alloc (.cells #[.int .i64 0, .int .i64 0] 37) := ⟨_, rfl⟩
    rw [← hY] at hr0 hb0
    have k1 := asked_any B A c l e Y (hrow Y hb0)
    rw [errC_ok hk] at k1
    have k2 := Total_ref B A c l Y (hrow Y hb0) hk.1.2 (by omega)
    have k3 := equal_ref B A c l (sm l - e) Y (hrow Y hb0) (hBB Y hb0) (okE_mis hk)
    have k4 := fun X g (hX : AwW Y l.length g (eqL l (sm l - e)) X) => greatest_ref g l.length l.length (eqL l (sm l - e)) X hX.blk (by omega) (cross_eq (okE_mis hk)) (grt_ex (okE_mis hk))
    rw [grt_lev (okE_mis hk).1 (okE_mis hk).2] at k4
    generalize eqL l (sm l - e) = f at *
    generalize levR (lvl l (sm l - e)) (mx l) = L at *
    obtain ⟨m, hm⟩ : ∃ m, m = sm l - e := ⟨_, rfl⟩
    rw [← hm] at k3
    have w1 : IntKind.i64.wrap (sm l - e) = m := by rw [← hm]; exact IntWalk.i64_in _ (by omega)
    replace hm := Lib.hid hm.symm
    generalize sm l = S at *
    generalize l.length = n at *
    unfold rtV at *
    replace k1 := Lib.hid k1
    replace k3 := Lib.hid k3
    replace k2 := Lib.hid k2
    replace he := Lib.hid he
    replace hsm := Lib.hid hsm
    replace k4 := Lib.hid k4
    replace h := Lib.hid h
    replace hk := Lib.hid hk
    replace hrow := Lib.hid hrow
    replace hBB := Lib.hid hBB
    replace hY := Lib.hid hY
    replace hr0 := Lib.hid hr0
    replace hb0 := Lib.hid hb0
    go_enter Try.func33, Try.ntmps33
    go_wp2_with fail
    rw [← hY.out]
    refine k1.out.mono ?_
    rintro _ X ⟨rfl, rfl⟩
    go_wp2_with fail
    refine k2.out.mono ?_
    rintro _ X ⟨rfl, rfl⟩
    go_wp2_with fail
    try rw [hm.out]
    refine k3.out.mono ?_
    rintro _ X1 ⟨g, rfl, hW⟩
    have k5 := Lib.hid (k4.out X1 g hW)
    replace hW := Lib.hid hW
    go_wp2_with fail
    refine k5.out.mono ?_
    rintro _ X2 ⟨rfl, hb1⟩
    have hb2 := bel_trans hW.out.below hb1
    have hr2 := hr0.out.up hb2
    have z2 := bel_trans hb0.out hb2
    replace hb1 := Lib.hid hb1
    have r0 := hr2.c0
    have r1 := hr2.c1
    have f0 := hr2.fz 0
    have f1 := hr2.fz 1
    have rl := hr2.lt
    have y := hr2.set L.n L.d
    have y0 := y.c0
    have y1 := y.c1
    have hend := Lib.hid (set2_below z2 (Nat.le_refl _) (.int .i64 L.n) (.int .i64 L.d))
    replace y := Lib.hid y
    replace hr2 := Lib.hid hr2
    replace hb2 := Lib.hid hb2
    replace z2 := Lib.hid z2
    go_wp2
    exact bodyPost_ret (v := .tuple #[.agg #[.int .i64 L.n, .int .i64 L.d], .int .i64 0]) (by simp [results, Try.results33, go_sem, y0, y1]) rfl ⟨rfl, hend.out⟩
  · unfold loR
    rw [if_neg hk]
    have hne := errC_ne hk
    have k1 := asked_any B A c l e (w.alloc (.cells #[.int .i64 0, .int .i64 0] 37)) (h.below ((ba1 w _).mono hB))
    have hr0 := Bxr.new w 0 0
    have hb0 := ba1 w (.cells #[.int .i64 0, .int .i64 0] 37)
    obtain ⟨Y, hY⟩ : ∃ Y, Y = w.alloc (.cells #[.int .i64 0, .int .i64 0] 37) := ⟨_, rfl⟩
    rw [← hY] at hr0 hb0 k1
    generalize l.length = n at *
    generalize errC l e = E at *
    have hn : (E != 0) = true := by simp; omega
    have r0 := hr0.c0
    have r1 := hr0.c1
    have f0 := hr0.fz 0
    have f1 := hr0.fz 1
    have rl := hr0.lt
    have y := hr0.set 0 0
    have y0 := y.c0
    have y1 := y.c1
    have hend := Lib.hid (set2_below hb0 (Nat.le_refl _) (.int .i64 0) (.int .i64 0))
    unfold rtV
    simp only
    replace k1 := Lib.hid k1
    replace h := Lib.hid h
    replace hk := Lib.hid hk
    replace hne := Lib.hid hne
    replace hY := Lib.hid hY
    replace hr0 := Lib.hid hr0
    replace hb0 := Lib.hid hb0
    replace y := Lib.hid y
    go_enter Try.func33, Try.ntmps33
    go_wp2_with fail
    rw [← hY.out]
    refine k1.out.mono ?_
    rintro _ X ⟨rfl, rfl⟩
    go_wp2
    exact bodyPost_ret (v := .tuple #[.agg #[.int .i64 0, .int .i64 0], .int .i64 E]) (by simp [results, Try.results33, go_sem, y0, y1]) rfl ⟨rfl, hend.out⟩
end Go.Proofs.Ythleekdkbgnabaa
