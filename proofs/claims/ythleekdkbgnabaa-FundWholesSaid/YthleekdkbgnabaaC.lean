/-
  One garment: the program's function and the specification's; the law's sanity.
-/
import Derived.Test.YthleekdkbgnabaaB
namespace Go.Proofs.Ythleekdkbgnabaa
open Go.RowKit Go.Deep M
set_option linter.unusedVariables false
set_option linter.unusedSimpArgs false

namespace M
def gaOk (a b e : Int) : Prop := okC a ∧ okC b ∧ 0 ≤ e ∧ e ≤ a + b
instance (a b e : Int) : Decidable (gaOk a b e) := by unfold gaOk; infer_instance
def gaX (a b e : Int) : Rt := if gaOk a b e then mk (tgR a b e) 2 else ⟨0, 0⟩
def gaY (a b e : Int) : Rt := if gaOk a b e then mk (tgR b a e) 2 else ⟨0, 0⟩
def gaE (a b e : Int) : Int := if gaOk a b e then 0 else 2
theorem tgR_b {a b e : Int} (h : gaOk a b e) : -10000 ≤ tgR a b e ∧ tgR a b e ≤ 10000 := by
  obtain ⟨h1, h2, h3, h4⟩ := h
  unfold okC at h1 h2
  unfold tgR
  omega
theorem gaOk_comm {a b e : Int} (h : gaOk a b e) : gaOk b a e := by
  obtain ⟨h1, h2, h3, h4⟩ := h
  exact ⟨h2, h1, h3, by omega⟩
end M
/-- Two boxes of ratios, new. -/
structure Two (w : World) (x y : Rt) (X : World) : Prop where
  below : Below w.heap.size w X
  a : Bxr X w.heap.size x.n x.d
  b : Bxr X (w.heap.size + 1) y.n y.d
theorem Two.new (w : World) (x y : Rt) : Two w x y ((w.alloc (.cells #[.int .i64 x.n, .int .i64 x.d] 37)).alloc (.cells #[.int .i64 y.n, .int .i64 y.d] 37)) := by
  have h1 := Bxr.new w x.n x.d
  have h2 := Bxr.new (w.alloc (.cells #[.int .i64 x.n, .int .i64 x.d] 37)) y.n y.d
  rw [show (w.alloc (.cells #[.int .i64 x.n, .int .i64 x.d] 37)).heap.size = w.heap.size + 1 by simp] at h2
  exact ⟨bel_trans (ba1 _ _) (ba1 _ _), h1.up (ba1 _ _), h2⟩
theorem Two.up {w X Y : World} {x y : Rt} (h : Two w x y X) (hb : Below X.heap.size X Y) : Two w x y Y := ⟨bel_trans h.below hb, h.a.up hb, h.b.up hb⟩
theorem Two.seta {w X : World} {x y : Rt} (h : Two w x y X) (z : Rt) : Two w z y ((X.setCell ⟨w.heap.size, 0, none⟩ (.int .i64 z.n)).setCell ⟨w.heap.size, 1, none⟩ (.int .i64 z.d)) :=
  ⟨set2_below h.below (Nat.le_refl _) _ _, h.a.set _ _, h.b.to (set2_far (by omega) _ _)⟩
theorem Two.setb {w X : World} {x y : Rt} (h : Two w x y X) (z : Rt) : Two w x z ((X.setCell ⟨w.heap.size + 1, 0, none⟩ (.int .i64 z.n)).setCell ⟨w.heap.size + 1, 1, none⟩ (.int .i64 z.d)) :=
  ⟨set2_below h.below (Nat.le_succ _) _ _, h.a.to (set2_far (by omega) _ _), h.b.set _ _⟩

set_option maxRecDepth 100000 in
set_option maxHeartbeats 4000000 in
theorem Garment_any (a b e : Int) (w : World) : Calls Try.prog 34 #[.int .i64 a, .int .i64 b, .int .i64 e] w fun r w' => r = .returned (.tuple #[rtV (gaX a b e), rtV (gaY a b e), .int .i64 (gaE a b e)]) ∧ Below w.heap.size w w' := by
  have kb := fun x => Lib.hid (fun X => bad_any x X)
  have hT := Two.new w ⟨0, 0⟩ ⟨0, 0⟩
  simp only at hT
  unfold gaX gaY gaE
  by_cases hok : gaOk a b e
  · rw [if_pos hok, if_pos hok, if_pos hok]
    have hok' := gaOk_comm hok
    have b1 := tgR_b hok
    have b2 := tgR_b hok'
    obtain ⟨oa, ob, oe, os⟩ := hok
    have da : (!decide (okC a)) = false := by simp [oa]
    have db : (!decide (okC b)) = false := by simp [ob]
    have ka := (kb a).out
    have kbb := (kb b).out
    rw [da] at ka
    rw [db] at kbb
    unfold okC at oa ob
    have k1 := fun X => twice_any a b e X (by omega) (by omega) (by omega)
    have k2 := fun X => twice_any b a e X (by omega) (by omega) (by omega)
    have k3 := fun X => ratio_any (tgR a b e) 2 X (by omega) (by omega)
    have k4 := fun X => ratio_any (tgR b a e) 2 X (by omega) (by omega)
    generalize tgR a b e = p at *
    generalize tgR b a e = q at *
    unfold rtV at *
    generalize mk p 2 = P at *
    generalize mk q 2 = Q at *
    have e1 : ¬ (e < 0) := by omega
    have e2 : ¬ (a + b < e) := by omega
    have w1 : IntKind.i64.wrap (a + b) = a + b := IntWalk.i64_in _ (by omega)
    obtain ⟨Y, hY⟩ : ∃ Y, Y = (w.alloc (.cells #[.int .i64 0, .int .i64 0] 37)).alloc (.cells #[.int .i64 0, .int .i64 0] 37) := ⟨_, rfl⟩
    rw [← hY] at hT
    replace ka := Lib.hid ka
    replace kbb := Lib.hid kbb
    replace k1 := Lib.hid k1
    replace k2 := Lib.hid k2
    replace k3 := Lib.hid k3
    replace k4 := Lib.hid k4
    replace hT := Lib.hid hT
    replace hY := Lib.hid hY
    replace b1 := Lib.hid b1
    replace b2 := Lib.hid b2
    replace hok' := Lib.hid hok'
    clear kb
    go_enter Try.func34, Try.ntmps34
    go_wp2_with fail
    rw [← hY.out]
    refine (ka.out _).mono ?_
    rintro _ X ⟨rfl, rfl⟩
    go_wp2_with fail
    refine (kbb.out _).mono ?_
    rintro _ X ⟨rfl, rfl⟩
    go_wp2_with fail
    refine (k1.out _).mono ?_
    rintro _ X ⟨rfl, rfl⟩
    go_wp2_with fail
    refine (k3.out _).mono ?_
    rintro _ X1 ⟨rfl, hb1⟩
    have hT1 := hT.out.up hb1
    go_wp2_with fail
    refine (k2.out _).mono ?_
    rintro _ X ⟨rfl, rfl⟩
    go_wp2_with fail
    refine (k4.out _).mono ?_
    rintro _ X2 ⟨rfl, hb2⟩
    have hT2 := hT1.up hb2
    have c0 := hT2.a.c0
    have c1 := hT2.a.c1
    have f0 := hT2.a.fz 0
    have f1 := hT2.a.fz 1
    have hT3 := hT2.seta P
    have d0 := hT3.b.c0
    have d1 := hT3.b.c1
    have g0 := hT3.b.fz 0
    have g1 := hT3.b.fz 1
    have l0 := hT2.a.lt
    have l1 := hT2.b.lt
    have l2 := hT3.b.lt
    have hT4 := hT3.setb Q
    have a0 := hT4.a.c0
    have a1 := hT4.a.c1
    have a2 := hT4.b.c0
    have a3 := hT4.b.c1
    replace hT1 := Lib.hid hT1
    replace hT2 := Lib.hid hT2
    replace hT3 := Lib.hid hT3
    replace hT4 := Lib.hid hT4
    replace hb1 := Lib.hid hb1
    replace hb2 := Lib.hid hb2
    go_wp2
    exact bodyPost_ret (v := .tuple #[.agg #[.int .i64 P.n, .int .i64 P.d], .agg #[.int .i64 Q.n, .int .i64 Q.d], .int .i64 0]) (by simp [results, Try.results34, go_sem, a0, a1, a2, a3]) rfl ⟨rfl, hT4.out.below⟩
  · rw [if_neg hok, if_neg hok, if_neg hok]
    obtain ⟨Y, hY⟩ : ∃ Y, Y = (w.alloc (.cells #[.int .i64 0, .int .i64 0] 37)).alloc (.cells #[.int .i64 0, .int .i64 0] 37) := ⟨_, rfl⟩
    rw [← hY] at hT
    have c0 := hT.a.c0
    have c1 := hT.a.c1
    have f0 := hT.a.fz 0
    have f1 := hT.a.fz 1
    have d0 := hT.b.c0
    have d1 := hT.b.c1
    have g0 := hT.b.fz 0
    have g1 := hT.b.fz 1
    have l0 := hT.a.lt
    have l1 := hT.b.lt
    have hT2 := Lib.hid (set2_below (set2_below hT.below (Nat.le_refl _) (.int .i64 0) (.int .i64 0)) (Nat.le_succ _) (.int .i64 0) (.int .i64 0))
    have ka := Lib.hid (kb a).out
    have kbb := Lib.hid (kb b).out
    replace hT := Lib.hid hT
    replace hY := Lib.hid hY
    unfold rtV
    clear kb
    simp only
    by_cases oa : okC a
    · have da : (!decide (okC a)) = false := by simp [oa]
      rw [da] at ka
      by_cases ob : okC b
      · have db : (!decide (okC b)) = false := by simp [ob]
        rw [db] at kbb
        have oa' := oa
        have ob' := ob
        unfold okC at oa' ob'
        have w1 : IntKind.i64.wrap (a + b) = a + b := IntWalk.i64_in _ (by omega)
        have hc : e < 0 ∨ ¬ e < 0 ∧ a + b < e := by
          rcases Int.lt_or_le e 0 with h | h
          · exact .inl h
          · refine .inr ⟨by omega, ?_⟩
            rcases Int.lt_or_le (a + b) e with h2 | h2
            · exact h2
            · exact absurd ⟨oa, ob, h, h2⟩ hok
        replace hok := Lib.hid hok
        replace oa := Lib.hid oa
        replace ob := Lib.hid ob
        rcases hc with hc | ⟨hc, hc2⟩
        · replace oa' := Lib.hid oa'
          replace ob' := Lib.hid ob'
          go_enter Try.func34, Try.ntmps34
          go_wp2_with fail
          rw [← hY.out]
          refine (ka.out _).mono ?_
          rintro _ X ⟨rfl, rfl⟩
          go_wp2_with fail
          refine (kbb.out _).mono ?_
          rintro _ X ⟨rfl, rfl⟩
          go_wp2
          exact bodyPost_ret (v := .tuple #[.agg #[.int .i64 0, .int .i64 0], .agg #[.int .i64 0, .int .i64 0], .int .i64 2]) (by simp [results, Try.results34, go_sem, c0, c1, d0, d1]) rfl ⟨rfl, hT2.out⟩
        · replace oa' := Lib.hid oa'
          replace ob' := Lib.hid ob'
          go_enter Try.func34, Try.ntmps34
          go_wp2_with fail
          rw [← hY.out]
          refine (ka.out _).mono ?_
          rintro _ X ⟨rfl, rfl⟩
          go_wp2_with fail
          refine (kbb.out _).mono ?_
          rintro _ X ⟨rfl, rfl⟩
          go_wp2
          exact bodyPost_ret (v := .tuple #[.agg #[.int .i64 0, .int .i64 0], .agg #[.int .i64 0, .int .i64 0], .int .i64 2]) (by simp [results, Try.results34, go_sem, c0, c1, d0, d1]) rfl ⟨rfl, hT2.out⟩
      · have db : (!decide (okC b)) = true := by simp [ob]
        rw [db] at kbb
        replace hok := Lib.hid hok
        replace oa := Lib.hid oa
        replace ob := Lib.hid ob
        go_enter Try.func34, Try.ntmps34
        go_wp2_with fail
        rw [← hY.out]
        refine (ka.out _).mono ?_
        rintro _ X ⟨rfl, rfl⟩
        go_wp2_with fail
        refine (kbb.out _).mono ?_
        rintro _ X ⟨rfl, rfl⟩
        go_wp2
        exact bodyPost_ret (v := .tuple #[.agg #[.int .i64 0, .int .i64 0], .agg #[.int .i64 0, .int .i64 0], .int .i64 2]) (by simp [results, Try.results34, go_sem, c0, c1, d0, d1]) rfl ⟨rfl, hT2.out⟩
    · have da : (!decide (okC a)) = true := by simp [oa]
      rw [da] at ka
      replace hok := Lib.hid hok
      replace oa := Lib.hid oa
      go_enter Try.func34, Try.ntmps34
      go_wp2_with fail
      rw [← hY.out]
      refine (ka.out _).mono ?_
      rintro _ X ⟨rfl, rfl⟩
      go_wp2
      exact bodyPost_ret (v := .tuple #[.agg #[.int .i64 0, .int .i64 0], .agg #[.int .i64 0, .int .i64 0], .int .i64 2]) (by simp [results, Try.results34, go_sem, c0, c1, d0, d1]) rfl ⟨rfl, hT2.out⟩
end Go.Proofs.Ythleekdkbgnabaa
