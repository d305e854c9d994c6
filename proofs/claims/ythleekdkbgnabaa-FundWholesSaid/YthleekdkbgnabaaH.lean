/-
  The level of equal awards, and the lesser one of two ratios: the program's functions.
-/
import Derived.Test.YthleekdkbgnabaaYa
import Derived.Test.YthleekdkbgnabaaD
namespace Go.Proofs.Ythleekdkbgnabaa
open Go.RowKit Go.Deep M
set_option linter.unusedVariables false
set_option linter.unusedSimpArgs false

/-! ### comparing -/
theorem isNaN_any (x : Int) (w : World) : Calls Try.prog 132 #[.int .i64 x] w fun e w' => e = .returned (.bool false) ∧ w' = w := by
  go_enter Try.func132, Try.ntmps132
  go_wp2
  go_ret
  exact ⟨ret_bool (by simp), rfl⟩
namespace M
def cmpR (x y : Int) : Int := if x < y then -1 else if y < x then 1 else 0
theorem cmpR_neg (x y : Int) : cmpR x y < 0 ↔ x < y := by
  unfold cmpR
  split
  · omega
  · split <;> omega
theorem cmpR_b (x y : Int) : -1 ≤ cmpR x y ∧ cmpR x y ≤ 1 := by
  unfold cmpR
  split
  · omega
  · split <;> omega
end M
set_option maxHeartbeats 1000000 in
theorem Compare_any (x y : Int) (w : World) : Calls Try.prog 120 #[.int .i64 x, .int .i64 y] w fun e w' => e = .returned (.int .i64 (cmpR x y)) ∧ w' = w := by
  have k1 := Lib.hid (fun X => isNaN_any x X)
  have k2 := Lib.hid (fun X => isNaN_any y X)
  unfold cmpR
  by_cases h1 : x < y
  · rw [if_pos h1]
    go_enter Try.func120, Try.ntmps120
    go_wp2_with fail
    refine (k1.out _).mono ?_
    rintro _ X ⟨rfl, rfl⟩
    go_wp2_with fail
    refine (k2.out _).mono ?_
    rintro _ X ⟨rfl, rfl⟩
    go_wp2
    go_ret
    exact ⟨rfl, rfl⟩
  · rw [if_neg h1]
    by_cases h2 : y < x
    · rw [if_pos h2]
      go_enter Try.func120, Try.ntmps120
      go_wp2_with fail
      refine (k1.out _).mono ?_
      rintro _ X ⟨rfl, rfl⟩
      go_wp2_with fail
      refine (k2.out _).mono ?_
      rintro _ X ⟨rfl, rfl⟩
      go_wp2
      go_ret
      exact ⟨rfl, rfl⟩
    · rw [if_neg h2]
      go_enter Try.func120, Try.ntmps120
      go_wp2_with fail
      refine (k1.out _).mono ?_
      rintro _ X ⟨rfl, rfl⟩
      go_wp2_with fail
      refine (k2.out _).mono ?_
      rintro _ X ⟨rfl, rfl⟩
      go_wp2
      go_ret
      exact ⟨rfl, rfl⟩
/-- Products that fit. -/
def fitP (p : Int) : Prop := -1000000000000000000 ≤ p ∧ p ≤ 1000000000000000000
set_option maxRecDepth 100000 in
set_option maxHeartbeats 1000000 in
theorem compared_any (a b : Rt) (w : World) (h1 : fitP (a.n * b.d)) (h2 : fitP (b.n * a.d)) : Calls Try.prog 100 #[rtV a, rtV b] w fun e w' => e = .returned (.int .i64 (cmpR (a.n * b.d) (b.n * a.d))) ∧ Below w.heap.size w w' := by
  have hT := Two.new w a b
  have k := fun X => Compare_any (a.n * b.d) (b.n * a.d) X
  unfold rtV
  obtain ⟨an, ad⟩ := a
  obtain ⟨bn, bd⟩ := b
  simp only at *
  obtain ⟨p, hp⟩ : ∃ p, p = an * bd := ⟨_, rfl⟩
  obtain ⟨q, hq⟩ : ∃ q, q = bn * ad := ⟨_, rfl⟩
  rw [← hp] at h1 k ⊢
  rw [← hq] at h2 k ⊢
  unfold fitP at h1 h2
  have w1 : IntKind.i64.wrap (an * bd) = p := by rw [← hp]; exact IntWalk.i64_in _ (by omega)
  have w2 : IntKind.i64.wrap (bn * ad) = q := by rw [← hq]; exact IntWalk.i64_in _ (by omega)
  obtain ⟨Y, hY⟩ : ∃ Y, Y = (w.alloc (.cells #[.int .i64 an, .int .i64 ad] 37)).alloc (.cells #[.int .i64 bn, .int .i64 bd] 37) := ⟨_, rfl⟩
  rw [← hY] at hT
  have c0 := hT.a.c0
  have c1 := hT.a.c1
  have c2 := hT.b.c0
  have c3 := hT.b.c1
  simp only at c0 c1 c2 c3
  have hend := Lib.hid hT.below
  have hYY := Lib.hid hY
  rw [hY] at c0 c1 c2 c3
  replace hT := Lib.hid hT
  replace k := Lib.hid k
  clear hY
  replace hp := Lib.hid hp
  replace hq := Lib.hid hq
  generalize cmpR p q = R at *
  go_enter Try.func100, Try.ntmps100
  go_wp2_with fail
  rw [← hYY.out]
  refine (k.out _).mono ?_
  rintro _ X ⟨rfl, rfl⟩
  go_wp2
  go_ret
  exact ⟨rfl, hend.out⟩

set_option maxRecDepth 100000 in
set_option maxHeartbeats 1000000 in
theorem lesser_any (a b : Rt) (w : World) (h1 : fitP (a.n * b.d)) (h2 : fitP (b.n * a.d)) : Calls Try.prog 126 #[rtV a, rtV b] w fun e w' => e = .returned (rtV (lesR a b)) ∧ Below w.heap.size w w' := by
  have hT0 := Two.new w a b
  have kc := fun X => compared_any a b X h1 h2
  have hneg := cmpR_neg (a.n * b.d) (b.n * a.d)
  have hcb := cmpR_b (a.n * b.d) (b.n * a.d)
  have hl : lesR a b = if bel a b then a else b := rfl
  have hbl : bel a b ↔ a.n * b.d < b.n * a.d := Iff.rfl
  generalize cmpR (a.n * b.d) (b.n * a.d) = R at *
  unfold rtV at *
  clear h1 h2
  obtain ⟨Y0, hY0⟩ : ∃ Y, Y = (w.alloc (.cells #[.int .i64 a.n, .int .i64 a.d] 37)).alloc (.cells #[.int .i64 b.n, .int .i64 b.d] 37) := ⟨_, rfl⟩
  rw [← hY0] at hT0
  have hs0 : Y0.heap.size = w.heap.size + 2 := by rw [hY0]; simp
  have hr := Bxr.new Y0 0 0
  have hT := hT0.up (ba1 Y0 (.cells #[.int .i64 0, .int .i64 0] 37))
  obtain ⟨Y, hY⟩ : ∃ Y, Y = Y0.alloc (.cells #[.int .i64 0, .int .i64 0] 37) := ⟨_, rfl⟩
  rw [← hY] at hr hT
  rw [hs0] at hr
  rw [hY0] at hY
  have c0 := hT.a.c0
  have c1 := hT.a.c1
  have c2 := hT.b.c0
  have c3 := hT.b.c1
  have hYY := Lib.hid hY
  rw [hY] at c0 c1 c2 c3
  have k1 := Lib.hid (kc Y)
  clear kc hY hY0 hT0
  replace hs0 := Lib.hid hs0
  have hTT := Lib.hid hT
  have hrr := Lib.hid hr
  clear hT hr
  replace hcb := Lib.hid hcb
  by_cases hlt : bel a b
  · have hz : R < 0 := hneg.2 (hbl.1 hlt)
    rw [hl, if_pos hlt]
    replace hneg := Lib.hid hneg
    replace hbl := Lib.hid hbl
    replace hl := Lib.hid hl
    replace hlt := Lib.hid hlt
    go_enter Try.func126, Try.ntmps126
    go_wp2_with fail
    rw [← hYY.out]
    refine k1.out.mono ?_
    rintro _ X ⟨rfl, hb⟩
    have hT := hTT.out.up hb
    have hr := hrr.out.up hb
    have c0 := hT.a.c0
    have c1 := hT.a.c1
    have r0 := hr.c0
    have r1 := hr.c1
    have f0 := hr.fz 0
    have f1 := hr.fz 1
    have hr2 := hr.set a.n a.d
    have d0 := hr2.c0
    have d1 := hr2.c1
    have hend := Lib.hid (set2_below hT.below (show w.heap.size ≤ w.heap.size + 2 by omega) (.int .i64 a.n) (.int .i64 a.d))
    replace hT := Lib.hid hT
    replace hr := Lib.hid hr
    replace hr2 := Lib.hid hr2
    replace hb := Lib.hid hb
    go_wp2
    exact bodyPost_ret (v := .agg #[.int .i64 a.n, .int .i64 a.d]) (by simp [results, Try.results126, go_sem, d0, d1]) rfl ⟨rfl, hend.out⟩
  · have hz : ¬ R < 0 := fun h => hlt (hbl.2 (hneg.1 h))
    rw [hl, if_neg hlt]
    replace hneg := Lib.hid hneg
    replace hbl := Lib.hid hbl
    replace hl := Lib.hid hl
    replace hlt := Lib.hid hlt
    go_enter Try.func126, Try.ntmps126
    go_wp2_with fail
    rw [← hYY.out]
    refine k1.out.mono ?_
    rintro _ X ⟨rfl, hb⟩
    have hT := hTT.out.up hb
    have hr := hrr.out.up hb
    have c0 := hT.b.c0
    have c1 := hT.b.c1
    have r0 := hr.c0
    have r1 := hr.c1
    have f0 := hr.fz 0
    have f1 := hr.fz 1
    have hr2 := hr.set b.n b.d
    have d0 := hr2.c0
    have d1 := hr2.c1
    have hend := Lib.hid (set2_below hT.below (show w.heap.size ≤ w.heap.size + 2 by omega) (.int .i64 b.n) (.int .i64 b.d))
    replace hT := Lib.hid hT
    replace hr := Lib.hid hr
    replace hr2 := Lib.hid hr2
    replace hb := Lib.hid hb
    go_wp2
    exact bodyPost_ret (v := .agg #[.int .i64 b.n, .int .i64 b.d]) (by simp [results, Try.results126, go_sem, d0, d1]) rfl ⟨rfl, hend.out⟩

set_option maxRecDepth 100000 in
set_option maxHeartbeats 2000000 in
theorem Max_any (B : Nat) (A : Option Addr) (c : Nat) (l : List Int) (w : World) (h : Row w B A l) (hv : vC l) :
    Calls Try.prog 97 #[.slice A l.length c] w fun e w' => e = .returned (.int .i64 (mx l)) ∧ w' = w := by
  have h63 := h.1
  have hat := fun k (hk : k < l.length) => h.at_ k hk
  have hb := fun k (hk : k < l.length) => mxP_b hv.2 k hk
  have hx := fun k (hk : k < l.length) => hv.2 k hk
  have hs : ∀ k, mxP l (k + 1) = max (mxP l k) (el l (k + 1)) := fun k => rfl
  have h0 : mxP l 0 = el l 0 := rfl
  have hm : mx l = mxP l (l.length - 1) := rfl
  have hn := val_len hv
  rw [hm]
  generalize l.length = n at *
  obtain ⟨b, o, rfl, hb0, e0⟩ := hat 0 (by omega)
  rw [Nat.add_zero] at e0
  replace hat := Lib.hid hat
  replace hb := Lib.hid hb
  replace hx := Lib.hid hx
  replace hs := Lib.hid hs
  replace h := Lib.hid h
  replace hv := Lib.hid hv
  replace hm := Lib.hid hm
  replace h0 := Lib.hid h0
  obtain ⟨hn1, hn8⟩ := hn
  go_enter Try.func97, Try.ntmps97
  go_wp2
  go_loop [4, 3] (fun i m => ∃ k : Nat, k < n ∧ i = .int .i64 (k + 1 : Nat) ∧ m = .int .i64 (mxP l k)) (fun i _ => n + 1 - (intOf i).toNat)
  case atStart => exact ⟨0, by omega, rfl, by rw [h0.out]⟩
  case round =>
    obtain ⟨k, hk, rfl, rfl⟩ := hrel
    by_cases hkn : k + 1 < n
    · obtain ⟨b', o', he, hb', e1⟩ := hat.out (k + 1) hkn
      cases he
      have b1 := hb.out k hk
      have b2 := hs.out k
      have b3 := hx.out (k + 1) hkn
      unfold okC at b1 b3
      rcases Int.lt_or_le (mxP l k) (el l (k + 1)) with hc | hc
      · rw [Int.max_eq_right (by omega)] at b2
        replace b2 := Lib.hid b2
        obtain ⟨j, hj⟩ : ∃ j, j = k + 1 := ⟨_, rfl⟩
        rw [← hj] at e1 hkn hc b3 ⊢
        replace hj := Lib.hid hj
        go_wp2
        go_round
        case rel => exact ⟨k + 1, by rw [← hj.out]; exact hkn, by rw [hj.out]; simp, by rw [hs.out, hj.out]⟩
        case measure => simp [intOf]; omega
      · rw [Int.max_eq_left (by omega)] at b2
        replace b2 := Lib.hid b2
        have hc' : ¬ mxP l k < el l (k + 1) := by omega
        obtain ⟨j, hj⟩ : ∃ j, j = k + 1 := ⟨_, rfl⟩
        rw [← hj] at e1 hkn hc hc' b3 ⊢
        replace hj := Lib.hid hj
        go_wp2
        go_round
        case rel => exact ⟨k + 1, by rw [← hj.out]; exact hkn, by rw [hj.out]; simp, by rw [hs.out, hj.out]⟩
        case measure => simp [intOf]; omega
    · have : k = n - 1 := by omega
      obtain ⟨j, hj⟩ : ∃ j, j = k + 1 := ⟨_, rfl⟩
      rw [← hj] at hkn ⊢
      have hjn : j = n := by omega
      subst hjn
      replace hj := Lib.hid hj
      replace this := Lib.hid this
      go_wp2
      go_ret
      exact ⟨ret_int (congrArg (mxP l) this.out), rfl⟩
end Go.Proofs.Ythleekdkbgnabaa
