/-
  Do awards agree: Agrees of the program and of the specification.
-/
import Derived.Test.YthleekdkbgnabaaAk
namespace Go.Proofs.Ythleekdkbgnabaa
open Go.RowKit Go.Deep M
set_option linter.unusedVariables false
set_option linter.unusedSimpArgs false

namespace M
def agB (l : List Int) (e : Int) (D : List Rt) : Bool := if okA l e D then (shB l e D && decide (allF l D l.length)) else false
theorem sh_bw {l : List Int} {e : Int} {D : List Rt} (h : shB l e D = true) : bwA l D D.length := by
  unfold shB at h
  rw [Bool.and_eq_true, decide_eq_true_eq] at h
  exact h.1
end M
theorem errA_ne {l : List Int} {e : Int} {D : List Rt} (hk : ¬ okA l e D) : errA l e D ≠ 0 := by
  unfold errA
  by_cases hE : okE l e
  · rw [if_pos hE, if_neg (fun hh => hk ⟨hE, hh⟩)]; decide
  · rw [if_neg hE]; have := errC_ne hE; omega
set_option maxRecDepth 100000 in
set_option maxHeartbeats 2000000 in
theorem Agrees_any (A Aw : Option Addr) (c cw : Nat) (l : List Int) (e : Int) (D : List Rt) (w : World) (h : Row w w.heap.size A l) (hw : Rts w w.heap.size Aw D) (hD : D.length ≤ 40) :
    Calls Try.prog 28 #[.slice A l.length c, .int .i64 e, .slice Aw D.length cw] w fun r w' => r = .returned (.tuple #[.bool (agB l e D), .int .i64 (errA l e D)]) ∧ Below w.heap.size w w' := by
  unfold agB
  by_cases hk : okA l e D
  · rw [if_pos hk, errA_ok hk]
    have k1 := cAwards_ok A Aw c cw l e D w h hw hk
    have k2 := fun X (hX : Below w.heap.size w X) => isShared_any A Aw c cw l e D X (h.up hX) (hw.up hX) hk
    have k3 := fun X (hX : Below w.heap.size w X) (hs : shB l e D = true) => areGar_any A Aw c cw l D X (h.up hX) (hw.up hX) hk.1.1 hk.2 (sh_bw hs)
    generalize shB l e D = R at *
    generalize decide (allF l D l.length) = G at *
    generalize l.length = n at *
    generalize D.length = m at *
    replace k1 := Lib.hid k1
    replace k2 := Lib.hid k2
    replace k3 := Lib.hid k3
    replace h := Lib.hid h
    replace hw := Lib.hid hw
    replace hk := Lib.hid hk
    replace hD := Lib.hid hD
    go_enter Try.func28, Try.ntmps28
    go_wp2_with fail
    refine k1.out.mono ?_
    rintro _ X ⟨rfl, hb⟩
    have kk := Lib.hid (k2.out X hb)
    replace hb := Lib.hid hb
    go_wp2_with fail
    refine kk.out.mono ?_
    rintro _ X2 ⟨rfl, hb2⟩
    have hfin := Lib.hid (bel_trans hb.out hb2)
    replace hb2 := Lib.hid hb2
    cases hR : R with
    | true =>
      have k4 := Lib.hid (k3.out X2 hfin.out hR)
      subst hR
      go_wp2_with fail
      refine k4.out.mono ?_
      rintro _ X3 ⟨rfl, hb3⟩
      have hfin2 := Lib.hid (bel_trans hfin.out hb3)
      replace hb3 := Lib.hid hb3
      go_wp2
      go_ret2
      exact ⟨rfl, hfin2.out⟩
    | false =>
      subst hR
      go_wp2
      go_ret2
      exact ⟨rfl, hfin.out⟩
  · rw [if_neg hk]
    have k1 := cAwards_bad A Aw c cw l e D w h hw hD hk
    have hne := errA_ne hk
    generalize errA l e D = E at *
    generalize l.length = n at *
    generalize D.length = m at *
    have hn : (E != 0) = true := by simpa using hne
    replace k1 := Lib.hid k1
    replace h := Lib.hid h
    replace hw := Lib.hid hw
    replace hk := Lib.hid hk
    replace hne := Lib.hid hne
    replace hD := Lib.hid hD
    go_enter Try.func28, Try.ntmps28
    go_wp2_with fail
    refine k1.out.mono ?_
    rintro _ X ⟨rfl, hb⟩
    replace hb := Lib.hid hb
    go_wp2
    go_ret2
    exact ⟨rfl, hb.out⟩

set_option maxRecDepth 100000 in
set_option maxHeartbeats 4000000 in
theorem AgreesR_good (A Aw : Option Addr) (c cw : Nat) (l : List Int) (e : Int) (D : List Rt) (w : World) (h : Row w w.heap.size A l) (hw : Rts w w.heap.size Aw D) (hv : vC l) (hA : isA l D) (hbw : bwA l D D.length)
    (kS : Calls Try.prog 27 #[.slice A l.length c, .int .i64 e, .slice Aw D.length cw] w fun r w' => r = .returned (.tuple #[.bool true, .int .i64 0]) ∧ Below w.heap.size w w') :
    Calls Try.prog 29 #[.slice A l.length c, .int .i64 e, .slice Aw D.length cw] w fun r w' => r = .returned (.tuple #[.bool (decide (allF l D l.length)), .int .i64 0]) ∧ Below w.heap.size w w' := by
  have hlen := hA.1
  have hn := val_len hv
  have hat := fun X (hX : Below w.heap.size w X) k (hk : k < l.length) => (h.below hX).at_ k hk
  have hwt := fun X (hX : Below w.heap.size w X) k (hk : k < l.length) => (hw.below hX).at_ k (show k < D.length by omega)
  have hx := fun k (hkl : k < l.length) => hv.2 k hkl
  have hgd := fun k (hkl : k < l.length) => gdA_of (hv.2 k hkl) (hA.2 k (by omega)) (hbw k (by omega))
  have kg := fun X i k (hi : i < l.length) (hk : k < l.length) => fair_any (el l i) (el l k) (rt D i) (rt D k) X (hx i hi) (hx k hk) (hgd i hi) (hgd k hk)
  have hz := allF_zero l D
  have hrz := rowF_zero l D
  have hrs := fun i k => @rowF_succ l D i k
  have hos := fun i => @allF_succ l D i
  have hno := fun i k (hi : i < l.length) (hk : k < i) (hf : faP l D i k = false) => (show decide (allF l D l.length) = false from decide_eq_false (allF_no hi hk hf))
  have hyes := fun (hf : allF l D l.length) => (show decide (allF l D l.length) = true from decide_eq_true hf)
  have hfp : ∀ i k, faB (el l i) (el l k) (rt D i) (rt D k) = faP l D i k := fun _ _ => rfl
  simp only [hfp] at kg
  unfold rtV at kg
  rw [hlen] at kS ⊢
  generalize decide (allF l D l.length) = R at *
  generalize l.length = n at *
  replace kS := Lib.hid kS
  replace hlen := Lib.hid hlen
  replace hat := Lib.hid hat
  replace hwt := Lib.hid hwt
  replace hx := Lib.hid hx
  replace hgd := Lib.hid hgd
  replace kg := Lib.hid kg
  replace hz := Lib.hid hz
  replace hrz := Lib.hid hrz
  replace hrs := Lib.hid hrs
  replace hos := Lib.hid hos
  replace hno := Lib.hid hno
  replace hyes := Lib.hid hyes
  replace hfp := Lib.hid hfp
  replace h := Lib.hid h
  replace hw := Lib.hid hw
  replace hv := Lib.hid hv
  replace hA := Lib.hid hA
  replace hbw := Lib.hid hbw
  obtain ⟨hn1, hn8⟩ := hn
  go_enter Try.func29, Try.ntmps29
  go_wp2_with fail
  refine kS.out.mono ?_
  rintro _ W0 ⟨rfl, hb0⟩
  replace hb0 := Lib.hid hb0
  go_wp2
  go_loopw [10, 11] (fun i _ wr => ∃ k : Nat, k ≤ n ∧ i = .int .i64 (k : Nat) ∧ allF l D k ∧ Below w.heap.size w wr) (fun i _ _ => n - (intOf i).toNat)
  case atStart => exact ⟨0, by omega, rfl, hz.out, hb0.out⟩
  case round =>
    clear hb0
    obtain ⟨i, hii, rfl, hO, hX⟩ := hrel
    by_cases hin : i < n
    · have hin2 : (i : Int) < (n : Int) := by omega
      have hr0 := hrz.out i
      replace hO := Lib.hid hO
      go_wp2
      go_loopw [11] (fun j wx => ∃ k : Nat, k ≤ i ∧ j = .int .i64 (k : Nat) ∧ rowF l D i k ∧ Below w.heap.size w wx) (fun j _ => i - (intOf j).toNat)
      case atStart => exact ⟨0, by omega, rfl, hr0, hX⟩
      case round =>
        clear hr0 hX
        obtain ⟨k, hkk, rfl, hF, hX⟩ := hrel
        by_cases hki : k < i
        · have hki2 : (k : Int) < (i : Int) := by omega
          have hkn : k < n := by omega
          have hkn2 : (k : Int) < (n : Int) := by omega
          obtain ⟨ba, oa, rfl, _, a0⟩ := hat.out wr hX i hin
          obtain ⟨bw, ow, rfl, _, b0, b1⟩ := hwt.out wr hX i hin
          have hcel : ∀ X, Below wr.heap.size wr X → X.cell? ⟨ba, oa + i, none⟩ = some (.int .i64 (el l i)) ∧ X.cell? ⟨ba, oa + k, none⟩ = some (.int .i64 (el l k)) ∧ X.cell? ⟨bw, ow + i * 2, none⟩ = some (.int .i64 (rt D i).n) ∧ X.cell? ⟨bw, ow + i * 2 + 1, none⟩ = some (.int .i64 (rt D i).d) ∧ X.cell? ⟨bw, ow + k * 2, none⟩ = some (.int .i64 (rt D k).n) ∧ X.cell? ⟨bw, ow + k * 2 + 1, none⟩ = some (.int .i64 (rt D k).d) := fun X hXX => by
            have hX2 := bel_trans hX hXX
            obtain ⟨_, _, e1, _, c0⟩ := hat.out X hX2 i hin
            cases e1
            obtain ⟨_, _, e2, _, c1⟩ := hat.out X hX2 k hkn
            cases e2
            obtain ⟨_, _, e3, _, c2, c3⟩ := hwt.out X hX2 i hin
            cases e3
            obtain ⟨_, _, e4, _, c4, c5⟩ := hwt.out X hX2 k hkn
            cases e4
            exact ⟨c0, c1, c2, c3, c4, c5⟩
          have kk := fun X => kg.out X i k hin hkn
          have hrs2 := hrs.out i k hF
          have hno2 := hno.out i k hin hki
          have h0 : Below wr.heap.size wr wr.drew := below_drewN (Below.refl _ _) 1
          have s0 := hcel _ h0
          have hXw := fun X (hXX : Below wr.heap.size wr X) => bel_trans hX hXX
          obtain ⟨fp, hfpe⟩ : ∃ b, b = faP l D i k := ⟨_, rfl⟩
          rw [← hfpe] at kk hrs2 hno2
          generalize el l i = x at *
          generalize el l k = y at *
          generalize (rt D i).n = p at *
          generalize (rt D i).d = q at *
          generalize (rt D k).n = r at *
          generalize (rt D k).d = s at *
          replace hcel := Lib.hid hcel
          replace kk := Lib.hid kk
          replace hrs2 := Lib.hid hrs2
          replace hno2 := Lib.hid hno2
          replace hXw := Lib.hid hXw
          replace hX := Lib.hid hX
          replace hF := Lib.hid hF
          replace hfpe := Lib.hid hfpe
          clear a0 b0 b1
          go_wp2
          go_region_held3 (fun X => X.cell? ⟨ba, oa + i, none⟩ = some (.int .i64 x) ∧ X.cell? ⟨ba, oa + k, none⟩ = some (.int .i64 y) ∧ X.cell? ⟨bw, ow + i * 2, none⟩ = some (.int .i64 p) ∧ X.cell? ⟨bw, ow + i * 2 + 1, none⟩ = some (.int .i64 q) ∧ X.cell? ⟨bw, ow + k * 2, none⟩ = some (.int .i64 r) ∧ X.cell? ⟨bw, ow + k * 2 + 1, none⟩ = some (.int .i64 s)) (first | with_reducible exact s0 | with_reducible exact hcel.out _ (by assumption)) ((go_at_call 66; refine (kk.out _).mono ?_; rintro _ X1 ⟨rfl, hb1⟩; have h1 := bel_trans h0 hb1; have fin := Lib.hid (hXw.out X1 h1)))
          all_goals
            cases fp with
            | true =>
              have hr := Lib.hid (hrs2.out rfl)
              go_wp2
              go_roundw
              case rel => exact ⟨k + 1, by omega, by simp, hr.out, fin.out⟩
              case measure => simp [intOf]; omega
            | false =>
              have hr := Lib.hid (hno2.out rfl)
              go_wp2
              go_ret2
              exact ⟨by rw [hr.out]; rfl, fin.out⟩
        · have : k = i := by omega
          subst this
          have hO2 := Lib.hid (hos.out k hO.out hF)
          replace hX := Lib.hid hX
          replace hF := Lib.hid hF
          go_wp2
          go_roundw
          case rel => exact ⟨k + 1, by omega, by simp, hO2.out, hX.out⟩
          case measure => simp [intOf]; omega
    · have : n = i := by omega
      subst this
      have hr := Lib.hid (hyes.out hO)
      replace hO := Lib.hid hO
      replace hX := Lib.hid hX
      go_wp2
      go_ret2
      exact ⟨by rw [hr.out]; rfl, hX.out⟩
set_option maxRecDepth 100000 in
set_option maxHeartbeats 2000000 in
theorem AgreesR_any (A Aw : Option Addr) (c cw : Nat) (l : List Int) (e : Int) (D : List Rt) (w : World) (h : Row w w.heap.size A l) (hw : Rts w w.heap.size Aw D) (hl : l.length ≤ 40) (hD : D.length ≤ 40) :
    Calls Try.prog 29 #[.slice A l.length c, .int .i64 e, .slice Aw D.length cw] w fun r w' => r = .returned (.tuple #[.bool (agB l e D), .int .i64 (errA l e D)]) ∧ Below w.heap.size w w' := by
  have kS := SharesR_any A Aw c cw l e D w h hw hl hD
  unfold agB
  by_cases hk : okA l e D
  · rw [if_pos hk]
    unfold shaB at kS
    rw [if_pos hk] at kS
    rw [errA_ok hk] at kS ⊢
    cases hR : shB l e D with
    | true =>
      rw [hR] at kS
      rw [Bool.true_and]
      exact AgreesR_good A Aw c cw l e D w h hw hk.1.1 hk.2 (sh_bw hR) kS
    | false =>
      rw [hR] at kS
      rw [Bool.false_and]
      generalize l.length = n at *
      generalize D.length = m at *
      replace kS := Lib.hid kS
      replace h := Lib.hid h
      replace hw := Lib.hid hw
      replace hk := Lib.hid hk
      replace hR := Lib.hid hR
      go_enter Try.func29, Try.ntmps29
      go_wp2_with fail
      refine kS.out.mono ?_
      rintro _ X ⟨rfl, hb⟩
      replace hb := Lib.hid hb
      go_wp2
      go_ret2
      exact ⟨rfl, hb.out⟩
  · rw [if_neg hk]
    unfold shaB at kS
    rw [if_neg hk] at kS
    have hne := errA_ne hk
    generalize errA l e D = E at *
    generalize l.length = n at *
    generalize D.length = m at *
    have hn : (E != 0) = true := by simpa using hne
    replace kS := Lib.hid kS
    replace h := Lib.hid h
    replace hw := Lib.hid hw
    replace hk := Lib.hid hk
    replace hne := Lib.hid hne
    go_enter Try.func29, Try.ntmps29
    go_wp2_with fail
    refine kS.out.mono ?_
    rintro _ X ⟨rfl, hb⟩
    replace hb := Lib.hid hb
    go_wp2
    go_ret2
    exact ⟨rfl, hb.out⟩
end Go.Proofs.Ythleekdkbgnabaa
