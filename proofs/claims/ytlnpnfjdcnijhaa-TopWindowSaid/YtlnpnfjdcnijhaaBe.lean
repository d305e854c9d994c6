/-
  The opening with its least period: the program's function.
-/
import Derived.Test.YtlnpnfjdcnijhaaBb
namespace Go.Proofs.Ytlnpnfjdcnijhaa
open Go.RowKit Go.Deep M
set_option linter.unusedVariables false
set_option linter.unusedSimpArgs false
attribute [local go_sem high] run_fld

set_option maxRecDepth 100000 in
set_option maxHeartbeats 2000000 in
theorem plain_any (p : Nat) (F : Value) (f : Int → Bool) (w : World) (hO : Opn w w.heap.size F f) (hp : 1 ≤ p ∧ p ≤ 4000) :
    Calls Try.prog 81 #[.agg #[.int .i64 p, F]] w (OpenR w (plN p f : Nat) f) := by
  obtain ⟨p1, p4⟩ := hp
  have hF := hO
  obtain ⟨g, caps, hFg, _⟩ := hO
  have hx := BxO.new w p F
  have hb1 := ba1 w (.cells #[.int .i64 p, F] 74)
  have hb2 := ba1 (w.alloc (.cells #[.int .i64 p, F] 74)) (.cells #[.int .i64 0, .nilFunc] 74)
  have hr : BxO ((w.alloc (.cells #[.int .i64 p, F] 74)).alloc (.cells #[.int .i64 0, .nilFunc] 74)) (w.heap.size + 1) 0 .nilFunc := by
    have := BxO.new (w.alloc (.cells #[.int .i64 p, F] 74)) 0 .nilFunc
    rwa [show (w.alloc (.cells #[.int .i64 p, F] 74)).heap.size = w.heap.size + 1 by simp] at this
  have hW : PlX w p F ((w.alloc (.cells #[.int .i64 p, F] 74)).alloc (.cells #[.int .i64 0, .nilFunc] 74)) := ⟨hb1.trans (hb2.mono hb1.size), hx.up hb2, hr⟩
  have hyes := fun k => @plN_yes p f k
  have hnoo := @plN_no p f
  have hrep : ∀ (k : Nat) X, k ≤ 4000 → PlX w p F X → Calls Try.prog 106 #[.agg #[.int .i64 p, F], .int .i64 k] X fun e w' => e = .returned (.bool (repB p f k)) ∧ PlX w p F w' := fun k X hk hX =>
    (repeats_any w.heap.size p k F f X (hF.up (hX.below) (Nat.le_refl _)) hX.below.size p4 hk).mono fun e w' ⟨he, hb⟩ => ⟨he, hX.up hb⟩
  have hend : ∀ X (v : Int), PlX w p F X → ∃ Y, Y = (X.setCell ⟨w.heap.size + 1, 0, none⟩ (.int .i64 v)).setCell ⟨w.heap.size + 1, 1, none⟩ F ∧ Below w.heap.size w Y ∧ Opn Y Y.heap.size F f ∧ Y.cell? ⟨w.heap.size + 1, 0, none⟩ = some (.int .i64 v) ∧ Y.cell? ⟨w.heap.size + 1, 1, none⟩ = some F := fun X v hX => by
    have hz := set2_below hX.below (Nat.le_succ w.heap.size) (.int .i64 v) F
    obtain ⟨y0, y1⟩ := res_cells hX.res (.int .i64 v) F
    exact ⟨_, rfl, hz, hF.upp hz, y0, y1⟩
  generalize plN p f = N at *
  replace hx := Lib.hid hx
  replace hr := Lib.hid hr
  replace hW := Lib.hid hW
  replace hyes := Lib.hid hyes
  replace hnoo := Lib.hid hnoo
  replace hrep := Lib.hid hrep
  replace hend := Lib.hid hend
  replace hF := Lib.hid hF
  replace hb1 := Lib.hid hb1
  replace hb2 := Lib.hid hb2
  subst hFg
  go_enter Try.func81, Try.ntmps81
  go_wp2
  go_loopw [3] (fun i X => ∃ k : Nat, 1 ≤ k ∧ k ≤ p ∧ i = .int .i64 (k : Nat) ∧ (∀ j, j < k → serB p f j = false) ∧ PlX w p (.func (Fn.func g) #[] caps) X) (fun i _ => p - (intOf i).toNat)
  case atStart =>
    refine ⟨1, Nat.le_refl _, p1, rfl, fun j hj => ?_, hW.out⟩
    have hj0 : j = 0 := by omega
    subst hj0
    exact serB_zero p f
  case round =>
    obtain ⟨k, hk1, hk, rfl, hj, hX⟩ := hrel
    have c0 := hX.box.c0
    have c1 := hX.box.c1
    by_cases hlt : k < p
    · have hc := hrep.out k wr (by omega) hX
      have hsb : serB p f k = (decide (p % k = 0) && repB p f k) := by unfold serB; rw [decide_eq_true hk1]; simp
      have hstep : serB p f k = false → ∀ j, j < k + 1 → serB p f j = false := fun h j hj' => by
        rcases Nat.lt_succ_iff_lt_or_eq.1 hj' with h' | rfl
        · exact hj j h'
        · exact h
      have hyk := hyes.out k hlt
      generalize serB p f k = S at *
      generalize repB p f k = R at *
      have hk0 : ¬ ((k : Int) = 0) := by omega
      have hkn : ¬ (k = 0) := by omega
      have hki : (1 : Int) ≤ (k : Int) := by omega
      have hmod : ((p : Int)).tmod (k : Int) = ((p % k : Nat) : Int) := rfl
      by_cases hm : p % k = 0
      · rw [hm] at hmod
        have hmod' : ((p : Int)).tmod (k : Int) = 0 := hmod
        clear hmod
        rw [decide_eq_true hm, Bool.true_and] at hsb
        subst hsb
        cases S with
        | true =>
          have hN := hyk rfl hj
          subst hN
          have hb5 := hend.out
          clear hstep hyk
          replace hc := Lib.hid hc
          replace hj := Lib.hid hj
          replace hX := Lib.hid hX
          replace hb5 := Lib.hid hb5
          go_wp2_with fail
          refine hc.out.mono ?_
          rintro e w2 ⟨rfl, hX2⟩
          have f0 := hX2.box.c0
          have f1 := hX2.box.c1
          have z0 := hX2.res.c0
          have z1 := hX2.res.c1
          have z2 := hX2.res.fz 0
          have z3 := hX2.res.fz 1
          have zl := hX2.res.lt
          have hfin := Lib.hid (hb5.out w2 (N : Nat) hX2)
          replace hX2 := Lib.hid hX2
          go_wp2
          obtain ⟨Y, hY, y1, y2, y3, y4⟩ := hfin.out
          rw [hY] at y1 y2 y3 y4
          exact bodyPost_ret (v := .agg #[.int .i64 (N : Nat), .func (Fn.func g) #[] caps]) (by simp [results, Try.results81, go_sem, y3, y4]) rfl ⟨_, rfl, y1, y2⟩
        | false =>
          have hs := Lib.hid (hstep rfl)
          clear hstep hyk
          replace hc := Lib.hid hc
          replace hj := Lib.hid hj
          replace hX := Lib.hid hX
          go_wp2_with fail
          refine hc.out.mono ?_
          rintro e w2 ⟨rfl, hX2⟩
          replace hX2 := Lib.hid hX2
          go_wp2
          go_roundw
          case rel => exact ⟨k + 1, by omega, by omega, by go_num, hs.out, hX2.out⟩
          case measure => simp [intOf]; omega
      · rw [decide_eq_false hm, Bool.false_and] at hsb
        subst hsb
        have hs := Lib.hid (hstep rfl)
        have hmi : ¬ (((p % k : Nat) : Int) = 0) := by omega
        have hmm : p % k < k := Nat.mod_lt _ (by omega)
        generalize p % k = r at *
        clear hstep hyk
        replace hc := Lib.hid hc
        replace hj := Lib.hid hj
        replace hX := Lib.hid hX
        go_wp2
        go_roundw
        case rel => exact ⟨k + 1, by omega, by omega, by go_num, hs.out, hX.out⟩
        case measure => simp [intOf]; omega
    · have hk' : k = p := by omega
      subst hk'
      have hN := hnoo.out hj
      subst hN
      have z0 := hX.res.c0
      have z1 := hX.res.c1
      have z2 := hX.res.fz 0
      have z3 := hX.res.fz 1
      have zl := hX.res.lt
      have hfin := Lib.hid (hend.out wr (N : Nat) hX)
      replace hj := Lib.hid hj
      replace hX := Lib.hid hX
      go_wp2
      obtain ⟨Y, hY, y1, y2, y3, y4⟩ := hfin.out
      rw [hY] at y1 y2 y3 y4
      exact bodyPost_ret (v := .agg #[.int .i64 (N : Nat), .func (Fn.func g) #[] caps]) (by simp [results, Try.results81, go_sem, y3, y4]) rfl ⟨_, rfl, y1, y2⟩
end Go.Proofs.Ytlnpnfjdcnijhaa
