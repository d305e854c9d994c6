/-
  Do awards share the estate: Shares of the program.
-/
import Derived.Test.YthleekdkbgnabaaAf
namespace Go.Proofs.Ythleekdkbgnabaa
open Go.RowKit Go.Deep M
set_option linter.unusedVariables false
set_option linter.unusedSimpArgs false

namespace M
theorem awG_of {l : List Int} {D : List Rt} {i : Nat} (hx : okC (el l i)) (hw : okW (rt D i)) (hb : 0 ≤ (rt D i).n ∧ (rt D i).n ≤ el l i * (rt D i).d) : awG (rt D i) := by
  unfold okC at hx
  unfold okW at hw
  have : el l i * (rt D i).d ≤ 1000 * (rt D i).d := Int.mul_le_mul_of_nonneg_right hx.2 (by omega)
  exact ⟨⟨hb.1, by omega⟩, hw.2⟩
end M
set_option maxRecDepth 100000 in
set_option maxHeartbeats 4000000 in
theorem isShared_any (A Aw : Option Addr) (c cw : Nat) (l : List Int) (e : Int) (D : List Rt) (w : World) (h : Row w w.heap.size A l) (hw : Rts w w.heap.size Aw D) (hk : okA l e D) :
    Calls Try.prog 62 #[.slice A l.length c, .int .i64 e, .slice Aw D.length cw] w fun r w' => r = .returned (.bool (shB l e D)) ∧ Below w.heap.size w w' := by
  have hlen := hk.2.1
  have hn := val_len hk.1.1
  have hsm := sm_b hk.1.1
  have he : 0 ≤ e ∧ e ≤ 8000 := by have := hk.1.2; omega
  have hat := fun X (hX : Below w.heap.size w X) k (hk : k < l.length) => (h.below hX).at_ k hk
  have hwt := fun X (hX : Below w.heap.size w X) k (hk : k < l.length) => (hw.below hX).at_ k (show k < D.length by omega)
  have hx := fun k (hkl : k < l.length) => hk.1.1.2 k hkl
  have hy := fun k (hkl : k < l.length) => hk.2.2 k (show k < D.length by omega)
  have hsu := fun k => @bwA_succ l D k
  have hex := fun k (hk : k < l.length) => @bwA_ex l D k (show k < D.length by omega)
  have hz := bwA_zero l D
  have hno : ¬ bwA l D D.length → shB l e D = false := fun hh => by unfold shB; rw [decide_eq_false hh]; rfl
  have hyes : bwA l D D.length → shB l e D = addsB D e.toNat := fun hh => by unfold shB; rw [decide_eq_true hh]; rfl
  have kA := fun X (hX : Below w.heap.size w X) (hb : bwA l D D.length) => addUp_any Aw cw D e.toNat X ((hw.below hX).more hX.size) (by omega) (fun i hi => awG_of (hx i (by omega)) (hk.2.2 i hi) (hb i hi)) (by omega)
  have hce : ((e.toNat : Nat) : Int) = e := by omega
  rw [hce] at kA
  have hb0 := Below.refl w.heap.size w
  generalize addsB D e.toNat = R at *
  generalize shB l e D = R' at *
  rw [hlen] at hno hyes kA hex ⊢
  generalize l.length = n at *
  replace hlen := Lib.hid hlen
  replace hce := Lib.hid hce
  replace hsm := Lib.hid hsm
  replace hat := Lib.hid hat
  replace hwt := Lib.hid hwt
  replace hx := Lib.hid hx
  replace hy := Lib.hid hy
  replace hsu := Lib.hid hsu
  replace hex := Lib.hid hex
  replace hz := Lib.hid hz
  replace hno := Lib.hid hno
  replace hyes := Lib.hid hyes
  replace kA := Lib.hid kA
  replace h := Lib.hid h
  replace hw := Lib.hid hw
  replace hk := Lib.hid hk
  replace hb0 := Lib.hid hb0
  replace he := Lib.hid he
  obtain ⟨hn1, hn8⟩ := hn
  go_enter Try.func62, Try.ntmps62
  go_wp2
  go_loopw [11, 7, 8] (fun i _ _ wr => ∃ k : Nat, k ≤ n ∧ i = .int .i64 (k : Nat) ∧ bwA l D k ∧ Below w.heap.size w wr) (fun i _ _ _ => n - (intOf i).toNat)
  case atStart => exact ⟨0, by omega, rfl, hz.out, hb0.out⟩
  case round =>
    clear hb0
    obtain ⟨k, hkk, rfl, hO, hX⟩ := hrel
    by_cases hkn : k < n
    · obtain ⟨bw, ow, rfl, hbw, e0, e1⟩ := hwt.out wr hX k hkn
      have hkn2 : (k : Int) < (n : Int) := by omega
      have hxk := hx.out k hkn
      have hyk := hy.out k hkn
      have hs := hsu.out k hO
      have hex2 := hex.out k hkn
      unfold okC at hxk
      unfold okW at hyk
      have hY1 := fun N => below_drewN (bel_trans hX (ba1 wr (.cells #[.int .i64 (rt D k).n, .int .i64 (rt D k).d] 37))) N
      obtain ⟨ba, oa, rfl, hba, a0⟩ := hat.out (wr.alloc (.cells #[.int .i64 (rt D k).n, .int .i64 (rt D k).d] 37)) (hY1 0) k hkn
      obtain ⟨ba', oa', he', _, a1⟩ := hat.out (wr.alloc (.cells #[.int .i64 (rt D k).n, .int .i64 (rt D k).d] 37)).drew (hY1 1) k hkn
      cases he'
      have hbx := Bxr.new wr (rt D k).n (rt D k).d
      have z0 := hbx.c0
      have z1 := hbx.c1
      have y0 : (wr.alloc (.cells #[.int .i64 (rt D k).n, .int .i64 (rt D k).d] 37)).drew.cell? ⟨wr.heap.size, 0, none⟩ = some (.int .i64 (rt D k).n) := (hbx.up (below_drewN (Below.refl _ _) 1)).c0
      have y1 : (wr.alloc (.cells #[.int .i64 (rt D k).n, .int .i64 (rt D k).d] 37)).drew.cell? ⟨wr.heap.size, 1, none⟩ = some (.int .i64 (rt D k).d) := (hbx.up (below_drewN (Below.refl _ _) 1)).c1
      have hbw' : Below w.heap.size w (wr.alloc (.cells #[.int .i64 (rt D k).n, .int .i64 (rt D k).d] 37)) := bel_trans hX (ba1 wr _)
      generalize (rt D k).n = p at *
      generalize (rt D k).d = q at *
      generalize el l k = x at *
      have pb := prod_b (a := x) (b := q) (x := 1000) (y := 1000000) (by omega) (by omega) (by omega)
      obtain ⟨pm, hpm⟩ : ∃ z, z = x * q := ⟨_, rfl⟩
      rw [← hpm] at pb hs hex2
      have w1 : IntKind.i64.wrap (x * q) = pm := by rw [← hpm]; exact IntWalk.i64_in _ (by omega)
      replace hpm := Lib.hid hpm
      replace hY1 := Lib.hid hY1
      replace hbx := Lib.hid hbx
      replace hX := Lib.hid hX
      replace hO := Lib.hid hO
      replace hbw' := Lib.hid hbw'
      by_cases h1 : p < 0
      · have hr := Lib.hid (hno.out (hex2 (by omega)))
        replace hs := Lib.hid hs
        replace hex2 := Lib.hid hex2
        go_wp2_with fail
        go_quiet (fail)
        go_wp2
        go_ret
        exact ⟨by rw [hr.out]; rfl, hY1.out _⟩
      · by_cases h2 : pm < p
        · have hr := Lib.hid (hno.out (hex2 (by omega)))
          replace hs := Lib.hid hs
          replace hex2 := Lib.hid hex2
          go_wp2_with fail
          go_quiet (fail)
          go_wp2
          go_ret
          exact ⟨by rw [hr.out]; rfl, hY1.out _⟩
        · have hr := Lib.hid (hs (by omega))
          replace hs := Lib.hid hs
          replace hex2 := Lib.hid hex2
          go_wp2_with fail
          go_quiet (fail)
          go_wp2
          go_roundw
          case rel => exact ⟨k + 1, by omega, by simp, hr.out, hY1.out _⟩
          case measure => simp [intOf]; omega
    · have : n = k := by omega
      subst this
      have k92 := kA.out wr hX hO
      have hr := Lib.hid (hyes.out hO)
      replace k92 := Lib.hid k92
      replace hX := Lib.hid hX
      replace hO := Lib.hid hO
      go_wp2_with fail
      refine k92.out.mono ?_
      rintro _ X2 ⟨rfl, hb2⟩
      have hfin := Lib.hid (bel_trans hX.out hb2)
      replace hb2 := Lib.hid hb2
      go_wp2
      go_ret
      exact ⟨by rw [hr.out]; rfl, hfin.out⟩
set_option maxRecDepth 100000 in
set_option maxHeartbeats 2000000 in
theorem Shares_any (A Aw : Option Addr) (c cw : Nat) (l : List Int) (e : Int) (D : List Rt) (w : World) (h : Row w w.heap.size A l) (hw : Rts w w.heap.size Aw D) (hD : D.length ≤ 40) :
    Calls Try.prog 26 #[.slice A l.length c, .int .i64 e, .slice Aw D.length cw] w fun r w' => r = .returned (.tuple #[.bool (shaB l e D), .int .i64 (errA l e D)]) ∧ Below w.heap.size w w' := by
  unfold shaB
  by_cases hk : okA l e D
  · rw [if_pos hk, errA_ok hk]
    have k1 := cAwards_ok A Aw c cw l e D w h hw hk
    have k2 := fun X (hX : Below w.heap.size w X) => isShared_any A Aw c cw l e D X (h.up hX) (hw.up hX) hk
    generalize shB l e D = R at *
    generalize l.length = n at *
    generalize D.length = m at *
    replace k1 := Lib.hid k1
    replace k2 := Lib.hid k2
    replace h := Lib.hid h
    replace hw := Lib.hid hw
    replace hk := Lib.hid hk
    replace hD := Lib.hid hD
    go_enter Try.func26, Try.ntmps26
    go_wp2_with fail
    refine k1.out.mono ?_
    rintro _ X ⟨rfl, hb⟩
    have kk := Lib.hid (k2.out X hb)
    replace hb := Lib.hid hb
    go_wp2_with fail
    refine kk.out.mono ?_
    rintro _ X2 ⟨rfl, hb2⟩
    have hfin := Lib.hid (bel_trans hb.out hb2)
    replace hb2 := Lib.hid hb2
    go_wp2
    go_ret2
    exact ⟨rfl, hfin.out⟩
  · rw [if_neg hk]
    have k1 := cAwards_bad A Aw c cw l e D w h hw hD hk
    have hne : errA l e D ≠ 0 := by
      unfold errA
      by_cases hE : okE l e
      · rw [if_pos hE, if_neg (fun hh => hk ⟨hE, hh⟩)]; decide
      · rw [if_neg hE]; have := errC_ne hE; omega
    generalize errA l e D = E at *
    generalize l.length = n at *
    generalize D.length = m at *
    have hn : (E != 0) = true := by simpa using hne
    replace k1 := Lib.hid k1
    replace h := Lib.hid h
    replace hw := Lib.hid hw
    replace hk := Lib.hid hk
    replace hne := Lib.hid hne
    replace hD := Lib.hid hD
    go_enter Try.func26, Try.ntmps26
    go_wp2_with fail
    refine k1.out.mono ?_
    rintro _ X ⟨rfl, hb⟩
    replace hb := Lib.hid hb
    go_wp2
    go_ret2
    exact ⟨rfl, hb.out⟩
end Go.Proofs.Ythleekdkbgnabaa
