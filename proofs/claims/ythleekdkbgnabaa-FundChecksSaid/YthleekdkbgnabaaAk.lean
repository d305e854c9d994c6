/-
  Which lists are awards, do they share the estate: the specification's functions.
-/
import Derived.Test.YthleekdkbgnabaaAj
namespace Go.Proofs.Ythleekdkbgnabaa
open Go.RowKit Go.Deep M
set_option linter.unusedVariables false
set_option linter.unusedSimpArgs false

set_option maxRecDepth 100000 in
set_option maxHeartbeats 4000000 in
theorem AreAw_any (A Aw : Option Addr) (c cw : Nat) (l : List Int) (D : List Rt) (w : World) (hw : Rts w w.heap.size Aw D) (hn : l.length ≤ 40) (hD : D.length ≤ 40) :
    Calls Try.prog 63 #[.slice A l.length c, .slice Aw D.length cw] w fun r w' => r = .returned (.bool (decide (isA l D))) ∧ w' = w := by
  have hwt := fun k (hk : k < D.length) => hw.at_ k hk
  have hsu := fun k => @okw_succ D k
  have hz := okw_zero D
  have hno := fun k (hk : k < D.length) (hb : ¬ okW (rt D k)) => (show decide (isA l D) = false from decide_eq_false fun hh => hb (hh.2 k hk))
  have hend := fun (k : Nat) (hk : Okw D k) (hs : D.length ≤ k ∨ l.length < k) => (show decide (isA l D) = ((D.length : Int) == (l.length : Int)) by
    rw [Bool.eq_iff_iff, decide_eq_true_eq, beq_iff_eq]
    constructor
    · intro hh; have := hh.1; omega
    · intro hh
      have e : D.length = l.length := by omega
      exact ⟨e, fun i hi => hk i (by omega)⟩)
  have kn := fun (x : Int) X => within_any (-1000000000) x 1000000000 X
  have kd := fun (x : Int) X => within_any 1 x 1000000 X
  have how : ∀ k, okW (rt D k) ↔ (-1000000000 ≤ (rt D k).n ∧ (rt D k).n ≤ 1000000000) ∧ 1 ≤ (rt D k).d ∧ (rt D k).d ≤ 1000000 := fun k => Iff.rfl
  generalize decide (isA l D) = R at *
  generalize l.length = n at *
  generalize D.length = m at *
  replace hwt := Lib.hid hwt
  replace hsu := Lib.hid hsu
  replace hz := Lib.hid hz
  replace hno := Lib.hid hno
  replace hend := Lib.hid hend
  replace kn := Lib.hid kn
  replace kd := Lib.hid kd
  replace how := Lib.hid how
  replace hw := Lib.hid hw
  go_enter Try.func63, Try.ntmps63
  go_wp2
  go_loop [5] (fun i => ∃ k : Nat, k ≤ m ∧ i = .int .i64 (k : Nat) ∧ Okw D k) (fun i => m - (intOf i).toNat)
  case atStart => exact ⟨0, by omega, rfl, hz.out⟩
  case round =>
    obtain ⟨k, hkm, rfl, hO⟩ := hrel
    by_cases hk : k < m
    · have hk2 : (k : Int) < (m : Int) := by omega
      by_cases hkn : k ≤ n
      · have hkn2 : (k : Int) ≤ (n : Int) := by omega
        obtain ⟨b, o, rfl, _, e0, e1⟩ := hwt.out k hk
        have c1 := kn.out (rt D k).n
        have c2 := kd.out (rt D k).d
        have hw1 := how.out k
        by_cases h1 : -1000000000 ≤ (rt D k).n ∧ (rt D k).n ≤ 1000000000
        · rw [decide_eq_true h1] at c1
          by_cases h2 : 1 ≤ (rt D k).d ∧ (rt D k).d ≤ 1000000
          · rw [decide_eq_true h2] at c2
            have hO2 := Lib.hid (hsu.out k hO (hw1.2 ⟨h1, h2⟩))
            replace h1 := Lib.hid h1
            replace h2 := Lib.hid h2
            replace hw1 := Lib.hid hw1
            replace c1 := Lib.hid c1
            replace c2 := Lib.hid c2
            replace hO := Lib.hid hO
            go_wp2_with fail
            refine (c1.out _).mono ?_
            rintro _ _ ⟨rfl, rfl⟩
            go_wp2_with fail
            refine (c2.out _).mono ?_
            rintro _ _ ⟨rfl, rfl⟩
            go_wp2
            go_round
            case rel => exact ⟨k + 1, by omega, by simp, hO2.out⟩
            case measure => simp [intOf]; omega
          · rw [decide_eq_false h2] at c2
            have hr := Lib.hid (hno.out k hk (fun hh => h2 (hw1.1 hh).2))
            replace h1 := Lib.hid h1
            replace h2 := Lib.hid h2
            replace hw1 := Lib.hid hw1
            replace c1 := Lib.hid c1
            replace c2 := Lib.hid c2
            replace hO := Lib.hid hO
            go_wp2_with fail
            refine (c1.out _).mono ?_
            rintro _ _ ⟨rfl, rfl⟩
            go_wp2_with fail
            refine (c2.out _).mono ?_
            rintro _ _ ⟨rfl, rfl⟩
            go_wp2
            go_ret
            exact ⟨by rw [hr.out]; rfl, rfl⟩
        · rw [decide_eq_false h1] at c1
          have hr := Lib.hid (hno.out k hk (fun hh => h1 (hw1.1 hh).1))
          replace h1 := Lib.hid h1
          replace hw1 := Lib.hid hw1
          replace c1 := Lib.hid c1
          replace c2 := Lib.hid c2
          replace hO := Lib.hid hO
          go_wp2_with fail
          refine (c1.out _).mono ?_
          rintro _ _ ⟨rfl, rfl⟩
          go_wp2
          go_ret
          exact ⟨by rw [hr.out]; rfl, rfl⟩
      · have hr := Lib.hid (hend.out k hO (.inr (by omega)))
        have hkn2 : ¬ (k : Int) ≤ (n : Int) := by omega
        have hne : ((m : Int) == (n : Int)) = false := by simp; omega
        replace hO := Lib.hid hO
        go_wp2
        go_ret
        exact ⟨by rw [hr.out, hne]; rfl, rfl⟩
    · have hr := Lib.hid (hend.out k hO (.inl (by omega)))
      have hk2 : ¬ (k : Int) < (m : Int) := by omega
      replace hO := Lib.hid hO
      go_wp2
      go_ret
      exact ⟨by rw [hr.out]; rfl, rfl⟩

set_option maxRecDepth 100000 in
set_option maxHeartbeats 4000000 in
theorem sharesR_any (A Aw : Option Addr) (c cw : Nat) (l : List Int) (e : Int) (D : List Rt) (w : World) (h : Row w w.heap.size A l) (hw : Rts w w.heap.size Aw D) (hk : okA l e D) :
    Calls Try.prog 64 #[.slice A l.length c, .int .i64 e, .slice Aw D.length cw] w fun r w' => r = .returned (.bool (shB l e D)) ∧ Below w.heap.size w w' := by
  have hlen := hk.2.1
  have hn := val_len hk.1.1
  have hsm := sm_b hk.1.1
  have he : 0 ≤ e ∧ e ≤ 8000 := by have := hk.1.2; omega
  have hat := fun X (hX : Below w.heap.size w X) k (hk : k < l.length) => (h.below hX).at_ k hk
  have hwt := fun X (hX : Below w.heap.size w X) k (hk : k < l.length) => (hw.below hX).at_ k (show k < D.length by omega)
  have hx := fun k (hkl : k < l.length) => hk.1.1.2 k hkl
  have hy := fun k (hkl : k < l.length) => hk.2.2 k (show k < D.length by omega)
  have hsu := fun k => @bwA_succ l D k
  have hex := fun k (hk : k < l.length) => @bwA_ex l D k (show k < D.length by omega)
  have hz := bwA_zero l D
  have hno : ¬ bwA l D D.length → shB l e D = false := fun hh => by unfold shB; rw [decide_eq_false hh]; rfl
  have hyes : bwA l D D.length → shB l e D = addsB D e.toNat := fun hh => by unfold shB; rw [decide_eq_true hh]; rfl
  have kA := fun X (hX : Below w.heap.size w X) (hb : bwA l D D.length) => addsUp_any Aw cw D e.toNat X ((hw.below hX).more hX.size) (by omega) (fun i hi => awG_of (hx i (by omega)) (hk.2.2 i hi) (hb i hi)) (by omega)
  have kw := fun (p q : Int) X => within_any 0 p q X
  have hce : ((e.toNat : Nat) : Int) = e := by omega
  rw [hce] at kA
  have hb0 := Below.refl w.heap.size w
  generalize addsB D e.toNat = R at *
  generalize shB l e D = R' at *
  rw [hlen] at hno hyes kA hex ⊢
  generalize l.length = n at *
  replace hlen := Lib.hid hlen
  replace hce := Lib.hid hce
  replace hsm := Lib.hid hsm
  replace hat := Lib.hid hat
  replace hwt := Lib.hid hwt
  replace hx := Lib.hid hx
  replace hy := Lib.hid hy
  replace hsu := Lib.hid hsu
  replace hex := Lib.hid hex
  replace hz := Lib.hid hz
  replace hno := Lib.hid hno
  replace hyes := Lib.hid hyes
  replace kA := Lib.hid kA
  replace kw := Lib.hid kw
  replace h := Lib.hid h
  replace hw := Lib.hid hw
  replace hk := Lib.hid hk
  replace hb0 := Lib.hid hb0
  replace he := Lib.hid he
  obtain ⟨hn1, hn8⟩ := hn
  go_enter Try.func64, Try.ntmps64
  go_wp2
  go_loopw [7] (fun i wr => ∃ k : Nat, k ≤ n ∧ i = .int .i64 (k : Nat) ∧ bwA l D k ∧ Below w.heap.size w wr) (fun i _ => n - (intOf i).toNat)
  case atStart => exact ⟨0, by omega, rfl, hz.out, hb0.out⟩
  case round =>
    clear hb0
    obtain ⟨k, hkk, rfl, hO, hX⟩ := hrel
    by_cases hkn : k < n
    · have hkn2 : (k : Int) < (n : Int) := by omega
      obtain ⟨bw, ow, rfl, _, e0, e1⟩ := hwt.out wr hX k hkn
      obtain ⟨bw', ow', he', _, e2, e3⟩ := hwt.out wr.drew (below_drewN hX 1) k hkn
      cases he'
      obtain ⟨ba, oa, rfl, _, a0⟩ := hat.out wr hX k hkn
      obtain ⟨ba', oa', he', _, a1⟩ := hat.out wr.drew (below_drewN hX 1) k hkn
      cases he'
      have hxk := hx.out k hkn
      have hyk := hy.out k hkn
      have hs := hsu.out k hO
      have hex2 := hex.out k hkn
      unfold okC at hxk
      unfold okW at hyk
      have hXd := Lib.hid (fun N => below_drewN hX N)
      generalize (rt D k).n = p at *
      generalize (rt D k).d = q at *
      generalize el l k = x at *
      have pb := prod_b (a := x) (b := q) (x := 1000) (y := 1000000) (by omega) (by omega) (by omega)
      obtain ⟨pm, hpm⟩ : ∃ z, z = x * q := ⟨_, rfl⟩
      rw [← hpm] at pb hs hex2
      have w1 : IntKind.i64.wrap (x * q) = pm := by rw [← hpm]; exact IntWalk.i64_in _ (by omega)
      have kk := kw.out p pm
      replace hpm := Lib.hid hpm
      replace hX := Lib.hid hX
      replace hO := Lib.hid hO
      by_cases h1 : 0 ≤ p ∧ p ≤ pm
      · rw [decide_eq_true h1] at kk
        have hr := Lib.hid (hs h1)
        replace hs := Lib.hid hs
        replace hex2 := Lib.hid hex2
        replace kk := Lib.hid kk
        replace h1 := Lib.hid h1
        go_wp2_with fail
        go_quiet (first | (go_at_call 60; exact Calls.quiet_of_same (kk.out _)))
        go_wp2
        go_roundw
        case rel => exact ⟨k + 1, by omega, by simp, hr.out, hXd.out _⟩
        case measure => simp [intOf]; omega
      · rw [decide_eq_false h1] at kk
        have hr := Lib.hid (hno.out (hex2 h1))
        replace hs := Lib.hid hs
        replace hex2 := Lib.hid hex2
        replace kk := Lib.hid kk
        replace h1 := Lib.hid h1
        go_wp2_with fail
        go_quiet (first | (go_at_call 60; exact Calls.quiet_of_same (kk.out _)))
        go_wp2
        go_ret
        exact ⟨by rw [hr.out]; rfl, hXd.out _⟩
    · have : n = k := by omega
      subst this
      have k92 := kA.out wr hX hO
      have hr := Lib.hid (hyes.out hO)
      replace k92 := Lib.hid k92
      replace hX := Lib.hid hX
      replace hO := Lib.hid hO
      go_wp2_with fail
      refine k92.out.mono ?_
      rintro _ X2 ⟨rfl, hb2⟩
      have hfin := Lib.hid (bel_trans hX.out hb2)
      replace hb2 := Lib.hid hb2
      go_wp2
      go_ret
      exact ⟨by rw [hr.out]; rfl, hfin.out⟩

set_option maxRecDepth 100000 in
set_option maxHeartbeats 2000000 in
theorem SharesR_any (A Aw : Option Addr) (c cw : Nat) (l : List Int) (e : Int) (D : List Rt) (w : World) (h : Row w w.heap.size A l) (hw : Rts w w.heap.size Aw D) (hl : l.length ≤ 40) (hD : D.length ≤ 40) :
    Calls Try.prog 27 #[.slice A l.length c, .int .i64 e, .slice Aw D.length cw] w fun r w' => r = .returned (.tuple #[.bool (shaB l e D), .int .i64 (errA l e D)]) ∧ Below w.heap.size w w' := by
  have hbw := Lib.hid (Below.refl w.heap.size w)
  have k1 := asked_any w.heap.size A c l e w h
  have k2 := AreAw_any A Aw c cw l D w hw hl hD
  unfold shaB errA
  by_cases hE : okE l e
  · rw [errC_ok hE] at k1
    rw [if_pos hE]
    by_cases hA : isA l D
    · have hk : okA l e D := ⟨hE, hA⟩
      rw [if_pos hk, if_pos hA]
      rw [decide_eq_true hA] at k2
      have k3 := sharesR_any A Aw c cw l e D w h hw hk
      generalize shB l e D = R at *
      generalize l.length = n at *
      generalize D.length = m at *
      replace k1 := Lib.hid k1
      replace k2 := Lib.hid k2
      replace k3 := Lib.hid k3
      replace h := Lib.hid h
      replace hw := Lib.hid hw
      replace hk := Lib.hid hk
      replace hA := Lib.hid hA
      replace hE := Lib.hid hE
      go_enter Try.func27, Try.ntmps27
      go_wp2_with fail
      refine k1.out.mono ?_
      rintro _ X ⟨rfl, rfl⟩
      go_wp2_with fail
      refine k2.out.mono ?_
      rintro _ X ⟨rfl, rfl⟩
      go_wp2_with fail
      refine k3.out.mono ?_
      rintro _ X2 ⟨rfl, hb2⟩
      replace hb2 := Lib.hid hb2
      go_wp2
      go_ret2
      exact ⟨rfl, hb2.out⟩
    · have hk : ¬ okA l e D := fun hh => hA hh.2
      rw [if_neg hk, if_neg hA]
      rw [decide_eq_false hA] at k2
      generalize l.length = n at *
      generalize D.length = m at *
      replace k1 := Lib.hid k1
      replace k2 := Lib.hid k2
      replace h := Lib.hid h
      replace hw := Lib.hid hw
      replace hk := Lib.hid hk
      replace hA := Lib.hid hA
      replace hE := Lib.hid hE
      go_enter Try.func27, Try.ntmps27
      go_wp2_with fail
      refine k1.out.mono ?_
      rintro _ X ⟨rfl, rfl⟩
      go_wp2_with fail
      refine k2.out.mono ?_
      rintro _ X ⟨rfl, rfl⟩
      go_wp2
      go_ret2
      exact ⟨rfl, hbw.out⟩
  · have hk : ¬ okA l e D := fun hh => hE hh.1
    rw [if_neg hk, if_neg hE]
    have hne := errC_ne hE
    generalize errC l e = E at *
    generalize l.length = n at *
    generalize D.length = m at *
    have hn1 : (E != 0) = true := by simp; omega
    have hn2 : (E == 0) = false := by simp; omega
    replace k1 := Lib.hid k1
    replace k2 := Lib.hid k2
    replace h := Lib.hid h
    replace hw := Lib.hid hw
    replace hk := Lib.hid hk
    replace hE := Lib.hid hE
    replace hne := Lib.hid hne
    go_enter Try.func27, Try.ntmps27
    go_wp2_with fail
    refine k1.out.mono ?_
    rintro _ X ⟨rfl, rfl⟩
    go_wp2
    go_ret2
    exact ⟨rfl, hbw.out⟩
end Go.Proofs.Ythleekdkbgnabaa
