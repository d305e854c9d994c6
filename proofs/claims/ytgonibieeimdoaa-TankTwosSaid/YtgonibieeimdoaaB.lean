/-
  The measure, by the program and by the specification; the first error of tanks and levels; the sanity check of every statement.
-/
import Derived.Test.YtgonibieeimdoaaA
import Derived.Test.YtgonibieeimdoaaMathB
namespace Go.Proofs.Ytgonibieeimdoaa
open Go.RowKit Go.Deep M
set_option linter.unusedVariables false
set_option linter.unusedSimpArgs false

set_option maxHeartbeats 1000000 in
theorem divisor_any (a b : Nat) (w : World) (ha : a ≤ 1000) (hb : b ≤ 1000) : Calls Try.prog 92 #[.int .i64 a, .int .i64 b] w fun e w' => e = .returned (.int .i64 (Nat.gcd a b : Nat)) ∧ ∃ n, w' = w.drewN n := by
  obtain ⟨g, hg⟩ : ∃ g, Nat.gcd a b = g := ⟨_, rfl⟩
  rw [hg]
  go_enter Try.func92, Try.ntmps92
  go_wp2
  go_loopw [0, 1] (fun x y wr => ∃ i j n : Nat, x = .int .i64 i ∧ y = .int .i64 j ∧ i ≤ 1000 ∧ j ≤ 1000 ∧ Nat.gcd i j = g ∧ wr = w.drewN n) (fun _ y _ => (intOf y).toNat)
  case atStart => exact ⟨a, b, 0, rfl, rfl, ha, hb, hg, rfl⟩
  case round =>
    obtain ⟨i, j, n, rfl, rfl, hi, hj, hgg, hw⟩ := hrel
    replace hw := Lib.hid hw
    by_cases h0 : j = 0
    · subst h0
      rw [Nat.gcd_zero_right] at hgg
      subst hgg
      have h0' : (((0 : Nat) : Int) != 0) = false := by simp
      go_wp2
      go_ret
      exact ⟨rfl, n, hw.out⟩
    · have h0' : ((j : Int) != 0) = true := by simp; omega
      have h1 : ¬ ((j : Int) = 0) := by omega
      have h2 : (1 : Int) ≤ (j : Int) := by omega
      have hm : i % j < j := Nat.mod_lt _ (by omega)
      have hgg' := Lib.hid ((gcd_step i j).symm.trans hgg)
      have he : ((i : Int)).tmod (j : Int) = ((i % j : Nat) : Int) := rfl
      clear hgg
      go_wp2_with fail
      go_quiet (fail)
      go_wp2
      try rw [he]
      go_roundw
      case rel => exact ⟨j, i % j, n + nq, rfl, rfl, hj, by omega, hgg'.out, by rw [hw.out, World.drewN_drewN]⟩
      case measure => simp [intOf]; omega

set_option maxHeartbeats 1000000 in
theorem measure_any (B : Nat) (A : Option Addr) (c : Nat) (t : List Int) (w : World) (h : Row w B A t) (hv : vT t) :
    Calls Try.prog 65 #[.slice A t.length c] w fun e w' => e = .returned (.int .i64 (meas t : Nat)) ∧ ∃ n, w' = w.drewN n := by
  have h63 := h.1
  go_enter Try.func65, Try.ntmps65
  go_wp2
  go_loopw [3, 8] (fun x i wr => ∃ k n : Nat, k ≤ t.length ∧ i = .int .i64 k ∧ x = .int .i64 (gN t k : Nat) ∧ wr = w.drewN n) (fun _ i _ => t.length - (intOf i).toNat)
  case atStart => exact ⟨0, 0, Nat.zero_le _, rfl, rfl, rfl⟩
  case round =>
    obtain ⟨k, n, hk, rfl, rfl, hw⟩ := hrel
    have hr : Row wr B A t := h.keep fun p _ => by rw [hw]; rfl
    replace hw := Lib.hid hw
    have hgb := gN_b hv.2 k hk
    have hgs := gN_succ t k
    by_cases hlt : k < t.length
    · obtain ⟨b, o, rfl, hb, hc⟩ := hr.at_ k hlt
      have hel := hv.2 k hlt
      obtain ⟨z, hz⟩ : ∃ z : Nat, el t k = (z : Int) := Int.eq_ofNat_of_zero_le (by omega)
      rw [hz] at hel hc hgs
      rw [Int.toNat_natCast] at hgs
      have hd := Lib.hid (divisor_any (gN t k) z wr (by omega) (by omega))
      replace hgs := Lib.hid hgs
      generalize gN t k = g at *
      go_wp2_with fail
      refine hd.out.mono ?_
      rintro e w1 ⟨rfl, m, rfl⟩
      go_wp2
      go_roundw
      case rel => exact ⟨k + 1, n + m, by omega, by go_num, by rw [hgs.out], by rw [hw.out, World.drewN_drewN]⟩
      case measure => simp [intOf]; omega
    · have hk' : k = t.length := by omega
      subst hk'
      go_wp2
      go_ret
      exact ⟨rfl, n, hw.out⟩

set_option maxHeartbeats 2000000 in
theorem measure_ref (B : Nat) (A : Option Addr) (c : Nat) (t : List Int) (w : World) (h : Row w B A t) (hv : vT t) :
    Calls Try.prog 66 #[.slice A t.length c] w fun e w' => e = .returned (.int .i64 (meas t : Nat)) ∧ w = w' := by
  have h63 := h.1
  have hbm := Lib.hid (best_meas hv)
  go_enter Try.func66, Try.ntmps66
  go_wp2
  go_loop [3, 4] (fun x i => ∃ m M : Nat, 1 ≤ m ∧ m ≤ 12 ∧ M = m + 1 ∧ i = .int .i64 (M : Int) ∧ x = .int .i64 (bestN t m : Nat)) (fun _ i => 13 - (intOf i).toNat)
  case atStart => exact ⟨1, 2, by omega, by omega, rfl, rfl, rfl⟩
  case round =>
    obtain ⟨m, M, h1, h12, hM, rfl, rfl⟩ := hrel
    have hbb := bestN_b t m h1
    have hbs := Lib.hid (bestN_succ t m h1)
    by_cases hlt : m < 12
    · have hm0 : ¬ (((m + 1 : Nat) : Int) = 0) := by omega
      have hm1 : (1 : Int) ≤ ((m + 1 : Nat) : Int) := by omega
      have hm2 : ((m + 1 : Nat) : Int) ≤ 12 := by omega
      have hm3 : m + 1 ≤ 12 := by omega
      rw [← hM] at hm0 hm1 hm2 hm3 hbs
      replace hM := Lib.hid hM
      go_wp2
      go_loop [5, 6] (fun x i => ∃ k : Nat, k ≤ t.length ∧ i = .int .i64 k ∧ x = .bool (adB t (M : Int) k)) (fun _ i => t.length - (intOf i).toNat)
      case atStart => exact ⟨0, Nat.zero_le _, rfl, rfl⟩
      case round =>
        obtain ⟨k, hk, rfl, rfl⟩ := hrel
        have has := adB_succ t (M : Int) k
        by_cases hlt2 : k < t.length
        · obtain ⟨b, o, rfl, hb, hc⟩ := h.at_ k hlt2
          have hel := hv.2 k hlt2
          cases ha : adB t (M : Int) k with
          | false =>
            rw [ha, Bool.false_and] at has
            replace has := Lib.hid has
            go_wp2
            go_round
            case rel => exact ⟨k + 1, by omega, by go_num, by rw [has.out]⟩
            case measure => simp [intOf]; omega
          | true =>
            rw [ha, Bool.true_and] at has
            by_cases hq : (el t k).tmod (M : Int) = 0
            · rw [decide_eq_true hq] at has
              replace has := Lib.hid has
              have hq1 : (el t k % (M : Int) == 0) = true := by rw [Int.tmod_eq_emod_of_nonneg (by omega)] at hq; simpa using hq
              go_wp2
              go_round
              case rel => exact ⟨k + 1, by omega, by go_num, by rw [has.out]⟩
              case measure => simp [intOf]; omega
            · rw [decide_eq_false hq] at has
              replace has := Lib.hid has
              have hq1 : (el t k % (M : Int) == 0) = false := by rw [Int.tmod_eq_emod_of_nonneg (by omega)] at hq; simpa using hq
              go_wp2
              go_round
              case rel => exact ⟨k + 1, by omega, by go_num, by rw [has.out]⟩
              case measure => simp [intOf]; omega
        · have hk' : k = t.length := by omega
          subst hk'
          clear has
          cases ha : adB t (M : Int) t.length with
          | false =>
            rw [ha, if_neg (by simp)] at hbs
            go_wp2
            go_round
            case rel => exact ⟨M, M + 1, by omega, by omega, rfl, by go_num, by rw [hbs.out]⟩
            case measure => simp [intOf]; omega
          | true =>
            rw [ha, if_pos rfl] at hbs
            go_wp2
            go_round
            case rel => exact ⟨M, M + 1, by omega, by omega, rfl, by go_num, by rw [hbs.out]⟩
            case measure => simp [intOf]; omega
    · have hm' : m = 12 := by omega
      subst hm'
      go_wp2
      go_ret
      exact ⟨by rw [hbm.out]; rfl, rfl⟩

set_option maxHeartbeats 1000000 in
theorem checked0_any (B : Nat) (A : Option Addr) (c : Nat) (t : List Int) (w : World) (h : Row w B A t) :
    Calls Try.prog 64 #[.slice A t.length c, .slice none 0 0] w fun e w' => e = .returned (.int .i64 (err0 t)) ∧ w = w' := by
  unfold err0
  have hV := Valid_any B A c t w h
  cases hv : validB t with
  | false =>
    rw [hv] at hV
    replace hV := Lib.hid hV
    go_enter Try.func64, Try.ntmps64
    go_wp2_with fail
    refine hV.out.mono ?_
    rintro e w1 ⟨rfl, rfl⟩
    go_wp2
    go_ret
    exact ⟨rfl, rfl⟩
  | true =>
    rw [hv] at hV
    replace hV := Lib.hid hV
    go_enter Try.func64, Try.ntmps64
    go_wp2_with fail
    refine hV.out.mono ?_
    rintro e w1 ⟨rfl, rfl⟩
    go_wp2
    go_rounds 1
    go_ret
    exact ⟨rfl, rfl⟩

set_option maxHeartbeats 2000000 in
/-- With one list of levels, in a slice of its own. -/
theorem checked1_any (B : Nat) (A A' : Option Addr) (c c' cc : Nat) (t l : List Int) (b0 : Nat) (w : World) (h : Row w B A t) (h' : Row w B A' l) (hc : w.cell? ⟨b0, 0, none⟩ = some (.slice A' l.length c')) :
    Calls Try.prog 64 #[.slice A t.length c, .slice (some ⟨b0, 0, none⟩) 1 cc] w fun e w' => e = .returned (.int .i64 (err1 t l)) ∧ w = w' := by
  unfold err1
  have hV := Valid_any B A c t w h
  have hL := areLevels_any B A A' c c' t l w h h'
  cases hv : validB t with
  | false =>
    rw [hv] at hV
    replace hV := Lib.hid hV
    go_enter Try.func64, Try.ntmps64
    go_wp2_with fail
    refine hV.out.mono ?_
    rintro e w1 ⟨rfl, rfl⟩
    go_wp2
    go_ret
    exact ⟨rfl, rfl⟩
  | true =>
    rw [hv] at hV
    replace hV := Lib.hid hV
    generalize lvlB t l = s at *
    replace hL := Lib.hid hL
    go_enter Try.func64, Try.ntmps64
    go_wp2_with fail
    refine hV.out.mono ?_
    rintro e w1 ⟨rfl, rfl⟩
    go_wp2
    refine wp_loop_rounds 2 ?_
    rw [rounds_succ]
    go_wp2_with fail
    refine hL.out.mono ?_
    rintro e w1 ⟨rfl, rfl⟩
    cases s with
    | false =>
      go_wp2
      go_ret
      exact ⟨rfl, rfl⟩
    | true =>
      go_wp2
      rw [rounds_succ]
      go_wp2
      go_ret
      exact ⟨rfl, rfl⟩

theorem ret_meas {t : List Int} (hv : validB t = true) : measR t = ((meas t : Int), 0) := by unfold measR; rw [hv]; rfl
theorem ret_meas0 {t : List Int} (hv : validB t = false) : measR t = (0, 40) := by unfold measR; rw [hv]; rfl
set_option maxHeartbeats 1000000 in
theorem Measure_any (B : Nat) (A : Option Addr) (c : Nat) (t : List Int) (w : World) (h : Row w B A t) :
    Calls Try.prog 28 #[.slice A t.length c] w fun e w' => e = .returned (.tuple #[.int .i64 (measR t).1, .int .i64 (measR t).2]) ∧ ∃ n, w' = w.drewN n := by
  have hc := checked0_any B A c t w h
  cases hv : validB t with
  | false =>
    rw [ret_meas0 hv]
    unfold err0 at hc
    rw [hv] at hc
    replace hc := Lib.hid hc
    go_enter Try.func28, Try.ntmps28
    go_wp2_with fail
    refine hc.out.mono ?_
    rintro e w1 ⟨rfl, rfl⟩
    go_wp2
    go_ret2
    exact ⟨rfl, 0, rfl⟩
  | true =>
    rw [ret_meas hv]
    have hm := measure_any B A c t w h (val_of hv)
    unfold err0 at hc
    rw [hv] at hc
    generalize meas t = g at *
    replace hc := Lib.hid hc
    replace hm := Lib.hid hm
    go_enter Try.func28, Try.ntmps28
    go_wp2_with fail
    refine hc.out.mono ?_
    rintro e w1 ⟨rfl, rfl⟩
    go_wp2_with fail
    refine hm.out.mono ?_
    rintro e w1 ⟨rfl, n, rfl⟩
    go_wp2
    go_ret2
    exact ⟨rfl, n, rfl⟩
theorem Measure_ref (B : Nat) (A : Option Addr) (c : Nat) (t : List Int) (w : World) (h : Row w B A t) :
    Calls Try.prog 29 #[.slice A t.length c] w fun e w' => e = .returned (.tuple #[.int .i64 (measR t).1, .int .i64 (measR t).2]) ∧ w = w' := by
  have hc := Valid_ref B A c t w h
  cases hv : validB t with
  | false =>
    rw [ret_meas0 hv]
    rw [hv] at hc
    replace hc := Lib.hid hc
    go_enter Try.func29, Try.ntmps29
    go_wp2_with fail
    refine hc.out.mono ?_
    rintro e w1 ⟨rfl, rfl⟩
    go_wp2
    go_ret2
    exact ⟨rfl, rfl⟩
  | true =>
    rw [ret_meas hv]
    have hm := measure_ref B A c t w h (val_of hv)
    rw [hv] at hc
    generalize meas t = g at *
    replace hc := Lib.hid hc
    replace hm := Lib.hid hm
    go_enter Try.func29, Try.ntmps29
    go_wp2_with fail
    refine hc.out.mono ?_
    rintro e w1 ⟨rfl, rfl⟩
    go_wp2_with fail
    refine hm.out.mono ?_
    rintro e w1 ⟨rfl, rfl⟩
    go_wp2
    go_ret2
    exact ⟨rfl, rfl⟩

/-! ### the sanity check -/
theorem row2 (w : World) (a b : Int) : Row (w.alloc (.cells #[.int .i64 a, .int .i64 b] 3)) (w.heap.size + 1) (some ⟨w.heap.size, 0, none⟩) [a, b] :=
  ⟨by simp, fun _ => ⟨w.heap.size, 0, rfl, by omega, fun i hi => by
    have hi : i = 0 ∨ i = 1 := by simp at hi; omega
    rcases hi with rfl | rfl <;> simp [go_sem, el]⟩⟩
theorem v46 : vT [4, 6] := ⟨by simp, fun i hi => by
  have hi : i = 0 ∨ i = 1 := by simp at hi; omega
  rcases hi with rfl | rfl <;> simp [el]⟩
theorem Sane_any (w : World) : Calls Try.prog 18 #[] w fun e w' => e = .returned (.bool true) ∧ Below w.heap.size w w' := by
  have hm := Measure_any (w.heap.size + 1) _ 2 [4, 6] _ (row2 w 4 6)
  rw [ret_meas (val_true v46)] at hm
  have e2 : meas [4, 6] = 2 := by decide +kernel
  rw [e2] at hm
  replace hm := Lib.hid hm
  have hb0 : Below w.heap.size w (w.alloc (.cells #[.int .i64 4, .int .i64 6] 3)) := (Below.refl _ _).alloc (Nat.le_refl _) _
  go_enter Try.func18, Try.ntmps18
  go_wp2_with fail
  refine hm.out.mono ?_
  rintro e w1 ⟨rfl, n, rfl⟩
  go_wp2
  go_ret
  exact ⟨rfl, below_drewN hb0 n⟩
end Go.Proofs.Ytgonibieeimdoaa
