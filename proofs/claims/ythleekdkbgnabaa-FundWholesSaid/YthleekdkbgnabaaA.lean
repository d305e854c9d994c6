/-
  The greatest common divisor, ratios in lowest terms, by program and specification; which claims may be given.
-/
import Derived.Test.YthleekdkbgnabaaData
namespace Go.Proofs.Ythleekdkbgnabaa
open Go.RowKit Go.Deep M
set_option linter.unusedVariables false
set_option linter.unusedSimpArgs false

theorem gcd_step (a b : Nat) : Nat.gcd a b = Nat.gcd b (a % b) := by rw [Nat.gcd_comm, Nat.gcd_rec, Nat.gcd_comm]

set_option maxHeartbeats 1000000 in
theorem divisor_any (a b : Nat) (w : World) (ha : a ≤ 1000000000000000000) (hb : b ≤ 1000000000000000000) : Calls Try.prog 98 #[.int .i64 a, .int .i64 b] w fun e w' => e = .returned (.int .i64 (Nat.gcd a b : Nat)) ∧ ∃ n, w' = w.drewN n := by
  obtain ⟨L, hL⟩ : ∃ L : Nat, L = 1000000000000000000 := ⟨_, rfl⟩
  rw [← hL] at ha hb
  have hL9 : L ≤ 9223372036854775807 := by omega
  clear hL
  obtain ⟨g, hg⟩ : ∃ g, Nat.gcd a b = g := ⟨_, rfl⟩
  rw [hg]
  go_enter Try.func98, Try.ntmps98
  go_wp2
  go_loopw [0, 1] (fun x y wr => ∃ i j n : Nat, x = .int .i64 i ∧ y = .int .i64 j ∧ i ≤ L ∧ j ≤ L ∧ Nat.gcd i j = g ∧ wr = w.drewN n) (fun _ y _ => (intOf y).toNat)
  case atStart => exact ⟨a, b, 0, rfl, rfl, ha, hb, hg, rfl⟩
  case round =>
    obtain ⟨i, j, n, rfl, rfl, hi, hj, hgg, hw⟩ := hrel
    replace hw := Lib.hid hw
    by_cases h0 : j = 0
    · subst h0
      rw [Nat.gcd_zero_right] at hgg
      subst hgg
      have h0' : (((0 : Nat) : Int) != 0) = false := by simp
      go_wp2
      go_ret
      exact ⟨rfl, n, hw.out⟩
    · have h0' : ((j : Int) != 0) = true := by simp; omega
      have h1 : ¬ ((j : Int) = 0) := by omega
      have h2 : (1 : Int) ≤ (j : Int) := by omega
      have hm : i % j < j := Nat.mod_lt _ (by omega)
      have hgg' := Lib.hid ((gcd_step i j).symm.trans hgg)
      have he : ((i : Int)).tmod (j : Int) = ((i % j : Nat) : Int) := rfl
      clear hgg
      go_wp2_with fail
      go_quiet (fail)
      go_wp2
      try rw [he]
      go_roundw
      case rel => exact ⟨j, i % j, n + nq, rfl, rfl, hj, by omega, hgg'.out, by rw [hw.out, World.drewN_drewN]⟩
      case measure => simp [intOf]; omega

set_option maxRecDepth 100000 in
set_option maxHeartbeats 1000000 in
theorem gcd_ref (a : Int) (b : Nat) (w : World) (ha : a.natAbs ≤ 1000000000000000000) (hb : b ≤ 1000000000000000000) : Calls Try.prog 99 #[.int .i64 a, .int .i64 b] w fun e w' => e = .returned (.int .i64 (Nat.gcd a.natAbs b : Nat)) ∧ ∃ n, w' = w.drewN n := by
  obtain ⟨L, hL⟩ : ∃ L : Nat, L = 1000000000000000000 := ⟨_, rfl⟩
  rw [← hL] at ha hb
  have hL9 : L ≤ 9223372036854775807 := by omega
  clear hL
  obtain ⟨g, hg⟩ : ∃ g, Nat.gcd a.natAbs b = g := ⟨_, rfl⟩
  rw [hg]
  obtain ⟨c, hc⟩ : ∃ c, c = a.natAbs := ⟨_, rfl⟩
  rw [← hc] at ha hg
  by_cases hneg : a < 0
  · have e1 := Lib.hid (show -a = (c : Int) by omega)
    have ha9 : -(L : Int) ≤ a := by omega
    have hc := Lib.hid hc
    go_enter Try.func99, Try.ntmps99
    go_wp2
    go_loopw [0, 1] (fun x y wr => ∃ i j n : Nat, x = .int .i64 i ∧ y = .int .i64 j ∧ i ≤ L ∧ j ≤ L ∧ Nat.gcd i j = g ∧ wr = w.drewN n) (fun _ y _ => (intOf y).toNat)
    case atStart => exact ⟨c, b, 0, by rw [e1.out], rfl, ha, hb, hg, rfl⟩
    case round =>
      obtain ⟨i, j, n, rfl, rfl, hi, hj, hgg, hw⟩ := hrel
      replace hw := Lib.hid hw
      by_cases h0 : j = 0
      · subst h0
        rw [Nat.gcd_zero_right] at hgg
        subst hgg
        have h0' : (((0 : Nat) : Int) != 0) = false := by simp
        go_wp2
        go_ret
        exact ⟨rfl, n, hw.out⟩
      · have h0' : ((j : Int) != 0) = true := by simp; omega
        have h1 : ¬ ((j : Int) = 0) := by omega
        have h2 : (1 : Int) ≤ (j : Int) := by omega
        have hm : i % j < j := Nat.mod_lt _ (by omega)
        have hgg' := Lib.hid ((gcd_step i j).symm.trans hgg)
        have he : ((i : Int)).tmod (j : Int) = ((i % j : Nat) : Int) := rfl
        clear hgg
        go_wp2_with fail
        go_quiet (fail)
        go_wp2
        try rw [he]
        go_roundw
        case rel => exact ⟨j, i % j, n + nq, rfl, rfl, hj, by omega, hgg'.out, by rw [hw.out, World.drewN_drewN]⟩
        case measure => simp [intOf]; omega
  · have e1 := Lib.hid (show a = (c : Int) by omega)
    have ha9 : a ≤ (L : Int) := by omega
    have hc := Lib.hid hc
    go_enter Try.func99, Try.ntmps99
    go_wp2
    go_loopw [0, 1] (fun x y wr => ∃ i j n : Nat, x = .int .i64 i ∧ y = .int .i64 j ∧ i ≤ L ∧ j ≤ L ∧ Nat.gcd i j = g ∧ wr = w.drewN n) (fun _ y _ => (intOf y).toNat)
    case atStart => exact ⟨c, b, 0, by rw [e1.out], rfl, ha, hb, hg, rfl⟩
    case round =>
      obtain ⟨i, j, n, rfl, rfl, hi, hj, hgg, hw⟩ := hrel
      replace hw := Lib.hid hw
      by_cases h0 : j = 0
      · subst h0
        rw [Nat.gcd_zero_right] at hgg
        subst hgg
        have h0' : (((0 : Nat) : Int) != 0) = false := by simp
        go_wp2
        go_ret
        exact ⟨rfl, n, hw.out⟩
      · have h0' : ((j : Int) != 0) = true := by simp; omega
        have h1 : ¬ ((j : Int) = 0) := by omega
        have h2 : (1 : Int) ≤ (j : Int) := by omega
        have hm : i % j < j := Nat.mod_lt _ (by omega)
        have hgg' := Lib.hid ((gcd_step i j).symm.trans hgg)
        have he : ((i : Int)).tmod (j : Int) = ((i % j : Nat) : Int) := rfl
        clear hgg
        go_wp2_with fail
        go_quiet (fail)
        go_wp2
        try rw [he]
        go_roundw
        case rel => exact ⟨j, i % j, n + nq, rfl, rfl, hj, by omega, hgg'.out, by rw [hw.out, World.drewN_drewN]⟩
        case measure => simp [intOf]; omega

set_option maxRecDepth 100000 in
set_option maxHeartbeats 2000000 in
theorem ratio_any (n d : Int) (w : World) (hn : -1000000000000000000 ≤ n ∧ n ≤ 1000000000000000000) (hd : 1 ≤ d ∧ d ≤ 1000000000000000000) :
    Calls Try.prog 70 #[.int .i64 n, .int .i64 d] w fun e w' => e = .returned (rtV (mk n d)) ∧ Below w.heap.size w w' := by
  have hg1 := gcd_pos (n := n) hd.1
  have hgl := gcd_le (n := n) hd.1
  obtain ⟨t1, t2⟩ := mk_tdiv n d
  have hb1 := mk_nb (n := n) hd.1 hn
  have hb2 := mk_pos (n := n) hd.1
  have hb3 := mk_dle (n := n) hd.1
  have hge : Nat.gcd n.natAbs d.toNat = Int.gcd n d := by
    unfold Int.gcd; congr 1; omega
  have k98 := fun X => divisor_any n.natAbs d.toNat X (by omega) (by omega)
  rw [hge] at k98
  have hdn : (d.toNat : Int) = d := by omega
  rw [hdn] at k98
  have hna : ∃ m : Int, m = (n.natAbs : Int) ∧ (n < -n ∧ m = -n ∨ ¬ n < -n ∧ m = n) := ⟨n.natAbs, rfl, by omega⟩
  obtain ⟨m, hm, hcase⟩ := hna
  rw [← hm] at k98
  have hr := Bxr.new w 0 0
  have hb0 := ba1 w (.cells #[.int .i64 0, .int .i64 0] 37)
  unfold rtV
  generalize mk n d = q at *
  obtain ⟨N, D⟩ := q
  simp only at *
  generalize Int.gcd n d = g at *
  have g1 : ¬ ((g : Int) = 0) := by omega
  have g2 : ¬ (g = 0) := by omega
  have g3 : (1 : Int) ≤ (g : Int) := by omega
  obtain ⟨L, hL⟩ : ∃ L : Int, L = 1000000000000000000 := ⟨_, rfl⟩
  rw [← hL] at hn hd hb1
  have hL9 : L ≤ 9000000000000000000 := by omega
  replace hL := Lib.hid hL
  obtain ⟨hn1, hn2⟩ := hn
  obtain ⟨hd1, hd2⟩ := hd
  have hw1 : IntKind.i64.wrap (-n) = -n := IntWalk.i64_in _ (by omega)
  have hw2 : IntKind.i64.wrap N = N := IntWalk.i64_in _ (by omega)
  have hw3 : IntKind.i64.wrap D = D := IntWalk.i64_in _ (by omega)
  obtain ⟨Y, hY⟩ : ∃ Y, Y = w.alloc (.cells #[.int .i64 0, .int .i64 0] 37) := ⟨_, rfl⟩
  rw [← hY] at hr hb0
  have kk := Lib.hid (k98 Y)
  clear k98
  replace hY := Lib.hid hY
  replace hge := Lib.hid hge
  replace hdn := Lib.hid hdn
  replace hm := Lib.hid hm
  replace hr := Lib.hid hr
  replace hb0 := Lib.hid hb0
  replace hgl := Lib.hid hgl
  rcases hcase with ⟨hlt, rfl⟩ | ⟨hlt, rfl⟩
  all_goals
    go_enter Try.func70, Try.ntmps70
    go_wp2_with fail
    rw [← hY.out]
    refine kk.out.mono ?_
    rintro e X ⟨rfl, n0, hX⟩
    have hrX : Bxr X w.heap.size 0 0 := by rw [hX]; exact hr.out.to rfl
    have hbX : Below w.heap.size w X := by rw [hX]; exact below_drewN hb0.out n0
    clear hX
    have r0 := hrX.c0
    have r1 := hrX.c1
    have f0 := hrX.fz 0
    have f1 := hrX.fz 1
    have rl := hrX.lt
    have y := hrX.set N D
    have y0 := y.c0
    have y1 := y.c1
    have hend := Lib.hid (below_drewN (set2_below hbX (Nat.le_refl w.heap.size) (.int .i64 N) (.int .i64 D)) 1)
    replace y := Lib.hid y
    replace hrX := Lib.hid hrX
    replace hbX := Lib.hid hbX
    go_wp2_with fail
    go_region
    all_goals
      go_wp2
      exact bodyPost_ret (v := .agg #[.int .i64 N, .int .i64 D]) (by simp [results, Try.results70, go_sem, y0, y1]) rfl ⟨rfl, hend.out⟩
end Go.Proofs.Ythleekdkbgnabaa
