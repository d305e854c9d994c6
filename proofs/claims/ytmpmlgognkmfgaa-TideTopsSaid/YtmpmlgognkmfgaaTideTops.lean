/-
  For every tide, hour and number, the law TideTops returns true: the highest hour and the farthest are attained and nothing exceeds them, and slack comes where the speed is first zero.
  Conditions: none.
-/
import Derived.Test.YtmpmlgognkmfgaaAwake
import Derived.Test.YtmpmlgognkmfgaaOpen
import Derived.Test.YtmpmlgognkmfgaaPeak
namespace Go.Proofs.Ytmpmlgognkmfgaa.lawTideTops
open Go.ChangeShapes Go.WideShapes Go.ChangeAt Go.RowKit Go.Deep Go.Proofs.Ytmpmlgognkmfgaa M
set_option linter.unusedVariables false
set_option linter.unusedSimpArgs false

theorem best_at (F : Nat → Int) (k : Nat) : (best F k).1 ≤ k - 1 ∧ F (best F k).1 = (best F k).2 := by
  induction k with
  | zero => exact ⟨Nat.le_refl _, rfl⟩
  | succ k ih =>
    unfold best
    split
    · exact ⟨Nat.le_refl _, rfl⟩
    · exact ⟨by omega, ih.2⟩
theorem best_max (F : Nat → Int) (k j : Nat) (hj : j < k) : F j ≤ (best F k).2 := by
  induction k with
  | zero => omega
  | succ k ih =>
    unfold best
    by_cases h : j < k
    · have := ih h
      split
      · show F j ≤ F k; omega
      · exact this
    · obtain rfl : j = k := by omega
      split
      · exact Int.le_refl _
      · omega
theorem drf_mod (T : List (List Int)) (t : Int) (m : Nat) : drf T t m = drf T (t % (rnd T : Int)) m := by
  induction m with
  | zero => rfl
  | succ m ih =>
    show sg (spd T) t (m + 1) = sg (spd T) (t % (rnd T : Int)) (m + 1)
    rw [sg_succ, sg_succ, spd_mod T (t + m), spd_mod T (t % (rnd T : Int) + m)]
    have e : (t + (m : Int)) % (rnd T : Int) = (t % (rnd T : Int) + (m : Int)) % (rnd T : Int) := by simp
    rw [e]
    exact congrArg (· + _) ih
theorem toNat_mod (t : Int) {r : Nat} (hr : 1 ≤ r) : ∃ j : Nat, j < r ∧ t % (r : Int) = (j : Int) := by
  have h1 := Int.emod_nonneg t (show (r : Int) ≠ 0 by omega)
  have h2 := Int.emod_lt_of_pos t (show 0 < (r : Int) by omega)
  exact ⟨(t % (r : Int)).toNat, by omega, by omega⟩

set_option maxHeartbeats 1000000 in
set_option maxRecDepth 100000 in
theorem outs (A : Option Addr) (c : Nat) (T : List (List Int)) (t n : Int) (w : World) (h : Mat w w.heap.size A T) (ho : (wideB T || (!validB T || !hourB t)) = true) :
    Calls Try.prog 13 #[.slice A T.length c, .int .i64 t, .int .u16 n] w fun e w' => e = .returned (.bool true) ∧ Below w.heap.size w w' := by
  cases hw : wideB T with
  | true =>
    have hw := Lib.hid hw
    go_enter Try.func13, Try.ntmps13
    go_wp2_with fail
    refine (wide_any _ A c T w h).mono ?_
    rintro e w' ⟨rfl, rfl⟩
    rw [hw.out]
    go_wp2_with fail
    refine (awake_any _).mono ?_
    rintro e w' ⟨rfl, hb⟩
    go_wp2
    go_ret
    exact ⟨rfl, hb⟩
  | false =>
    cases hv : validB T with
    | false =>
      replace hw := Lib.hid hw
      replace hv := Lib.hid hv
      go_enter Try.func13, Try.ntmps13
      go_wp2_with fail
      refine (wide_any _ A c T w h).mono ?_
      rintro e w' ⟨rfl, rfl⟩
      rw [hw.out]
      go_wp2_with fail
      refine (valid_ref _ A c T w h).mono ?_
      rintro e w' ⟨rfl, rfl⟩
      rw [hv.out]
      go_wp2_with fail
      refine (awake_any _).mono ?_
      rintro e w' ⟨rfl, hb⟩
      go_wp2
      go_ret
      exact ⟨rfl, hb⟩
    | true =>
      have hh : hourB t = false := by rw [hw, hv] at ho; simpa using ho
      replace hw := Lib.hid hw
      replace hv := Lib.hid hv
      replace hh := Lib.hid hh
      go_enter Try.func13, Try.ntmps13
      go_wp2_with fail
      refine (wide_any _ A c T w h).mono ?_
      rintro e w' ⟨rfl, rfl⟩
      rw [hw.out]
      go_wp2_with fail
      refine (valid_ref _ A c T w h).mono ?_
      rintro e w' ⟨rfl, rfl⟩
      rw [hv.out]
      go_wp2_with fail
      refine (isHour_ref _ _).mono ?_
      rintro e w' ⟨rfl, rfl⟩
      rw [hh.out]
      go_wp2_with fail
      refine (awake_any _).mono ?_
      rintro e w' ⟨rfl, hb⟩
      go_wp2
      go_ret
      exact ⟨rfl, hb⟩

set_option maxHeartbeats 3000000 in
set_option maxRecDepth 100000 in
theorem inn (A : Option Addr) (c : Nat) (T : List (List Int)) (t : Int) (m : Nat) (w : World) (h : Mat w w.heap.size A T) (hw : wideB T = false) (hv : validB T = true) (hh : hourB t = true) (hm : m ≤ 65535) :
    Calls Try.prog 13 #[.slice A T.length c, .int .i64 t, .int .u16 m] w fun e w' => e = .returned (.bool true) ∧ Below w.heap.size w w' := by
  have hV := val_of hv
  obtain ⟨r1, r2⟩ := rnd_bound hV
  obtain ⟨t1, t2⟩ := of_hourB hh
  obtain ⟨j, hj, hje⟩ := toNat_mod t r1
  have hsp : spanB (m : Int) = true := spanB_true (by omega)
  have q1 := best_at (fun k => spd T (k : Int)) (rnd T)
  have q2 := best_max (fun k => spd T (k : Int)) (rnd T) j hj
  have q3 := best_at (fun k => drf T (k : Int) m) (rnd T)
  have q4 := best_max (fun k => drf T (k : Int) m) (rnd T) j hj
  rw [← hje, ← spd_mod] at q2
  rw [← hje, ← drf_mod] at q4
  have b1 := best_range (F := fun k => spd T (k : Int)) (fun k hk => by have := spd_bound hV (k : Int); omega) (rnd T) r2
  have b2 := best_range (F := fun k => drf T (k : Int) m) (fun k hk => by have := drf_bd hV (k : Int) m (by omega); omega) (rnd T) r2
  have c34 : ∀ W, Below w.heap.size w W → Calls Try.prog 34 #[.slice A T.length c] W fun e w' => e = R3 (best (fun k => spd T (k : Int)) (rnd T), 0) ∧ Below w.heap.size w w' := fun W hb => by
    have := Highest_any w.heap.size A c T W (h.below hb) hb.size
    rw [show peakR T = (best (fun k => spd T (k : Int)) (rnd T), 0) by unfold peakR; rw [hv]; rfl] at this
    exact this.mono fun e w' ⟨he, hb'⟩ => ⟨he, hb.trans (hb'.mono hb.size)⟩
  have c36 : ∀ W, Below w.heap.size w W → Calls Try.prog 36 #[.slice A T.length c, .int .i64 m] W fun e w' => e = R3 (best (fun k => drf T (k : Int) m) (rnd T), 0) ∧ Below w.heap.size w w' := fun W hb => by
    have := Farthest_any w.heap.size A c T m W (h.below hb) hb.size
    rw [show peakD T (m : Int) = (best (fun k => drf T (k : Int) m) (rnd T), 0) by unfold peakD; rw [hv, hsp]; rfl] at this
    exact this.mono fun e w' ⟨he, hb'⟩ => ⟨he, hb.trans (hb'.mono hb.size)⟩
  generalize best (fun k => spd T (k : Int)) (rnd T) = S at q1 q2 b1 c34
  generalize best (fun k => drf T (k : Int) m) (rnd T) = D at q3 q4 b2 c36
  obtain ⟨S1, S2⟩ := S
  obtain ⟨D1, D2⟩ := D
  dsimp only at q1 q2 q3 q4 b1 b2
  obtain ⟨q1, q1e⟩ := q1
  obtain ⟨q3, q3e⟩ := q3
  have hS1 : hourB (S1 : Int) = true := hourB_true (by omega)
  have hD1 : hourB (D1 : Int) = true := hourB_true (by omega)
  have c17 : ∀ W y, Below w.heap.size w W → Calls Try.prog 17 #[.slice A T.length c, .int .i64 y] W fun e w' => e = R2 (speedR T y) ∧ Below w.heap.size w w' := fun W y hb =>
    (Speed_any w.heap.size A c T y W (h.below hb) hb.size).mono fun e w' ⟨he, hb'⟩ => ⟨he, hb.trans (hb'.mono hb.size)⟩
  have c19 : ∀ W y, Below w.heap.size w W → Calls Try.prog 19 #[.slice A T.length c, .int .i64 y, .int .i64 m] W fun e w' => e = R2 (driftR T y m) ∧ Below w.heap.size w w' := fun W y hb =>
    (Drift_any w.heap.size A c T y m W (h.below hb) hb.size).mono fun e w' ⟨he, hb'⟩ => ⟨he, hb.trans (hb'.mono hb.size)⟩
  have c23 : ∀ W, Below w.heap.size w W → Calls Try.prog 23 #[.slice A T.length c] W fun e w' => e = R2 ((rnd T : Int), 0) ∧ Below w.heap.size w w' := fun W hb => by
    have := Round_any w.heap.size A c T W (h.below hb)
    rw [show roundR T = ((rnd T : Int), 0) by unfold roundR; rw [hv]; rfl] at this
    exact this.mono fun e w' ⟨he, hb'⟩ => ⟨he, hb.trans (hb'.mono hb.size)⟩
  have c32 : ∀ W, Below w.heap.size w W → Calls Try.prog 32 #[.slice A T.length c, .int .i64 t] W fun e w' => e = R2 (slackR T t) ∧ Below w.heap.size w w' := fun W hb =>
    (Slack_any w.heap.size A c T t W (h.below hb) hb.size).mono fun e w' ⟨he, hb'⟩ => ⟨he, hb.trans (hb'.mono hb.size)⟩
  have e1 := Lib.hid (show speedR T t = (spd T t, 0) by unfold speedR; rw [hv, hh]; rfl)
  have e2 := Lib.hid (show speedR T (S1 : Int) = (S2, 0) by unfold speedR; rw [hv, hS1, q1e]; rfl)
  have e3 := Lib.hid (show driftR T t m = (drf T t m, 0) by unfold driftR; rw [hv, hh, hsp]; rfl)
  have e4 := Lib.hid (show driftR T (D1 : Int) m = (D2, 0) by unfold driftR; rw [hv, hD1, hsp]; simp [two, q3e])
  obtain ⟨x1, x2, x3⟩ := wt_spec T t
  have hat : ∀ y : Int, hourB y = true → speedR T y = (spd T y, 0) := fun y hy => by unfold speedR; rw [hv, hy]; rfl
  have hsb := fun y => spd_bound hV y
  have hsl : slackR T t = if wt T t < rnd T then (t + (wt T t : Int), 0) else (0, 5) := by unfold slackR; rw [hv, hh]; rfl
  have hs0 : 0 < wt T t → spd T t ≠ 0 := fun hp => by have := x2 0 hp; simpa using this
  have hs1 : wt T t = 0 → spd T t = 0 := fun hp => by have := x3 (by omega); rw [hp] at this; simpa using this
  obtain ⟨s1, s2⟩ := spd_bound hV t
  obtain ⟨d1, d2⟩ := drf_bd hV t m (by omega)
  generalize spd T t = sv at q2 e1 hs0 hs1 s1 s2
  generalize drf T t m = dv at q4 e3 d1 d2
  generalize wt T t = k at x1 x2 x3 hsl hs0 hs1
  replace c34 := Lib.hid c34
  replace c36 := Lib.hid c36
  replace c17 := Lib.hid c17
  replace c19 := Lib.hid c19
  replace c23 := Lib.hid c23
  replace c32 := Lib.hid c32
  replace x2 := Lib.hid x2
  replace x3 := Lib.hid x3
  replace hat := Lib.hid hat
  replace hsb := Lib.hid hsb
  replace hsl := Lib.hid hsl
  replace hs0 := Lib.hid hs0
  replace hs1 := Lib.hid hs1
  replace hw := Lib.hid hw
  replace hv := Lib.hid hv
  replace hh := Lib.hid hh
  have hL0 : ¬ rnd T = 0 := by omega
  have hL1 : 1 ≤ (rnd T : Int) := by omega
  have g4 : 0 ≤ (m : Int) % (rnd T : Int) := Int.emod_nonneg _ (by omega)
  have g5 : (m : Int) % (rnd T : Int) < (rnd T : Int) := Int.emod_lt_of_pos _ (by omega)
  have x4 := Lib.hid (show (m : Int) % (rnd T : Int) < (k : Int) → spd T (t + (m : Int) % (rnd T : Int)) ≠ 0 from fun hl => by
    have := x2.out (m % rnd T) (by omega)
    rwa [Int.natCast_emod] at this)
  have g1 : S1 < rnd T := by omega
  have g2 : D1 < rnd T := by omega
  have g3 := Lib.hid (Nat.mod_lt m r1)
  have b1 := b1.2
  have b2 := b2.2
  clear q1 q1e q3 q3e hS1 hD1 hsp hj hje hV
  go_enter Try.func13, Try.ntmps13
  go_wp2_with fail
  refine (wide_any _ A c T w h).mono ?_
  rintro e w' ⟨rfl, rfl⟩
  rw [hw.out]
  go_wp2_with fail
  refine (valid_ref _ A c T w h).mono ?_
  rintro e w' ⟨rfl, rfl⟩
  rw [hv.out]
  go_wp2_with fail
  refine (isHour_ref _ _).mono ?_
  rintro e w' ⟨rfl, rfl⟩
  rw [hh.out]
  go_wp2_with fail
  with_reducible refine (c34.out _ (Below.refl _ _)).mono ?_
  rintro e w1 ⟨rfl, hb1⟩
  unfold R3
  dsimp only
  go_wp2_with fail
  with_reducible refine (c17.out _ _ hb1).mono ?_
  rintro e w2 ⟨rfl, hb2⟩
  rw [e1.out]
  unfold R2
  dsimp only
  go_wp2_with fail
  with_reducible refine (c17.out _ _ hb2).mono ?_
  rintro e w3 ⟨rfl, hb3⟩
  rw [e2.out]
  unfold R2
  dsimp only
  go_wp2_with fail
  with_reducible refine (c36.out _ hb3).mono ?_
  rintro e w4 ⟨rfl, hb4⟩
  unfold R3
  dsimp only
  go_wp2_with fail
  with_reducible refine (c19.out _ _ hb4).mono ?_
  rintro e w5 ⟨rfl, hb5⟩
  rw [e3.out]
  unfold R2
  dsimp only
  go_wp2_with fail
  with_reducible refine (c19.out _ _ hb5).mono ?_
  rintro e w6 ⟨rfl, hb6⟩
  rw [e4.out]
  unfold R2
  dsimp only
  go_wp2_with fail
  with_reducible refine (c23.out _ hb6).mono ?_
  rintro e w7 ⟨rfl, hb7⟩
  unfold R2
  dsimp only
  go_wp2_with fail
  with_reducible refine (c32.out _ hb7).mono ?_
  rintro e w8 ⟨rfl, hb8⟩
  rw [hsl.out]
  by_cases hk : k < rnd T
  · rw [if_pos hk]
    unfold R2
    dsimp only
    by_cases hk0 : k = 0
    · have hs := hs1.out hk0
      subst hk0
      subst hs
      rw [show t + ((0 : Nat) : Int) = t by omega]
      go_wp2_with fail
      refine (isHour_ref _ _).mono ?_
      rintro e w' ⟨rfl, rfl⟩
      rw [hh.out]
      go_wp2_with fail
      with_reducible refine (c17.out _ _ hb8).mono ?_
      rintro e w9 ⟨rfl, hb9⟩
      rw [e1.out]
      unfold R2
      dsimp only
      go_wp2_with fail
      refine (awake_any _).mono ?_
      rintro e w11 ⟨rfl, hb11⟩
      go_wp2
      go_ret
      exact ⟨rfl, hb9.trans (hb11.mono hb9.size)⟩
    · have hs : ¬ sv = 0 := hs0.out (by omega)
      have hsb0 : (sv == 0) = false := by simpa using hs
      have hkt : (t + (k : Int) == t) = false := by simp; omega
      have x7 := x3.out hk
      go_wp2_with fail
      refine (isHour_ref _ _).mono ?_
      rintro e w' ⟨rfl, rfl⟩
      cases hz : hourB (t + (k : Int)) with
      | true =>
        replace hz := hat.out _ hz
        rw [x7] at hz
        replace hz := Lib.hid hz
        go_wp2_with fail
        with_reducible refine (c17.out _ _ hb8).mono ?_
        rintro e w9 ⟨rfl, hb9⟩
        rw [hz.out]
        unfold R2
        dsimp only
        by_cases hl : (m : Int) % (rnd T : Int) < (k : Int)
        · have x5 := x4.out hl
          obtain ⟨y1, y2⟩ := hsb.out (t + (m : Int) % (rnd T : Int))
          go_wp2_with fail
          refine (isHour_ref _ _).mono ?_
          rintro e w' ⟨rfl, rfl⟩
          cases hy : hourB (t + (m : Int) % (rnd T : Int)) with
          | true =>
            replace hy := Lib.hid (hat.out _ hy)
            generalize spd T (t + (m : Int) % (rnd T : Int)) = v at x5 y1 y2 hy
            have x6 : (v != 0) = true := by simpa using x5
            go_wp2_with fail
            with_reducible refine (c17.out _ _ hb9).mono ?_
            rintro e w10 ⟨rfl, hb10⟩
            rw [hy.out]
            unfold R2
            dsimp only
            go_wp2_with fail
            refine (awake_any _).mono ?_
            rintro e w11 ⟨rfl, hb11⟩
            go_wp2
            go_ret
            exact ⟨rfl, hb10.trans (hb11.mono hb10.size)⟩
          | false =>
            clear x5 y1 y2
            go_wp2_with fail
            refine (awake_any _).mono ?_
            rintro e w11 ⟨rfl, hb11⟩
            go_wp2
            go_ret
            exact ⟨rfl, hb9.trans (hb11.mono hb9.size)⟩
        · have hl' : (k : Int) ≤ (m : Int) % (rnd T : Int) := Int.not_lt.1 hl
          go_wp2_with fail
          refine (awake_any _).mono ?_
          rintro e w11 ⟨rfl, hb11⟩
          go_wp2
          go_ret
          exact ⟨rfl, hb9.trans (hb11.mono hb9.size)⟩
      | false =>
        by_cases hl : (m : Int) % (rnd T : Int) < (k : Int)
        · have x5 := x4.out hl
          obtain ⟨y1, y2⟩ := hsb.out (t + (m : Int) % (rnd T : Int))
          go_wp2_with fail
          refine (isHour_ref _ _).mono ?_
          rintro e w' ⟨rfl, rfl⟩
          cases hy : hourB (t + (m : Int) % (rnd T : Int)) with
          | true =>
            replace hy := Lib.hid (hat.out _ hy)
            generalize spd T (t + (m : Int) % (rnd T : Int)) = v at x5 y1 y2 hy
            have x6 : (v != 0) = true := by simpa using x5
            go_wp2_with fail
            with_reducible refine (c17.out _ _ hb8).mono ?_
            rintro e w10 ⟨rfl, hb10⟩
            rw [hy.out]
            unfold R2
            dsimp only
            go_wp2_with fail
            refine (awake_any _).mono ?_
            rintro e w11 ⟨rfl, hb11⟩
            go_wp2
            go_ret
            exact ⟨rfl, hb10.trans (hb11.mono hb10.size)⟩
          | false =>
            clear x5 y1 y2
            go_wp2_with fail
            refine (awake_any _).mono ?_
            rintro e w11 ⟨rfl, hb11⟩
            go_wp2
            go_ret
            exact ⟨rfl, hb8.trans (hb11.mono hb8.size)⟩
        · have hl' : (k : Int) ≤ (m : Int) % (rnd T : Int) := Int.not_lt.1 hl
          go_wp2_with fail
          refine (awake_any _).mono ?_
          rintro e w11 ⟨rfl, hb11⟩
          go_wp2
          go_ret
          exact ⟨rfl, hb8.trans (hb11.mono hb8.size)⟩
  · rw [if_neg hk]
    unfold R2
    dsimp only
    have hs : ¬ sv = 0 := hs0.out (by omega)
    go_wp2_with fail
    refine (awake_any _).mono ?_
    rintro e w11 ⟨rfl, hb11⟩
    go_wp2
    go_ret
    exact ⟨ret_bool (show (sv != 0) = true by simpa using hs), hb8.trans (hb11.mono hb8.size)⟩

theorem walk (A : Option Addr) (c : Nat) (T : List (List Int)) (t n : Int) (w : World) (h : Mat w w.heap.size A T) (_ : -9223372036854775808 ≤ t ∧ t ≤ 9223372036854775807) (hn : 0 ≤ n ∧ n ≤ 65535) :
    Calls Try.prog 13 #[.slice A T.length c, .int .i64 t, .int .u16 n] w fun e w' => e = .returned (.bool true) ∧ Below w.heap.size w w' := by
  cases ho : (wideB T || (!validB T || !hourB t)) with
  | true => exact outs A c T t n w h ho
  | false =>
    obtain ⟨m, rfl⟩ := Int.eq_ofNat_of_zero_le hn.1
    simp only [Bool.or_eq_false_iff, Bool.not_eq_false'] at ho
    exact inn A c T t m w h ho.1 ho.2.1 ho.2.2 (by omega)

/-! ### the row's step -/
set_option maxRecDepth 100000 in
theorem lifted (os : Os) (started : os.Started) (H : Type) (enc : TypeId × Value → H) :
    ReturnsInHanded {} Try.checked os 13 .any (Rows.tideTopsSpec.pre6 enc Try.prog Try.f13 Rows.tideTopsRow.domain false) (Rows.tideTopsSpec.post enc Try.prog Try.f13 false true false false) := by
  refine returnsInHanded_of_change (C := Try.checked) own started (by kernel_rfl) Try.func13
    (ChangeSpec.witness6 (enc := enc) (C := Try.checked) false ⟨#[], #[.slice none 0 0, .int .i64 0, .int .u16 0], []⟩ 8 (by kernel_rfl) (by kernel_rfl) (by kernel_rfl) (by kernel_rfl)) ?_
  intro W base args ds gs before hval0 hW hcnd _
  have hval : ∀ (j : Nat) t v, Try.f13.params[j]? = some t → args[j]? = some v → Value.okWide Try.prog W .any base t v := hval0
  have hW' := hW
  obtain ⟨p, q, hA0, hV, rfl, hfz, hnd⟩ := hW
  have hA : DataW.TrodAll enc Try.prog W 0 (fun _ => true) true Try.f13.params.toList args.toList ds p := hA0
  rw [Try.params13] at hA hval
  obtain ⟨v0, vs0, d0, ds0, p0, q0, hargs, rfl, rfl, h0, r0⟩ := trodAll_cons hA
  obtain ⟨v1, vs1, d1, ds1, p1, q1, rfl, rfl, rfl, h1, r1⟩ := trodAll_cons r0
  obtain ⟨v2, vs2, d2, ds2, p2, q2, rfl, rfl, rfl, h2, r2⟩ := trodAll_cons r1
  obtain ⟨rfl, rfl, rfl⟩ := trodAll_nil r2
  obtain rfl : args = #[v0, v1, v2] := by cases args; simp_all
  obtain ⟨rfl, rfl⟩ := trodVars_none hV
  obtain ⟨a0, len0, cap0, rfl⟩ := okWide_slice Try.underlying22 (hval 0 22 v0 rfl rfl)
  have k0 := h0
  have lt0 : ∀ x ∈ p0, x.block < W.heap.size := by obtain ⟨m, hm⟩ := k0; exact DataW.trod_lt m _ _ _ hm
  obtain ⟨T0, rfl, w0⟩ : ∃ T : List (List Int), T.length = len0 ∧ Mat W W.heap.size a0 T := by
    obtain ⟨fuel, hf⟩ := h0
    exact mat_of hf
  obtain ⟨a1, rfl, rfl, rfl, w1⟩ := open_int Try.underlying3 (hval 1 3 v1 rfl rfl) h1
  obtain ⟨a2, rfl, rfl, rfl, w2⟩ := open_int Try.underlying46 (hval 2 46 v2 rfl rfl) h2
  clear hA0 hval0
  refine (walk a0 cap0 T0 a1 a2 W w0 (i64_range w1) (u16_range w2)).mono fun e W' ⟨he, bel⟩ => ?_
  subst he
  exact ⟨_, rfl, _, _, _, [], _, [], hW', trodAll_mk1 (shut_bool Try.underlying4 _), (trodAll_cons_mk (Below.trod laidOut (by kernel_rfl) (of_decide_eq_true (by kernel_rfl)) k0 bel lt0) (trodAll_cons_mk (shut_int Try.underlying3 w1) (trodAll_cons_mk (shut_int Try.underlying46 w2) trodAll_mk0))), rfl, bel.frame _, fun h => by cases h⟩

theorem over : Rows.tideTopsRow.holds Try.pinned (OpenSpec.ofChange Rows.tideTopsSpec) :=
  OpenClaim.holds_of_wide 13 Try.f13 rfl rfl rfl rfl rfl rfl rfl ⟨rfl, rfl, rfl, rfl, rfl⟩ rfl rfl rfl rfl rfl (by kernel_rfl) Try.func13 (by kernel_rfl)
    (of_decide_eq_true (by kernel_rfl)) (by unfold Func.isWrapper; first | (rw [if_pos (by decide +kernel)]; kernel_rfl) | (rw [if_neg (by decide +kernel)]; exact ⟨rfl, rfl⟩))
    (fun os started H enc _ => lifted os started H enc)

/-- The statement. -/
theorem proved : Rows.TideTopsSaid := over
end Go.Proofs.Ytmpmlgognkmfgaa.lawTideTops
