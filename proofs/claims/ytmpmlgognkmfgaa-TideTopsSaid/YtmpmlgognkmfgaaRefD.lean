/-
  The contracts of the specification's functions: drifts, rounds and Net with their errors.
-/
import Derived.Test.YtmpmlgognkmfgaaRefC
namespace Go.Proofs.Ytmpmlgognkmfgaa
open Go.RowKit M
set_option linter.unusedVariables false
set_option linter.unusedSimpArgs false

set_option maxHeartbeats 1000000 in
theorem Drift_ref (B : Nat) (A : Option Addr) (c : Nat) (T : List (List Int)) (f n : Int) (w : World) (h : Mat w B A T) :
    Calls Try.prog 20 #[.slice A T.length c, .int .i64 f, .int .i64 n] w fun e w' => e = R2 (driftR T f n) ∧ ∃ m, w' = w.drewN m := by
  by_cases hv : validB T = true
  · by_cases ha : hourB f = true
    · by_cases hn0 : n < 0
      · have hr := Lib.hid (show driftR T f n = (0, 2) by unfold driftR spanB; rw [hv, ha, decide_eq_false (by omega)]; rfl)
        have hv := Lib.hid hv
        have ha := Lib.hid ha
        go_enter Try.func20, Try.ntmps20
        go_wp2_with fail
        refine (valid_ref B _ _ _ _ h).mono ?_
        rintro e w' ⟨rfl, rfl⟩
        rw [hv.out]
        go_wp2_with fail
        refine (isHour_ref _ _).mono ?_
        rintro e w' ⟨rfl, rfl⟩
        rw [ha.out]
        go_wp2
        go_ret2
        exact ⟨R2_of hr.out, 0, rfl⟩
      by_cases hn1 : 1000000 < n
      · have hr := Lib.hid (show driftR T f n = (0, 2) by unfold driftR spanB; rw [hv, ha, decide_eq_false (p := n ≤ 1000000) (by omega), Bool.and_false]; rfl)
        have hv := Lib.hid hv
        have ha := Lib.hid ha
        go_enter Try.func20, Try.ntmps20
        go_wp2_with fail
        refine (valid_ref B _ _ _ _ h).mono ?_
        rintro e w' ⟨rfl, rfl⟩
        rw [hv.out]
        go_wp2_with fail
        refine (isHour_ref _ _).mono ?_
        rintro e w' ⟨rfl, rfl⟩
        rw [ha.out]
        go_wp2
        go_ret2
        exact ⟨R2_of hr.out, 0, rfl⟩
      obtain ⟨m, rfl⟩ := Int.eq_ofNat_of_zero_le (show 0 ≤ n by omega)
      have hr := Lib.hid (show driftR T f m = (drf T f m, 0) by unfold driftR; rw [hv, ha, spanB_true (by omega)]; rfl)
      have hV := val_of hv
      have hh := of_hourB ha
      have hv := Lib.hid hv
      have ha := Lib.hid ha
      go_enter Try.func20, Try.ntmps20
      go_wp2_with fail
      refine (valid_ref B _ _ _ _ h).mono ?_
      rintro e w' ⟨rfl, rfl⟩
      rw [hv.out]
      go_wp2_with fail
      refine (isHour_ref _ _).mono ?_
      rintro e w' ⟨rfl, rfl⟩
      rw [ha.out]
      go_wp2_with (go_at_call 57; refine (far_ref B _ _ _ _ _ _ h hV (by omega) (by omega)).mono ?_; rintro e w' ⟨rfl, nd, rfl⟩)
      go_ret2
      exact ⟨R2_of hr.out, nd, rfl⟩
    · have ha : hourB f = false := by simpa using ha
      have hr := Lib.hid (show driftR T f n = (0, 2) by unfold driftR; rw [hv, ha]; rfl)
      have hv := Lib.hid hv
      have ha := Lib.hid ha
      go_enter Try.func20, Try.ntmps20
      go_wp2_with fail
      refine (valid_ref B _ _ _ _ h).mono ?_
      rintro e w' ⟨rfl, rfl⟩
      rw [hv.out]
      go_wp2_with fail
      refine (isHour_ref _ _).mono ?_
      rintro e w' ⟨rfl, rfl⟩
      rw [ha.out]
      go_wp2
      go_ret2
      exact ⟨R2_of hr.out, 0, rfl⟩
  · have hv : validB T = false := by simpa using hv
    have hr := Lib.hid (show driftR T f n = (0, 10) by unfold driftR; rw [hv]; rfl)
    have hv := Lib.hid hv
    go_enter Try.func20, Try.ntmps20
    go_wp2_with fail
    refine (valid_ref B _ _ _ _ h).mono ?_
    rintro e w' ⟨rfl, rfl⟩
    rw [hv.out]
    go_wp2
    go_ret2
    exact ⟨R2_of hr.out, 0, rfl⟩

set_option maxHeartbeats 1000000 in
theorem Round_ref (B : Nat) (A : Option Addr) (c : Nat) (T : List (List Int)) (w : World) (h : Mat w B A T) :
    Calls Try.prog 24 #[.slice A T.length c] w fun e w' => e = R2 (roundR T) ∧ w = w' := by
  by_cases hv : validB T = true
  · have hr := Lib.hid (show roundR T = ((rnd T : Int), 0) by unfold roundR; rw [hv]; rfl)
    have hV := val_of hv
    have hv := Lib.hid hv
    go_enter Try.func24, Try.ntmps24
    go_wp2_with fail
    refine (valid_ref B _ _ _ _ h).mono ?_
    rintro e w' ⟨rfl, rfl⟩
    rw [hv.out]
    go_wp2_with (go_at_call 62; refine (round_ref B _ _ _ _ h hV).mono ?_; rintro e w' ⟨rfl, rfl⟩)
    go_ret2
    exact ⟨R2_of hr.out, rfl⟩
  · have hv : validB T = false := by simpa using hv
    have hr := Lib.hid (show roundR T = (0, 10) by unfold roundR; rw [hv]; rfl)
    have hv := Lib.hid hv
    go_enter Try.func24, Try.ntmps24
    go_wp2_with fail
    refine (valid_ref B _ _ _ _ h).mono ?_
    rintro e w' ⟨rfl, rfl⟩
    rw [hv.out]
    go_wp2
    go_ret2
    exact ⟨R2_of hr.out, rfl⟩

set_option maxHeartbeats 1000000 in
theorem Net_ref (B : Nat) (A : Option Addr) (c : Nat) (T : List (List Int)) (w : World) (h : Mat w B A T) :
    Calls Try.prog 26 #[.slice A T.length c] w fun e w' => e = R2 (netR T) ∧ w = w' := by
  by_cases hv : validB T = true
  · have hr := Lib.hid (show netR T = (drf T 0 (rnd T), 0) by unfold netR; rw [hv]; rfl)
    have hV := val_of hv
    have hv := Lib.hid hv
    obtain ⟨r1, r2⟩ := rnd_bound hV
    go_enter Try.func26, Try.ntmps26
    go_wp2_with fail
    refine (valid_ref B _ _ _ _ h).mono ?_
    rintro e w' ⟨rfl, rfl⟩
    rw [hv.out]
    go_wp2_with (first | (go_at_call 62; refine (round_ref B _ _ _ _ h hV).mono ?_; rintro e w' ⟨rfl, rfl⟩) | (go_at_call 64; refine (drift_ref B _ _ _ _ _ _ h hV (by omega) (by omega)).mono ?_; rintro e w' ⟨rfl, rfl⟩))
    go_ret2
    exact ⟨R2_of hr.out, rfl⟩
  · have hv : validB T = false := by simpa using hv
    have hr := Lib.hid (show netR T = (0, 10) by unfold netR; rw [hv]; rfl)
    have hv := Lib.hid hv
    go_enter Try.func26, Try.ntmps26
    go_wp2_with fail
    refine (valid_ref B _ _ _ _ h).mono ?_
    rintro e w' ⟨rfl, rfl⟩
    rw [hv.out]
    go_wp2
    go_ret2
    exact ⟨R2_of hr.out, rfl⟩

end Go.Proofs.Ytmpmlgognkmfgaa
