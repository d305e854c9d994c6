/-
  The contracts of the specification's functions: speeds, drifts and rounds with their errors.
-/
import Derived.Test.YtmpmlgognkmfgaaRefB
namespace Go.Proofs.Ytmpmlgognkmfgaa
open Go.RowKit M
set_option linter.unusedVariables false
set_option linter.unusedSimpArgs false

theorem far_parts {T : List (List Int)} (hv : Val T) (f : Int) (n : Nat) (hn : n ≤ 1000000) :
    -400000000 ≤ ((n : Int) / (rnd T : Int)) * drf T 0 (rnd T) ∧ ((n : Int) / (rnd T : Int)) * drf T 0 (rnd T) ≤ 400000000 := by
  have h1 := drf_round T f n
  have h2 := drf_bd hv f n hn
  have h3 := drf_bd hv f (n % rnd T) (by have := Nat.mod_le n (rnd T); omega)
  have h4 := drf_bound hv 0 (rnd T)
  have h5 : (n / rnd T) * rnd T ≤ n := Nat.div_mul_le_self n (rnd T)
  have e : ((n : Int) / (rnd T : Int)) = ((n / rnd T : Nat) : Int) := by simp
  rw [e]
  generalize n / rnd T = q at *
  have h6 : ((q : Int) * (rnd T : Int)) ≤ 1000000 := by
    have : ((q * rnd T : Nat) : Int) ≤ 1000000 := by omega
    rwa [Int.natCast_mul] at this
  have a1 : (q : Int) * drf T 0 (rnd T) ≤ q * (400 * rnd T) := Int.mul_le_mul_of_nonneg_left h4.2 (by omega)
  have a2 : (q : Int) * (-(400 * rnd T)) ≤ q * drf T 0 (rnd T) := Int.mul_le_mul_of_nonneg_left h4.1 (by omega)
  have e2 : (q : Int) * (400 * rnd T) = 400 * (q * rnd T) := by rw [Int.mul_left_comm]
  rw [Int.mul_neg, e2] at a2
  rw [e2] at a1
  omega

theorem quo_range (n r : Nat) (hn : n ≤ 1000000) : 0 ≤ (n : Int) / (r : Int) ∧ (n : Int) / (r : Int) ≤ 1000000 := by
  have h1 := Nat.div_le_self n r
  have e : (n : Int) / (r : Int) = ((n / r : Nat) : Int) := by simp
  rw [e]
  generalize n / r = q at *
  omega
/-- The same, the number of hours as any term. -/
theorem drift_refI (B : Nat) (A : Option Addr) (c : Nat) (T : List (List Int)) (f n : Int) (m : Nat) (w : World) (h : Mat w B A T) (hv : Val T) (hf : -3000000000000000000 ≤ f ∧ f ≤ 3000000000000000000) (hn : n = m) (hm : m ≤ 1000000) :
    Calls Try.prog 64 #[.slice A T.length c, .int .i64 f, .int .i64 n] w fun e w' => e = .returned (.int .i64 (drf T f m)) ∧ w = w' := by
  subst hn; exact drift_ref B A c T f m w h hv hf hm

set_option maxHeartbeats 1000000 in
theorem far_ref (B : Nat) (A : Option Addr) (c : Nat) (T : List (List Int)) (f : Int) (n : Nat) (w : World) (h : Mat w B A T) (hv : Val T) (hf : -3000000000000000000 ≤ f ∧ f ≤ 3000000000000000000) (hn : n ≤ 1000000) :
    Calls Try.prog 57 #[.slice A T.length c, .int .i64 f, .int .i64 n] w fun e w' => e = .returned (.int .i64 (drf T f n)) ∧ ∃ m, w' = w.drewN m := by
  obtain ⟨r1, r2⟩ := rnd_bound hv
  obtain ⟨p1, p2⟩ := far_parts hv f n hn
  obtain ⟨q1, q2⟩ := quo_range n (rnd T) hn
  have hm : n % rnd T ≤ 1000000 := by have := Nat.mod_le n (rnd T); omega
  obtain ⟨d1, d2⟩ := drf_bd hv f (n % rnd T) hm
  have hr : 1 ≤ (rnd T : Int) := by omega
  have he := Lib.hid (drf_round T f n)
  have hcast : Hid (((n : Int) % (rnd T : Int)) = ((n % rnd T : Nat) : Int)) := by show _ = _; simp
  go_enter Try.func57, Try.ntmps57
  go_wp2_with (go_at_call 62; refine (round_ref B _ _ _ _ h hv).mono ?_; rintro e w' ⟨rfl, rfl⟩)
  go_quiet ((first | (go_at_call_of 64 f; (with_reducible exact quiet_left (drift_refI B _ _ _ f _ (n % rnd T) _ (h.drewN _) hv hf hcast.out hm))) | (go_at_call 64; (with_reducible exact quiet_left (drift_refI B _ _ _ 0 _ (rnd T) _ (h.drewN _) hv (by omega) rfl (by omega))))))
  go_wp2
  go_ret
  refine ⟨ret_int ?_, _, rfl⟩
  rw [he.out]
  simp only [Int.natCast_ediv]

/-! ### values and errors -/
def two (e : Bool) (a : Bool) (v : Int) : Int × Int := if e then (if a then (v, 0) else (0, 2)) else (0, 10)
def speedR (T : List (List Int)) (t : Int) : Int × Int := two (validB T) (hourB t) (spd T t)
def driftR (T : List (List Int)) (f n : Int) : Int × Int := two (validB T) (hourB f && spanB n) (drf T f n.toNat)
def roundR (T : List (List Int)) : Int × Int := two (validB T) true (rnd T)
def netR (T : List (List Int)) : Int × Int := two (validB T) true (drf T 0 (rnd T))
/-- What a function with one number and an error returns. -/
def R2 (p : Int × Int) : Ending := .returned (.tuple #[.int .i64 p.1, .int .i64 p.2])
theorem two_no (a : Bool) (v : Int) : two false a v = (0, 10) := rfl
theorem two_arg (v : Int) : two true false v = (0, 2) := rfl
theorem two_ok (v : Int) : two true true v = (v, 0) := rfl
theorem R2_of {p : Int × Int} {a b : Int} (h : p = (a, b)) : Ending.returned (.tuple #[.int .i64 a, .int .i64 b]) = R2 p := by rw [h]; rfl

set_option maxHeartbeats 1000000 in
theorem Speed_ref (B : Nat) (A : Option Addr) (c : Nat) (T : List (List Int)) (t : Int) (w : World) (h : Mat w B A T) :
    Calls Try.prog 18 #[.slice A T.length c, .int .i64 t] w fun e w' => e = R2 (speedR T t) ∧ w = w' := by
  by_cases hv : validB T = true
  · by_cases ha : hourB t = true
    · have hr := Lib.hid (show speedR T t = (spd T t, 0) by unfold speedR; rw [hv, ha]; rfl)
      have hV := val_of hv
      have hh := of_hourB ha
      have hv := Lib.hid hv
      have ha := Lib.hid ha
      go_enter Try.func18, Try.ntmps18
      go_wp2_with fail
      refine (valid_ref B _ _ _ _ h).mono ?_
      rintro e w' ⟨rfl, rfl⟩
      rw [hv.out]
      go_wp2_with fail
      refine (isHour_ref _ _).mono ?_
      rintro e w' ⟨rfl, rfl⟩
      rw [ha.out]
      go_wp2_with (go_at_call 53; refine (speed_ref B _ _ _ _ _ h hV (by omega)).mono ?_; rintro e w' ⟨rfl, rfl⟩)
      go_ret2
      exact ⟨R2_of hr.out, rfl⟩
    · have ha : hourB t = false := by simpa using ha
      have hr := Lib.hid (show speedR T t = (0, 2) by unfold speedR; rw [hv, ha]; rfl)
      have hv := Lib.hid hv
      have ha := Lib.hid ha
      go_enter Try.func18, Try.ntmps18
      go_wp2_with fail
      refine (valid_ref B _ _ _ _ h).mono ?_
      rintro e w' ⟨rfl, rfl⟩
      rw [hv.out]
      go_wp2_with fail
      refine (isHour_ref _ _).mono ?_
      rintro e w' ⟨rfl, rfl⟩
      rw [ha.out]
      go_wp2
      go_ret2
      exact ⟨R2_of hr.out, rfl⟩
  · have hv : validB T = false := by simpa using hv
    have hr := Lib.hid (show speedR T t = (0, 10) by unfold speedR; rw [hv]; rfl)
    have hv := Lib.hid hv
    go_enter Try.func18, Try.ntmps18
    go_wp2_with fail
    refine (valid_ref B _ _ _ _ h).mono ?_
    rintro e w' ⟨rfl, rfl⟩
    rw [hv.out]
    go_wp2
    go_ret2
    exact ⟨R2_of hr.out, rfl⟩

end Go.Proofs.Ytmpmlgognkmfgaa
