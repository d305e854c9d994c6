/-
  The contracts of the program's functions: rounds, and what is told: Speed, Drift, Round, Net.
-/
import Derived.Test.YtmpmlgognkmfgaaTideC
namespace Go.Proofs.Ytmpmlgognkmfgaa
open Go.RowKit M
set_option linter.unusedVariables false
set_option linter.unusedSimpArgs false

theorem lcm_quo (a b : Nat) (hb : 1 ≤ b) : a * (b / Nat.gcd a b) = Nat.lcm a b := by
  unfold Nat.lcm
  exact (Nat.mul_div_assoc a (Nat.gcd_dvd_right a b)).symm

set_option maxHeartbeats 2000000 in
theorem round_any (B : Nat) (A : Option Addr) (c : Nat) (T : List (List Int)) (w : World) (h : Mat w B A T) (hv : Val T) :
    Calls Try.prog 61 #[.slice A T.length c] w fun e w' => e = .returned (.int .i64 (rnd T)) ∧ ∃ m, w' = w.drewN m := by
  have h63 := h.1
  go_enter Try.func61, Try.ntmps61
  go_wp2
  go_loopw [3, 8] (fun s i wr => ∃ k : Nat, k ≤ T.length ∧ i = .int .i64 k ∧ s = .int .i64 (rndK T k) ∧ ∃ m, wr = w.drewN m) (fun _ i _ => T.length - (intOf i).toNat)
  case atStart => exact ⟨0, Nat.zero_le _, rfl, rfl, 0, rfl⟩
  case round =>
    obtain ⟨k, hk, rfl, rfl, m, rfl⟩ := hrel
    have r1 := rndK_pos hv k hk
    have r2 := rndK_bound hv k hk
    by_cases hlt : k < T.length
    · obtain ⟨b, o, Ai, ci, rfl, hb, hc, hr⟩ := h.at_ k hlt
      obtain ⟨l1, l2⟩ := row_len hv k hlt
      have q2 := rndK_bound hv (k + 1) hlt
      have hq := Lib.hid (rndK_succ T k)
      have hlq := Lib.hid (lcm_quo (rndK T k) (row T k).length l1)
      have g1 : 1 ≤ (Nat.gcd (rndK T k) (row T k).length : Int) := by have := Nat.gcd_pos_of_pos_left (row T k).length (show 0 < rndK T k by omega); omega
      have hv1 : Hid ((rndK T k : Int) * ((row T k).length / (Nat.gcd (rndK T k) (row T k).length : Int)) = (rndK T (k + 1) : Int)) := by
        show _ = _
        rw [hq.out, ← hlq.out]; simp
      have hv2 : (rndK T k : Int) * ((row T k).length / (Nat.gcd (rndK T k) (row T k).length : Int)) ≤ 20736 := by rw [hv1.out]; omega
      have hv3 : 0 ≤ (rndK T k : Int) * ((row T k).length / (Nat.gcd (rndK T k) (row T k).length : Int)) := by rw [hv1.out]; omega
      obtain ⟨z1, z2⟩ := quo_range (row T k).length (Nat.gcd (rndK T k) (row T k).length) (by omega)
      go_wp2_with (go_at_call 89; refine (gcd_any _ _ _ (by omega) (by omega)).mono ?_; rintro e w' ⟨rfl, m', rfl⟩)
      go_roundw
      case rel => exact ⟨k + 1, by omega, by go_num, by rw [hv1.out], m + m', by simp⟩
      case measure => simp [intOf]; omega
    · have hk' : k = T.length := by omega
      subst hk'
      go_wp2
      go_ret
      exact ⟨rfl, m, rfl⟩

set_option maxHeartbeats 1000000 in
theorem net_any (B : Nat) (A : Option Addr) (c : Nat) (T : List (List Int)) (w : World) (h : Mat w B A T) (hv : Val T) :
    Calls Try.prog 63 #[.slice A T.length c] w fun e w' => e = .returned (.int .i64 (drf T 0 (rnd T))) ∧ ∃ m, w' = w.drewN m := by
  obtain ⟨r1, r2⟩ := rnd_bound hv
  go_enter Try.func63, Try.ntmps63
  go_wp2_with fail
  refine (round_any B _ _ _ _ h hv).mono ?_
  rintro e w' ⟨rfl, m, rfl⟩
  go_wp2_with fail
  refine (drift_any B _ _ _ 0 (rnd T) _ (h.drewN m) hv (by omega) (by omega)).mono ?_
  rintro e w' ⟨rfl, m', rfl⟩
  go_wp2
  go_ret
  exact ⟨rfl, m + m', by simp⟩

/-- The closures of Speed and Drift: the numbers that they have caught lie in cells of their own. -/
theorem speedClo (B : Nat) (A : Option Addr) (c : Nat) (T : List (List Int)) (t : Int) (p : Nat) (w : World) (h : Mat w B A T) (hv : Val T) (ht : -4000000000000000000 ≤ t ∧ t ≤ 4000000000000000000)
    (hp : w.cell? ⟨p, 0, none⟩ = some (.int .i64 t)) :
    Calls Try.prog 50 #[.slice A T.length c, .pointer (some ⟨p, 0, none⟩)] w fun e w' => e = .returned (.int .i64 (spd T t)) ∧ w = w' := by
  go_enter Try.func50, Try.ntmps50
  go_wp2_with fail
  refine (speed_any B _ _ _ _ _ h hv ht).mono ?_
  rintro e w' ⟨rfl, rfl⟩
  go_wp2
  go_ret
  exact ⟨rfl, rfl⟩
theorem driftClo (B : Nat) (A : Option Addr) (c : Nat) (T : List (List Int)) (f : Int) (n : Nat) (p q : Nat) (w : World) (h : Mat w B A T) (hv : Val T) (hf : -3000000000000000000 ≤ f ∧ f ≤ 3000000000000000000) (hn : n ≤ 1000000)
    (hp : w.cell? ⟨p, 0, none⟩ = some (.int .i64 f)) (hq : w.cell? ⟨q, 0, none⟩ = some (.int .i64 n)) :
    Calls Try.prog 54 #[.slice A T.length c, .pointer (some ⟨p, 0, none⟩), .pointer (some ⟨q, 0, none⟩)] w fun e w' => e = .returned (.int .i64 (drf T f n)) ∧ ∃ m, w' = w.drewN m := by
  go_enter Try.func54, Try.ntmps54
  go_wp2_with fail
  refine (drift_any B _ _ _ f n _ h hv hf hn).mono ?_
  rintro e w' ⟨rfl, m, rfl⟩
  go_wp2
  go_ret
  exact ⟨rfl, m, rfl⟩

/-! ### what is told -/
theorem enter50 (args : Array Value) (w : World) : (callFunc 50 args).run Try.prog w = .ok (.enter 50 args) w := enter_of Try.func50 (by kernel_rfl) rfl args w
theorem enter54 (args : Array Value) (w : World) : (callFunc 54 args).run Try.prog w = .ok (.enter 54 args) w := enter_of Try.func54 (by kernel_rfl) rfl args w
theorem enter61 (args : Array Value) (w : World) : (callFunc 61 args).run Try.prog w = .ok (.enter 61 args) w := enter_of Try.func61 (by kernel_rfl) rfl args w
theorem enter63 (args : Array Value) (w : World) : (callFunc 63 args).run Try.prog w = .ok (.enter 63 args) w := enter_of Try.func63 (by kernel_rfl) rfl args w
theorem bools_none (w : World) : Bools w none [] := ⟨by decide, fun h => absurd h (by decide)⟩
theorem bools_one {w : World} {b o : Nat} {x : Bool} (h : w.cell? ⟨b, o, none⟩ = some (.bool x)) : Bools w (some ⟨b, o, none⟩) [x] :=
  ⟨by simp, fun _ => ⟨b, o, rfl, fun i hi => by
    have : i = 0 := by simpa using hi
    subst this
    exact h⟩⟩
theorem bools_two {w : World} {b o : Nat} {x y : Bool} (h : w.cell? ⟨b, o, none⟩ = some (.bool x)) (h' : w.cell? ⟨b, o + 1, none⟩ = some (.bool y)) : Bools w (some ⟨b, o, none⟩) [x, y] :=
  ⟨by simp, fun _ => ⟨b, o, rfl, fun i hi => by
    have : i = 0 ∨ i = 1 := by simp at hi; omega
    rcases this with rfl | rfl
    · exact h
    · exact h'⟩⟩
theorem allB_none : allB [] = true := by decide
theorem allB_one (x : Bool) : allB [x] = x := by cases x <;> decide
theorem allB_two (x y : Bool) : allB [x, y] = (x && y) := by cases x <;> cases y <;> decide

theorem told_speed (B : Nat) (A : Option Addr) (c : Nat) (T : List (List Int)) (t : Int) (p q qc : Nat) (W : World) (h : Mat W B A T) (hp : W.cell? ⟨p, 0, none⟩ = some (.int .i64 t)) (hq : W.cell? ⟨q, 0, none⟩ = some (.bool (hourB t))) :
    Calls Try.prog 49 #[.slice A T.length c, .func (Fn.func 50) #[] #[.pointer (some ⟨p, 0, none⟩)], .slice (some ⟨q, 0, none⟩) 1 qc] W fun e w' => e = R2 (speedR T t) ∧ Below W.heap.size W w' := by
  refine told_int1 B A c T 50 _ _ qc [hourB t] _ W h (bools_one hq) enter50 (fun hv => ?_) (fun hv ha => ?_) (fun hv ha => ?_)
  · exact ⟨R2_of (by unfold speedR; rw [hv]; rfl), Below.refl _ _⟩
  · rw [allB_one] at ha
    exact ⟨R2_of (by unfold speedR; rw [hv, ha]; rfl), Below.refl _ _⟩
  · rw [allB_one] at ha
    have := of_hourB ha
    refine (speedClo B A c T t p W h (val_of hv) (by omega) hp).mono ?_
    rintro e w' ⟨rfl, rfl⟩
    exact ⟨_, rfl, R2_of (by unfold speedR; rw [hv, ha]; rfl), Below.refl _ _⟩
theorem told_drift (B : Nat) (A : Option Addr) (c : Nat) (T : List (List Int)) (f n : Int) (p p' q qc : Nat) (W : World) (h : Mat W B A T) (hp : W.cell? ⟨p, 0, none⟩ = some (.int .i64 f)) (hp' : W.cell? ⟨p', 0, none⟩ = some (.int .i64 n))
    (hq : W.cell? ⟨q, 0, none⟩ = some (.bool (hourB f))) (hq' : W.cell? ⟨q, 0 + 1, none⟩ = some (.bool (spanB n))) :
    Calls Try.prog 49 #[.slice A T.length c, .func (Fn.func 54) #[] #[.pointer (some ⟨p, 0, none⟩), .pointer (some ⟨p', 0, none⟩)], .slice (some ⟨q, 0, none⟩) 2 qc] W fun e w' => e = R2 (driftR T f n) ∧ Below W.heap.size W w' := by
  refine told_int2 B A c T 54 _ _ _ qc [hourB f, spanB n] _ W h (bools_two hq hq') enter54 (fun hv => ?_) (fun hv ha => ?_) (fun hv ha => ?_)
  · exact ⟨R2_of (by unfold driftR; rw [hv]; rfl), Below.refl _ _⟩
  · rw [allB_two] at ha
    exact ⟨R2_of (by unfold driftR; rw [hv, ha]; rfl), Below.refl _ _⟩
  · rw [allB_two] at ha
    have ha' := ha
    rw [Bool.and_eq_true] at ha'
    have := of_hourB ha'.1
    have := of_spanB ha'.2
    obtain ⟨m, rfl⟩ := Int.eq_ofNat_of_zero_le (show 0 ≤ n by omega)
    refine (driftClo B A c T f m p p' W h (val_of hv) (by omega) (by omega) hp hp').mono ?_
    rintro e w' ⟨rfl, m', rfl⟩
    exact ⟨_, rfl, R2_of (by unfold driftR; rw [hv, ha]; rfl), below_drewN (Below.refl _ _) _⟩
theorem told_round (B : Nat) (A : Option Addr) (c : Nat) (T : List (List Int)) (W : World) (h : Mat W B A T) :
    Calls Try.prog 49 #[.slice A T.length c, .func (Fn.func 61) #[] #[], .slice none 0 0] W fun e w' => e = R2 (roundR T) ∧ Below W.heap.size W w' := by
  refine told_int0 B A c T 61 _ 0 [] _ W h (bools_none W) enter61 (fun hv => ?_) (fun hv ha => ?_) (fun hv ha => ?_)
  · exact ⟨R2_of (by unfold roundR; rw [hv]; rfl), Below.refl _ _⟩
  · rw [allB_none] at ha; cases ha
  · refine (round_any B A c T W h (val_of hv)).mono ?_
    rintro e w' ⟨rfl, m', rfl⟩
    exact ⟨_, rfl, R2_of (by unfold roundR; rw [hv]; rfl), below_drewN (Below.refl _ _) _⟩
theorem told_net (B : Nat) (A : Option Addr) (c : Nat) (T : List (List Int)) (W : World) (h : Mat W B A T) :
    Calls Try.prog 49 #[.slice A T.length c, .func (Fn.func 63) #[] #[], .slice none 0 0] W fun e w' => e = R2 (netR T) ∧ Below W.heap.size W w' := by
  refine told_int0 B A c T 63 _ 0 [] _ W h (bools_none W) enter63 (fun hv => ?_) (fun hv ha => ?_) (fun hv ha => ?_)
  · exact ⟨R2_of (by unfold netR; rw [hv]; rfl), Below.refl _ _⟩
  · rw [allB_none] at ha; cases ha
  · refine (net_any B A c T W h (val_of hv)).mono ?_
    rintro e w' ⟨rfl, m', rfl⟩
    exact ⟨_, rfl, R2_of (by unfold netR; rw [hv]; rfl), below_drewN (Below.refl _ _) _⟩

/-- What holds of a world with new blocks. -/
theorem Mat.alloc {w : World} {B : Nat} {A : Option Addr} {T : List (List Int)} (h : Mat w B A T) (hB : B ≤ w.heap.size) (o : Obj) : Mat (w.alloc o) B A T := h.keep fun p hp => World.cell?_alloc_lt w o p (by omega)
theorem Row.alloc {w : World} {B : Nat} {A : Option Addr} {l : List Int} (h : Row w B A l) (hB : B ≤ w.heap.size) (o : Obj) : Row (w.alloc o) B A l := h.keep fun p hp => World.cell?_alloc_lt w o p (by omega)

theorem Round_any (B : Nat) (A : Option Addr) (c : Nat) (T : List (List Int)) (w : World) (h : Mat w B A T) :
    Calls Try.prog 23 #[.slice A T.length c] w fun e w' => e = R2 (roundR T) ∧ Below w.heap.size w w' := by
  go_enter Try.func23, Try.ntmps23
  go_wp2_with fail
  refine (told_round B A c T _ h).mono ?_
  rintro e w' ⟨rfl, hb⟩
  unfold R2
  go_wp2
  go_ret2
  exact ⟨rfl, hb⟩
theorem Net_any (B : Nat) (A : Option Addr) (c : Nat) (T : List (List Int)) (w : World) (h : Mat w B A T) :
    Calls Try.prog 25 #[.slice A T.length c] w fun e w' => e = R2 (netR T) ∧ Below w.heap.size w w' := by
  go_enter Try.func25, Try.ntmps25
  go_wp2_with fail
  refine (told_net B A c T _ h).mono ?_
  rintro e w' ⟨rfl, hb⟩
  unfold R2
  go_wp2
  go_ret2
  exact ⟨rfl, hb⟩
set_option maxHeartbeats 1000000 in
theorem Speed_any (B : Nat) (A : Option Addr) (c : Nat) (T : List (List Int)) (t : Int) (w : World) (h : Mat w B A T) (hB : B ≤ w.heap.size) :
    Calls Try.prog 17 #[.slice A T.length c, .int .i64 t] w fun e w' => e = R2 (speedR T t) ∧ Below w.heap.size w w' := by
  go_enter Try.func17, Try.ntmps17
  go_wp2_with fail
  refine (isHour_any _ _).mono ?_
  rintro e w' ⟨rfl, rfl⟩
  go_wp2_with fail
  refine (told_speed B A c T t _ _ _ _ ((h.alloc hB _).alloc (by simp; omega) _) (by simp [go_sem]) (by simp [go_sem])).mono ?_
  rintro e w' ⟨rfl, hb⟩
  have hb' : Below w.heap.size w w' := (((Below.refl _ _).alloc (Nat.le_refl _) _).alloc (by simp) _).trans (hb.mono (by simp; omega))
  unfold R2
  go_wp2
  go_ret2
  exact ⟨rfl, hb'⟩

end Go.Proofs.Ytmpmlgognkmfgaa
