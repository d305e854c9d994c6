/-
  The contracts of the specification's functions: rounds and drifts.
-/
import Derived.Test.YtmpmlgognkmfgaaRefA
namespace Go.Proofs.Ytmpmlgognkmfgaa
open Go.RowKit M
set_option linter.unusedVariables false
set_option linter.unusedSimpArgs false

theorem drf_bd {T : List (List Int)} (hv : Val T) (f : Int) (n : Nat) (hn : n ≤ 1000000) : -400000000 ≤ drf T f n ∧ drf T f n ≤ 400000000 := by
  have := drf_bound hv f n
  omega

set_option maxHeartbeats 1000000 in
theorem drift_ref (B : Nat) (A : Option Addr) (c : Nat) (T : List (List Int)) (f : Int) (n : Nat) (w : World) (h : Mat w B A T) (hv : Val T) (hf : -3000000000000000000 ≤ f ∧ f ≤ 3000000000000000000) (hn : n ≤ 1000000) :
    Calls Try.prog 64 #[.slice A T.length c, .int .i64 f, .int .i64 n] w fun e w' => e = .returned (.int .i64 (drf T f n)) ∧ w = w' := by
  have h63 := h.1
  go_enter Try.func64, Try.ntmps64
  go_wp2
  go_loop [7, 10] (fun s i => ∃ k : Nat, k ≤ n ∧ i = .int .i64 k ∧ s = .int .i64 (drf T f k)) (fun _ i => n - (intOf i).toNat)
  case atStart => exact ⟨0, Nat.zero_le _, rfl, rfl⟩
  case round =>
    obtain ⟨k, hk, rfl, rfl⟩ := hrel
    obtain ⟨s1, s2⟩ := drf_bd hv f k (by omega)
    by_cases hlt : k < n
    · obtain ⟨a1, a2⟩ := spd_bound hv (f + k)
      have hs := Lib.hid (show drf T f (k + 1) = drf T f k + spd T (f + k) from rfl)
      go_wp2_with (go_at_call 53; refine (speed_ref B _ _ _ _ _ h hv (by omega)).mono ?_; rintro e w' ⟨rfl, rfl⟩)
      go_round
      case rel => exact ⟨k + 1, by omega, by go_num, by rw [hs.out]⟩
      case measure => simp [intOf]; omega
    · have hk' : k = n := by omega
      subst hk'
      go_wp2
      go_ret
      exact ⟨rfl, rfl⟩

theorem mult_next {n m L : Nat} (hn : n ∣ m) (hL : n ∣ L) (h : m < L) : m + n ≤ L := by
  obtain ⟨a, rfl⟩ := hn
  obtain ⟨b, rfl⟩ := hL
  have : a < b := by
    rcases Nat.lt_or_ge a b with h1 | h1
    · exact h1
    · have := Nat.mul_le_mul_left n h1; omega
  have := Nat.mul_le_mul_left n this
  rw [Nat.mul_succ] at this
  omega
theorem lcm_is {n l m : Nat} (h0 : 0 < m) (h1 : n ∣ m) (h2 : l ∣ m) (h3 : m ≤ Nat.lcm n l) : m = Nat.lcm n l := Nat.le_antisymm h3 (Nat.le_of_dvd h0 (Nat.lcm_dvd h1 h2))
theorem lcm_lt {n l m : Nat} (h2 : ¬ l ∣ m) (h3 : m ≤ Nat.lcm n l) : m < Nat.lcm n l := by
  rcases Nat.lt_or_ge m (Nat.lcm n l) with h | h
  · exact h
  · exact absurd (by rw [Nat.le_antisymm h3 h]; exact Nat.dvd_lcm_right _ _) h2

set_option maxHeartbeats 1000000 in
theorem round_ref (B : Nat) (A : Option Addr) (c : Nat) (T : List (List Int)) (w : World) (h : Mat w B A T) (hv : Val T) :
    Calls Try.prog 62 #[.slice A T.length c] w fun e w' => e = .returned (.int .i64 (rnd T)) ∧ w = w' := by
  have h63 := h.1
  go_enter Try.func62, Try.ntmps62
  go_wp2
  go_loop [3, 9] (fun s i => ∃ k : Nat, k ≤ T.length ∧ i = .int .i64 k ∧ s = .int .i64 (rndK T k)) (fun _ i => T.length - (intOf i).toNat)
  case atStart => exact ⟨0, Nat.zero_le _, rfl, rfl⟩
  case round =>
    obtain ⟨k, hk, rfl, rfl⟩ := hrel
    have r1 := rndK_pos hv k hk
    have r2 := rndK_bound hv k hk
    by_cases hlt : k < T.length
    · obtain ⟨b, o, Ai, ci, rfl, hb, hc, hr⟩ := h.at_ k hlt
      obtain ⟨l1, l2⟩ := row_len hv k hlt
      have q2 := rndK_bound hv (k + 1) hlt
      have hq := Lib.hid (rndK_succ T k)
      go_wp2
      go_loop [6] (fun i => ∃ m : Nat, 1 ≤ m ∧ m ≤ rndK T (k + 1) ∧ i = .int .i64 m ∧ rndK T k ∣ m) (fun i => rndK T (k + 1) - (intOf i).toNat)
      case atStart => exact ⟨rndK T k, r1, by rw [hq.out]; exact Nat.le_of_dvd (by rw [← hq.out]; exact rndK_pos hv (k + 1) hlt) (Nat.dvd_lcm_left _ _), rfl, Nat.dvd_refl _⟩
      case round =>
        obtain ⟨m, hm1, hm2, rfl, hd⟩ := hrel
        have hd := Lib.hid hd
        by_cases hdv : (row T k).length ∣ m
        · have he := Lib.hid (lcm_is hm1 hd.out hdv (by rw [← hq.out]; exact hm2))
          have ht : ((m : Int) % ((row T k).length : Int) != 0) = false := by
            have := Nat.mod_eq_zero_of_dvd hdv
            simp; omega
          have hp : 1 ≤ ((row T k).length : Int) := by omega
          clear hdv
          go_wp2
          go_round
          case rel => exact ⟨k + 1, by omega, by go_num, by rw [he.out, ← hq.out]⟩
          case measure => simp [intOf]; omega
        · have he := lcm_lt hdv (by rw [← hq.out]; exact hm2)
          rw [← hq.out] at he
          have hx := mult_next hd.out (by rw [hq.out]; exact Nat.dvd_lcm_left _ _) he
          have ht : ((m : Int) % ((row T k).length : Int) != 0) = true := by
            have : ¬ m % (row T k).length = 0 := fun h => hdv (Nat.dvd_of_mod_eq_zero h)
            simp; omega
          have hp : 1 ≤ ((row T k).length : Int) := by omega
          clear hdv
          go_wp2
          go_round
          case rel => exact ⟨m + rndK T k, by omega, hx, by go_num, Nat.dvd_add hd.out (Nat.dvd_refl _)⟩
          case measure => simp [intOf]; omega
    · have hk' : k = T.length := by omega
      subst hk'
      go_wp2
      go_ret
      exact ⟨rfl, rfl⟩

end Go.Proofs.Ytmpmlgognkmfgaa
