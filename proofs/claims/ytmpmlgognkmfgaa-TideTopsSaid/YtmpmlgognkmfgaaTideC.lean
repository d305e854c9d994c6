/-
  The contracts of the program's functions: speeds, sums of waves, drifts, rounds of a tide.
-/
import Derived.Test.YtmpmlgognkmfgaaTideB
namespace Go.Proofs.Ytmpmlgognkmfgaa
open Go.RowKit M
set_option linter.unusedVariables false
set_option linter.unusedSimpArgs false

set_option maxHeartbeats 1000000 in
theorem speed_any (B : Nat) (A : Option Addr) (c : Nat) (T : List (List Int)) (t : Int) (w : World) (h : Mat w B A T) (hv : Val T) (ht : -4000000000000000000 ≤ t ∧ t ≤ 4000000000000000000) :
    Calls Try.prog 51 #[.slice A T.length c, .int .i64 t] w fun e w' => e = .returned (.int .i64 (spd T t)) ∧ w = w' := by
  have h63 := h.1
  go_enter Try.func51, Try.ntmps51
  go_wp2
  go_loop [5, 10] (fun s i => ∃ k : Nat, k ≤ T.length ∧ i = .int .i64 k ∧ s = .int .i64 (spdK T t k)) (fun _ i => T.length - (intOf i).toNat)
  case atStart => exact ⟨0, Nat.zero_le _, rfl, rfl⟩
  case round =>
    obtain ⟨k, hk, rfl, rfl⟩ := hrel
    obtain ⟨s1, s2⟩ := spdK_bound hv t k hk
    by_cases hlt : k < T.length
    · obtain ⟨b, o, Ai, ci, rfl, hb, hc, hr⟩ := h.at_ k hlt
      obtain ⟨l1, l2⟩ := row_len hv k hlt
      obtain ⟨b', o', rfl, hb', hc'⟩ := hr.at_hour t l1
      obtain ⟨m1, m2⟩ := hour_range t (row T k).length l1
      obtain ⟨a1, a2⟩ := at_bound hv k hlt t
      have hs := Lib.hid (spdK_succ T t k)
      go_wp2_with (go_at_call 84; refine (modulo_any _ _ _ ht l1 (by omega)).mono ?_; rintro e w' ⟨rfl, rfl⟩)
      go_round
      case rel => exact ⟨k + 1, by omega, by go_num, by rw [hs.out]⟩
      case measure => simp [intOf]; omega
    · have hk' : k = T.length := by omega
      subst hk'
      go_wp2
      go_ret
      exact ⟨rfl, rfl⟩

/-- All numbers of a row lie between -100 and 100. -/
def Mild (l : List Int) : Prop := l.length ≤ 12 ∧ ∀ j, j < l.length → -100 ≤ el l j ∧ el l j ≤ 100
theorem mild_of {T : List (List Int)} (hv : Val T) (k : Nat) (hk : k < T.length) : Mild (row T k) := ⟨(hv.2 k hk).1.2, (hv.2 k hk).2⟩
def totK (l : List Int) (k : Nat) : Int := sm (fun i => el l i) k
theorem totK_succ (l : List Int) (k : Nat) : totK l (k + 1) = totK l k + el l k := rfl
theorem totK_bound {l : List Int} (h : Mild l) (k : Nat) (hk : k ≤ l.length) : -(100 * k) ≤ totK l k ∧ totK l k ≤ 100 * k := sm_bound k 100 (fun i hi => h.2 i (by omega))

set_option maxHeartbeats 1000000 in
theorem total_any (B : Nat) (A : Option Addr) (c : Nat) (l : List Int) (w : World) (h : Row w B A l) (hm : Mild l) :
    Calls Try.prog 85 #[.slice A l.length c] w fun e w' => e = .returned (.int .i64 (tot l)) ∧ w = w' := by
  have h12 := hm.1
  go_enter Try.func85, Try.ntmps85
  go_wp2
  go_loop [3, 8] (fun s i => ∃ k : Nat, k ≤ l.length ∧ i = .int .i64 k ∧ s = .int .i64 (totK l k)) (fun _ i => l.length - (intOf i).toNat)
  case atStart => exact ⟨0, Nat.zero_le _, rfl, rfl⟩
  case round =>
    obtain ⟨k, hk, rfl, rfl⟩ := hrel
    obtain ⟨s1, s2⟩ := totK_bound hm k hk
    by_cases hlt : k < l.length
    · obtain ⟨b, o, rfl, hb, hc⟩ := h.at_ k hlt
      obtain ⟨a1, a2⟩ := hm.2 k hlt
      have hs := Lib.hid (totK_succ l k)
      go_wp2
      go_round
      case rel => exact ⟨k + 1, by omega, by go_num, by rw [hs.out]⟩
      case measure => simp [intOf]; omega
    · have hk' : k = l.length := by omega
      subst hk'
      go_wp2
      go_ret
      exact ⟨rfl, rfl⟩

theorem turns_bound {l : List Int} (h : Mild l) (n : Nat) (hn : n ≤ 1000000) : -100000000 ≤ (n : Int) / (l.length : Int) * tot l ∧ (n : Int) / (l.length : Int) * tot l ≤ 100000000 := by
  have h4 := totK_bound h l.length (Nat.le_refl _)
  change -(100 * (l.length : Int)) ≤ tot l ∧ tot l ≤ 100 * (l.length : Int) at h4
  have h5 : (n / l.length) * l.length ≤ n := Nat.div_mul_le_self n l.length
  have e : ((n : Int) / (l.length : Int)) = ((n / l.length : Nat) : Int) := by simp
  rw [e]
  generalize n / l.length = q at *
  have h6 : ((q : Int) * (l.length : Int)) ≤ 1000000 := by
    have : ((q * l.length : Nat) : Int) ≤ 1000000 := by omega
    rwa [Int.natCast_mul] at this
  have a1 : (q : Int) * tot l ≤ q * (100 * l.length) := Int.mul_le_mul_of_nonneg_left h4.2 (by omega)
  have a2 : (q : Int) * (-(100 * l.length)) ≤ q * tot l := Int.mul_le_mul_of_nonneg_left h4.1 (by omega)
  have e2 : (q : Int) * (100 * l.length) = 100 * (q * l.length) := by rw [Int.mul_left_comm]
  rw [Int.mul_neg, e2] at a2
  rw [e2] at a1
  omega
theorem sgat_bd {T : List (List Int)} (hv : Val T) (i : Nat) (hi : i < T.length) (f : Int) (n : Nat) (hn : n ≤ 1000000) : -100000000 ≤ sg (M.at_ (row T i)) f n ∧ sg (M.at_ (row T i)) f n ≤ 100000000 := by
  have := sgat_bound hv i hi f n
  omega
theorem drfK_bd {T : List (List Int)} (hv : Val T) (f : Int) (n k : Nat) (hk : k ≤ T.length) (hn : n ≤ 1000000) : -400000000 ≤ drfK T f n k ∧ drfK T f n k ≤ 400000000 := by
  have := drfK_bound hv f n k hk
  omega

set_option maxHeartbeats 2000000 in
theorem drift_any (B : Nat) (A : Option Addr) (c : Nat) (T : List (List Int)) (f : Int) (n : Nat) (w : World) (h : Mat w B A T) (hv : Val T) (hf : -3000000000000000000 ≤ f ∧ f ≤ 3000000000000000000) (hn : n ≤ 1000000) :
    Calls Try.prog 55 #[.slice A T.length c, .int .i64 f, .int .i64 n] w fun e w' => e = .returned (.int .i64 (drf T f n)) ∧ ∃ m, w' = w.drewN m := by
  have h63 := h.1
  go_enter Try.func55, Try.ntmps55
  go_wp2
  go_loopw [7, 13] (fun s i wr => ∃ k : Nat, k ≤ T.length ∧ i = .int .i64 k ∧ s = .int .i64 (drfK T f n k) ∧ ∃ m, wr = w.drewN m) (fun _ i _ => T.length - (intOf i).toNat)
  case atStart => exact ⟨0, Nat.zero_le _, rfl, rfl, 0, rfl⟩
  case round =>
    obtain ⟨k, hk, rfl, rfl, m, rfl⟩ := hrel
    obtain ⟨s1, s2⟩ := drfK_bd hv f n k hk hn
    by_cases hlt : k < T.length
    · obtain ⟨b, o, Ai, ci, rfl, hb, hc, hr⟩ := h.at_ k hlt
      obtain ⟨l1, l2⟩ := row_len hv k hlt
      obtain ⟨t1, t2⟩ := turns_bound (mild_of hv k hlt) n hn
      obtain ⟨q1, q2⟩ := quo_range n (row T k).length hn
      have hml := Lib.hid (mild_of hv k hlt)
      have hp : 1 ≤ ((row T k).length : Int) := by omega
      have hs := Lib.hid (drfK_succ T f n k)
      have hw := Lib.hid (wave_turns (row T k) f n)
      have hmod := Nat.mod_lt n (show 0 < (row T k).length by omega)
      have hcast : Hid (((n : Int) % ((row T k).length : Int)) = ((n % (row T k).length : Nat) : Int)) := by show _ = _; simp
      go_wp2
      go_quiet ((go_at_call 85; (with_reducible exact quiet_add_left (total_any B _ _ _ _ (hr.drewN _) hml.out))))
      go_wp2
      have hz0 : sg (M.at_ (row T k)) f 0 = 0 := rfl
      go_loop [7, 30] (fun s i => ∃ j : Nat, j ≤ n % (row T k).length ∧ i = .int .i64 j ∧ s = .int .i64 (drfK T f n k + (n : Int) / ((row T k).length : Int) * tot (row T k) + sg (M.at_ (row T k)) f j)) (fun _ i => n % (row T k).length - (intOf i).toNat)
      case atStart => exact ⟨0, Nat.zero_le _, rfl, by rw [hz0, Int.add_zero]⟩
      case round =>
        obtain ⟨j, hj, rfl, rfl⟩ := hrel
        obtain ⟨g1, g2⟩ := sgat_bd hv k hlt f j (by omega)
        by_cases hjt : j < n % (row T k).length
        · have hjt' : (j : Int) < (n : Int) % ((row T k).length : Int) := by rw [hcast.out]; omega
          obtain ⟨b', o', rfl, hb', hc'⟩ := hr.at_hour (f + j) l1
          obtain ⟨m1, m2⟩ := hour_range (f + j) (row T k).length l1
          obtain ⟨a1, a2⟩ := at_bound hv k hlt (f + j)
          have hss := Lib.hid (sg_succ (M.at_ (row T k)) f j)
          have ht : -4000000000000000000 ≤ f + j ∧ f + j ≤ 4000000000000000000 := by omega
          clear hmod
          go_wp2_with (go_at_call 84; refine (modulo_any _ _ _ ht l1 (by omega)).mono ?_; rintro e w' ⟨rfl, rfl⟩)
          go_round
          case rel => exact ⟨j + 1, by omega, by go_num, by rw [hss.out, Int.add_assoc]⟩
          case measure => simp [intOf]; omega
        · have hjt' : ¬ (j : Int) < (n : Int) % ((row T k).length : Int) := by rw [hcast.out]; omega
          have hje : j = n % (row T k).length := by omega
          have hje := Lib.hid hje
          clear hmod
          go_wp2
          go_roundw
          case rel => exact ⟨k + 1, by omega, by go_num, by rw [hs.out, hw.out, hje.out]; simp; omega, m + nq, by simp⟩
          case measure => simp [intOf]; omega
    · have hk' : k = T.length := by omega
      subst hk'
      have hw := Lib.hid (drf_waves T f n)
      go_wp2
      go_ret
      exact ⟨ret_int hw.out, m, rfl⟩

end Go.Proofs.Ytmpmlgognkmfgaa
