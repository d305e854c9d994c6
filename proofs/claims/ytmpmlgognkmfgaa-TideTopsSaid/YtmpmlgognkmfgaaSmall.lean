/-
  The contracts of the small functions: numbers, moduli, the tests of hours, speeds and lengths.
-/
import Derived.Test.YtmpmlgognkmfgaaData
namespace Go.Proofs.Ytmpmlgognkmfgaa
open Go.RowKit M
set_option linter.unusedVariables false
set_option linter.unusedSimpArgs false

def longUpto (T : List (List Int)) (k : Nat) : Bool := (T.take k).any (fun l => decide (40 < l.length))
def wideB (T : List (List Int)) : Bool := T.any (fun l => decide (40 < l.length)) || decide (20 < T.length)

theorem wide_hit (T : List (List Int)) (k : Nat) (hk : k < T.length) (h : 40 < (row T k).length) : wideB T = true := by
  unfold wideB
  rw [Bool.or_eq_true]
  left
  rw [List.any_eq_true]
  refine ⟨T[k], List.getElem_mem hk, ?_⟩
  rw [row_eq T k hk] at h
  simpa using h
theorem long_step (T : List (List Int)) (k : Nat) (hk : k < T.length) (h0 : longUpto T k = false) (h : (row T k).length ≤ 40) : longUpto T (k + 1) = false := by
  unfold longUpto at *
  rw [List.take_succ_eq_append_getElem hk, List.any_append, h0]
  rw [row_eq T k hk] at h
  simp; omega
theorem wide_end (T : List (List Int)) (h0 : longUpto T T.length = false) : wideB T = decide (20 < T.length) := by
  unfold longUpto at h0; unfold wideB
  rw [List.take_length] at h0
  rw [h0]; rfl
theorem wide_small {T : List (List Int)} (h : wideB T = false) : T.length ≤ 20 ∧ ∀ i, i < T.length → (row T i).length ≤ 40 := by
  unfold wideB at h
  rw [Bool.or_eq_false_iff] at h
  refine ⟨by simpa using h.2, fun i hi => ?_⟩
  have h1 := h.1
  rw [List.any_eq_false] at h1
  have := h1 _ (row_mem T i hi)
  simpa using this

set_option maxHeartbeats 400000 in
theorem wide_any (B : Nat) (A : Option Addr) (c : Nat) (T : List (List Int)) (w : World) (h : Mat w B A T) :
    Calls Try.prog 15 #[.slice A T.length c] w fun e w' => e = .returned (.bool (wideB T)) ∧ w = w' := by
  have h63 := h.1
  go_enter Try.func15, Try.ntmps15
  go_wp2
  go_loop [7] (fun i => ∃ k : Nat, k ≤ T.length ∧ i = .int .i64 k ∧ longUpto T k = false) (fun i => T.length - (intOf i).toNat)
  case atStart => exact ⟨0, Nat.zero_le _, rfl, rfl⟩
  case round =>
    obtain ⟨k, hk, rfl, hno⟩ := hrel
    by_cases hlt : k < T.length
    · obtain ⟨b, o, Ai, ci, rfl, hb, hc, hr⟩ := h.at_ k hlt
      have hno := Lib.hid hno
      by_cases hl : 40 < (row T k).length
      · have hw := Lib.hid (wide_hit T k hlt hl)
        go_wp2
        go_ret
        exact ⟨by rw [hw.out]; rfl, rfl⟩
      · have hl' : (row T k).length ≤ 40 := by omega
        have hs := Lib.hid (long_step T k hlt hno.out hl')
        go_wp2
        go_round
        case rel => exact ⟨k + 1, by omega, by go_num, hs.out⟩
        case measure => simp [intOf]; omega
    · have hk' : k = T.length := by omega
      subst hk'
      have hs := Lib.hid (wide_end T hno)
      go_wp2
      go_ret
      exact ⟨by rw [hs.out]; simp; omega, rfl⟩

/-! ### tests -/
def lenB (n m : Int) : Bool := decide (1 ≤ n) && decide (n ≤ m)
def hourB (h : Int) : Bool := decide (-1000000 ≤ h) && decide (h ≤ 1000000)
def spanB (n : Int) : Bool := decide (0 ≤ n) && decide (n ≤ 1000000)
def badB (v : Int) : Bool := decide (v < -100) || decide (100 < v)
theorem hourB_true {h : Int} (a : -1000000 ≤ h ∧ h ≤ 1000000) : hourB h = true := by unfold hourB; simp; omega
theorem of_hourB {h : Int} (a : hourB h = true) : -1000000 ≤ h ∧ h ≤ 1000000 := by unfold hourB at a; simpa using a
theorem of_spanB {h : Int} (a : spanB h = true) : 0 ≤ h ∧ h ≤ 1000000 := by unfold spanB at a; simpa using a
theorem spanB_true {h : Int} (a : 0 ≤ h ∧ h ≤ 1000000) : spanB h = true := by unfold spanB; simp; omega

theorem isLength_any (n m : Int) (w : World) : Calls Try.prog 58 #[.int .i64 n, .int .i64 m] w fun e w' => e = .returned (.bool (lenB n m)) ∧ w = w' := by
  by_cases h1 : 1 ≤ n <;> by_cases h2 : n ≤ m
  all_goals
    go_enter Try.func58, Try.ntmps58
    go_wp2
    go_ret
    exact ⟨ret_bool (by simp [lenB]; try omega), rfl⟩
theorem isHour_any (n : Int) (w : World) : Calls Try.prog 52 #[.int .i64 n] w fun e w' => e = .returned (.bool (hourB n)) ∧ w = w' := by
  by_cases h1 : -1000000 ≤ n <;> by_cases h2 : n ≤ 1000000
  all_goals
    go_enter Try.func52, Try.ntmps52
    go_wp2
    go_ret
    exact ⟨ret_bool (by simp [hourB]; try omega), rfl⟩
theorem isHour_ref (n : Int) (w : World) : Calls Try.prog 47 #[.int .i64 n] w fun e w' => e = .returned (.bool (hourB n)) ∧ w = w' := by
  by_cases h1 : -1000000 ≤ n <;> by_cases h2 : n ≤ 1000000
  all_goals
    go_enter Try.func47, Try.ntmps47
    go_wp2
    go_ret
    exact ⟨ret_bool (by simp [hourB]; try omega), rfl⟩
theorem isSpan_any (n : Int) (w : World) : Calls Try.prog 56 #[.int .i64 n] w fun e w' => e = .returned (.bool (spanB n)) ∧ w = w' := by
  by_cases h1 : 0 ≤ n <;> by_cases h2 : n ≤ 1000000
  all_goals
    go_enter Try.func56, Try.ntmps56
    go_wp2
    go_ret
    exact ⟨ret_bool (by simp [spanB]; try omega), rfl⟩
theorem isBad_any (n : Int) (w : World) : Calls Try.prog 88 #[.int .i64 n] w fun e w' => e = .returned (.bool (badB n)) ∧ w = w' := by
  by_cases h1 : n < -100 <;> by_cases h2 : 100 < n
  all_goals
    go_enter Try.func88, Try.ntmps88
    go_wp2
    go_ret
    exact ⟨ret_bool (by simp [badB]; try omega), rfl⟩

theorem modulo_any (a : Int) (n : Nat) (w : World) (ha : -4000000000000000000 ≤ a ∧ a ≤ 4000000000000000000) (hn : 1 ≤ n) (hn2 : n ≤ 1000000) :
    Calls Try.prog 84 #[.int .i64 a, .int .i64 n] w fun e w' => e = .returned (.int .i64 (a % n)) ∧ w = w' := by
  have h1 := tmod_small a n hn
  obtain ⟨h11, h12⟩ := h1
  have hp : 0 ≤ a.tmod n + n := by omega
  have he := Lib.hid (modulo_eq a n)
  go_enter Try.func84, Try.ntmps84
  go_wp2
  go_ret
  exact ⟨ret_int (by simpa using he.out), rfl⟩
theorem modulo_ref (a : Int) (n : Nat) (w : World) (ha : -4000000000000000000 ≤ a ∧ a ≤ 4000000000000000000) (hn : 1 ≤ n) (hn2 : n ≤ 1000000) :
    Calls Try.prog 79 #[.int .i64 a, .int .i64 n] w fun e w' => e = .returned (.int .i64 (a % n)) ∧ w = w' := by
  have h1 := tmod_small a n hn
  obtain ⟨h11, h12⟩ := h1
  have hp : 0 ≤ a.tmod n + n := by omega
  have he := Lib.hid (modulo_eq a n)
  go_enter Try.func79, Try.ntmps79
  go_wp2
  go_ret
  exact ⟨ret_int (by simpa using he.out), rfl⟩

theorem gcd_any (a b : Nat) (w : World) (ha : a ≤ 1000000) (hb : b ≤ 1000000) :
    Calls Try.prog 89 #[.int .i64 a, .int .i64 b] w fun e w' => e = .returned (.int .i64 (Nat.gcd a b)) ∧ ∃ n, w' = w.drewN n := by
  go_enter Try.func89, Try.ntmps89
  go_wp2
  go_loopw [0, 1] (fun x y wr => ∃ p q : Nat, p ≤ 1000000 ∧ q ≤ 1000000 ∧ x = .int .i64 p ∧ y = .int .i64 q ∧ Nat.gcd p q = Nat.gcd a b ∧ ∃ n, wr = w.drewN n) (fun _ y _ => (intOf y).toNat)
  case atStart => exact ⟨a, b, ha, hb, rfl, rfl, rfl, 0, rfl⟩
  case round =>
    obtain ⟨p, q, hp, hq, rfl, rfl, hg, n, rfl⟩ := hrel
    have hg := Lib.hid hg
    by_cases h0 : q = 0
    · subst h0
      go_wp2
      go_ret
      exact ⟨ret_int (by have := hg.out; simp at this; simp [this]), n, rfl⟩
    · have hb0 : ((q : Int) != 0) = true := by simp; omega
      have hq1 : 1 ≤ (q : Int) := by omega
      go_wp2
      go_quiet (fail)
      go_wp2
      go_roundw
      case rel => exact ⟨q, p % q, hq, by have := Nat.mod_lt p (show q > 0 by omega); omega, by go_num, by go_num, by rw [← hg.out, Nat.gcd_comm q (p % q), ← Nat.gcd_rec, Nat.gcd_comm], n + nq, by simp⟩
      case measure => simp [intOf]; have := Nat.mod_lt p (show q > 0 by omega); omega

end Go.Proofs.Ytmpmlgognkmfgaa
