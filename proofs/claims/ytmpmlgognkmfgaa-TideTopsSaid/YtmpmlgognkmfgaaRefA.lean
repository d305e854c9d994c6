/-
  The contracts of the specification's functions: which tides are valid, speeds, rounds, drifts.
-/
import Derived.Test.YtmpmlgognkmfgaaSmall
namespace Go.Proofs.Ytmpmlgognkmfgaa
open Go.RowKit M
set_option linter.unusedVariables false
set_option linter.unusedSimpArgs false

def GoodRow (l : List Int) : Prop := (1 ≤ l.length ∧ l.length ≤ 12) ∧ ∀ j, j < l.length → -100 ≤ el l j ∧ el l j ≤ 100
def GoodUpto (T : List (List Int)) (k : Nat) : Prop := ∀ i, i < k → GoodRow (row T i)
def ElsUpto (l : List Int) (k : Nat) : Prop := ∀ j, j < k → -100 ≤ el l j ∧ el l j ≤ 100
theorem good_zero (T : List (List Int)) : GoodUpto T 0 := fun i hi => absurd hi (Nat.not_lt_zero _)
theorem els_zero (l : List Int) : ElsUpto l 0 := fun i hi => absurd hi (Nat.not_lt_zero _)
theorem els_succ {l : List Int} {k : Nat} (h : ElsUpto l k) (h1 : -100 ≤ el l k) (h2 : el l k ≤ 100) : ElsUpto l (k + 1) := fun j hj => by
  rcases Nat.lt_succ_iff_lt_or_eq.1 hj with h' | rfl
  · exact h j h'
  · exact ⟨h1, h2⟩
theorem good_succ {T : List (List Int)} {k : Nat} (h : GoodUpto T k) (h1 : 1 ≤ (row T k).length) (h2 : (row T k).length ≤ 12) (h3 : ElsUpto (row T k) (row T k).length) : GoodUpto T (k + 1) := fun j hj => by
  rcases Nat.lt_succ_iff_lt_or_eq.1 hj with h' | rfl
  · exact h j h'
  · exact ⟨⟨h1, h2⟩, h3⟩
theorem not_val_row {T : List (List Int)} {k : Nat} (hk : k < T.length) (h : ¬ GoodRow (row T k)) : validB T = false := validB_false fun hv => h (hv.2 k hk)
theorem not_good_len {l : List Int} (h : l.length < 1 ∨ 12 < l.length) : ¬ GoodRow l := fun hg => by have := hg.1; omega
theorem not_good_el {l : List Int} {j : Nat} (hj : j < l.length) (h : el l j < -100 ∨ 100 < el l j) : ¬ GoodRow l := fun hg => by have := hg.2 j hj; omega
theorem valid_end {T : List (List Int)} (h : GoodUpto T T.length) : validB T = (decide (1 ≤ T.length) && decide (T.length ≤ 4)) := by
  by_cases h1 : 1 ≤ T.length ∧ T.length ≤ 4
  · rw [validB_true ⟨h1, h⟩]; simp; omega
  · rw [validB_false (fun hv => h1 hv.1)]; simp; omega

set_option maxHeartbeats 1000000 in
theorem valid_ref (B : Nat) (A : Option Addr) (c : Nat) (T : List (List Int)) (w : World) (h : Mat w B A T) :
    Calls Try.prog 22 #[.slice A T.length c] w fun e w' => e = .returned (.bool (validB T)) ∧ w = w' := by
  have h63 := h.1
  go_enter Try.func22, Try.ntmps22
  go_wp2
  go_loop [9] (fun i => ∃ k : Nat, k ≤ T.length ∧ i = .int .i64 k ∧ GoodUpto T k) (fun i => T.length - (intOf i).toNat)
  case atStart => exact ⟨0, Nat.zero_le _, rfl, good_zero T⟩
  case round =>
    obtain ⟨k, hk, rfl, hno⟩ := hrel
    have hno := Lib.hid hno
    by_cases hlt : k < T.length
    · obtain ⟨b, o, Ai, ci, rfl, hb, hc, hr⟩ := h.at_ k hlt
      have hr1 := hr.1
      by_cases hl0 : (row T k).length < 1
      · have hw := Lib.hid (not_val_row hlt (not_good_len (.inl hl0)))
        go_wp2
        go_ret
        exact ⟨ret_bool hw.out.symm, rfl⟩
      by_cases hl1 : 12 < (row T k).length
      · have hw := Lib.hid (not_val_row hlt (not_good_len (.inr hl1)))
        go_wp2
        go_ret
        exact ⟨ret_bool hw.out.symm, rfl⟩
      go_wp2
      go_loop [23] (fun i => ∃ j : Nat, j ≤ (row T k).length ∧ i = .int .i64 j ∧ ElsUpto (row T k) j) (fun i => (row T k).length - (intOf i).toNat)
      case atStart => exact ⟨0, Nat.zero_le _, rfl, els_zero _⟩
      case round =>
        obtain ⟨j, hj, rfl, hel⟩ := hrel
        have hel := Lib.hid hel
        by_cases hjt : j < (row T k).length
        · obtain ⟨b', o', rfl, hb', hc'⟩ := hr.at_ j hjt
          by_cases he0 : el (row T k) j < -100
          · have hw := Lib.hid (not_val_row hlt (not_good_el hjt (.inl he0)))
            go_wp2
            go_ret
            exact ⟨ret_bool hw.out.symm, rfl⟩
          by_cases he1 : 100 < el (row T k) j
          · have hw := Lib.hid (not_val_row hlt (not_good_el hjt (.inr he1)))
            go_wp2
            go_ret
            exact ⟨ret_bool hw.out.symm, rfl⟩
          have hs := Lib.hid (els_succ hel.out (by omega) (by omega))
          go_wp2
          go_round
          case rel => exact ⟨j + 1, by omega, by go_num, hs.out⟩
          case measure => simp [intOf]; omega
        · have hj' : j = (row T k).length := by omega
          subst hj'
          have hs := Lib.hid (good_succ hno.out (by omega) (by omega) hel.out)
          go_wp2
          go_round
          case rel => exact ⟨k + 1, by omega, by go_num, hs.out⟩
          case measure => simp [intOf]; omega
    · have hk' : k = T.length := by omega
      subst hk'
      by_cases h1 : 1 ≤ T.length
      · by_cases h2 : T.length ≤ 4
        · have hs := Lib.hid (validB_true (T := T) ⟨⟨h1, h2⟩, hno.out⟩)
          go_wp2
          go_ret
          exact ⟨ret_bool (by rw [hs.out]; simp; omega), rfl⟩
        · have hs := Lib.hid (validB_false (T := T) (fun hv => h2 hv.1.2))
          go_wp2
          go_ret
          exact ⟨ret_bool (by rw [hs.out]; simp; omega), rfl⟩
      · have hs := Lib.hid (validB_false (T := T) (fun hv => h1 hv.1.1))
        go_wp2
        go_ret
        exact ⟨ret_bool (by rw [hs.out]), rfl⟩

theorem row_len {T : List (List Int)} (hv : Val T) (k : Nat) (hk : k < T.length) : 1 ≤ (row T k).length ∧ (row T k).length ≤ 12 := (hv.2 k hk).1

/-- The cell that 'w[modulo(at, len(w))]' reads. -/
theorem Row.at_hour {w : World} {B : Nat} {A : Option Addr} {l : List Int} (h : Row w B A l) (t : Int) (hl : 1 ≤ l.length) :
    ∃ b o, A = some ⟨b, o, none⟩ ∧ b < B ∧ w.cell? ⟨b, o + (t % (l.length : Int)).toNat, none⟩ = some (.int .i64 (M.at_ l t)) := by
  obtain ⟨b, o, e, hb, hc⟩ := h.2 (by omega)
  exact ⟨b, o, e, hb, hc _ (idx_lt t _ hl)⟩
theorem hour_range (t : Int) (n : Nat) (h : 1 ≤ n) : 0 ≤ t % (n : Int) ∧ t % (n : Int) < n := ⟨Int.emod_nonneg t (by omega), Int.emod_lt_of_pos t (by omega)⟩

set_option maxHeartbeats 1000000 in
theorem speed_ref (B : Nat) (A : Option Addr) (c : Nat) (T : List (List Int)) (t : Int) (w : World) (h : Mat w B A T) (hv : Val T) (ht : -4000000000000000000 ≤ t ∧ t ≤ 4000000000000000000) :
    Calls Try.prog 53 #[.slice A T.length c, .int .i64 t] w fun e w' => e = .returned (.int .i64 (spd T t)) ∧ w = w' := by
  have h63 := h.1
  go_enter Try.func53, Try.ntmps53
  go_wp2
  go_loop [5, 10] (fun s i => ∃ k : Nat, k ≤ T.length ∧ i = .int .i64 k ∧ s = .int .i64 (spdK T t k)) (fun _ i => T.length - (intOf i).toNat)
  case atStart => exact ⟨0, Nat.zero_le _, rfl, rfl⟩
  case round =>
    obtain ⟨k, hk, rfl, rfl⟩ := hrel
    obtain ⟨s1, s2⟩ := spdK_bound hv t k hk
    by_cases hlt : k < T.length
    · obtain ⟨b, o, Ai, ci, rfl, hb, hc, hr⟩ := h.at_ k hlt
      obtain ⟨l1, l2⟩ := row_len hv k hlt
      obtain ⟨b', o', rfl, hb', hc'⟩ := hr.at_hour t l1
      obtain ⟨m1, m2⟩ := hour_range t (row T k).length l1
      obtain ⟨a1, a2⟩ := at_bound hv k hlt t
      have hs := Lib.hid (spdK_succ T t k)
      go_wp2_with (go_at_call 79; refine (modulo_ref _ _ _ ht l1 (by omega)).mono ?_; rintro e w' ⟨rfl, rfl⟩)
      go_round
      case rel => exact ⟨k + 1, by omega, by go_num, by rw [hs.out]⟩
      case measure => simp [intOf]; omega
    · have hk' : k = T.length := by omega
      subst hk'
      go_wp2
      go_ret
      exact ⟨rfl, rfl⟩

end Go.Proofs.Ytmpmlgognkmfgaa
