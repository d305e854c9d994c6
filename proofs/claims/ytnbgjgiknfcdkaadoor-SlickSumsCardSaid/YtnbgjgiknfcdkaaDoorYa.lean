/-
  The specification's 'inRange' of any slick.
-/
import Derived.Test.YtnbgjgiknfcdkaaDoorY
namespace Go.Proofs.YtnbgjgiknfcdkaaDoor
open Go.RowKit Go.Deep M
set_option linter.unusedVariables false
set_option linter.unusedSimpArgs false

theorem amtsB_bad {k : Nat} {a : List Int} {j : Nat} (hj : j < a.length) (hb : badA k (el a j) = true) : amtsB (k : Int) a = false := by
  unfold amtsB
  rw [Int.toNat_natCast, badIn_of a.length j hj hb]
  simp

set_option maxRecDepth 100000 in
set_option maxHeartbeats 4000000 in
theorem inRange_ref (B : Nat) (K : Int) (A : Option Addr) (c : Nat) (O : List Int) (aw : Int) (w : World) (hO : Row w B A O) (hB : B ≤ w.heap.size) (hl : O.length ≤ 900) :
    Calls Tryd.prog 76 #[.agg #[.int .i64 K, .slice A O.length c, .int .i64 aw]] w fun e w' => e = .returned (.bool (amtsB K (amt O aw))) ∧ Below w.heap.size w w' := by
  have hb0 := ba1 w (.cells #[.int .i64 K, .slice A O.length c, .int .i64 aw] 28)
  by_cases h0 : K < 0
  · have hR : amtsB K (amt O aw) = false := by unfold amtsB movesB; simp; omega
    rw [hR]
    have d0 : decide (K < 0) = true := by simp [h0]
    clear hR
    replace hb0 := Lib.hid hb0
    go_enter Tryd.func76, Tryd.ntmps76
    go_wp2
    go_ret
    exact ⟨rfl, hb0.out⟩
  by_cases h5 : 5 < K
  · have hR : amtsB K (amt O aw) = false := by unfold amtsB movesB; simp; omega
    rw [hR]
    have d0 : decide (K < 0) = false := by simp; omega
    have d1 : decide (5 < K) = true := by simp [h5]
    clear hR
    replace hb0 := Lib.hid hb0
    go_enter Tryd.func76, Tryd.ntmps76
    go_wp2
    go_ret
    exact ⟨rfl, hb0.out⟩
  have d0 : decide (K < 0) = false := by simp; omega
  have d1 : decide (5 < K) = false := by simp; omega
  obtain ⟨k, rfl⟩ : ∃ k : Nat, K = k := ⟨K.toNat, by omega⟩
  have hk : k ≤ 5 := by omega
  have c52 := fun X => sixteen_ref k X hk
  have la : (amt O aw).length = O.length + 1 := amt_len _ _
  have hbad : ∀ j, j < O.length + 1 → (el (amt O aw) j < 0 ∨ 36000 * (16 : Int) ^ k < el (amt O aw) j) → amtsB (k : Int) (amt O aw) = false := fun j hj h => amtsB_bad (a := amt O aw) (j := j) (by rw [la]; exact hj) (by unfold badA; simpa using h)
  have hgood : (∀ j, j < O.length + 1 → 0 ≤ el (amt O aw) j ∧ el (amt O aw) j ≤ 36000 * (16 : Int) ^ k) → amtsB (k : Int) (amt O aw) = true := fun h => by
    unfold amtsB
    rw [Int.toNat_natCast, (not_badIn _).2 (fun j hj => by
      have h1 := (h j (by omega)).1
      have h2 := (h j (by omega)).2
      unfold badA
      rw [Bool.or_eq_false_iff]
      exact ⟨decide_eq_false (Int.not_lt.2 h1), decide_eq_false (Int.not_lt.2 h2)⟩)]
    unfold movesB
    simp
    omega
  have hel : ∀ j, j < O.length → el (amt O aw) j = el O j := fun j hj => amt_el O aw j hj
  have hae : el (amt O aw) O.length = aw := amt_away O aw
  have hp : 1 ≤ (16 : Int) ^ k ∧ (16 : Int) ^ k ≤ 1048576 := by
    have : k = 0 ∨ k = 1 ∨ k = 2 ∨ k = 3 ∨ k = 4 ∨ k = 5 := by omega
    rcases this with e | e | e | e | e | e <;> rw [e] <;> decide
  generalize amtsB (k : Int) (amt O aw) = R at *
  generalize (16 : Int) ^ k = p at *
  obtain ⟨q, hq⟩ : ∃ q, 36000 * p = q := ⟨_, rfl⟩
  have hq2 : IntKind.i64.wrap (36000 * p) = q := by rw [hq]; exact IntWalk.i64_in _ (by omega)
  rw [hq] at hbad hgood
  have hOr := hO.below (hb0.mono hB)
  have hlO := hO.1
  replace hbad := Lib.hid hbad
  replace hgood := Lib.hid hgood
  replace hel := Lib.hid hel
  replace hae := Lib.hid hae
  replace la := Lib.hid la
  replace hb0 := Lib.hid hb0
  replace hq := Lib.hid hq
  replace c52 := Lib.hid c52
  clear h0 h5 hO
  go_enter Tryd.func76, Tryd.ntmps76
  go_wp2_with fail
  refine (c52.out _).mono ?_
  rintro e w1 ⟨rfl, rfl⟩
  go_wp2
  go_loop [4] (fun i => ∃ j : Nat, j ≤ O.length ∧ i = .int .i64 j ∧ ∀ x, x < j → 0 ≤ el O x ∧ el O x ≤ q) (fun i => O.length - (intOf i).toNat)
  case atStart => exact ⟨0, Nat.zero_le _, rfl, fun x hx => absurd hx (by omega)⟩
  case round =>
    obtain ⟨j, hj, rfl, hok⟩ := hrel
    by_cases hlt : j < O.length
    · obtain ⟨b', o', rfl, hb', hcell⟩ := hOr.at_ j hlt
      have hjj : (j : Int) < ((O.length : Nat) : Int) := by omega
      by_cases n0 : el O j < 0
      · have e0 : decide (el O j < 0) = true := by simp [n0]
        have hR := hbad.out j (by omega) (.inl (by rw [hel.out j hlt]; exact n0))
        replace hR := Lib.hid hR
        replace n0 := Lib.hid n0
        replace hok := Lib.hid hok
        go_wp2
        go_ret
        exact ⟨ret_bool hR.out.symm, hb0.out⟩
      by_cases n1 : q < el O j
      · have e0 : decide (el O j < 0) = false := by simp; omega
        have e1 : decide (q < el O j) = true := by simp [n1]
        have hR := hbad.out j (by omega) (.inr (by rw [hel.out j hlt]; exact n1))
        replace hR := Lib.hid hR
        replace n0 := Lib.hid n0
        replace n1 := Lib.hid n1
        replace hok := Lib.hid hok
        go_wp2
        go_ret
        exact ⟨ret_bool hR.out.symm, hb0.out⟩
      have e0 : decide (el O j < 0) = false := by simp; omega
      have e1 : decide (q < el O j) = false := by simp; omega
      have hok2 : ∀ x, x < j + 1 → 0 ≤ el O x ∧ el O x ≤ q := fun x hx => by
        by_cases e : x = j
        · subst e; omega
        · exact hok x (by omega)
      replace hok2 := Lib.hid hok2
      replace hok := Lib.hid hok
      replace n0 := Lib.hid n0
      replace n1 := Lib.hid n1
      go_wp2
      go_round
      case rel => exact ⟨j + 1, by omega, by go_num, hok2.out⟩
      case measure => simp [intOf]; omega
    · have hjj : ¬ (j : Int) < ((O.length : Nat) : Int) := by omega
      obtain rfl : j = O.length := by omega
      by_cases n0 : aw < 0
      · have e0 : decide (0 ≤ aw) = false := by simp; omega
        have hR := hbad.out O.length (by omega) (.inl (by rw [hae.out]; exact n0))
        replace hR := Lib.hid hR
        replace n0 := Lib.hid n0
        replace hok := Lib.hid hok
        go_wp2
        go_ret
        exact ⟨ret_bool hR.out.symm, hb0.out⟩
      by_cases n1 : q < aw
      · have e0 : decide (0 ≤ aw) = true := by simp; omega
        have e1 : decide (aw ≤ q) = false := by simp; omega
        have hR := hbad.out O.length (by omega) (.inr (by rw [hae.out]; exact n1))
        replace hR := Lib.hid hR
        replace n0 := Lib.hid n0
        replace n1 := Lib.hid n1
        replace hok := Lib.hid hok
        go_wp2
        go_ret
        exact ⟨ret_bool hR.out.symm, hb0.out⟩
      have e0 : decide (0 ≤ aw) = true := by simp; omega
      have e1 : decide (aw ≤ q) = true := by simp; omega
      have hR := hgood.out (fun x hx => by
        by_cases e : x = O.length
        · subst e; rw [hae.out]; omega
        · rw [hel.out x (by omega)]; exact hok x (by omega))
      replace hR := Lib.hid hR
      replace n0 := Lib.hid n0
      replace n1 := Lib.hid n1
      replace hok := Lib.hid hok
      go_wp2
      go_ret
      exact ⟨ret_bool hR.out.symm, hb0.out⟩
end Go.Proofs.YtnbgjgiknfcdkaaDoor
