/-
  Factorials, the sum of a set, how many bits a number has.
-/
import Derived.Test.YthleekdkbgnabaaMathH
import Derived.Test.YthleekdkbgnabaaG
namespace Go.Proofs.Ythleekdkbgnabaa
open Go.RowKit Go.Deep M
set_option linter.unusedVariables false
set_option linter.unusedSimpArgs false

set_option maxHeartbeats 1000000 in
theorem factorial_any (n : Nat) (w : World) (hn : n ≤ 8) : Calls Try.prog 108 #[.int .i64 n] w fun r w' => r = .returned (.int .i64 (fac n)) ∧ w' = w := by
  go_enter Try.func108, Try.ntmps108
  go_wp2
  go_loop [6, 3] (fun i p => ∃ k : Nat, k ≤ n ∧ i = .int .i64 (k : Nat) ∧ p = .int .i64 (fac k)) (fun i _ => n - (intOf i).toNat)
  case atStart => exact ⟨0, by omega, rfl, rfl⟩
  case round =>
    obtain ⟨k, hk, rfl, rfl⟩ := hrel
    by_cases hkn : k < n
    · have h1 := fac_b k (by omega)
      have h2 := fac_b (k + 1) (by omega)
      have h3 := fac_succ k
      rw [h3] at h2
      have w2 : IntKind.i64.wrap (fac k * ((k : Int) + 1)) = fac k * ((k : Int) + 1) := IntWalk.i64_in _ (by omega)
      go_wp2
      go_round
      case rel => exact ⟨k + 1, by omega, by simp, by rw [h3]⟩
      case measure => simp [intOf]; omega
    · have : k = n := by omega
      subst this
      go_wp2
      go_ret
      exact ⟨rfl, rfl⟩

/-! ### a set's bits -/
namespace M
def oc1 (x : Int) : Int := IntKind.u64.wrap (bits .and .u64 (x / 2) 6148914691236517205 + bits .and .u64 x 6148914691236517205)
def oc2 (x : Int) : Int := IntKind.u64.wrap (bits .and .u64 (x / 4) 3689348814741910323 + bits .and .u64 x 3689348814741910323)
def oc3 (x : Int) : Int := bits .and .u64 (IntKind.u64.wrap (x / 16 + x)) 1085102592571150095
def oc4 (x y : Int) : Int := IntKind.u64.wrap (x + x / y)
def ocA (S : Int) : Int := bits .and .i64 (wrap64 (oc4 (oc4 (oc4 (oc3 (oc2 (oc1 S))) 256) 65536) 4294967296)) 127
theorem ocA_all : ∀ S, S < 128 → ocA (S : Nat) = (cnS S 7 : Nat) := by decide +kernel
theorem bit_and : ∀ S : Nat, S < 128 → ∀ k, k < 7 → bits .and .i64 ((S : Int) / 2 ^ k) 1 = (if inS S k = true then 1 else 0) := by decide +kernel
theorem bit_in {S k : Nat} (hS : S < 128) (hk : k < 7) (h : inS S k = true) : bits .and .i64 ((S : Int) / 2 ^ k) 1 = 1 := by rw [bit_and S hS k hk, if_pos h]
theorem bit_out {S k : Nat} (hS : S < 128) (hk : k < 7) (h : inS S k = false) : bits .and .i64 ((S : Int) / 2 ^ k) 1 = 0 := by rw [bit_and S hS k hk, if_neg (by simp [h])]
theorem in_no : ∀ n, n < 8 → ∀ S, S < 2 ^ n → cnS S 7 = cnS S n := by decide +kernel
end M
set_option maxHeartbeats 1000000 in
theorem onesCount64_any (S : Nat) (w : World) (hS : S < 128) : Calls Try.prog 125 #[.int .u64 S] w fun r w' => r = .returned (.int .i64 (cnS S 7)) ∧ w' = w := by
  have h := Lib.hid (ocA_all S hS)
  go_enter Try.func125, Try.ntmps125
  go_wp2
  go_ret
  exact ⟨congrArg (fun z => Ending.returned (.int .i64 z)) h.out, rfl⟩
set_option maxHeartbeats 1000000 in
theorem onesCount_any (S : Nat) (w : World) (hS : S < 128) : Calls Try.prog 107 #[.int .u64 S] w fun r w' => r = .returned (.int .i64 (cnS S 7)) ∧ w' = w := by
  have h := onesCount64_any S w hS
  generalize cnS S 7 = m at *
  go_enter Try.func107, Try.ntmps107
  go_wp2_with fail
  refine h.mono ?_
  rintro _ _ ⟨rfl, rfl⟩
  go_wp2
  go_ret
  exact ⟨rfl, rfl⟩
set_option maxHeartbeats 1000000 in
theorem sumOf_any (A : Option Addr) (c : Nat) (l : List Int) (S : Nat) (w : World) (h : Row w w.heap.size A l) (hv : Oks l l.length) (hl : l.length ≤ 7) (hS : S < 128) : Calls Try.prog 106 #[.slice A l.length c, .int .i64 S] w fun r w' => r = .returned (.int .i64 (suS l S l.length)) ∧ w' = w := by
  have hat := fun k (hk : k < l.length) => h.at_ k hk
  have hx := fun k (hk : k < l.length) => hv k hk
  have hb := fun k (hk : k ≤ l.length) => suS_b hv S k hk
  generalize l.length = n at *
  replace hat := Lib.hid hat
  replace hx := Lib.hid hx
  replace hb := Lib.hid hb
  replace h := Lib.hid h
  replace hv := Lib.hid hv
  go_enter Try.func106, Try.ntmps106
  go_wp2
  go_loop [10, 5, 6, 7] (fun i s _ _ => ∃ k : Nat, k ≤ n ∧ i = .int .i64 (k : Nat) ∧ s = .int .i64 (suS l S k)) (fun i _ _ _ => n - (intOf i).toNat)
  case atStart => exact ⟨0, by omega, rfl, rfl⟩
  case round =>
    obtain ⟨k, hk, rfl, rfl⟩ := hrel
    by_cases hkn : k < n
    · obtain ⟨b, o, rfl, hb', e0⟩ := hat.out k hkn
      have b0 := hb.out k hk
      have hxk := hx.out k hkn
      unfold okC at hxk
      cases hin : inS S k with
      | true =>
        have e1 := bit_in hS (by omega) hin
        have e2 : (bits .and .i64 ((S : Int) / 2 ^ k) 1 == 1) = true := by rw [e1]; decide
        have e3 := Lib.hid (suS_in (l := l) hin)
        replace hin := Lib.hid hin
        clear e1
        generalize suS l S k = s at *
        have w2 : wrap64 (s + el l k) = s + el l k := IntWalk.wrap64_in _ (by omega)
        go_wp2
        go_round
        case rel => exact ⟨k + 1, by omega, by simp, by rw [e3.out]⟩
        case measure => simp [intOf]; omega
      | false =>
        have e1 := bit_out hS (by omega) hin
        have e2 : (bits .and .i64 ((S : Int) / 2 ^ k) 1 == 1) = false := by rw [e1]; decide
        have e3 := Lib.hid (suS_out (l := l) hin)
        replace hin := Lib.hid hin
        clear e1
        go_wp2
        go_round
        case rel => exact ⟨k + 1, by omega, by simp, by rw [e3.out]⟩
        case measure => simp [intOf]; omega
    · have : k = n := by omega
      subst this
      go_wp2
      go_ret
      exact ⟨rfl, rfl⟩
end Go.Proofs.Ythleekdkbgnabaa
