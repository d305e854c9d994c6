/-
  Do awards add up, by three moduli: the specification's functions.
-/
import Derived.Test.YthleekdkbgnabaaAh
namespace Go.Proofs.Ythleekdkbgnabaa
open Go.RowKit Go.Deep M
set_option linter.unusedVariables false
set_option linter.unusedSimpArgs false

namespace M
theorem mod_step {out a b m c : Nat} (h : (out + a * b) % m = c) (h1 : b % 2 = 1) : ((out + a) % m + 2 * a % m * (b / 2)) % m = c := by
  have hb : b = 2 * (b / 2) + 1 := by omega
  rw [← h]
  have e : out + a * b = (out + a) + 2 * a * (b / 2) := by
    have : a * b = a * (2 * (b / 2) + 1) := by rw [← hb]
    rw [this, Nat.mul_add, Nat.mul_one, ← Nat.mul_assoc, Nat.mul_comm a 2]; omega
  rw [e, Nat.add_mod, Nat.mod_mod, Nat.mul_mod, Nat.mod_mod, ← Nat.mul_mod, ← Nat.add_mod]
theorem mod_step0 {out a b m c : Nat} (h : (out + a * b) % m = c) (h1 : ¬ b % 2 = 1) : (out + 2 * a % m * (b / 2)) % m = c := by
  have hb : b = 2 * (b / 2) := by omega
  rw [← h]
  have e : out + a * b = out + 2 * a * (b / 2) := by
    have : a * b = a * (2 * (b / 2)) := by rw [← hb]
    rw [this, ← Nat.mul_assoc, Nat.mul_comm a 2]
  rw [e, Nat.add_mod, Nat.mul_mod, Nat.mod_mod, ← Nat.mul_mod, ← Nat.add_mod]
def m1 : Nat := 2305843009213693951
def m2 : Nat := 2305843009213693952
def m3 : Nat := 2305843009213693953
theorem g12 : Nat.Coprime m1 m2 := by show Nat.gcd m1 m2 = 1; decide +kernel
theorem g123 : Nat.Coprime (m1 * m2) m3 := by show Nat.gcd (m1 * m2) m3 = 1; decide +kernel
theorem mbig : 8000 * 1000000 ^ 8 < m1 * m2 * m3 := by decide +kernel
theorem crt_le {x y : Nat} (hxy : y ≤ x) (h1 : x % m1 = y % m1) (h2 : x % m2 = y % m2) (h3 : x % m3 = y % m3) (hx : x ≤ 8000 * 1000000 ^ 8) : x = y := by
  have d1 : m1 ∣ x - y := Nat.dvd_of_mod_eq_zero (Nat.sub_mod_eq_zero_of_mod_eq h1)
  have d2 : m2 ∣ x - y := Nat.dvd_of_mod_eq_zero (Nat.sub_mod_eq_zero_of_mod_eq h2)
  have d3 : m3 ∣ x - y := Nat.dvd_of_mod_eq_zero (Nat.sub_mod_eq_zero_of_mod_eq h3)
  have c := Nat.Coprime.mul_dvd_of_dvd_of_dvd g123 (Nat.Coprime.mul_dvd_of_dvd_of_dvd g12 d1 d2) d3
  have hb := mbig
  generalize m1 * m2 * m3 = P at *
  generalize 8000 * 1000000 ^ 8 = B at *
  rcases Nat.eq_zero_or_pos (x - y) with h0 | h0
  · omega
  · have := Nat.le_of_dvd h0 c
    omega
theorem crt3 {x y : Nat} (h1 : x % m1 = y % m1) (h2 : x % m2 = y % m2) (h3 : x % m3 = y % m3) (hx : x ≤ 8000 * 1000000 ^ 8) (hy : y ≤ 8000 * 1000000 ^ 8) : x = y := by
  rcases Nat.le_total y x with h | h
  · exact crt_le h h1 h2 h3 hx
  · exact (crt_le h h1.symm h2.symm h3.symm hy).symm
/-- What awards add up to, modulo a number. -/
theorem su_mod (D : List Rt) (k m : Nat) : (suN D k % m * dN D k % m + nN D k * (cmN D k % m) % m) % m = suN D (k + 1) % m := by
  rw [suN_succ, ← Nat.add_mod]
  have e1 : (suN D k % m * dN D k + nN D k * (cmN D k % m)) % m = (suN D k * dN D k + nN D k * cmN D k) % m := by
    rw [Nat.add_mod, Nat.mul_mod (suN D k % m), Nat.mod_mod, ← Nat.mul_mod, Nat.mul_mod (nN D k), Nat.mod_mod, ← Nat.mul_mod, ← Nat.add_mod]
  rw [e1, Nat.mul_comm (nN D k)]
theorem cm_mod (D : List Rt) (k m : Nat) : cmN D k % m * dN D k % m = cmN D (k + 1) % m := by
  rw [cmN_succ, Nat.mul_mod, Nat.mod_mod, ← Nat.mul_mod]
theorem last_mod (D : List Rt) (k m t : Nat) : t * (cmN D k % m) % m = cmN D k * t % m := by
  rw [Nat.mul_mod, Nat.mod_mod, ← Nat.mul_mod, Nat.mul_comm]
theorem adds_mod {D : List Rt} {t : Nat} (hl : D.length ≤ 8) (h : ∀ i, i < D.length → awG (rt D i)) (ht : t ≤ 8000) (hm : ∀ j, j < 3 → suN D D.length % (2305843009213693951 + j) = cmN D D.length * t % (2305843009213693951 + j)) : addsB D t = true := by
  obtain ⟨a, b⟩ := sum_small hl h (Nat.le_refl _)
  unfold addsB
  rw [decide_eq_true_eq]
  refine crt3 (hm 0 (by omega)) (hm 1 (by omega)) (hm 2 (by omega)) b ?_
  rw [Nat.mul_comm 8000]
  exact Nat.mul_le_mul a ht
theorem adds_ne {D : List Rt} {t m : Nat} (h : ¬ suN D D.length % m = cmN D D.length * t % m) : addsB D t = false := by
  unfold addsB
  exact decide_eq_false fun hh => h (by rw [hh])
end M
theorem tm_modv (q m : Nat) : ((q : Nat) : Int).tmod (m : Nat) = ((q % m : Nat) : Int) := by
  rw [Int.tmod_eq_emod_of_nonneg (by omega)]; omega

set_option maxRecDepth 100000 in
set_option maxHeartbeats 4000000 in
/-- A product modulo a number below 2 to the 62. -/
theorem timesR_any (a b m : Nat) (w : World) (hm : 1 ≤ m ∧ m ≤ 4611686018427387903) (ha : a ≤ 4611686018427387903) (hb : b ≤ 4611686018427387903) :
    Calls Try.prog 116 #[.int .i64 a, .int .i64 b, .int .i64 m] w fun r w' => r = .returned (.int .i64 (a * b % m : Nat)) ∧ w' = w := by
  obtain ⟨L, hL⟩ : ∃ L : Nat, L = 4611686018427387903 := ⟨_, rfl⟩
  rw [← hL] at hm ha hb
  have hL9 : L * 2 + 1 ≤ 9223372036854775807 := by omega
  replace hL := Lib.hid hL
  have t1 := tm_modv a m
  have t2 := tm_modv b m
  have hc : (0 + a % m * (b % m)) % m = a * b % m := by rw [Nat.zero_add, ← Nat.mul_mod]
  have la : a % m < m := Nat.mod_lt _ (by omega)
  have lb : b % m < m := Nat.mod_lt _ (by omega)
  generalize a * b % m = C at *
  obtain ⟨a0, ha0⟩ : ∃ x, x = a % m := ⟨_, rfl⟩
  obtain ⟨b0, hb0⟩ : ∃ x, x = b % m := ⟨_, rfl⟩
  rw [← ha0] at t1 hc la
  rw [← hb0] at t2 hc lb
  obtain ⟨hm1, hm2⟩ := hm
  have hm0 : ¬ m = 0 := by omega
  have hm3 : ¬ (m : Int) = 0 := by omega
  have hm4 : 1 ≤ (m : Int) := by omega
  have hc' := Lib.hid hc
  clear hc
  replace ha0 := Lib.hid ha0
  replace hb0 := Lib.hid hb0
  go_enter Try.func116, Try.ntmps116
  go_wp2
  go_loop [0, 1, 7] (fun a b o => ∃ x y z : Nat, a = .int .i64 (x : Nat) ∧ b = .int .i64 (y : Nat) ∧ o = .int .i64 (z : Nat) ∧ x < m ∧ y < m ∧ z < m ∧ (z + x * y) % m = C) (fun _ b _ => (intOf b).toNat)
  case atStart => exact ⟨a0, b0, 0, rfl, rfl, rfl, la, lb, by omega, hc'.out⟩
  case round =>
    clear hc' t1 t2
    obtain ⟨x, y, z, rfl, rfl, rfl, hx, hy, hz, hI⟩ := hrel
    by_cases hy0 : 0 < y
    · have hy1 : (0 : Int) < (y : Int) := by omega
      have d1 : ((y : Nat) : Int).tdiv 2 = ((y / 2 : Nat) : Int) := by rw [Int.tdiv_eq_ediv_of_nonneg (by omega)]; omega
      have d2 := tm_modv (2 * x) m
      have w2 : wrap64 (2 * (x : Int)) = ((2 * x : Nat) : Int) := by
        rw [show 2 * (x : Int) = ((2 * x : Nat) : Int) by push_cast; rfl]
        exact IntWalk.wrap64_in _ (by omega)
      have q1 := Lib.hid (show 2 * (x : Int) % (m : Int) = ((2 * x % m : Nat) : Int) by push_cast; rfl)
      have hx2 : 2 * x % m < m := Nat.mod_lt _ (by omega)
      obtain ⟨x2, hx2e⟩ : ∃ t, t = 2 * x % m := ⟨_, rfl⟩
      rw [← hx2e] at d2 hx2 q1
      have hy2 : y / 2 < m := by omega
      have hy3 : y / 2 < y := by omega
      obtain ⟨y2, hy2e⟩ : ∃ t, t = y / 2 := ⟨_, rfl⟩
      rw [← hy2e] at d1 hy2 hy3
      by_cases hodd : y % 2 = 1
      · have hI2 := mod_step hI hodd
        have w1 := wr_add (a := z) (b := x) (by omega)
        have d3 := tm_modv (z + x) m
        have q2 := Lib.hid (show ((z : Int) + (x : Int)) % (m : Int) = (((z + x) % m : Nat) : Int) by push_cast; rfl)
        have hz2 : (z + x) % m < m := Nat.mod_lt _ (by omega)
        obtain ⟨z2, hz2e⟩ : ∃ t, t = (z + x) % m := ⟨_, rfl⟩
        rw [← hz2e] at d3 hz2 hI2 q2
        rw [← hx2e, ← hy2e] at hI2
        have o1 : ((y : Nat) : Int).tmod 2 = 1 := by rw [Int.tmod_eq_emod_of_nonneg (by omega)]; omega
        have o2 : (y : Int) % 2 = 1 := by omega
        obtain ⟨zx, hzx⟩ : ∃ t, t = z + x := ⟨_, rfl⟩
        rw [← hzx] at w1 d3
        obtain ⟨xx, hxx⟩ : ∃ t, t = 2 * x := ⟨_, rfl⟩
        rw [← hxx] at w2 d2
        replace hI2 := Lib.hid hI2
        replace hI := Lib.hid hI
        replace hx2e := Lib.hid hx2e
        replace hy2e := Lib.hid hy2e
        replace hz2e := Lib.hid hz2e
        replace hzx := Lib.hid hzx
        replace hxx := Lib.hid hxx
        replace hodd := Lib.hid hodd
        go_wp2
        go_round
        case rel => exact ⟨x2, y2, z2, by rw [q1.out], rfl, by rw [q2.out], hx2, hy2, hz2, hI2.out⟩
        case measure => simp [intOf]; omega
      · have hI2 := mod_step0 hI hodd
        rw [← hx2e, ← hy2e] at hI2
        have o1 : ((y : Nat) : Int).tmod 2 = 0 := by rw [Int.tmod_eq_emod_of_nonneg (by omega)]; omega
        have o2 : (y : Int) % 2 = 0 := by omega
        obtain ⟨xx, hxx⟩ : ∃ t, t = 2 * x := ⟨_, rfl⟩
        rw [← hxx] at w2 d2
        replace hI2 := Lib.hid hI2
        replace hI := Lib.hid hI
        replace hx2e := Lib.hid hx2e
        replace hy2e := Lib.hid hy2e
        replace hxx := Lib.hid hxx
        replace hodd := Lib.hid hodd
        go_wp2
        go_round
        case rel => exact ⟨x2, y2, z, by rw [q1.out], rfl, rfl, hx2, hy2, hz, hI2.out⟩
        case measure => simp [intOf]; omega
    · have : y = 0 := by omega
      subst this
      rw [Nat.mul_zero, Nat.add_zero, Nat.mod_eq_of_lt hz] at hI
      replace hI := Lib.hid hI
      go_wp2
      go_ret
      exact ⟨by rw [← hI.out]; rfl, rfl⟩
end Go.Proofs.Ythleekdkbgnabaa
