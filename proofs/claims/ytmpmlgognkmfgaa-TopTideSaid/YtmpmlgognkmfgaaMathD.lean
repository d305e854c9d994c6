/-
  Plain mathematics: two tides are the same exactly if their speeds of a beat are equal.
-/
import Derived.Test.YtmpmlgognkmfgaaTideG
namespace Go.Proofs.Ytmpmlgognkmfgaa
open M

theorem per_modI {T : List (List Int)} {b : Nat} (h : Per T b) (t : Int) : spd T t = spd T (t % (b : Int)) := by
  rcases Int.le_total 0 (t / (b : Int)) with h1 | h1
  · have := per_mul h (t / (b : Int)).toNat (t % (b : Int))
    rw [← this]
    congr 1
    rw [Int.natCast_mul, Int.toNat_of_nonneg h1, Int.emod_add_mul_ediv]
  · have := per_mul h (-(t / (b : Int))).toNat t
    rw [← this]
    congr 1
    rw [Int.natCast_mul, Int.toNat_of_nonneg (by omega)]
    have h2 := Int.emod_add_mul_ediv t b
    rw [Int.mul_neg]
    omega
theorem once_spd {T : List (List Int)} (hr : 1 ≤ rnd T) (t : Int) : spd T t = el (spdL T (bt T)) (t % (bt T : Int)).toNat := by
  have hb := (bt_spec hr).1
  have h1 := Int.emod_nonneg t (show (bt T : Int) ≠ 0 by omega)
  have h2 := Int.emod_lt_of_pos t (show (0 : Int) < bt T by omega)
  rw [spdL_el _ _ _ (by omega), Int.toNat_of_nonneg h1]
  exact per_modI (bt_per hr) t
theorem len_dvd (l : Nat) (h1 : 1 ≤ l) (h2 : l ≤ 12) : l ∣ 27720 := by
  have : l = 1 ∨ l = 2 ∨ l = 3 ∨ l = 4 ∨ l = 5 ∨ l = 6 ∨ l = 7 ∨ l = 8 ∨ l = 9 ∨ l = 10 ∨ l = 11 ∨ l = 12 := by omega
  rcases this with rfl | rfl | rfl | rfl | rfl | rfl | rfl | rfl | rfl | rfl | rfl | rfl <;> decide
theorem rnd_dvd {T : List (List Int)} (h : Val T) : rnd T ∣ 27720 := by
  have : ∀ k, k ≤ T.length → rndK T k ∣ 27720 := by
    intro k
    induction k with
    | zero => intro _; exact Nat.one_dvd _
    | succ k ih => intro hk; rw [rndK_succ]; exact Nat.lcm_dvd (ih (by omega)) (len_dvd _ (h.2 k (by omega)).1.1 (h.2 k (by omega)).1.2)
  exact this _ (Nat.le_refl _)
theorem all_of {T U : List (List Int)} (hT : Val T) (hU : Val U) (h : ∀ k : Nat, k < 27720 → spd T (k : Int) = spd U (k : Int)) (t : Int) : spd T t = spd U t := by
  have h1 := Int.emod_nonneg t (show (27720 : Int) ≠ 0 by omega)
  have h2 := Int.emod_lt_of_pos t (show (0 : Int) < 27720 by omega)
  have e1 := per_modI (per_rnd T 27720 (rnd_dvd hT)) t
  have e2 := per_modI (per_rnd U 27720 (rnd_dvd hU)) t
  have := h (t % (27720 : Int)).toNat (by omega)
  rw [Int.toNat_of_nonneg h1] at this
  rw [e1, e2]
  exact this
theorem bt_eq {T U : List (List Int)} (hT : 1 ≤ rnd T) (hU : 1 ≤ rnd U) (h : ∀ t, spd T t = spd U t) : bt T = bt U := by
  have hper : ∀ n, Per T n ↔ Per U n := fun n => ⟨fun g t => by rw [← h, ← h, g], fun g t => by rw [h, h, g]⟩
  exact Nat.dvd_antisymm ((per_iff hT _).1 ((hper _).2 (bt_per hU))) ((per_iff hU _).1 ((hper _).1 (bt_per hT)))
theorem once_same {T U : List (List Int)} (hT : Val T) (hU : Val U) : spdL T (bt T) = spdL U (bt U) ↔ ∀ t, spd T t = spd U t := by
  have rT := (rnd_bound hT).1
  have rU := (rnd_bound hU).1
  constructor
  · intro h t
    have hb : bt T = bt U := by
      have := congrArg List.length h
      rwa [spdL_len, spdL_len] at this
    rw [once_spd rT, once_spd rU, h, hb]
  · intro h
    have hb := bt_eq rT rU h
    rw [hb]
    unfold spdL
    exact mk_congr _ (fun i _ => h i)

end Go.Proofs.Ytmpmlgognkmfgaa
