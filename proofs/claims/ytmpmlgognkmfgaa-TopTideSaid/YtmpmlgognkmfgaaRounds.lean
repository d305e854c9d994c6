/-
  The contract of what TopTide asks of each tide: its round and Net, and that they agree with its beat.
-/
import Derived.Test.YtmpmlgognkmfgaaTideE
import Derived.Test.YtmpmlgognkmfgaaTideG
import Derived.Test.YtmpmlgognkmfgaaMathD
namespace Go.Proofs.Ytmpmlgognkmfgaa
open Go.RowKit Go.Deep M
set_option linter.unusedVariables false
set_option linter.unusedSimpArgs false

theorem net_beats {T : List (List Int)} (hr : 1 ≤ rnd T) : drf T 0 (rnd T) = drf T 0 (bt T) * ((rnd T / bt T : Nat) : Int) := by
  have hb := (bt_spec hr).1
  have h := sg_lin (spd T) 0 0 (bt T) (rnd T / bt T) 0 (bt_per hr)
  rw [Nat.add_zero, Nat.div_mul_cancel (bt_dvd hr), sg_zero, Int.add_zero] at h
  unfold drf
  rw [h, Int.mul_comm]

set_option maxHeartbeats 2000000 in
set_option maxRecDepth 100000 in
theorem rounds_any (B : Nat) (A : Option Addr) (c : Nat) (T : List (List Int)) (f : Int) (w : World) (h : Mat w B A T) (hB : B ≤ w.heap.size) (hV : Val T) (hf : hourB f = true) :
    Calls Try.prog 48 #[.slice A T.length c, .int .i64 f] w fun e w' => e = .returned (.tuple #[.int .i64 (rnd T), .int .i64 (drf T 0 (rnd T)), .bool true]) ∧ Below w.heap.size w w' := by
  have hv := validB_true hV
  obtain ⟨r1, r2⟩ := rnd_bound hV
  obtain ⟨b1, b2, _, _⟩ := bt_spec r1
  have hsz : ∀ W, Below w.heap.size w W → B ≤ W.heap.size := fun W g => by have := g.size; omega
  have c23 : ∀ W, Below w.heap.size w W → Calls Try.prog 23 #[.slice A T.length c] W fun e w' => e = R2 ((rnd T : Int), 0) ∧ Below w.heap.size w w' := fun W g => by
    have := Round_any B A c T W (h.below (g.mono hB))
    rw [show roundR T = ((rnd T : Int), 0) by unfold roundR; rw [hv]; rfl] at this
    exact this.mono fun e w' ⟨he, hb'⟩ => ⟨he, g.trans (hb'.mono g.size)⟩
  have c25 : ∀ W, Below w.heap.size w W → Calls Try.prog 25 #[.slice A T.length c] W fun e w' => e = R2 (drf T 0 (rnd T), 0) ∧ Below w.heap.size w w' := fun W g => by
    have := Net_any B A c T W (h.below (g.mono hB))
    rw [show netR T = (drf T 0 (rnd T), 0) by unfold netR; rw [hv]; rfl] at this
    exact this.mono fun e w' ⟨he, hb'⟩ => ⟨he, g.trans (hb'.mono g.size)⟩
  have c27 : ∀ W, Below w.heap.size w W → Calls Try.prog 27 #[.slice A T.length c] W fun e w' => e = R2 ((bt T : Int), 0) ∧ Below w.heap.size w w' := fun W g => by
    have := Beat_any B A c T W (h.below (g.mono hB)) (hsz W g)
    rw [show beatR T = ((bt T : Int), 0) by unfold beatR; rw [hv]; rfl] at this
    exact this.mono fun e w' ⟨he, hb'⟩ => ⟨he, g.trans (hb'.mono g.size)⟩
  have c29 : ∀ W, Below w.heap.size w W → Calls Try.prog 29 #[.slice A T.length c] W (NewRowE W (spdL T (bt T), 0)) := fun W g => by
    have := Once_any B A c T W (h.below (g.mono hB)) (hsz W g)
    rwa [show onceR T = (spdL T (bt T), 0) by unfold onceR; rw [hv]; rfl] at this
  have c19 : ∀ W, Below w.heap.size w W → Calls Try.prog 19 #[.slice A T.length c, .int .i64 f, .int .i64 (rnd T)] W fun e w' => e = R2 (drf T 0 (rnd T), 0) ∧ Below W.heap.size W w' := fun W g => by
    have := Drift_any B A c T f (rnd T) W (h.below (g.mono hB)) (hsz W g)
    rwa [show driftR T f (rnd T) = (drf T 0 (rnd T), 0) by
      unfold driftR; rw [hv, hf, spanB_true (by omega)]
      have : drf T f (rnd T) = drf T 0 (rnd T) := sg_any _ _ _ _ (fun x => spd_period T x _ (Nat.dvd_refl _))
      simp [two, this]] at this
  have hnet := net_beats r1
  have hsum : ∀ k, k ≤ bt T → -(400 * (k : Int)) ≤ drf T 0 k ∧ drf T 0 k ≤ 400 * k := fun k hk => drf_bound hV 0 k
  replace hsum := Lib.hid hsum
  have hstep := Lib.hid (fun k : Nat => show drf T 0 (k + 1) = drf T 0 k + spd T (k : Int) by
    show sg (spd T) 0 (k + 1) = _
    rw [sg_succ, Int.zero_add]; rfl)
  have hbd := Lib.hid (fun t => spd_bound hV t)
  obtain ⟨n1, n2⟩ := drf_bd hV 0 (rnd T) (by omega)
  have hrb : ((rnd T : Int) % (bt T : Int) != 0) = false := by
    have := Nat.mod_eq_zero_of_dvd (bt_dvd r1)
    simp; omega
  have hq : (rnd T : Int).tdiv (bt T : Int) = ((rnd T / bt T : Nat) : Int) := by
    rw [Int.tdiv_eq_ediv_of_nonneg (by omega), Int.natCast_ediv]
  have hqb : rnd T / bt T ≤ 20736 := by have := Nat.div_le_self (rnd T) (bt T); omega
  have hb00 : ¬ bt T = 0 := by omega
  have hbp : 1 ≤ (bt T : Int) := by omega
  generalize drf T 0 (rnd T) = net at *
  replace c23 := Lib.hid c23
  replace c25 := Lib.hid c25
  replace c27 := Lib.hid c27
  replace c29 := Lib.hid c29
  replace c19 := Lib.hid c19
  replace hnet := Lib.hid hnet
  replace hq := Lib.hid hq
  clear hsz hv hV hf
  go_enter Try.func48, Try.ntmps48
  go_wp2_with fail
  refine (c23.out _ (Below.refl _ _)).mono ?_
  rintro e w1 ⟨rfl, hb1⟩
  unfold R2
  go_wp2_with fail
  refine (c25.out _ hb1).mono ?_
  rintro e w2 ⟨rfl, hb2⟩
  unfold R2
  go_wp2_with fail
  refine (c27.out _ hb2).mono ?_
  rintro e w3 ⟨rfl, hb3⟩
  unfold R2
  go_wp2_with fail
  refine (c29.out _ hb3).mono ?_
  rintro e w4 ⟨A4, k4, rfl, hx4, hm4⟩
  dsimp only at hm4
  have hb4 := hb3.trans (hx4.mono hb3.size)
  rw [spdL_len]
  obtain ⟨_, hm4⟩ := hm4
  rw [spdL_len] at hm4
  obtain ⟨g, o, rfl, hg, hcells⟩ := hm4 b1
  have hcell : ∀ k, k < bt T → w4.cell? ⟨g, o + k, none⟩ = some (.int .i64 (spd T (k : Int))) := fun k hk => by rw [hcells k hk, spdL_el _ _ _ hk]
  clear hcells hm4 hx4 hb1 hb2 hb3
  replace hcell := Lib.hid hcell
  go_wp2_with fail
  refine (c19.out _ hb4).mono ?_
  rintro e w5 ⟨rfl, hx5⟩
  have hb5 := hb4.trans (hx5.mono hb4.size)
  have hc5 := Lib.hid (fun k (hk : k < bt T) => show w5.cell? ⟨g, o + k, none⟩ = some (.int .i64 (spd T (k : Int))) by rw [hx5.cell (p := ⟨g, o + k, none⟩) hg]; exact hcell.out k hk)
  clear hcell hx5 hb4
  unfold R2
  go_wp2
  go_loop [14, 80] (fun s i => ∃ k : Nat, k ≤ bt T ∧ i = .int .i64 k ∧ s = .int .i64 (drf T 0 k)) (fun _ i => bt T - (intOf i).toNat)
  case atStart => exact ⟨0, Nat.zero_le _, rfl, rfl⟩
  case round =>
    obtain ⟨k, hk, rfl, rfl⟩ := hrel
    obtain ⟨s1, s2⟩ := hsum.out k hk
    by_cases hkt : k < bt T
    · have c1 := hc5.out k hkt
      obtain ⟨x1, x2⟩ := hbd.out (k : Int)
      have hs := Lib.hid (hstep.out k)
      generalize spd T (k : Int) = x at c1 x1 x2 hs
      go_wp2
      go_round
      case rel => exact ⟨k + 1, by omega, by go_num, by rw [hs.out]⟩
      case measure => simp [intOf]; omega
    · have hk' : k = bt T := by omega
      subst hk'
      have hn := hnet.out
      have hqq := hq.out
      generalize rnd T / bt T = q at hn hqq hqb
      generalize drf T 0 (bt T) = s at *
      subst hn
      go_wp2
      go_quiet (fail)
      go_wp2
      go_ret3
      exact ⟨rfl, below_drewN hb5 _⟩

end Go.Proofs.Ytmpmlgognkmfgaa
