/-
  The contracts of Highest and Farthest of the specification.
-/
import Derived.Test.YtmpmlgognkmfgaaPeak
namespace Go.Proofs.Ytmpmlgognkmfgaa
open Go.RowKit Go.Deep M
set_option linter.unusedVariables false
set_option linter.unusedSimpArgs false

/-- The best of the hours below k, and (0, 0) where there is none. -/
def bestZ (F : Nat → Int) : Nat → Nat × Int
  | 0 => (0, 0)
  | k + 1 => best F (k + 1)
theorem bestZ_one (F : Nat → Int) : bestZ F 1 = (0, F 0) := best_stay (Int.lt_irrefl _)
theorem bestZ_up {F : Nat → Int} {k : Nat} (hk : 1 ≤ k) (h : (bestZ F k).2 < F k) : bestZ F (k + 1) = (k, F k) := by
  cases k with
  | zero => omega
  | succ k => exact best_up h
theorem bestZ_stay {F : Nat → Int} {k : Nat} (hk : 1 ≤ k) (h : ¬ (bestZ F k).2 < F k) : bestZ F (k + 1) = bestZ F k := by
  cases k with
  | zero => omega
  | succ k => exact best_stay h
theorem bestZ_best {F : Nat → Int} {k : Nat} (hk : 1 ≤ k) : bestZ F k = best F k := by
  cases k with
  | zero => omega
  | succ k => rfl
theorem bestZ_range {F : Nat → Int} (hF : ∀ k : Nat, k ≤ 20736 → -1000000000 ≤ F k ∧ F k ≤ 1000000000) (k : Nat) (hk : k ≤ 20736) : (bestZ F k).1 ≤ 20736 ∧ -1000000000 ≤ (bestZ F k).2 ∧ (bestZ F k).2 ≤ 1000000000 := by
  cases k with
  | zero => exact ⟨by show 0 ≤ 20736; omega, by show -1000000000 ≤ (0 : Int); omega, by show (0 : Int) ≤ 1000000000; omega⟩
  | succ k => exact best_range hF (k + 1) hk
theorem R3_of {p q : (Nat × Int) × Int} (h : p = q) : R3 q = R3 p := by rw [h]

set_option maxHeartbeats 2000000 in
set_option maxRecDepth 100000 in
theorem Highest_ref (B : Nat) (A : Option Addr) (c : Nat) (T : List (List Int)) (w : World) (h : Mat w B A T) (hB : B ≤ w.heap.size) :
    Calls Try.prog 35 #[.slice A T.length c] w fun e w' => e = R3 (peakR T) ∧ Below w.heap.size w w' := by
  cases hv : validB T with
  | false =>
    have hr := Lib.hid (show peakR T = ((0, 0), 10) by unfold peakR; rw [hv]; rfl)
    replace hv := Lib.hid hv
    go_enter Try.func35, Try.ntmps35
    go_wp2_with fail
    refine (valid_ref B _ _ _ _ h).mono ?_
    rintro e w' ⟨rfl, rfl⟩
    rw [hv.out]
    go_wp2
    go_ret3
    exact ⟨R3_of hr.out, Below.refl _ _⟩
  | true =>
    have hV := val_of hv
    obtain ⟨r1, r2⟩ := rnd_bound hV
    have hr := Lib.hid (show peakR T = (bestZ (fun k => spd T (k : Int)) (rnd T), 0) by unfold peakR; rw [hv, bestZ_best r1]; rfl)
    have hFb : ∀ k : Nat, k ≤ 20736 → -1000000000 ≤ spd T (k : Int) ∧ spd T (k : Int) ≤ 1000000000 := fun k hk => by have := spd_bound hV (k : Int); omega
    have hrange := bestZ_range (F := fun k => spd T (k : Int)) hFb
    have hone := bestZ_one (fun k => spd T (k : Int))
    have hup : ∀ k : Nat, 1 ≤ k → (bestZ (fun k => spd T (k : Int)) k).2 < spd T (k : Int) → bestZ (fun k => spd T (k : Int)) (k + 1) = (k, spd T (k : Int)) := fun k a b => bestZ_up a b
    have hstay : ∀ k : Nat, 1 ≤ k → spd T (k : Int) ≤ (bestZ (fun k => spd T (k : Int)) k).2 → bestZ (fun k => spd T (k : Int)) (k + 1) = bestZ (fun k => spd T (k : Int)) k := fun k a b => bestZ_stay a (Int.not_lt.2 b)
    have hzero : bestZ (fun k => spd T (k : Int)) 0 = (0, 0) := rfl
    generalize bestZ (fun k => spd T (k : Int)) = Z at hr hrange hone hup hstay hzero
    replace hrange := Lib.hid hrange
    replace hone := Lib.hid hone
    replace hup := Lib.hid hup
    replace hstay := Lib.hid hstay
    replace hFb := Lib.hid hFb
    replace hv := Lib.hid hv
    go_enter Try.func35, Try.ntmps35
    go_wp2_with fail
    refine (valid_ref B _ _ _ _ h).mono ?_
    rintro e w' ⟨rfl, rfl⟩
    rw [hv.out]
    go_wp2_with fail
    refine (round_ref B A c T w h hV).mono ?_
    rintro e w' ⟨rfl, rfl⟩
    go_wp2_with fail
    refine (speeds_ref B A c T (rnd T) w h hB hV (by omega)).mono ?_
    rintro e w1 ⟨A1, rfl, hb01, hr1⟩
    rw [spdL_len]
    obtain ⟨_, g, cs, rfl, hlo, hh, hri⟩ := hr1
    have hcell : ∀ k, k < rnd T → w1.cell? ⟨g, k, none⟩ = some (.int .i64 (spd T (k : Int))) := fun k hk => by
      have := hri k (by rw [spdL_len]; exact hk)
      rw [spdL_el _ _ _ hk] at this
      simp [World.cell?, hh, this]
    replace hcell := Lib.hid hcell
    clear hri hh
    replace hzero := Lib.hid hzero
    go_wp2
    go_loop [2, 3, 15] (fun a b i => ∃ k : Nat, k ≤ rnd T ∧ i = .int .i64 k ∧ a = .int .i64 (Z k).1 ∧ b = .int .i64 (Z k).2) (fun _ _ i => rnd T - (intOf i).toNat)
    case atStart => exact ⟨0, Nat.zero_le _, rfl, by rw [hzero.out]; rfl, by rw [hzero.out]⟩
    case round =>
      obtain ⟨k, hk, rfl, rfl, rfl⟩ := hrel
      obtain ⟨z1, z2, z3⟩ := hrange.out k (by omega)
      by_cases hlt : k < rnd T
      · have c1 := hcell.out k hlt
        obtain ⟨x1, x2⟩ := hFb.out k (by omega)
        by_cases hk0 : k = 0
        · subst hk0
          have hs := hone.out
          have c1' : w1.cell? ⟨g, 0, none⟩ = some (.int .i64 (spd T ((0 : Nat) : Int))) := c1
          clear c1
          generalize spd T ((0 : Nat) : Int) = x at c1' x1 x2 hs
          replace hs := Lib.hid hs
          generalize Z 0 = q0 at z1 z2 z3 ⊢
          go_wp2
          go_round
          case rel => exact ⟨1, by omega, rfl, by rw [hs.out], by rw [hs.out]⟩
          case measure => simp [intOf]; omega
        · by_cases hu : (Z k).2 < spd T (k : Int)
          · have hs := hup.out k (by omega) hu
            generalize spd T (k : Int) = x at c1 x1 x2 hs hu
            replace hs := Lib.hid hs
            generalize Z k = q0 at z1 z2 z3 hu ⊢
            go_wp2
            go_round
            case rel => exact ⟨k + 1, by omega, by go_num, by rw [hs.out], by rw [hs.out]⟩
            case measure => simp [intOf]; omega
          · have hs := hstay.out k (by omega) (Int.not_lt.1 hu)
            generalize spd T (k : Int) = x at c1 x1 x2 hs hu
            generalize Z k = q0 at z1 z2 z3 hs hu ⊢
            replace hs := Lib.hid hs
            go_wp2
            go_round
            case rel => exact ⟨k + 1, by omega, by go_num, by rw [hs.out], by rw [hs.out]⟩
            case measure => simp [intOf]; omega
      · have hk' : k = rnd T := by omega
        subst hk'
        go_wp2
        go_ret3
        exact ⟨R3_of hr.out, hb01⟩

theorem drf_next (T : List (List Int)) (k m : Nat) : drf T ((k + 1 : Nat) : Int) m = drf T (k : Int) m + (spd T ((k : Int) + (m : Int)) - spd T (k : Int)) := by
  have h1 := sg_head (spd T) (k : Int) m
  rw [sg_succ] at h1
  show sg (spd T) ((k + 1 : Nat) : Int) m = sg (spd T) (k : Int) m + _
  rw [show ((k + 1 : Nat) : Int) = (k : Int) + 1 by omega]
  omega

set_option maxHeartbeats 1500000 in
set_option maxRecDepth 100000 in
theorem Farthest_ref (B : Nat) (A : Option Addr) (c : Nat) (T : List (List Int)) (n : Int) (w : World) (h : Mat w B A T) :
    Calls Try.prog 37 #[.slice A T.length c, .int .i64 n] w fun e w' => e = R3 (peakD T n) ∧ Below w.heap.size w w' := by
  cases hv : validB T with
  | false =>
    have hr := Lib.hid (show peakD T n = ((0, 0), 10) by unfold peakD; rw [hv]; rfl)
    replace hv := Lib.hid hv
    go_enter Try.func37, Try.ntmps37
    go_wp2_with fail
    refine (valid_ref B _ _ _ _ h).mono ?_
    rintro e w' ⟨rfl, rfl⟩
    rw [hv.out]
    go_wp2
    go_ret3
    exact ⟨R3_of hr.out, Below.refl _ _⟩
  | true =>
    cases ha : spanB n with
    | false =>
      have hr := Lib.hid (show peakD T n = ((0, 0), 2) by unfold peakD; rw [hv, ha]; rfl)
      have hn : n < 0 ∨ 1000000 < n := by
        unfold spanB at ha
        by_cases h0 : n < 0
        · exact .inl h0
        · right
          simp at ha
          omega
      replace hv := Lib.hid hv
      clear ha
      rcases hn with hn | hn
      · go_enter Try.func37, Try.ntmps37
        go_wp2_with fail
        refine (valid_ref B _ _ _ _ h).mono ?_
        rintro e w' ⟨rfl, rfl⟩
        rw [hv.out]
        go_wp2
        go_ret3
        exact ⟨R3_of hr.out, Below.refl _ _⟩
      · have hn0 : ¬ n < 0 := by omega
        go_enter Try.func37, Try.ntmps37
        go_wp2_with fail
        refine (valid_ref B _ _ _ _ h).mono ?_
        rintro e w' ⟨rfl, rfl⟩
        rw [hv.out]
        go_wp2
        go_ret3
        exact ⟨R3_of hr.out, Below.refl _ _⟩
    | true =>
      obtain ⟨hn0, hn1⟩ := of_spanB ha
      obtain ⟨m, rfl⟩ := Int.eq_ofNat_of_zero_le hn0
      have hV := val_of hv
      obtain ⟨r1, r2⟩ := rnd_bound hV
      have hr := Lib.hid (show peakD T (m : Int) = (bestZ (fun k => drf T (k : Int) m) (rnd T), 0) by unfold peakD; rw [hv, ha, bestZ_best r1]; rfl)
      have hFb : ∀ k : Nat, k ≤ 20736 → -1000000000 ≤ drf T (k : Int) m ∧ drf T (k : Int) m ≤ 1000000000 := fun k hk => by have := drf_bd hV (k : Int) m (by omega); omega
      have hrange := bestZ_range (F := (fun k => drf T (k : Int) m)) hFb
      have hone := bestZ_one (fun k => drf T (k : Int) m)
      have hup : ∀ k : Nat, 1 ≤ k → (bestZ (fun k => drf T (k : Int) m) k).2 < drf T (k : Int) m → bestZ (fun k => drf T (k : Int) m) (k + 1) = (k, drf T (k : Int) m) := fun k a b => bestZ_up a b
      have hstay : ∀ k : Nat, 1 ≤ k → drf T (k : Int) m ≤ (bestZ (fun k => drf T (k : Int) m) k).2 → bestZ (fun k => drf T (k : Int) m) (k + 1) = bestZ (fun k => drf T (k : Int) m) k := fun k a b => bestZ_stay a (Int.not_lt.2 b)
      have hzero : bestZ (fun k => drf T (k : Int) m) 0 = (0, 0) := rfl
      generalize bestZ (fun k => drf T (k : Int) m) = Z at hr hrange hone hup hstay hzero
      have hsb := Lib.hid (fun t => spd_bound hV t)
      replace hrange := Lib.hid hrange
      replace hone := Lib.hid hone
      replace hup := Lib.hid hup
      replace hstay := Lib.hid hstay
      replace hFb := Lib.hid hFb
      replace hzero := Lib.hid hzero
      replace hv := Lib.hid hv
      replace hn1 : m ≤ 1000000 := by omega
      clear ha hn0
      have hnext := drf_next T
      replace hnext := Lib.hid (fun k => hnext k m)
      have c57 := Lib.hid (far_ref B A c T 0 m w h hV (by omega) hn1)
      rcases Nat.eq_zero_or_pos m with rfl | hm
      · replace hnext := Lib.hid (fun k : Nat => show drf T ((k + 1 : Nat) : Int) 0 = drf T (k : Int) 0 from rfl)
        have z0 : drf T 0 0 = 0 := rfl
        rw [show ((0 : Nat) : Int) = 0 from rfl] at c57
        rw [show ((0 : Nat) : Int) = 0 from rfl]
        rw [show ((0 : Nat) : Int) = 0 from rfl] at hr
        rw [z0] at c57
        go_enter Try.func37, Try.ntmps37
        go_wp2_with fail
        refine (valid_ref B _ _ _ _ h).mono ?_
        rintro e w' ⟨rfl, rfl⟩
        rw [hv.out]
        go_wp2_with fail
        refine c57.out.mono ?_
        rintro e w' ⟨rfl, d, rfl⟩
        have hM := h.drewN d
        have hbm : Below w.heap.size w (w.drewN d) := below_drewN (Below.refl _ _) d
        go_wp2_with fail
        refine (round_ref B A c T _ hM hV).mono ?_
        rintro e w' ⟨rfl, rfl⟩
        go_wp2
        go_loop [4, 5, 7, 23] (fun a b x i => ∃ k : Nat, k ≤ rnd T ∧ i = .int .i64 k ∧ a = .int .i64 (Z k).1 ∧ b = .int .i64 (Z k).2 ∧ x = .int .i64 0) (fun _ _ _ i => rnd T - (intOf i).toNat)
        case atStart => exact ⟨0, Nat.zero_le _, rfl, by rw [hzero.out]; rfl, by rw [hzero.out], rfl⟩
        case round =>
          obtain ⟨k, hk, rfl, rfl, rfl, rfl⟩ := hrel
          obtain ⟨z1, z2, z3⟩ := hrange.out k (by omega)
          by_cases hlt : k < rnd T
          · by_cases hk0 : k = 0
            · subst hk0
              have hs := Lib.hid (show Z 1 = (0, 0) from hone.out)
              generalize Z 0 = q0 at z1 z2 z3 ⊢
              go_wp2
              go_round
              case rel => exact ⟨1, by omega, rfl, by (rw [hs.out]; try rfl), by rw [hs.out], rfl⟩
              case measure => simp [intOf]; omega
            · by_cases hu : (Z k).2 < 0
              · have hs := Lib.hid (show Z (k + 1) = (k, 0) from hup.out k (by omega) hu)
                generalize Z k = q0 at z1 z2 z3 hu ⊢
                go_wp2
                go_round
                case rel => exact ⟨k + 1, by omega, by go_num, by rw [hs.out], by rw [hs.out], rfl⟩
                case measure => simp [intOf]; omega
              · have hs := hstay.out k (by omega) (show (0 : Int) ≤ (Z k).2 from Int.not_lt.1 hu)
                generalize Z k = q0 at z1 z2 z3 hs hu ⊢
                replace hs := Lib.hid hs
                go_wp2
                go_round
                case rel => exact ⟨k + 1, by omega, by go_num, by rw [hs.out], by rw [hs.out], rfl⟩
                case measure => simp [intOf]; omega
          · have hk' : k = rnd T := by omega
            subst hk'
            go_wp2
            go_ret3
            exact ⟨R3_of hr.out, hbm⟩
      · obtain ⟨y1, y2⟩ := hFb.out 0 (by omega)
        go_enter Try.func37, Try.ntmps37
        go_wp2_with fail
        refine (valid_ref B _ _ _ _ h).mono ?_
        rintro e w' ⟨rfl, rfl⟩
        rw [hv.out]
        go_wp2_with fail
        refine c57.out.mono ?_
        rintro e w' ⟨rfl, d, rfl⟩
        have hM := h.drewN d
        have hbm : Below w.heap.size w (w.drewN d) := below_drewN (Below.refl _ _) d
        go_wp2_with fail
        refine (round_ref B A c T _ hM hV).mono ?_
        rintro e w' ⟨rfl, rfl⟩
        go_wp2
        go_loop [4, 5, 7, 23] (fun a b x i => ∃ k : Nat, k ≤ rnd T ∧ i = .int .i64 k ∧ a = .int .i64 (Z k).1 ∧ b = .int .i64 (Z k).2 ∧ x = .int .i64 (drf T (k : Int) m)) (fun _ _ _ i => rnd T - (intOf i).toNat)
        case atStart => exact ⟨0, Nat.zero_le _, rfl, by rw [hzero.out]; rfl, by rw [hzero.out], rfl⟩
        case round =>
          obtain ⟨k, hk, rfl, rfl, rfl, rfl⟩ := hrel
          obtain ⟨z1, z2, z3⟩ := hrange.out k (by omega)
          obtain ⟨x1, x2⟩ := hFb.out k (by omega)
          by_cases hlt : k < rnd T
          · have hnx := hnext.out k
            have cs1 := speed_ref B A c T ((k : Int) + (m : Int)) _ hM hV (by omega)
            have cs2 := speed_ref B A c T (k : Int) _ hM hV (by omega)
            obtain ⟨u1, u2⟩ := hsb.out ((k : Int) + (m : Int))
            obtain ⟨v1, v2⟩ := hsb.out (k : Int)
            generalize spd T ((k : Int) + (m : Int)) = sa at hnx cs1 u1 u2
            generalize spd T (k : Int) = sb at hnx cs2 v1 v2
            replace cs1 := Lib.hid cs1
            replace cs2 := Lib.hid cs2
            by_cases hk0 : k = 0
            · subst hk0
              have hs := hone.out
              replace cs1 := cs1.out
              replace cs2 := cs2.out
              rw [show ((0 : Nat) : Int) + (m : Int) = (m : Int) by omega] at cs1
              rw [show ((0 : Nat) : Int) = 0 from rfl] at cs2
              replace cs1 := Lib.hid cs1
              replace cs2 := Lib.hid cs2
              generalize drf T ((0 : Nat) : Int) m = x at x1 x2 hs hnx ⊢
              replace hs := Lib.hid hs
              replace hnx := Lib.hid hnx
              generalize Z 0 = q0 at z1 z2 z3 ⊢
              go_wp2_with fail
              with_reducible refine cs1.out.mono ?_
              rintro e w' ⟨rfl, rfl⟩
              go_wp2_with fail
              with_reducible refine cs2.out.mono ?_
              rintro e w' ⟨rfl, rfl⟩
              go_wp2
              go_round
              case rel => exact ⟨1, by omega, rfl, by (rw [hs.out]; try rfl), by rw [hs.out], by rw [hnx.out]⟩
              case measure => simp [intOf]; omega
            · by_cases hu : (Z k).2 < drf T (k : Int) m
              · have hs := hup.out k (by omega) hu
                generalize drf T (k : Int) m = x at x1 x2 hs hu hnx ⊢
                replace hs := Lib.hid hs
                replace hnx := Lib.hid hnx
                generalize Z k = q0 at z1 z2 z3 hu ⊢
                go_wp2_with fail
                with_reducible refine cs1.out.mono ?_
                rintro e w' ⟨rfl, rfl⟩
                go_wp2_with fail
                with_reducible refine cs2.out.mono ?_
                rintro e w' ⟨rfl, rfl⟩
                go_wp2
                go_round
                case rel => exact ⟨k + 1, by omega, by go_num, by rw [hs.out], by rw [hs.out], by rw [hnx.out]⟩
                case measure => simp [intOf]; omega
              · have hs := hstay.out k (by omega) (Int.not_lt.1 hu)
                generalize drf T (k : Int) m = x at x1 x2 hs hu hnx ⊢
                generalize Z k = q0 at z1 z2 z3 hs hu ⊢
                replace hs := Lib.hid hs
                replace hnx := Lib.hid hnx
                go_wp2_with fail
                with_reducible refine cs1.out.mono ?_
                rintro e w' ⟨rfl, rfl⟩
                go_wp2_with fail
                with_reducible refine cs2.out.mono ?_
                rintro e w' ⟨rfl, rfl⟩
                go_wp2
                go_round
                case rel => exact ⟨k + 1, by omega, by go_num, by rw [hs.out], by rw [hs.out], by rw [hnx.out]⟩
                case measure => simp [intOf]; omega
          · have hk' : k = rnd T := by omega
            subst hk'
            generalize drf T ((rnd T : Nat) : Int) m = x at x1 x2 ⊢
            go_wp2
            go_ret3
            exact ⟨R3_of hr.out, hbm⟩

end Go.Proofs.Ytmpmlgognkmfgaa
