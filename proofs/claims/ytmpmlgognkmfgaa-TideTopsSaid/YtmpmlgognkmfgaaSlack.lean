/-
  The contracts of Slack, of the program and of the specification.
-/
import Derived.Test.YtmpmlgognkmfgaaTideE
import Derived.Test.YtmpmlgognkmfgaaMathC
namespace Go.Proofs.Ytmpmlgognkmfgaa
open Go.RowKit M
set_option linter.unusedVariables false
set_option linter.unusedSimpArgs false

def zeroB (T : List (List Int)) (t : Int) (k : Nat) : Bool := decide (spd T (t + k) = 0)
/-- The hours from t on to the first slack; the round, if there is none. -/
def wt (T : List (List Int)) (t : Int) : Nat := least (zeroB T t) 0 (rnd T)
theorem wt_hit {T : List (List Int)} {t : Int} {k : Nat} (hk : k < rnd T) (hno : ∀ j, j < k → zeroB T t j = false) (h : zeroB T t k = true) : wt T t = k := by
  obtain ⟨g1, g2, g3, g4⟩ := least_spec (zeroB T t) (rnd T) 0
  rcases Nat.lt_trichotomy (wt T t) k with hl | hl | hl
  · have h1 := g4 (by unfold wt at hl; omega)
    have h2 := hno _ hl
    unfold wt at h2
    rw [h1] at h2; cases h2
  · exact hl
  · have := g3 k (by omega) hl
    rw [h] at this; cases this
theorem wt_miss {T : List (List Int)} {t : Int} (hno : ∀ j, j < rnd T → zeroB T t j = false) : wt T t = rnd T := by
  obtain ⟨g1, g2, g3, g4⟩ := least_spec (zeroB T t) (rnd T) 0
  rcases Nat.lt_or_ge (wt T t) (rnd T) with hl | hl
  · have h1 := g4 (by unfold wt at hl; omega)
    have h2 := hno _ hl
    unfold wt at h2
    rw [h1] at h2; cases h2
  · exact Nat.le_antisymm (by unfold wt; omega) hl
theorem wt_spec (T : List (List Int)) (t : Int) : wt T t ≤ rnd T ∧ (∀ j, j < wt T t → spd T (t + j) ≠ 0) ∧ (wt T t < rnd T → spd T (t + (wt T t : Nat)) = 0) := by
  obtain ⟨g1, g2, g3, g4⟩ := least_spec (zeroB T t) (rnd T) 0
  refine ⟨by unfold wt; omega, fun j hj => ?_, fun h => ?_⟩
  · have := g3 j (by omega) hj
    exact of_decide_eq_false this
  · exact of_decide_eq_true (g4 (by unfold wt at h; omega))
def waitR (T : List (List Int)) (t : Int) : Int := if wt T t < rnd T then (wt T t : Int) else -1
def slackR (T : List (List Int)) (t : Int) : Int × Int := if validB T then (if hourB t then (if wt T t < rnd T then (t + (wt T t : Int), 0) else (0, 5)) else (0, 2)) else (0, 10)

set_option maxHeartbeats 1000000 in
theorem wait_any (B : Nat) (A : Option Addr) (c : Nat) (T : List (List Int)) (t : Int) (w : World) (h : Mat w B A T) (hV : Val T) (ht : -1000000 ≤ t ∧ t ≤ 1000000) :
    Calls Try.prog 71 #[.slice A T.length c, .int .i64 t] w fun e w' => e = .returned (.int .i64 (waitR T t)) ∧ ∃ m, w' = w.drewN m := by
  obtain ⟨r1, r2⟩ := rnd_bound hV
  go_enter Try.func71, Try.ntmps71
  go_wp2_with fail
  refine (round_any B A c T w h hV).mono ?_
  rintro e w' ⟨rfl, m, rfl⟩
  go_wp2
  go_loop [8] (fun i => ∃ k : Nat, k ≤ rnd T ∧ i = .int .i64 k ∧ ∀ j, j < k → zeroB T t j = false) (fun i => rnd T - (intOf i).toNat)
  case atStart => exact ⟨0, Nat.zero_le _, rfl, fun j hj => absurd hj (Nat.not_lt_zero _)⟩
  case round =>
    obtain ⟨k, hk, rfl, hno⟩ := hrel
    replace hno := Lib.hid hno
    by_cases hlt : k < rnd T
    · have cs := speed_any B A c T (t + k) (w.drewN m) (h.drewN m) hV (by omega)
      cases hz : zeroB T t k with
      | true =>
        have hres := Lib.hid (show waitR T t = (k : Int) by unfold waitR; rw [wt_hit hlt hno.out hz, if_pos hlt])
        have h0 : spd T (t + k) = 0 := of_decide_eq_true hz
        rw [h0] at cs
        clear h0 hz
        go_wp2_with fail
        refine cs.mono ?_
        rintro e w' ⟨rfl, rfl⟩
        go_wp2
        go_ret
        exact ⟨ret_int (by rw [hres.out]), m, rfl⟩
      | false =>
        have h0 : ¬ spd T (t + k) = 0 := of_decide_eq_false hz
        have ht0 : (spd T (t + k) == 0) = false := by simpa using h0
        replace hz := Lib.hid hz
        generalize spd T (t + k) = x at cs ht0
        clear h0
        replace cs := Lib.hid cs
        go_wp2_with fail
        refine cs.out.mono ?_
        rintro e w' ⟨rfl, rfl⟩
        go_wp2
        go_round
        case rel => exact ⟨k + 1, by omega, by go_num, fun j hj => by
          rcases Nat.lt_succ_iff_lt_or_eq.1 hj with h3 | rfl
          · exact hno.out j h3
          · exact hz.out⟩
        case measure => simp [intOf]; omega
    · have hk' : k = rnd T := by omega
      subst hk'
      have hres := Lib.hid (show waitR T t = -1 by unfold waitR; rw [wt_miss hno.out, if_neg (Nat.lt_irrefl _)])
      go_wp2
      go_ret
      exact ⟨ret_int (by rw [hres.out]), m, rfl⟩

set_option maxHeartbeats 1000000 in
theorem Slack_ref (B : Nat) (A : Option Addr) (c : Nat) (T : List (List Int)) (t : Int) (w : World) (h : Mat w B A T) :
    Calls Try.prog 33 #[.slice A T.length c, .int .i64 t] w fun e w' => e = R2 (slackR T t) ∧ w = w' := by
  cases hv : validB T with
  | false =>
    have hr := Lib.hid (show slackR T t = (0, 10) by unfold slackR; rw [hv]; rfl)
    replace hv := Lib.hid hv
    go_enter Try.func33, Try.ntmps33
    go_wp2_with fail
    refine (valid_ref B _ _ _ _ h).mono ?_
    rintro e w' ⟨rfl, rfl⟩
    rw [hv.out]
    go_wp2
    go_ret2
    exact ⟨R2_of hr.out, rfl⟩
  | true =>
    cases ha : hourB t with
    | false =>
      have hr := Lib.hid (show slackR T t = (0, 2) by unfold slackR; rw [hv, ha]; rfl)
      replace hv := Lib.hid hv
      replace ha := Lib.hid ha
      go_enter Try.func33, Try.ntmps33
      go_wp2_with fail
      refine (valid_ref B _ _ _ _ h).mono ?_
      rintro e w' ⟨rfl, rfl⟩
      rw [hv.out]
      go_wp2_with fail
      refine (isHour_ref _ _).mono ?_
      rintro e w' ⟨rfl, rfl⟩
      rw [ha.out]
      go_wp2
      go_ret2
      exact ⟨R2_of hr.out, rfl⟩
    | true =>
      have hV := val_of hv
      obtain ⟨t1, t2⟩ := of_hourB ha
      obtain ⟨r1, r2⟩ := rnd_bound hV
      have hyes := Lib.hid (fun k (hk : k < rnd T) (hno : ∀ j, j < k → zeroB T t j = false) (hz : zeroB T t k = true) => show slackR T t = (t + (k : Int), 0) by
        unfold slackR; rw [hv, ha, wt_hit hk hno hz, if_pos hk]; rfl)
      have hnot := Lib.hid (fun (hno : ∀ j, j < rnd T → zeroB T t j = false) => show slackR T t = (0, 5) by
        unfold slackR; rw [hv, ha, wt_miss hno, if_neg (Nat.lt_irrefl _)]; rfl)
      replace hv := Lib.hid hv
      replace ha := Lib.hid ha
      go_enter Try.func33, Try.ntmps33
      go_wp2_with fail
      refine (valid_ref B _ _ _ _ h).mono ?_
      rintro e w' ⟨rfl, rfl⟩
      rw [hv.out]
      go_wp2_with fail
      refine (isHour_ref _ _).mono ?_
      rintro e w' ⟨rfl, rfl⟩
      rw [ha.out]
      go_wp2_with fail
      refine (round_ref B A c T w h hV).mono ?_
      rintro e w' ⟨rfl, rfl⟩
      go_wp2
      go_loop [15] (fun i => ∃ k : Nat, k ≤ rnd T ∧ i = .int .i64 k ∧ ∀ j, j < k → zeroB T t j = false) (fun i => rnd T - (intOf i).toNat)
      case atStart => exact ⟨0, Nat.zero_le _, rfl, fun j hj => absurd hj (Nat.not_lt_zero _)⟩
      case round =>
        obtain ⟨k, hk, rfl, hno⟩ := hrel
        replace hno := Lib.hid hno
        by_cases hlt : k < rnd T
        · have cs := speed_ref B A c T (t + k) w h hV (by omega)
          cases hz : zeroB T t k with
          | true =>
            have hres := Lib.hid (hyes.out k hlt hno.out hz)
            have h0 : spd T (t + k) = 0 := of_decide_eq_true hz
            rw [h0] at cs
            clear h0 hz
            go_wp2_with fail
            refine cs.mono ?_
            rintro e w' ⟨rfl, rfl⟩
            go_wp2
            go_ret2
            exact ⟨R2_of hres.out, rfl⟩
          | false =>
            have h0 : ¬ spd T (t + k) = 0 := of_decide_eq_false hz
            have ht0 : (spd T (t + k) == 0) = false := by simpa using h0
            replace hz := Lib.hid hz
            generalize spd T (t + k) = x at cs ht0
            clear h0
            replace cs := Lib.hid cs
            go_wp2_with fail
            refine cs.out.mono ?_
            rintro e w' ⟨rfl, rfl⟩
            go_wp2
            go_round
            case rel => exact ⟨k + 1, by omega, by go_num, fun j hj => by
              rcases Nat.lt_succ_iff_lt_or_eq.1 hj with h3 | rfl
              · exact hno.out j h3
              · exact hz.out⟩
            case measure => simp [intOf]; omega
        · have hk' : k = rnd T := by omega
          subst hk'
          have hres := Lib.hid (hnot.out hno.out)
          go_wp2
          go_ret2
          exact ⟨R2_of hres.out, rfl⟩

theorem waitClo (B : Nat) (A : Option Addr) (c : Nat) (T : List (List Int)) (t : Int) (p : Nat) (w : World) (h : Mat w B A T) (hV : Val T) (ht : -1000000 ≤ t ∧ t ≤ 1000000) (hp : w.cell? ⟨p, 0, none⟩ = some (.int .i64 t)) :
    Calls Try.prog 70 #[.slice A T.length c, .pointer (some ⟨p, 0, none⟩)] w fun e w' => e = .returned (.int .i64 (waitR T t)) ∧ ∃ m, w' = w.drewN m := by
  have hc := Lib.hid (wait_any B A c T t w h hV ht)
  generalize waitR T t = x at hc ⊢
  go_enter Try.func70, Try.ntmps70
  go_wp2_with fail
  refine hc.out.mono ?_
  rintro e w' ⟨rfl, m, rfl⟩
  go_wp2
  go_ret
  exact ⟨rfl, m, rfl⟩
theorem enter70 (args : Array Value) (w : World) : (callFunc 70 args).run Try.prog w = .ok (.enter 70 args) w := enter_of Try.func70 (by kernel_rfl) rfl args w
def toldWait (T : List (List Int)) (t : Int) : Int × Int := two (validB T) (hourB t) (waitR T t)

set_option maxHeartbeats 1000000 in
theorem Slack_any (B : Nat) (A : Option Addr) (c : Nat) (T : List (List Int)) (t : Int) (w : World) (h : Mat w B A T) (hB : B ≤ w.heap.size) :
    Calls Try.prog 32 #[.slice A T.length c, .int .i64 t] w fun e w' => e = R2 (slackR T t) ∧ Below w.heap.size w w' := by
  have hbb : Below w.heap.size w ((w.alloc (.cells #[.int .i64 t] 3)).alloc (.cells #[.bool (hourB t)] 4)) := ((Below.refl _ _).alloc (Nat.le_refl _) _).alloc (by simp) _
  have hM := (h.alloc hB (.cells #[.int .i64 t] 3)).alloc (by simp; omega) (.cells #[.bool (hourB t)] 4)
  have h3 : Calls Try.prog 49 #[.slice A T.length c, .func (Fn.func 70) #[] #[.pointer (some ⟨w.heap.size, 0, none⟩)], .slice (some ⟨w.heap.size + 1, 0, none⟩) 1 1]
      ((w.alloc (.cells #[.int .i64 t] 3)).alloc (.cells #[.bool (hourB t)] 4)) fun e w' => e = R2 (toldWait T t) ∧ Below w.heap.size w w' ∧ w'.cell? ⟨w.heap.size, 0, none⟩ = some (.int .i64 t) := by
    have key : ∀ w', Below ((w.alloc (.cells #[.int .i64 t] 3)).alloc (.cells #[.bool (hourB t)] 4)).heap.size ((w.alloc (.cells #[.int .i64 t] 3)).alloc (.cells #[.bool (hourB t)] 4)) w' → Below w.heap.size w w' ∧ w'.cell? ⟨w.heap.size, 0, none⟩ = some (.int .i64 t) := fun w' g =>
      ⟨hbb.trans (g.mono (by simp; omega)), by rw [g.cell (p := ⟨w.heap.size, 0, none⟩) (by simp; omega)]; simp [go_sem]⟩
    refine told_int1 B A c T 70 _ (some ⟨w.heap.size + 1, 0, none⟩) 1 [hourB t] _ _ hM (bools_one (by simp [go_sem])) enter70 (fun hv => ?_) (fun hv ha => ?_) (fun hv ha => ?_)
    · exact ⟨R2_of (by unfold toldWait; rw [hv]; rfl), key _ (Below.refl _ _)⟩
    · rw [allB_one] at ha
      exact ⟨R2_of (by unfold toldWait; rw [hv, ha]; rfl), key _ (Below.refl _ _)⟩
    · rw [allB_one] at ha
      refine (waitClo B A c T t w.heap.size _ hM (val_of hv) (by have := of_hourB ha; omega) (by simp [go_sem])).mono ?_
      rintro e w' ⟨rfl, m, rfl⟩
      exact ⟨_, rfl, R2_of (by unfold toldWait; rw [hv, ha]; rfl), key _ (below_drewN (Below.refl _ _) m)⟩
  cases hv : validB T with
  | false =>
    have hr := Lib.hid (show slackR T t = (0, 10) by unfold slackR; rw [hv]; rfl)
    rw [show toldWait T t = (0, 10) by unfold toldWait; rw [hv]; rfl] at h3
    replace h3 := Lib.hid h3
    clear hbb hM
    go_enter Try.func32, Try.ntmps32
    go_wp2_with fail
    refine (isHour_any _ _).mono ?_
    rintro e w' ⟨rfl, rfl⟩
    go_wp2_with fail
    refine h3.out.mono ?_
    rintro e w1 ⟨rfl, hb, hc⟩
    unfold R2
    go_wp2
    go_ret2
    exact ⟨R2_of hr.out, hb⟩
  | true =>
    cases ha : hourB t with
    | false =>
      have hr := Lib.hid (show slackR T t = (0, 2) by unfold slackR; rw [hv, ha]; rfl)
      rw [show toldWait T t = (0, 2) by unfold toldWait; rw [hv, ha]; rfl, ha] at h3
      replace h3 := Lib.hid h3
      replace ha := Lib.hid ha
      clear hbb hM
      go_enter Try.func32, Try.ntmps32
      go_wp2_with fail
      refine (isHour_any _ _).mono ?_
      rintro e w' ⟨rfl, rfl⟩
      rw [ha.out]
      go_wp2_with fail
      refine h3.out.mono ?_
      rintro e w1 ⟨rfl, hb, hc⟩
      unfold R2
      go_wp2
      go_ret2
      exact ⟨R2_of hr.out, hb⟩
    | true =>
      obtain ⟨t1, t2⟩ := of_hourB ha
      obtain ⟨r1, r2⟩ := rnd_bound (val_of hv)
      rw [ha] at h3
      by_cases hw : wt T t < rnd T
      · have hr := Lib.hid (show slackR T t = (t + (wt T t : Int), 0) by unfold slackR; rw [hv, ha, if_pos hw]; rfl)
        rw [show toldWait T t = ((wt T t : Int), 0) by unfold toldWait waitR; rw [hv, ha, if_pos hw]; rfl] at h3
        have hwb : wt T t ≤ 20736 := by omega
        generalize wt T t = k at h3 hr hwb
        replace h3 := Lib.hid h3
        replace ha := Lib.hid ha
        have hk1 : ((k : Int) == -1) = false := by simp
        clear hbb hM hw
        go_enter Try.func32, Try.ntmps32
        go_wp2_with fail
        refine (isHour_any _ _).mono ?_
        rintro e w' ⟨rfl, rfl⟩
        rw [ha.out]
        go_wp2_with fail
        refine h3.out.mono ?_
        rintro e w1 ⟨rfl, hb, hc⟩
        unfold R2
        go_wp2
        go_ret2
        exact ⟨R2_of hr.out, hb⟩
      · have hr := Lib.hid (show slackR T t = (0, 5) by unfold slackR; rw [hv, ha, if_neg hw]; rfl)
        rw [show toldWait T t = (-1, 0) by unfold toldWait waitR; rw [hv, ha, if_neg hw]; rfl] at h3
        replace h3 := Lib.hid h3
        replace ha := Lib.hid ha
        clear hbb hM hw
        go_enter Try.func32, Try.ntmps32
        go_wp2_with fail
        refine (isHour_any _ _).mono ?_
        rintro e w' ⟨rfl, rfl⟩
        rw [ha.out]
        go_wp2_with fail
        refine h3.out.mono ?_
        rintro e w1 ⟨rfl, hb, hc⟩
        unfold R2
        go_wp2
        go_ret2
        exact ⟨R2_of hr.out, hb⟩

end Go.Proofs.Ytmpmlgognkmfgaa
