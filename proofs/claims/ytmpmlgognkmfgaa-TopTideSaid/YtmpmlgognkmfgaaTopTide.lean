/-
  For any two tides, an hour and a number of hours, the law TopTide returns true: what drifts in a round is Net from whatever hour, also of the tide shifted and back, drifts of a sum add up, and its beat divides what both beats divide.
  Conditions: none.
-/
import Derived.Test.YtmpmlgognkmfgaaAwake
import Derived.Test.YtmpmlgognkmfgaaRefB
import Derived.Test.YtmpmlgognkmfgaaOpen
import Derived.Test.YtmpmlgognkmfgaaSum
import Derived.Test.YtmpmlgognkmfgaaMathB
import Derived.Test.YtmpmlgognkmfgaaTideH
import Derived.Test.YtmpmlgognkmfgaaRounds
namespace Go.Proofs.Ytmpmlgognkmfgaa.lawTopTide
open Go.ChangeShapes Go.WideShapes Go.ChangeAt Go.RowKit Go.Deep Go.Proofs.Ytmpmlgognkmfgaa M
set_option linter.unusedVariables false
set_option linter.unusedSimpArgs false

theorem app_row (T U : List (List Int)) (i : Nat) (h : i < T.length + U.length) : row (T ++ U) i = if i < T.length then row T i else row U (i - T.length) := by
  rw [row_eq _ _ (by rw [List.length_append]; exact h)]
  split
  · rename_i e; rw [List.getElem_append_left e, row_eq T i e]
  · rename_i e; rw [List.getElem_append_right (by omega), row_eq U _ (by omega)]
theorem val_app {T U : List (List Int)} (hT : Val T) (hU : Val U) (h : T.length + U.length ≤ 4) : Val (T ++ U) := by
  refine ⟨by rw [List.length_append]; have := hT.1.1; omega, fun i hi => ?_⟩
  rw [List.length_append] at hi
  rw [app_row T U i hi]
  split
  · rename_i e; exact hT.2 i e
  · rename_i e; exact hU.2 _ (by omega)
theorem spd_app (T U : List (List Int)) (t : Int) : spd (T ++ U) t = spd T t + spd U t := by
  unfold spd spdK
  rw [List.length_append, sm_split]
  congr 1
  · exact sm_congr _ (fun i hi => by rw [app_row T U i (by omega), if_pos hi])
  · exact sm_congr _ (fun i hi => by rw [app_row T U _ (by omega), if_neg (by omega), Nat.add_sub_cancel_left])
theorem drf_app (T U : List (List Int)) (f : Int) (n : Nat) : drf (T ++ U) f n = drf T f n + drf U f n := by
  unfold drf sg
  rw [← sm_add]
  exact sm_congr _ (fun i _ => spd_app T U _)
theorem rndK_of {T : List (List Int)} {N : Nat} (h : ∀ i, i < T.length → (row T i).length ∣ N) : rnd T ∣ N := by
  have : ∀ k, k ≤ T.length → rndK T k ∣ N := by
    intro k
    induction k with
    | zero => intro _; exact Nat.one_dvd _
    | succ k ih => intro hk; rw [rndK_succ]; exact Nat.lcm_dvd (ih (by omega)) (h k (by omega))
  exact this _ (Nat.le_refl _)
theorem rnd_app_l (T U : List (List Int)) : rnd T ∣ rnd (T ++ U) := rndK_of fun i hi => by
  have := rndK_dvd (T ++ U) i (T ++ U).length (by rw [List.length_append]; omega)
  rwa [app_row T U i (by omega), if_pos hi] at this
theorem rnd_app_r (T U : List (List Int)) : rnd U ∣ rnd (T ++ U) := rndK_of fun i hi => by
  have := rndK_dvd (T ++ U) (T.length + i) (T ++ U).length (by rw [List.length_append]; omega)
  rwa [app_row T U _ (by omega), if_neg (by omega), Nat.add_sub_cancel_left] at this
theorem both_bound {T U : List (List Int)} (hT : Val T) (hU : Val U) (h : T.length + U.length ≤ 4) : Nat.lcm (bt T) (bt U) ≤ 20736 := by
  have hP := rnd_bound (val_app hT hU h)
  have hd : Nat.lcm (bt T) (bt U) ∣ rnd (T ++ U) := Nat.lcm_dvd (Nat.dvd_trans (bt_dvd (rnd_bound hT).1) (rnd_app_l T U)) (Nat.dvd_trans (bt_dvd (rnd_bound hU).1) (rnd_app_r T U))
  exact Nat.le_trans (Nat.le_of_dvd (by omega) hd) hP.2
theorem both_beat {T U : List (List Int)} (hT : Val T) (hU : Val U) (h : T.length + U.length ≤ 4) : bt (T ++ U) ∣ Nat.lcm (bt T) (bt U) := by
  refine (per_iff (rnd_bound (val_app hT hU h)).1 _).1 (fun t => ?_)
  have p1 := (per_iff (rnd_bound hT).1 (Nat.lcm (bt T) (bt U))).2 (Nat.dvd_lcm_left _ _) t
  have p2 := (per_iff (rnd_bound hU).1 (Nat.lcm (bt T) (bt U))).2 (Nat.dvd_lcm_right _ _) t
  rw [spd_app, spd_app, p1, p2]
theorem net_sh {T : List (List Int)} (b : Int) (h : Val T) : drf (shT b T) 0 (rnd (shT b T)) = drf T 0 (rnd T) := by
  rw [rnd_sh, drf_sh b h]; exact sg_any _ _ _ _ (fun x => spd_period T x _ (Nat.dvd_refl _))
theorem net_bk {T : List (List Int)} (h : Val T) : drf (bkT T) 0 (rnd (bkT T)) = - drf T 0 (rnd T) := by
  rw [rnd_bk, drf_bk h]; congr 1; exact sg_any _ _ _ _ (fun x => spd_period T x _ (Nat.dvd_refl _))

def Out (T U : List (List Int)) (t b : Int) : Prop :=
  wideB T = true ∨ (wideB T = false ∧ wideB U = true) ∨ (wideB T = false ∧ wideB U = false ∧ validB T = false) ∨ (wideB T = false ∧ wideB U = false ∧ validB T = true ∧ validB U = false) ∨
  (wideB T = false ∧ wideB U = false ∧ validB T = true ∧ validB U = true ∧ hourB t = false) ∨ (wideB T = false ∧ wideB U = false ∧ validB T = true ∧ validB U = true ∧ hourB t = true ∧ hourB b = false)

set_option maxHeartbeats 4000000 in
set_option maxRecDepth 100000 in
theorem out (A : Option Addr) (c : Nat) (T : List (List Int)) (A' : Option Addr) (c' : Nat) (U : List (List Int)) (t b n : Int) (w : World) (h : Mat w w.heap.size A T) (h' : Mat w w.heap.size A' U) (ho : Out T U t b) :
    Calls Try.prog 14 #[.slice A T.length c, .slice A' U.length c', .int .i64 t, .int .i64 b, .int .u16 n] w fun e w' => e = .returned (.bool true) ∧ Below w.heap.size w w' := by
  rcases ho with hw | ⟨hw, hz⟩ | ⟨hw, hz, hv⟩ | ⟨hw, hz, hv, hu⟩ | ⟨hw, hz, hv, hu, ha⟩ | ⟨hw, hz, hv, hu, ha, hb⟩
  · replace hw := Lib.hid hw
    go_enter Try.func14, Try.ntmps14
    go_wp2_with fail
    refine (wide_any _ A c T w h).mono ?_
    rintro e w' ⟨rfl, rfl⟩
    rw [hw.out]
    go_wp2_with fail
    refine (awake_any _).mono ?_
    rintro e w' ⟨rfl, hb⟩
    go_wp2
    go_ret
    exact ⟨rfl, hb⟩
  · replace hw := Lib.hid hw
    replace hz := Lib.hid hz
    go_enter Try.func14, Try.ntmps14
    go_wp2_with fail
    refine (wide_any _ A c T w h).mono ?_
    rintro e w' ⟨rfl, rfl⟩
    rw [hw.out]
    go_wp2_with fail
    refine (wide_any _ A' c' U w h').mono ?_
    rintro e w' ⟨rfl, rfl⟩
    rw [hz.out]
    go_wp2_with fail
    refine (awake_any _).mono ?_
    rintro e w' ⟨rfl, hb⟩
    go_wp2
    go_ret
    exact ⟨rfl, hb⟩
  · replace hw := Lib.hid hw
    replace hz := Lib.hid hz
    replace hv := Lib.hid hv
    go_enter Try.func14, Try.ntmps14
    go_wp2_with fail
    refine (wide_any _ A c T w h).mono ?_
    rintro e w' ⟨rfl, rfl⟩
    rw [hw.out]
    go_wp2_with fail
    refine (wide_any _ A' c' U w h').mono ?_
    rintro e w' ⟨rfl, rfl⟩
    rw [hz.out]
    go_wp2_with fail
    refine (valid_ref _ A c T w h).mono ?_
    rintro e w' ⟨rfl, rfl⟩
    rw [hv.out]
    go_wp2_with fail
    refine (awake_any _).mono ?_
    rintro e w' ⟨rfl, hb⟩
    go_wp2
    go_ret
    exact ⟨rfl, hb⟩
  · replace hw := Lib.hid hw
    replace hz := Lib.hid hz
    replace hv := Lib.hid hv
    replace hu := Lib.hid hu
    go_enter Try.func14, Try.ntmps14
    go_wp2_with fail
    refine (wide_any _ A c T w h).mono ?_
    rintro e w' ⟨rfl, rfl⟩
    rw [hw.out]
    go_wp2_with fail
    refine (wide_any _ A' c' U w h').mono ?_
    rintro e w' ⟨rfl, rfl⟩
    rw [hz.out]
    go_wp2_with fail
    refine (valid_ref _ A c T w h).mono ?_
    rintro e w' ⟨rfl, rfl⟩
    rw [hv.out]
    go_wp2_with fail
    refine (valid_ref _ A' c' U w h').mono ?_
    rintro e w' ⟨rfl, rfl⟩
    rw [hu.out]
    go_wp2_with fail
    refine (awake_any _).mono ?_
    rintro e w' ⟨rfl, hb⟩
    go_wp2
    go_ret
    exact ⟨rfl, hb⟩
  · replace hw := Lib.hid hw
    replace hz := Lib.hid hz
    replace hv := Lib.hid hv
    replace hu := Lib.hid hu
    replace ha := Lib.hid ha
    go_enter Try.func14, Try.ntmps14
    go_wp2_with fail
    refine (wide_any _ A c T w h).mono ?_
    rintro e w' ⟨rfl, rfl⟩
    rw [hw.out]
    go_wp2_with fail
    refine (wide_any _ A' c' U w h').mono ?_
    rintro e w' ⟨rfl, rfl⟩
    rw [hz.out]
    go_wp2_with fail
    refine (valid_ref _ A c T w h).mono ?_
    rintro e w' ⟨rfl, rfl⟩
    rw [hv.out]
    go_wp2_with fail
    refine (valid_ref _ A' c' U w h').mono ?_
    rintro e w' ⟨rfl, rfl⟩
    rw [hu.out]
    go_wp2_with fail
    refine (isHour_ref _ _).mono ?_
    rintro e w' ⟨rfl, rfl⟩
    rw [ha.out]
    go_wp2_with fail
    refine (awake_any _).mono ?_
    rintro e w' ⟨rfl, hb⟩
    go_wp2
    go_ret
    exact ⟨rfl, hb⟩
  · replace hw := Lib.hid hw
    replace hz := Lib.hid hz
    replace hv := Lib.hid hv
    replace hu := Lib.hid hu
    replace ha := Lib.hid ha
    replace hb := Lib.hid hb
    go_enter Try.func14, Try.ntmps14
    go_wp2_with fail
    refine (wide_any _ A c T w h).mono ?_
    rintro e w' ⟨rfl, rfl⟩
    rw [hw.out]
    go_wp2_with fail
    refine (wide_any _ A' c' U w h').mono ?_
    rintro e w' ⟨rfl, rfl⟩
    rw [hz.out]
    go_wp2_with fail
    refine (valid_ref _ A c T w h).mono ?_
    rintro e w' ⟨rfl, rfl⟩
    rw [hv.out]
    go_wp2_with fail
    refine (valid_ref _ A' c' U w h').mono ?_
    rintro e w' ⟨rfl, rfl⟩
    rw [hu.out]
    go_wp2_with fail
    refine (isHour_ref _ _).mono ?_
    rintro e w' ⟨rfl, rfl⟩
    rw [ha.out]
    go_wp2_with fail
    refine (isHour_ref _ _).mono ?_
    rintro e w' ⟨rfl, rfl⟩
    rw [hb.out]
    go_wp2_with fail
    refine (awake_any _).mono ?_
    rintro e w' ⟨rfl, hb⟩
    go_wp2
    go_ret
    exact ⟨rfl, hb⟩

set_option maxHeartbeats 2000000 in
set_option maxRecDepth 100000 in
theorem innTT (A : Option Addr) (c : Nat) (T : List (List Int)) (A' : Option Addr) (c' : Nat) (U : List (List Int)) (t b : Int) (n : Nat) (w : World) (h : Mat w w.heap.size A T) (h' : Mat w w.heap.size A' U) (hn : n ≤ 65535)
    (hw : wideB T = false) (hz : wideB U = false) (hv : validB T = true) (hu : validB U = true) (ha : hourB t = true) (hb : hourB b = true) (hlen : T.length + U.length ≤ 4) (hl : hourB (t + b) = true) :
    Calls Try.prog 14 #[.slice A T.length c, .slice A' U.length c', .int .i64 t, .int .i64 b, .int .u16 n] w fun e w' => e = .returned (.bool true) ∧ Below w.heap.size w w' := by
  have hVT := val_of hv
  have hVU := val_of hu
  have hVs := val_sh b hVT
  have hVb := val_bk hVT
  obtain ⟨t1, t2⟩ := of_hourB ha
  obtain ⟨y1, y2⟩ := of_hourB hb
  obtain ⟨nb1, nb2⟩ := drf_bd hVT 0 (rnd T) (by have := (rnd_bound hVT).2; omega)
  obtain ⟨p1, p2⟩ := drf_bd hVT t n (by omega)
  obtain ⟨p3, p4⟩ := drf_bd hVU t n (by omega)
  have n4 := hVT.1.2
  have n4' := hVU.1.2
  have cR : ∀ W, Below w.heap.size w W → Calls Try.prog 48 #[.slice A T.length c, .int .i64 t] W fun e w' => e = .returned (.tuple #[.int .i64 (rnd T), .int .i64 (drf T 0 (rnd T)), .bool true]) ∧ Below W.heap.size W w' := fun W g => rounds_any w.heap.size A c T t W (h.below g) g.size hVT ha
  have cSh : ∀ W, Below w.heap.size w W → Calls Try.prog 38 #[.slice A T.length c, .int .i64 b] W (NewMatE W (shT b T, 0)) := fun W g => by
    have := Shifted_any w.heap.size A c T b W (h.below g) g.size
    rwa [show shiftR T b = (shT b T, 0) by unfold shiftR; rw [hv, hb]; rfl] at this
  have cBk : ∀ W, Below w.heap.size w W → Calls Try.prog 41 #[.slice A T.length c] W (NewMatE W (bkT T, 0)) := fun W g => by
    have := Back_any w.heap.size A c T W (h.below g) g.size
    rwa [show backR T = (bkT T, 0) by unfold backR; rw [hv]; rfl] at this
  have cRs : ∀ W B A2 c2, Mat W B A2 (shT b T) → B ≤ W.heap.size → Calls Try.prog 48 #[.slice A2 (shT b T).length c2, .int .i64 t] W fun e w' => e = .returned (.tuple #[.int .i64 (rnd T), .int .i64 (drf T 0 (rnd T)), .bool true]) ∧ Below W.heap.size W w' := fun W B A2 c2 g1 g2 => by
    have := rounds_any B A2 c2 (shT b T) t W g1 g2 hVs ha
    rwa [net_sh b hVT, rnd_sh] at this
  have cRb : ∀ W B A2 c2, Mat W B A2 (bkT T) → B ≤ W.heap.size → Calls Try.prog 48 #[.slice A2 (bkT T).length c2, .int .i64 t] W fun e w' => e = .returned (.tuple #[.int .i64 (rnd T), .int .i64 (- drf T 0 (rnd T)), .bool true]) ∧ Below W.heap.size W w' := fun W B A2 c2 g1 g2 => by
    have := rounds_any B A2 c2 (bkT T) t W g1 g2 hVb ha
    rwa [net_bk hVT, rnd_bk] at this
  have cDs : ∀ W B A2 c2, Mat W B A2 (shT b T) → B ≤ W.heap.size → Calls Try.prog 19 #[.slice A2 (shT b T).length c2, .int .i64 t, .int .i64 n] W fun e w' => e = R2 (drf T (t + b) n, 0) ∧ Below W.heap.size W w' := fun W B A2 c2 g1 g2 => by
    have := Drift_any B A2 c2 (shT b T) t n W g1 g2
    rwa [show driftR (shT b T) t n = (drf T (t + b) n, 0) by unfold driftR; rw [validB_true hVs, ha, spanB_true (by omega)]; simp [two, drf_sh b hVT]] at this
  have cDt : ∀ W, Below w.heap.size w W → Calls Try.prog 19 #[.slice A T.length c, .int .i64 (t + b), .int .i64 n] W fun e w' => e = R2 (drf T (t + b) n, 0) ∧ Below W.heap.size W w' := fun W g => by
    have := Drift_any w.heap.size A c T (t + b) n W (h.below g) g.size
    rwa [show driftR T (t + b) n = (drf T (t + b) n, 0) by unfold driftR; rw [hv, hl, spanB_true (by omega)]; simp [two]] at this
  have hVP := val_app hVT hVU hlen
  have cP : ∀ W, Below w.heap.size w W → Calls Try.prog 43 #[.slice A T.length c, .slice A' U.length c'] W (NewMatE W (T ++ U, 0)) := fun W g => by
    have := Sum_any w.heap.size A A' c c' T U W (h.below g) (h'.below g) g.size
    rwa [show sumR T U = (T ++ U, 0) by unfold sumR; rw [hv, hu, if_neg (show ¬ 4 < T.length + U.length by omega)]; rfl] at this
  have cD1 : ∀ W, Below w.heap.size w W → Calls Try.prog 19 #[.slice A T.length c, .int .i64 t, .int .i64 n] W fun e w' => e = R2 (drf T t n, 0) ∧ Below W.heap.size W w' := fun W g => by
    have := Drift_any w.heap.size A c T t n W (h.below g) g.size
    rwa [show driftR T t n = (drf T t n, 0) by unfold driftR; rw [hv, ha, spanB_true (by omega)]; simp [two]] at this
  have cD2 : ∀ W, Below w.heap.size w W → Calls Try.prog 19 #[.slice A' U.length c', .int .i64 t, .int .i64 n] W fun e w' => e = R2 (drf U t n, 0) ∧ Below W.heap.size W w' := fun W g => by
    have := Drift_any w.heap.size A' c' U t n W (h'.below g) g.size
    rwa [show driftR U t n = (drf U t n, 0) by unfold driftR; rw [hu, ha, spanB_true (by omega)]; simp [two]] at this
  have cD3 : ∀ W B A2 c2, Mat W B A2 (T ++ U) → B ≤ W.heap.size → Calls Try.prog 19 #[.slice A2 (T ++ U).length c2, .int .i64 t, .int .i64 n] W fun e w' => e = R2 (drf T t n + drf U t n, 0) ∧ Below W.heap.size W w' := fun W B A2 c2 g1 g2 => by
    have := Drift_any B A2 c2 (T ++ U) t n W g1 g2
    rwa [show driftR (T ++ U) t n = (drf T t n + drf U t n, 0) by unfold driftR; rw [validB_true hVP, ha, spanB_true (by omega)]; simp [two, drf_app]] at this
  have cB1 : ∀ W, Below w.heap.size w W → Calls Try.prog 27 #[.slice A T.length c] W fun e w' => e = R2 ((bt T : Int), 0) ∧ Below W.heap.size W w' := fun W g => by
    have := Beat_any w.heap.size A c T W (h.below g) g.size
    rwa [show beatR T = ((bt T : Int), 0) by unfold beatR; rw [hv]; rfl] at this
  have cB2 : ∀ W, Below w.heap.size w W → Calls Try.prog 27 #[.slice A' U.length c'] W fun e w' => e = R2 ((bt U : Int), 0) ∧ Below W.heap.size W w' := fun W g => by
    have := Beat_any w.heap.size A' c' U W (h'.below g) g.size
    rwa [show beatR U = ((bt U : Int), 0) by unfold beatR; rw [hu]; rfl] at this
  have cB3 : ∀ W B A2 c2, Mat W B A2 (T ++ U) → B ≤ W.heap.size → Calls Try.prog 27 #[.slice A2 (T ++ U).length c2] W fun e w' => e = R2 ((bt (T ++ U) : Int), 0) ∧ Below W.heap.size W w' := fun W B A2 c2 g1 g2 => by
    have := Beat_any B A2 c2 (T ++ U) W g1 g2
    rwa [show beatR (T ++ U) = ((bt (T ++ U) : Int), 0) by unfold beatR; rw [validB_true hVP]; rfl] at this
  have o1 := (bt_spec (rnd_bound hVT).1).1
  have o2 := (bt_spec (rnd_bound hVU).1).1
  have o3 := (bt_spec (rnd_bound hVP).1).1
  have hbo := both_bound hVT hVU hlen
  have hbe := both_beat hVT hVU hlen
  clear hVT hVU hVs hVb hVP
  generalize shT b T = Y at *
  generalize bkT T = X at *
  generalize drf T 0 (rnd T) = nt at *
  generalize rnd T = rr at *
  generalize drf T (t + b) n = z at *
  generalize T ++ U = P at *
  generalize drf T t n = dx at *
  generalize drf U t n = dy at *
  generalize bt T = b1 at *
  generalize bt U = b2 at *
  generalize bt P = b3 at *
  replace cR := Lib.hid cR
  replace cSh := Lib.hid cSh
  replace cBk := Lib.hid cBk
  replace cRs := Lib.hid cRs
  replace cRb := Lib.hid cRb
  replace cP := Lib.hid cP
  replace cDs := Lib.hid cDs
  replace cDt := Lib.hid cDt
  replace cD1 := Lib.hid cD1
  replace cD2 := Lib.hid cD2
  replace cD3 := Lib.hid cD3
  replace cB1 := Lib.hid cB1
  replace cB2 := Lib.hid cB2
  replace cB3 := Lib.hid cB3
  replace hw := Lib.hid hw
  replace hz := Lib.hid hz
  replace hv := Lib.hid hv
  replace hu := Lib.hid hu
  replace ha := Lib.hid ha
  replace hb := Lib.hid hb
  replace hl := Lib.hid hl
  replace hbe := Lib.hid hbe
  go_enter Try.func14, Try.ntmps14
  go_wp2_with fail
  refine (wide_any _ A c T w h).mono ?_
  rintro e w' ⟨rfl, rfl⟩
  rw [hw.out]
  go_wp2_with fail
  refine (wide_any _ A' c' U w h').mono ?_
  rintro e w' ⟨rfl, rfl⟩
  rw [hz.out]
  go_wp2_with fail
  refine (valid_ref _ A c T w h).mono ?_
  rintro e w' ⟨rfl, rfl⟩
  rw [hv.out]
  go_wp2_with fail
  refine (valid_ref _ A' c' U w h').mono ?_
  rintro e w' ⟨rfl, rfl⟩
  rw [hu.out]
  go_wp2_with fail
  refine (isHour_ref _ _).mono ?_
  rintro e w' ⟨rfl, rfl⟩
  rw [ha.out]
  go_wp2_with fail
  refine (isHour_ref _ _).mono ?_
  rintro e w' ⟨rfl, rfl⟩
  rw [hb.out]
  go_wp2_with fail
  refine (cR.out _ (Below.refl _ _)).mono ?_
  rintro e w1 ⟨rfl, hb1⟩
  go_wp2_with fail
  refine (cSh.out _ hb1).mono ?_
  rintro e w2 ⟨A2, k2, rfl, hx2, hm2⟩
  dsimp only at hm2
  have hb2 := hb1.trans (hx2.mono hb1.size)
  go_wp2_with fail
  refine (cBk.out _ hb2).mono ?_
  rintro e w3 ⟨A3, k3, rfl, hx3, hm3⟩
  dsimp only at hm3
  have hb3 := hb2.trans (hx3.mono hb2.size)
  replace hm2 := hm2.below hx3
  have hs2 := hx3.size
  clear hx2 hx3 hb1 hb2
  go_wp2_with fail
  refine (cRs.out w3 _ A2 k2 hm2 hs2).mono ?_
  rintro e w4 ⟨rfl, hx4⟩
  have hb4 := hb3.trans (hx4.mono hb3.size)
  replace hm2 := hm2.below (hx4.mono hs2)
  replace hm3 := hm3.below hx4
  replace hs2 := Nat.le_trans hs2 hx4.size
  have hs3 := hx4.size
  clear hb3 hx4
  go_wp2_with fail
  refine (cRb.out w4 _ A3 k3 hm3 hs3).mono ?_
  rintro e w5 ⟨rfl, hx5⟩
  have hb5 := hb4.trans (hx5.mono hb4.size)
  replace hm2 := hm2.below (hx5.mono hs2)
  replace hs2 := Nat.le_trans hs2 hx5.size
  clear hb4 hx5 hm3 hs3
  go_wp2_with fail
  refine (isHour_ref _ _).mono ?_
  rintro e w' ⟨rfl, rfl⟩
  rw [hl.out]
  go_wp2_with fail
  refine (cDs.out w5 _ A2 k2 hm2 hs2).mono ?_
  rintro e w6 ⟨rfl, hx6⟩
  have hb6 := hb5.trans (hx6.mono hb5.size)
  unfold R2
  clear hb5 hx6 hm2 hs2
  go_wp2_with fail
  refine (cDt.out _ hb6).mono ?_
  rintro e w7 ⟨rfl, hx7⟩
  have hb7 := hb6.trans (hx7.mono hb6.size)
  unfold R2
  clear hb6 hx7
  go_wp2_with fail
  refine (cP.out _ hb7).mono ?_
  rintro e w8 ⟨A8, k8, rfl, hx8, hm8⟩
  dsimp only at hm8
  have hb8 := hb7.trans (hx8.mono hb7.size)
  clear hb7 hx8
  go_wp2_with fail
  refine (cD1.out _ hb8).mono ?_
  rintro e w9 ⟨rfl, hx9⟩
  have hb9 := hb8.trans (hx9.mono hb8.size)
  replace hm8 := hm8.below hx9
  have hs8 := hx9.size
  unfold R2
  clear hb8 hx9
  go_wp2_with fail
  refine (cD2.out _ hb9).mono ?_
  rintro e wa ⟨rfl, hxa⟩
  have hba := hb9.trans (hxa.mono hb9.size)
  replace hm8 := hm8.below (hxa.mono hs8)
  replace hs8 := Nat.le_trans hs8 hxa.size
  unfold R2
  clear hb9 hxa
  go_wp2_with fail
  refine (cD3.out wa _ A8 k8 hm8 hs8).mono ?_
  rintro e wb ⟨rfl, hxb⟩
  have hbb := hba.trans (hxb.mono hba.size)
  replace hm8 := hm8.below (hxb.mono hs8)
  replace hs8 := Nat.le_trans hs8 hxb.size
  unfold R2
  clear hba hxb
  go_wp2_with fail
  refine (cB1.out _ hbb).mono ?_
  rintro e wc ⟨rfl, hxc⟩
  have hbc := hbb.trans (hxc.mono hbb.size)
  replace hm8 := hm8.below (hxc.mono hs8)
  replace hs8 := Nat.le_trans hs8 hxc.size
  unfold R2
  clear hbb hxc
  go_wp2_with fail
  refine (cB2.out _ hbc).mono ?_
  rintro e wd ⟨rfl, hxd⟩
  have hbd := hbc.trans (hxd.mono hbc.size)
  replace hm8 := hm8.below (hxd.mono hs8)
  replace hs8 := Nat.le_trans hs8 hxd.size
  unfold R2
  clear hbc hxd
  go_wp2_with fail
  refine (cB3.out wd _ A8 k8 hm8 hs8).mono ?_
  rintro e we ⟨rfl, hxe⟩
  have hbe' := hbd.trans (hxe.mono hbd.size)
  unfold R2
  clear hbd hxe hm8 hs8
  have q1 : 1 ≤ (b1 : Int) := by omega
  have q2 : 1 ≤ (b2 : Int) := by omega
  have q3 : 1 ≤ (b3 : Int) := by omega
  obtain ⟨L, hL⟩ : ∃ L, L = Nat.lcm b1 b2 := ⟨_, rfl⟩
  rw [← hL] at hbo hbe
  have hLp : 1 ≤ L := by rw [hL]; exact Nat.lcm_pos o1 o2
  replace hL := Lib.hid hL
  go_wp2
  go_loop [38] (fun i => ∃ m : Nat, 1 ≤ m ∧ m ≤ L ∧ i = .int .i64 m ∧ b1 ∣ m) (fun i => L - (intOf i).toNat)
  case atStart => exact ⟨b1, o1, by rw [hL.out]; exact Nat.le_of_dvd (by rw [← hL.out]; exact hLp) (Nat.dvd_lcm_left _ _), rfl, Nat.dvd_refl _⟩
  case round =>
    obtain ⟨m, hm1, hm2, rfl, hd⟩ := hrel
    replace hd := Lib.hid hd
    by_cases hdv : b2 ∣ m
    · have he := lcm_is hm1 hd.out hdv (by rw [← hL.out]; exact hm2)
      have ht : ((m : Int) % (b2 : Int) != 0) = false := by
        have := Nat.mod_eq_zero_of_dvd hdv
        simp; omega
      have ht3 : ((m : Int) % (b3 : Int) == 0) = true := by
        have h3 := hbe.out
        rw [hL.out, ← he] at h3
        have := Nat.mod_eq_zero_of_dvd h3
        simp; omega
      clear hdv he
      go_wp2_with fail
      refine (awake_any _).mono ?_
      rintro e wz ⟨rfl, hxz⟩
      have hbz := hbe'.trans (hxz.mono hbe'.size)
      go_wp2
      go_ret
      exact ⟨rfl, hbz⟩
    · have he := lcm_lt hdv (by rw [← hL.out]; exact hm2)
      rw [← hL.out] at he
      have hx := mult_next hd.out (by rw [hL.out]; exact Nat.dvd_lcm_left _ _) he
      have ht : ((m : Int) % (b2 : Int) != 0) = true := by
        have : ¬ m % b2 = 0 := fun h => hdv (Nat.dvd_of_mod_eq_zero h)
        simp; omega
      have hlt5 : (m : Int) < 100000 := by omega
      clear hdv
      go_wp2
      go_round
      case rel => exact ⟨m + b1, by omega, hx, by go_num, Nat.dvd_add hd.out (Nat.dvd_refl _)⟩
      case measure => simp [intOf]; omega

set_option maxHeartbeats 2000000 in
set_option maxRecDepth 100000 in
theorem innTF (A : Option Addr) (c : Nat) (T : List (List Int)) (A' : Option Addr) (c' : Nat) (U : List (List Int)) (t b : Int) (n : Nat) (w : World) (h : Mat w w.heap.size A T) (h' : Mat w w.heap.size A' U) (hn : n ≤ 65535)
    (hw : wideB T = false) (hz : wideB U = false) (hv : validB T = true) (hu : validB U = true) (ha : hourB t = true) (hb : hourB b = true) (hlen : T.length + U.length ≤ 4) (hl : hourB (t + b) = false) :
    Calls Try.prog 14 #[.slice A T.length c, .slice A' U.length c', .int .i64 t, .int .i64 b, .int .u16 n] w fun e w' => e = .returned (.bool true) ∧ Below w.heap.size w w' := by
  have hVT := val_of hv
  have hVU := val_of hu
  have hVs := val_sh b hVT
  have hVb := val_bk hVT
  obtain ⟨t1, t2⟩ := of_hourB ha
  obtain ⟨y1, y2⟩ := of_hourB hb
  obtain ⟨nb1, nb2⟩ := drf_bd hVT 0 (rnd T) (by have := (rnd_bound hVT).2; omega)
  obtain ⟨p1, p2⟩ := drf_bd hVT t n (by omega)
  obtain ⟨p3, p4⟩ := drf_bd hVU t n (by omega)
  have n4 := hVT.1.2
  have n4' := hVU.1.2
  have cR : ∀ W, Below w.heap.size w W → Calls Try.prog 48 #[.slice A T.length c, .int .i64 t] W fun e w' => e = .returned (.tuple #[.int .i64 (rnd T), .int .i64 (drf T 0 (rnd T)), .bool true]) ∧ Below W.heap.size W w' := fun W g => rounds_any w.heap.size A c T t W (h.below g) g.size hVT ha
  have cSh : ∀ W, Below w.heap.size w W → Calls Try.prog 38 #[.slice A T.length c, .int .i64 b] W (NewMatE W (shT b T, 0)) := fun W g => by
    have := Shifted_any w.heap.size A c T b W (h.below g) g.size
    rwa [show shiftR T b = (shT b T, 0) by unfold shiftR; rw [hv, hb]; rfl] at this
  have cBk : ∀ W, Below w.heap.size w W → Calls Try.prog 41 #[.slice A T.length c] W (NewMatE W (bkT T, 0)) := fun W g => by
    have := Back_any w.heap.size A c T W (h.below g) g.size
    rwa [show backR T = (bkT T, 0) by unfold backR; rw [hv]; rfl] at this
  have cRs : ∀ W B A2 c2, Mat W B A2 (shT b T) → B ≤ W.heap.size → Calls Try.prog 48 #[.slice A2 (shT b T).length c2, .int .i64 t] W fun e w' => e = .returned (.tuple #[.int .i64 (rnd T), .int .i64 (drf T 0 (rnd T)), .bool true]) ∧ Below W.heap.size W w' := fun W B A2 c2 g1 g2 => by
    have := rounds_any B A2 c2 (shT b T) t W g1 g2 hVs ha
    rwa [net_sh b hVT, rnd_sh] at this
  have cRb : ∀ W B A2 c2, Mat W B A2 (bkT T) → B ≤ W.heap.size → Calls Try.prog 48 #[.slice A2 (bkT T).length c2, .int .i64 t] W fun e w' => e = .returned (.tuple #[.int .i64 (rnd T), .int .i64 (- drf T 0 (rnd T)), .bool true]) ∧ Below W.heap.size W w' := fun W B A2 c2 g1 g2 => by
    have := rounds_any B A2 c2 (bkT T) t W g1 g2 hVb ha
    rwa [net_bk hVT, rnd_bk] at this
  have hVP := val_app hVT hVU hlen
  have cP : ∀ W, Below w.heap.size w W → Calls Try.prog 43 #[.slice A T.length c, .slice A' U.length c'] W (NewMatE W (T ++ U, 0)) := fun W g => by
    have := Sum_any w.heap.size A A' c c' T U W (h.below g) (h'.below g) g.size
    rwa [show sumR T U = (T ++ U, 0) by unfold sumR; rw [hv, hu, if_neg (show ¬ 4 < T.length + U.length by omega)]; rfl] at this
  have cD1 : ∀ W, Below w.heap.size w W → Calls Try.prog 19 #[.slice A T.length c, .int .i64 t, .int .i64 n] W fun e w' => e = R2 (drf T t n, 0) ∧ Below W.heap.size W w' := fun W g => by
    have := Drift_any w.heap.size A c T t n W (h.below g) g.size
    rwa [show driftR T t n = (drf T t n, 0) by unfold driftR; rw [hv, ha, spanB_true (by omega)]; simp [two]] at this
  have cD2 : ∀ W, Below w.heap.size w W → Calls Try.prog 19 #[.slice A' U.length c', .int .i64 t, .int .i64 n] W fun e w' => e = R2 (drf U t n, 0) ∧ Below W.heap.size W w' := fun W g => by
    have := Drift_any w.heap.size A' c' U t n W (h'.below g) g.size
    rwa [show driftR U t n = (drf U t n, 0) by unfold driftR; rw [hu, ha, spanB_true (by omega)]; simp [two]] at this
  have cD3 : ∀ W B A2 c2, Mat W B A2 (T ++ U) → B ≤ W.heap.size → Calls Try.prog 19 #[.slice A2 (T ++ U).length c2, .int .i64 t, .int .i64 n] W fun e w' => e = R2 (drf T t n + drf U t n, 0) ∧ Below W.heap.size W w' := fun W B A2 c2 g1 g2 => by
    have := Drift_any B A2 c2 (T ++ U) t n W g1 g2
    rwa [show driftR (T ++ U) t n = (drf T t n + drf U t n, 0) by unfold driftR; rw [validB_true hVP, ha, spanB_true (by omega)]; simp [two, drf_app]] at this
  have cB1 : ∀ W, Below w.heap.size w W → Calls Try.prog 27 #[.slice A T.length c] W fun e w' => e = R2 ((bt T : Int), 0) ∧ Below W.heap.size W w' := fun W g => by
    have := Beat_any w.heap.size A c T W (h.below g) g.size
    rwa [show beatR T = ((bt T : Int), 0) by unfold beatR; rw [hv]; rfl] at this
  have cB2 : ∀ W, Below w.heap.size w W → Calls Try.prog 27 #[.slice A' U.length c'] W fun e w' => e = R2 ((bt U : Int), 0) ∧ Below W.heap.size W w' := fun W g => by
    have := Beat_any w.heap.size A' c' U W (h'.below g) g.size
    rwa [show beatR U = ((bt U : Int), 0) by unfold beatR; rw [hu]; rfl] at this
  have cB3 : ∀ W B A2 c2, Mat W B A2 (T ++ U) → B ≤ W.heap.size → Calls Try.prog 27 #[.slice A2 (T ++ U).length c2] W fun e w' => e = R2 ((bt (T ++ U) : Int), 0) ∧ Below W.heap.size W w' := fun W B A2 c2 g1 g2 => by
    have := Beat_any B A2 c2 (T ++ U) W g1 g2
    rwa [show beatR (T ++ U) = ((bt (T ++ U) : Int), 0) by unfold beatR; rw [validB_true hVP]; rfl] at this
  have o1 := (bt_spec (rnd_bound hVT).1).1
  have o2 := (bt_spec (rnd_bound hVU).1).1
  have o3 := (bt_spec (rnd_bound hVP).1).1
  have hbo := both_bound hVT hVU hlen
  have hbe := both_beat hVT hVU hlen
  clear hVT hVU hVs hVb hVP
  generalize shT b T = Y at *
  generalize bkT T = X at *
  generalize drf T 0 (rnd T) = nt at *
  generalize rnd T = rr at *
  generalize T ++ U = P at *
  generalize drf T t n = dx at *
  generalize drf U t n = dy at *
  generalize bt T = b1 at *
  generalize bt U = b2 at *
  generalize bt P = b3 at *
  replace cR := Lib.hid cR
  replace cSh := Lib.hid cSh
  replace cBk := Lib.hid cBk
  replace cRs := Lib.hid cRs
  replace cRb := Lib.hid cRb
  replace cP := Lib.hid cP
  replace cD1 := Lib.hid cD1
  replace cD2 := Lib.hid cD2
  replace cD3 := Lib.hid cD3
  replace cB1 := Lib.hid cB1
  replace cB2 := Lib.hid cB2
  replace cB3 := Lib.hid cB3
  replace hw := Lib.hid hw
  replace hz := Lib.hid hz
  replace hv := Lib.hid hv
  replace hu := Lib.hid hu
  replace ha := Lib.hid ha
  replace hb := Lib.hid hb
  replace hl := Lib.hid hl
  replace hbe := Lib.hid hbe
  go_enter Try.func14, Try.ntmps14
  go_wp2_with fail
  refine (wide_any _ A c T w h).mono ?_
  rintro e w' ⟨rfl, rfl⟩
  rw [hw.out]
  go_wp2_with fail
  refine (wide_any _ A' c' U w h').mono ?_
  rintro e w' ⟨rfl, rfl⟩
  rw [hz.out]
  go_wp2_with fail
  refine (valid_ref _ A c T w h).mono ?_
  rintro e w' ⟨rfl, rfl⟩
  rw [hv.out]
  go_wp2_with fail
  refine (valid_ref _ A' c' U w h').mono ?_
  rintro e w' ⟨rfl, rfl⟩
  rw [hu.out]
  go_wp2_with fail
  refine (isHour_ref _ _).mono ?_
  rintro e w' ⟨rfl, rfl⟩
  rw [ha.out]
  go_wp2_with fail
  refine (isHour_ref _ _).mono ?_
  rintro e w' ⟨rfl, rfl⟩
  rw [hb.out]
  go_wp2_with fail
  refine (cR.out _ (Below.refl _ _)).mono ?_
  rintro e w1 ⟨rfl, hb1⟩
  go_wp2_with fail
  refine (cSh.out _ hb1).mono ?_
  rintro e w2 ⟨A2, k2, rfl, hx2, hm2⟩
  dsimp only at hm2
  have hb2 := hb1.trans (hx2.mono hb1.size)
  go_wp2_with fail
  refine (cBk.out _ hb2).mono ?_
  rintro e w3 ⟨A3, k3, rfl, hx3, hm3⟩
  dsimp only at hm3
  have hb3 := hb2.trans (hx3.mono hb2.size)
  replace hm2 := hm2.below hx3
  have hs2 := hx3.size
  clear hx2 hx3 hb1 hb2
  go_wp2_with fail
  refine (cRs.out w3 _ A2 k2 hm2 hs2).mono ?_
  rintro e w4 ⟨rfl, hx4⟩
  have hb4 := hb3.trans (hx4.mono hb3.size)
  replace hm2 := hm2.below (hx4.mono hs2)
  replace hm3 := hm3.below hx4
  replace hs2 := Nat.le_trans hs2 hx4.size
  have hs3 := hx4.size
  clear hb3 hx4
  go_wp2_with fail
  refine (cRb.out w4 _ A3 k3 hm3 hs3).mono ?_
  rintro e w5 ⟨rfl, hx5⟩
  have hb5 := hb4.trans (hx5.mono hb4.size)
  replace hm2 := hm2.below (hx5.mono hs2)
  replace hs2 := Nat.le_trans hs2 hx5.size
  clear hb4 hx5 hm3 hs3
  go_wp2_with fail
  refine (isHour_ref _ _).mono ?_
  rintro e w' ⟨rfl, rfl⟩
  rw [hl.out]
  obtain ⟨w7, hw7⟩ : ∃ w7, w7 = w5 := ⟨_, rfl⟩
  subst hw7
  have hb7 := hb5
  clear hb5 hm2 hs2
  go_wp2_with fail
  refine (cP.out _ hb7).mono ?_
  rintro e w8 ⟨A8, k8, rfl, hx8, hm8⟩
  dsimp only at hm8
  have hb8 := hb7.trans (hx8.mono hb7.size)
  clear hb7 hx8
  go_wp2_with fail
  refine (cD1.out _ hb8).mono ?_
  rintro e w9 ⟨rfl, hx9⟩
  have hb9 := hb8.trans (hx9.mono hb8.size)
  replace hm8 := hm8.below hx9
  have hs8 := hx9.size
  unfold R2
  clear hb8 hx9
  go_wp2_with fail
  refine (cD2.out _ hb9).mono ?_
  rintro e wa ⟨rfl, hxa⟩
  have hba := hb9.trans (hxa.mono hb9.size)
  replace hm8 := hm8.below (hxa.mono hs8)
  replace hs8 := Nat.le_trans hs8 hxa.size
  unfold R2
  clear hb9 hxa
  go_wp2_with fail
  refine (cD3.out wa _ A8 k8 hm8 hs8).mono ?_
  rintro e wb ⟨rfl, hxb⟩
  have hbb := hba.trans (hxb.mono hba.size)
  replace hm8 := hm8.below (hxb.mono hs8)
  replace hs8 := Nat.le_trans hs8 hxb.size
  unfold R2
  clear hba hxb
  go_wp2_with fail
  refine (cB1.out _ hbb).mono ?_
  rintro e wc ⟨rfl, hxc⟩
  have hbc := hbb.trans (hxc.mono hbb.size)
  replace hm8 := hm8.below (hxc.mono hs8)
  replace hs8 := Nat.le_trans hs8 hxc.size
  unfold R2
  clear hbb hxc
  go_wp2_with fail
  refine (cB2.out _ hbc).mono ?_
  rintro e wd ⟨rfl, hxd⟩
  have hbd := hbc.trans (hxd.mono hbc.size)
  replace hm8 := hm8.below (hxd.mono hs8)
  replace hs8 := Nat.le_trans hs8 hxd.size
  unfold R2
  clear hbc hxd
  go_wp2_with fail
  refine (cB3.out wd _ A8 k8 hm8 hs8).mono ?_
  rintro e we ⟨rfl, hxe⟩
  have hbe' := hbd.trans (hxe.mono hbd.size)
  unfold R2
  clear hbd hxe hm8 hs8
  have q1 : 1 ≤ (b1 : Int) := by omega
  have q2 : 1 ≤ (b2 : Int) := by omega
  have q3 : 1 ≤ (b3 : Int) := by omega
  obtain ⟨L, hL⟩ : ∃ L, L = Nat.lcm b1 b2 := ⟨_, rfl⟩
  rw [← hL] at hbo hbe
  have hLp : 1 ≤ L := by rw [hL]; exact Nat.lcm_pos o1 o2
  replace hL := Lib.hid hL
  go_wp2
  go_loop [38] (fun i => ∃ m : Nat, 1 ≤ m ∧ m ≤ L ∧ i = .int .i64 m ∧ b1 ∣ m) (fun i => L - (intOf i).toNat)
  case atStart => exact ⟨b1, o1, by rw [hL.out]; exact Nat.le_of_dvd (by rw [← hL.out]; exact hLp) (Nat.dvd_lcm_left _ _), rfl, Nat.dvd_refl _⟩
  case round =>
    obtain ⟨m, hm1, hm2, rfl, hd⟩ := hrel
    replace hd := Lib.hid hd
    by_cases hdv : b2 ∣ m
    · have he := lcm_is hm1 hd.out hdv (by rw [← hL.out]; exact hm2)
      have ht : ((m : Int) % (b2 : Int) != 0) = false := by
        have := Nat.mod_eq_zero_of_dvd hdv
        simp; omega
      have ht3 : ((m : Int) % (b3 : Int) == 0) = true := by
        have h3 := hbe.out
        rw [hL.out, ← he] at h3
        have := Nat.mod_eq_zero_of_dvd h3
        simp; omega
      clear hdv he
      go_wp2_with fail
      refine (awake_any _).mono ?_
      rintro e wz ⟨rfl, hxz⟩
      have hbz := hbe'.trans (hxz.mono hbe'.size)
      go_wp2
      go_ret
      exact ⟨rfl, hbz⟩
    · have he := lcm_lt hdv (by rw [← hL.out]; exact hm2)
      rw [← hL.out] at he
      have hx := mult_next hd.out (by rw [hL.out]; exact Nat.dvd_lcm_left _ _) he
      have ht : ((m : Int) % (b2 : Int) != 0) = true := by
        have : ¬ m % b2 = 0 := fun h => hdv (Nat.dvd_of_mod_eq_zero h)
        simp; omega
      have hlt5 : (m : Int) < 100000 := by omega
      clear hdv
      go_wp2
      go_round
      case rel => exact ⟨m + b1, by omega, hx, by go_num, Nat.dvd_add hd.out (Nat.dvd_refl _)⟩
      case measure => simp [intOf]; omega

set_option maxHeartbeats 2000000 in
set_option maxRecDepth 100000 in
theorem innFT (A : Option Addr) (c : Nat) (T : List (List Int)) (A' : Option Addr) (c' : Nat) (U : List (List Int)) (t b : Int) (n : Nat) (w : World) (h : Mat w w.heap.size A T) (h' : Mat w w.heap.size A' U) (hn : n ≤ 65535)
    (hw : wideB T = false) (hz : wideB U = false) (hv : validB T = true) (hu : validB U = true) (ha : hourB t = true) (hb : hourB b = true) (hlen : 4 < T.length + U.length) (hl : hourB (t + b) = true) :
    Calls Try.prog 14 #[.slice A T.length c, .slice A' U.length c', .int .i64 t, .int .i64 b, .int .u16 n] w fun e w' => e = .returned (.bool true) ∧ Below w.heap.size w w' := by
  have hVT := val_of hv
  have hVU := val_of hu
  have hVs := val_sh b hVT
  have hVb := val_bk hVT
  obtain ⟨t1, t2⟩ := of_hourB ha
  obtain ⟨y1, y2⟩ := of_hourB hb
  obtain ⟨nb1, nb2⟩ := drf_bd hVT 0 (rnd T) (by have := (rnd_bound hVT).2; omega)
  obtain ⟨p1, p2⟩ := drf_bd hVT t n (by omega)
  obtain ⟨p3, p4⟩ := drf_bd hVU t n (by omega)
  have n4 := hVT.1.2
  have n4' := hVU.1.2
  have cR : ∀ W, Below w.heap.size w W → Calls Try.prog 48 #[.slice A T.length c, .int .i64 t] W fun e w' => e = .returned (.tuple #[.int .i64 (rnd T), .int .i64 (drf T 0 (rnd T)), .bool true]) ∧ Below W.heap.size W w' := fun W g => rounds_any w.heap.size A c T t W (h.below g) g.size hVT ha
  have cSh : ∀ W, Below w.heap.size w W → Calls Try.prog 38 #[.slice A T.length c, .int .i64 b] W (NewMatE W (shT b T, 0)) := fun W g => by
    have := Shifted_any w.heap.size A c T b W (h.below g) g.size
    rwa [show shiftR T b = (shT b T, 0) by unfold shiftR; rw [hv, hb]; rfl] at this
  have cBk : ∀ W, Below w.heap.size w W → Calls Try.prog 41 #[.slice A T.length c] W (NewMatE W (bkT T, 0)) := fun W g => by
    have := Back_any w.heap.size A c T W (h.below g) g.size
    rwa [show backR T = (bkT T, 0) by unfold backR; rw [hv]; rfl] at this
  have cRs : ∀ W B A2 c2, Mat W B A2 (shT b T) → B ≤ W.heap.size → Calls Try.prog 48 #[.slice A2 (shT b T).length c2, .int .i64 t] W fun e w' => e = .returned (.tuple #[.int .i64 (rnd T), .int .i64 (drf T 0 (rnd T)), .bool true]) ∧ Below W.heap.size W w' := fun W B A2 c2 g1 g2 => by
    have := rounds_any B A2 c2 (shT b T) t W g1 g2 hVs ha
    rwa [net_sh b hVT, rnd_sh] at this
  have cRb : ∀ W B A2 c2, Mat W B A2 (bkT T) → B ≤ W.heap.size → Calls Try.prog 48 #[.slice A2 (bkT T).length c2, .int .i64 t] W fun e w' => e = .returned (.tuple #[.int .i64 (rnd T), .int .i64 (- drf T 0 (rnd T)), .bool true]) ∧ Below W.heap.size W w' := fun W B A2 c2 g1 g2 => by
    have := rounds_any B A2 c2 (bkT T) t W g1 g2 hVb ha
    rwa [net_bk hVT, rnd_bk] at this
  have cDs : ∀ W B A2 c2, Mat W B A2 (shT b T) → B ≤ W.heap.size → Calls Try.prog 19 #[.slice A2 (shT b T).length c2, .int .i64 t, .int .i64 n] W fun e w' => e = R2 (drf T (t + b) n, 0) ∧ Below W.heap.size W w' := fun W B A2 c2 g1 g2 => by
    have := Drift_any B A2 c2 (shT b T) t n W g1 g2
    rwa [show driftR (shT b T) t n = (drf T (t + b) n, 0) by unfold driftR; rw [validB_true hVs, ha, spanB_true (by omega)]; simp [two, drf_sh b hVT]] at this
  have cDt : ∀ W, Below w.heap.size w W → Calls Try.prog 19 #[.slice A T.length c, .int .i64 (t + b), .int .i64 n] W fun e w' => e = R2 (drf T (t + b) n, 0) ∧ Below W.heap.size W w' := fun W g => by
    have := Drift_any w.heap.size A c T (t + b) n W (h.below g) g.size
    rwa [show driftR T (t + b) n = (drf T (t + b) n, 0) by unfold driftR; rw [hv, hl, spanB_true (by omega)]; simp [two]] at this
  have cP : ∀ W, Below w.heap.size w W → Calls Try.prog 43 #[.slice A T.length c, .slice A' U.length c'] W (NewMatE W ([], 4)) := fun W g => by
    have := Sum_any w.heap.size A A' c c' T U W (h.below g) (h'.below g) g.size
    rwa [show sumR T U = ([], 4) by unfold sumR; rw [hv, hu, if_pos hlen]; rfl] at this
  clear hVT hVU hVs hVb
  generalize shT b T = Y at *
  generalize bkT T = X at *
  generalize drf T 0 (rnd T) = nt at *
  generalize rnd T = rr at *
  generalize drf T (t + b) n = z at *
  replace cR := Lib.hid cR
  replace cSh := Lib.hid cSh
  replace cBk := Lib.hid cBk
  replace cRs := Lib.hid cRs
  replace cRb := Lib.hid cRb
  replace cP := Lib.hid cP
  replace cDs := Lib.hid cDs
  replace cDt := Lib.hid cDt
  replace hw := Lib.hid hw
  replace hz := Lib.hid hz
  replace hv := Lib.hid hv
  replace hu := Lib.hid hu
  replace ha := Lib.hid ha
  replace hb := Lib.hid hb
  replace hl := Lib.hid hl
  go_enter Try.func14, Try.ntmps14
  go_wp2_with fail
  refine (wide_any _ A c T w h).mono ?_
  rintro e w' ⟨rfl, rfl⟩
  rw [hw.out]
  go_wp2_with fail
  refine (wide_any _ A' c' U w h').mono ?_
  rintro e w' ⟨rfl, rfl⟩
  rw [hz.out]
  go_wp2_with fail
  refine (valid_ref _ A c T w h).mono ?_
  rintro e w' ⟨rfl, rfl⟩
  rw [hv.out]
  go_wp2_with fail
  refine (valid_ref _ A' c' U w h').mono ?_
  rintro e w' ⟨rfl, rfl⟩
  rw [hu.out]
  go_wp2_with fail
  refine (isHour_ref _ _).mono ?_
  rintro e w' ⟨rfl, rfl⟩
  rw [ha.out]
  go_wp2_with fail
  refine (isHour_ref _ _).mono ?_
  rintro e w' ⟨rfl, rfl⟩
  rw [hb.out]
  go_wp2_with fail
  refine (cR.out _ (Below.refl _ _)).mono ?_
  rintro e w1 ⟨rfl, hb1⟩
  go_wp2_with fail
  refine (cSh.out _ hb1).mono ?_
  rintro e w2 ⟨A2, k2, rfl, hx2, hm2⟩
  dsimp only at hm2
  have hb2 := hb1.trans (hx2.mono hb1.size)
  go_wp2_with fail
  refine (cBk.out _ hb2).mono ?_
  rintro e w3 ⟨A3, k3, rfl, hx3, hm3⟩
  dsimp only at hm3
  have hb3 := hb2.trans (hx3.mono hb2.size)
  replace hm2 := hm2.below hx3
  have hs2 := hx3.size
  clear hx2 hx3 hb1 hb2
  go_wp2_with fail
  refine (cRs.out w3 _ A2 k2 hm2 hs2).mono ?_
  rintro e w4 ⟨rfl, hx4⟩
  have hb4 := hb3.trans (hx4.mono hb3.size)
  replace hm2 := hm2.below (hx4.mono hs2)
  replace hm3 := hm3.below hx4
  replace hs2 := Nat.le_trans hs2 hx4.size
  have hs3 := hx4.size
  clear hb3 hx4
  go_wp2_with fail
  refine (cRb.out w4 _ A3 k3 hm3 hs3).mono ?_
  rintro e w5 ⟨rfl, hx5⟩
  have hb5 := hb4.trans (hx5.mono hb4.size)
  replace hm2 := hm2.below (hx5.mono hs2)
  replace hs2 := Nat.le_trans hs2 hx5.size
  clear hb4 hx5 hm3 hs3
  go_wp2_with fail
  refine (isHour_ref _ _).mono ?_
  rintro e w' ⟨rfl, rfl⟩
  rw [hl.out]
  go_wp2_with fail
  refine (cDs.out w5 _ A2 k2 hm2 hs2).mono ?_
  rintro e w6 ⟨rfl, hx6⟩
  have hb6 := hb5.trans (hx6.mono hb5.size)
  unfold R2
  clear hb5 hx6 hm2 hs2
  go_wp2_with fail
  refine (cDt.out _ hb6).mono ?_
  rintro e w7 ⟨rfl, hx7⟩
  have hb7 := hb6.trans (hx7.mono hb6.size)
  unfold R2
  clear hb6 hx7
  go_wp2_with fail
  refine (cP.out _ hb7).mono ?_
  rintro e w8 ⟨A8, k8, rfl, hx8, hm8⟩
  dsimp only at hm8
  have hb8 := hb7.trans (hx8.mono hb7.size)
  clear hb7 hx8
  clear hm8
  go_wp2_with fail
  refine (awake_any _).mono ?_
  rintro e wd ⟨rfl, hxd⟩
  have hbd := hb8.trans (hxd.mono hb8.size)
  go_wp2
  go_ret
  exact ⟨rfl, hbd⟩

set_option maxHeartbeats 2000000 in
set_option maxRecDepth 100000 in
theorem innFF (A : Option Addr) (c : Nat) (T : List (List Int)) (A' : Option Addr) (c' : Nat) (U : List (List Int)) (t b : Int) (n : Nat) (w : World) (h : Mat w w.heap.size A T) (h' : Mat w w.heap.size A' U) (hn : n ≤ 65535)
    (hw : wideB T = false) (hz : wideB U = false) (hv : validB T = true) (hu : validB U = true) (ha : hourB t = true) (hb : hourB b = true) (hlen : 4 < T.length + U.length) (hl : hourB (t + b) = false) :
    Calls Try.prog 14 #[.slice A T.length c, .slice A' U.length c', .int .i64 t, .int .i64 b, .int .u16 n] w fun e w' => e = .returned (.bool true) ∧ Below w.heap.size w w' := by
  have hVT := val_of hv
  have hVU := val_of hu
  have hVs := val_sh b hVT
  have hVb := val_bk hVT
  obtain ⟨t1, t2⟩ := of_hourB ha
  obtain ⟨y1, y2⟩ := of_hourB hb
  obtain ⟨nb1, nb2⟩ := drf_bd hVT 0 (rnd T) (by have := (rnd_bound hVT).2; omega)
  obtain ⟨p1, p2⟩ := drf_bd hVT t n (by omega)
  obtain ⟨p3, p4⟩ := drf_bd hVU t n (by omega)
  have n4 := hVT.1.2
  have n4' := hVU.1.2
  have cR : ∀ W, Below w.heap.size w W → Calls Try.prog 48 #[.slice A T.length c, .int .i64 t] W fun e w' => e = .returned (.tuple #[.int .i64 (rnd T), .int .i64 (drf T 0 (rnd T)), .bool true]) ∧ Below W.heap.size W w' := fun W g => rounds_any w.heap.size A c T t W (h.below g) g.size hVT ha
  have cSh : ∀ W, Below w.heap.size w W → Calls Try.prog 38 #[.slice A T.length c, .int .i64 b] W (NewMatE W (shT b T, 0)) := fun W g => by
    have := Shifted_any w.heap.size A c T b W (h.below g) g.size
    rwa [show shiftR T b = (shT b T, 0) by unfold shiftR; rw [hv, hb]; rfl] at this
  have cBk : ∀ W, Below w.heap.size w W → Calls Try.prog 41 #[.slice A T.length c] W (NewMatE W (bkT T, 0)) := fun W g => by
    have := Back_any w.heap.size A c T W (h.below g) g.size
    rwa [show backR T = (bkT T, 0) by unfold backR; rw [hv]; rfl] at this
  have cRs : ∀ W B A2 c2, Mat W B A2 (shT b T) → B ≤ W.heap.size → Calls Try.prog 48 #[.slice A2 (shT b T).length c2, .int .i64 t] W fun e w' => e = .returned (.tuple #[.int .i64 (rnd T), .int .i64 (drf T 0 (rnd T)), .bool true]) ∧ Below W.heap.size W w' := fun W B A2 c2 g1 g2 => by
    have := rounds_any B A2 c2 (shT b T) t W g1 g2 hVs ha
    rwa [net_sh b hVT, rnd_sh] at this
  have cRb : ∀ W B A2 c2, Mat W B A2 (bkT T) → B ≤ W.heap.size → Calls Try.prog 48 #[.slice A2 (bkT T).length c2, .int .i64 t] W fun e w' => e = .returned (.tuple #[.int .i64 (rnd T), .int .i64 (- drf T 0 (rnd T)), .bool true]) ∧ Below W.heap.size W w' := fun W B A2 c2 g1 g2 => by
    have := rounds_any B A2 c2 (bkT T) t W g1 g2 hVb ha
    rwa [net_bk hVT, rnd_bk] at this
  have cP : ∀ W, Below w.heap.size w W → Calls Try.prog 43 #[.slice A T.length c, .slice A' U.length c'] W (NewMatE W ([], 4)) := fun W g => by
    have := Sum_any w.heap.size A A' c c' T U W (h.below g) (h'.below g) g.size
    rwa [show sumR T U = ([], 4) by unfold sumR; rw [hv, hu, if_pos hlen]; rfl] at this
  clear hVT hVU hVs hVb
  generalize shT b T = Y at *
  generalize bkT T = X at *
  generalize drf T 0 (rnd T) = nt at *
  generalize rnd T = rr at *
  replace cR := Lib.hid cR
  replace cSh := Lib.hid cSh
  replace cBk := Lib.hid cBk
  replace cRs := Lib.hid cRs
  replace cRb := Lib.hid cRb
  replace cP := Lib.hid cP
  replace hw := Lib.hid hw
  replace hz := Lib.hid hz
  replace hv := Lib.hid hv
  replace hu := Lib.hid hu
  replace ha := Lib.hid ha
  replace hb := Lib.hid hb
  replace hl := Lib.hid hl
  go_enter Try.func14, Try.ntmps14
  go_wp2_with fail
  refine (wide_any _ A c T w h).mono ?_
  rintro e w' ⟨rfl, rfl⟩
  rw [hw.out]
  go_wp2_with fail
  refine (wide_any _ A' c' U w h').mono ?_
  rintro e w' ⟨rfl, rfl⟩
  rw [hz.out]
  go_wp2_with fail
  refine (valid_ref _ A c T w h).mono ?_
  rintro e w' ⟨rfl, rfl⟩
  rw [hv.out]
  go_wp2_with fail
  refine (valid_ref _ A' c' U w h').mono ?_
  rintro e w' ⟨rfl, rfl⟩
  rw [hu.out]
  go_wp2_with fail
  refine (isHour_ref _ _).mono ?_
  rintro e w' ⟨rfl, rfl⟩
  rw [ha.out]
  go_wp2_with fail
  refine (isHour_ref _ _).mono ?_
  rintro e w' ⟨rfl, rfl⟩
  rw [hb.out]
  go_wp2_with fail
  refine (cR.out _ (Below.refl _ _)).mono ?_
  rintro e w1 ⟨rfl, hb1⟩
  go_wp2_with fail
  refine (cSh.out _ hb1).mono ?_
  rintro e w2 ⟨A2, k2, rfl, hx2, hm2⟩
  dsimp only at hm2
  have hb2 := hb1.trans (hx2.mono hb1.size)
  go_wp2_with fail
  refine (cBk.out _ hb2).mono ?_
  rintro e w3 ⟨A3, k3, rfl, hx3, hm3⟩
  dsimp only at hm3
  have hb3 := hb2.trans (hx3.mono hb2.size)
  replace hm2 := hm2.below hx3
  have hs2 := hx3.size
  clear hx2 hx3 hb1 hb2
  go_wp2_with fail
  refine (cRs.out w3 _ A2 k2 hm2 hs2).mono ?_
  rintro e w4 ⟨rfl, hx4⟩
  have hb4 := hb3.trans (hx4.mono hb3.size)
  replace hm2 := hm2.below (hx4.mono hs2)
  replace hm3 := hm3.below hx4
  replace hs2 := Nat.le_trans hs2 hx4.size
  have hs3 := hx4.size
  clear hb3 hx4
  go_wp2_with fail
  refine (cRb.out w4 _ A3 k3 hm3 hs3).mono ?_
  rintro e w5 ⟨rfl, hx5⟩
  have hb5 := hb4.trans (hx5.mono hb4.size)
  replace hm2 := hm2.below (hx5.mono hs2)
  replace hs2 := Nat.le_trans hs2 hx5.size
  clear hb4 hx5 hm3 hs3
  go_wp2_with fail
  refine (isHour_ref _ _).mono ?_
  rintro e w' ⟨rfl, rfl⟩
  rw [hl.out]
  obtain ⟨w7, hw7⟩ : ∃ w7, w7 = w5 := ⟨_, rfl⟩
  subst hw7
  have hb7 := hb5
  clear hb5 hm2 hs2
  go_wp2_with fail
  refine (cP.out _ hb7).mono ?_
  rintro e w8 ⟨A8, k8, rfl, hx8, hm8⟩
  dsimp only at hm8
  have hb8 := hb7.trans (hx8.mono hb7.size)
  clear hb7 hx8
  clear hm8
  go_wp2_with fail
  refine (awake_any _).mono ?_
  rintro e wd ⟨rfl, hxd⟩
  have hbd := hb8.trans (hxd.mono hb8.size)
  go_wp2
  go_ret
  exact ⟨rfl, hbd⟩

theorem walk (A : Option Addr) (c : Nat) (T : List (List Int)) (A' : Option Addr) (c' : Nat) (U : List (List Int)) (t b n : Int) (w : World) (h : Mat w w.heap.size A T) (h' : Mat w w.heap.size A' U) (ht : -9223372036854775808 ≤ t ∧ t ≤ 9223372036854775807) (hby : -9223372036854775808 ≤ b ∧ b ≤ 9223372036854775807) (hn : 0 ≤ n ∧ n ≤ 65535) :
    Calls Try.prog 14 #[.slice A T.length c, .slice A' U.length c', .int .i64 t, .int .i64 b, .int .u16 n] w fun e w' => e = .returned (.bool true) ∧ Below w.heap.size w w' := by
  cases hw : wideB T with
  | true => exact out A c T A' c' U t b n w h h' (.inl hw)
  | false =>
  cases hz : wideB U with
  | true => exact out A c T A' c' U t b n w h h' (.inr (.inl ⟨hw, hz⟩))
  | false =>
  cases hv : validB T with
  | false => exact out A c T A' c' U t b n w h h' (.inr (.inr (.inl ⟨hw, hz, hv⟩)))
  | true =>
  cases hu : validB U with
  | false => exact out A c T A' c' U t b n w h h' (.inr (.inr (.inr (.inl ⟨hw, hz, hv, hu⟩))))
  | true =>
  cases ha : hourB t with
  | false => exact out A c T A' c' U t b n w h h' (.inr (.inr (.inr (.inr (.inl ⟨hw, hz, hv, hu, ha⟩)))))
  | true =>
  cases hb : hourB b with
  | false => exact out A c T A' c' U t b n w h h' (.inr (.inr (.inr (.inr (.inr ⟨hw, hz, hv, hu, ha, hb⟩)))))
  | true =>
  obtain ⟨n', rfl⟩ := Int.eq_ofNat_of_zero_le hn.1
  have hn' : n' ≤ 65535 := by omega
  by_cases hlen : T.length + U.length ≤ 4
  · cases hl : hourB (t + b) with
    | true => exact innTT A c T A' c' U t b n' w h h' hn' hw hz hv hu ha hb hlen hl
    | false => exact innTF A c T A' c' U t b n' w h h' hn' hw hz hv hu ha hb hlen hl
  · cases hl : hourB (t + b) with
    | true => exact innFT A c T A' c' U t b n' w h h' hn' hw hz hv hu ha hb (by omega) hl
    | false => exact innFF A c T A' c' U t b n' w h h' hn' hw hz hv hu ha hb (by omega) hl

/-! ### the row's step -/
set_option maxRecDepth 100000 in
theorem lifted (os : Os) (started : os.Started) (H : Type) (enc : TypeId × Value → H) :
    ReturnsInHanded {} Try.checked os 14 .any (Rows.topTideSpec.pre6 enc Try.prog Try.f14 Rows.topTideRow.domain false) (Rows.topTideSpec.post enc Try.prog Try.f14 false true false false) := by
  refine returnsInHanded_of_change (C := Try.checked) own started (by kernel_rfl) Try.func14
    (ChangeSpec.witness6 (enc := enc) (C := Try.checked) false ⟨#[], #[.slice none 0 0, .slice none 0 0, .int .i64 0, .int .i64 0, .int .u16 0], []⟩ 8 (by kernel_rfl) (by kernel_rfl) (by kernel_rfl) (by kernel_rfl)) ?_
  intro W base args ds gs before hval0 hW hcnd _
  have hval : ∀ (j : Nat) t v, Try.f14.params[j]? = some t → args[j]? = some v → Value.okWide Try.prog W .any base t v := hval0
  have hW' := hW
  obtain ⟨p, q, hA0, hV, rfl, hfz, hnd⟩ := hW
  have hA : DataW.TrodAll enc Try.prog W 0 (fun _ => true) true Try.f14.params.toList args.toList ds p := hA0
  rw [Try.params14] at hA hval
  obtain ⟨v0, vs0, d0, ds0, p0, q0, hargs, rfl, rfl, h0, r0⟩ := trodAll_cons hA
  obtain ⟨v1, vs1, d1, ds1, p1, q1, rfl, rfl, rfl, h1, r1⟩ := trodAll_cons r0
  obtain ⟨v2, vs2, d2, ds2, p2, q2, rfl, rfl, rfl, h2, r2⟩ := trodAll_cons r1
  obtain ⟨v3, vs3, d3, ds3, p3, q3, rfl, rfl, rfl, h3, r3⟩ := trodAll_cons r2
  obtain ⟨v4, vs4, d4, ds4, p4, q4, rfl, rfl, rfl, h4, r4⟩ := trodAll_cons r3
  obtain ⟨rfl, rfl, rfl⟩ := trodAll_nil r4
  obtain rfl : args = #[v0, v1, v2, v3, v4] := by cases args; simp_all
  obtain ⟨rfl, rfl⟩ := trodVars_none hV
  obtain ⟨a0, len0, cap0, rfl⟩ := okWide_slice Try.underlying22 (hval 0 22 v0 rfl rfl)
  have k0 := h0
  have lt0 : ∀ x ∈ p0, x.block < W.heap.size := by obtain ⟨m, hm⟩ := k0; exact DataW.trod_lt m _ _ _ hm
  obtain ⟨T0, rfl, w0⟩ : ∃ T : List (List Int), T.length = len0 ∧ Mat W W.heap.size a0 T := by
    obtain ⟨fuel, hf⟩ := h0
    exact mat_of hf
  obtain ⟨a1, len1, cap1, rfl⟩ := okWide_slice Try.underlying22 (hval 1 22 v1 rfl rfl)
  have k1 := h1
  have lt1 : ∀ x ∈ p1, x.block < W.heap.size := by obtain ⟨m, hm⟩ := k1; exact DataW.trod_lt m _ _ _ hm
  obtain ⟨T1, rfl, w1⟩ : ∃ T : List (List Int), T.length = len1 ∧ Mat W W.heap.size a1 T := by
    obtain ⟨fuel, hf⟩ := h1
    exact mat_of hf
  obtain ⟨a2, rfl, rfl, rfl, w2⟩ := open_int Try.underlying3 (hval 2 3 v2 rfl rfl) h2
  obtain ⟨a3, rfl, rfl, rfl, w3⟩ := open_int Try.underlying3 (hval 3 3 v3 rfl rfl) h3
  obtain ⟨a4, rfl, rfl, rfl, w4⟩ := open_int Try.underlying46 (hval 4 46 v4 rfl rfl) h4
  clear hA0 hval0
  refine (walk a0 cap0 T0 a1 cap1 T1 a2 a3 a4 W w0 w1 (i64_range w2) (i64_range w3) (u16_range w4)).mono fun e W' ⟨he, bel⟩ => ?_
  subst he
  exact ⟨_, rfl, _, _, _, [], _, [], hW', trodAll_mk1 (shut_bool Try.underlying4 _), (trodAll_cons_mk (Below.trod laidOut (by kernel_rfl) (of_decide_eq_true (by kernel_rfl)) k0 bel lt0) (trodAll_cons_mk (Below.trod laidOut (by kernel_rfl) (of_decide_eq_true (by kernel_rfl)) k1 bel lt1) (trodAll_cons_mk (shut_int Try.underlying3 w2) (trodAll_cons_mk (shut_int Try.underlying3 w3) (trodAll_cons_mk (shut_int Try.underlying46 w4) trodAll_mk0))))), rfl, bel.frame _, fun h => by cases h⟩

theorem over : Rows.topTideRow.holds Try.pinned (OpenSpec.ofChange Rows.topTideSpec) :=
  OpenClaim.holds_of_wide 14 Try.f14 rfl rfl rfl rfl rfl rfl rfl ⟨rfl, rfl, rfl, rfl, rfl⟩ rfl rfl rfl rfl rfl (by kernel_rfl) Try.func14 (by kernel_rfl)
    (of_decide_eq_true (by kernel_rfl)) (by unfold Func.isWrapper; first | (rw [if_pos (by decide +kernel)]; kernel_rfl) | (rw [if_neg (by decide +kernel)]; exact ⟨rfl, rfl⟩))
    (fun os started H enc _ => lifted os started H enc)

/-- The statement. -/
theorem proved : Rows.TopTideSaid := over
end Go.Proofs.Ytmpmlgognkmfgaa.lawTopTide
