/-
  For any two tides, an hour and a number of hours, the law TideSums returns true: speeds of a sum add up, a shift changes no drift over a round, and a shift by the beat changes nothing.
  Conditions: none.
-/
import Derived.Test.YtmpmlgognkmfgaaAwake
import Derived.Test.YtmpmlgognkmfgaaOpen
import Derived.Test.YtmpmlgognkmfgaaSum
import Derived.Test.YtmpmlgognkmfgaaMathB
import Derived.Test.YtmpmlgognkmfgaaTideH
namespace Go.Proofs.Ytmpmlgognkmfgaa.lawTideSums
open Go.ChangeShapes Go.WideShapes Go.ChangeAt Go.RowKit Go.Deep Go.Proofs.Ytmpmlgognkmfgaa M
set_option linter.unusedVariables false
set_option linter.unusedSimpArgs false

theorem app_row (T U : List (List Int)) (i : Nat) (h : i < T.length + U.length) : row (T ++ U) i = if i < T.length then row T i else row U (i - T.length) := by
  rw [row_eq _ _ (by rw [List.length_append]; exact h)]
  split
  · rename_i e; rw [List.getElem_append_left e, row_eq T i e]
  · rename_i e; rw [List.getElem_append_right (by omega), row_eq U _ (by omega)]
theorem val_app {T U : List (List Int)} (hT : Val T) (hU : Val U) (h : T.length + U.length ≤ 4) : Val (T ++ U) := by
  refine ⟨by rw [List.length_append]; have := hT.1.1; omega, fun i hi => ?_⟩
  rw [List.length_append] at hi
  rw [app_row T U i hi]
  split
  · rename_i e; exact hT.2 i e
  · rename_i e; exact hU.2 _ (by omega)
theorem spd_app (T U : List (List Int)) (t : Int) : spd (T ++ U) t = spd T t + spd U t := by
  unfold spd spdK
  rw [List.length_append, sm_split]
  congr 1
  · exact sm_congr _ (fun i hi => by rw [app_row T U i (by omega), if_pos hi])
  · exact sm_congr _ (fun i hi => by rw [app_row T U _ (by omega), if_neg (by omega), Nat.add_sub_cancel_left])
theorem like_sh {T : List (List Int)} (h : Val T) : likeB T (shT (bt T) T) = true := by
  refine decide_eq_true ((once_same h (val_sh _ h)).2 fun t => ?_)
  rw [spd_sh _ h]
  exact (bt_per (rnd_bound h).1 t).symm

def Out (T U : List (List Int)) (t b : Int) : Prop :=
  wideB T = true ∨ (wideB T = false ∧ wideB U = true) ∨ (wideB T = false ∧ wideB U = false ∧ validB T = false) ∨ (wideB T = false ∧ wideB U = false ∧ validB T = true ∧ validB U = false) ∨
  (wideB T = false ∧ wideB U = false ∧ validB T = true ∧ validB U = true ∧ hourB t = false) ∨ (wideB T = false ∧ wideB U = false ∧ validB T = true ∧ validB U = true ∧ hourB t = true ∧ hourB b = false)

set_option maxHeartbeats 2000000 in
set_option maxRecDepth 100000 in
theorem out (A : Option Addr) (c : Nat) (T : List (List Int)) (A' : Option Addr) (c' : Nat) (U : List (List Int)) (t b : Int) (w : World) (h : Mat w w.heap.size A T) (h' : Mat w w.heap.size A' U) (ho : Out T U t b) :
    Calls Try.prog 10 #[.slice A T.length c, .slice A' U.length c', .int .i64 t, .int .i64 b] w fun e w' => e = .returned (.bool true) ∧ Below w.heap.size w w' := by
  rcases ho with hw | ⟨hw, hz⟩ | ⟨hw, hz, hv⟩ | ⟨hw, hz, hv, hu⟩ | ⟨hw, hz, hv, hu, ha⟩ | ⟨hw, hz, hv, hu, ha, hb⟩
  · replace hw := Lib.hid hw
    go_enter Try.func10, Try.ntmps10
    go_wp2_with fail
    refine (wide_any _ A c T w h).mono ?_
    rintro e w' ⟨rfl, rfl⟩
    rw [hw.out]
    go_wp2_with fail
    refine (awake_any _).mono ?_
    rintro e w' ⟨rfl, hb⟩
    go_wp2
    go_ret
    exact ⟨rfl, hb⟩
  · replace hw := Lib.hid hw
    replace hz := Lib.hid hz
    go_enter Try.func10, Try.ntmps10
    go_wp2_with fail
    refine (wide_any _ A c T w h).mono ?_
    rintro e w' ⟨rfl, rfl⟩
    rw [hw.out]
    go_wp2_with fail
    refine (wide_any _ A' c' U w h').mono ?_
    rintro e w' ⟨rfl, rfl⟩
    rw [hz.out]
    go_wp2_with fail
    refine (awake_any _).mono ?_
    rintro e w' ⟨rfl, hb⟩
    go_wp2
    go_ret
    exact ⟨rfl, hb⟩
  · replace hw := Lib.hid hw
    replace hz := Lib.hid hz
    replace hv := Lib.hid hv
    go_enter Try.func10, Try.ntmps10
    go_wp2_with fail
    refine (wide_any _ A c T w h).mono ?_
    rintro e w' ⟨rfl, rfl⟩
    rw [hw.out]
    go_wp2_with fail
    refine (wide_any _ A' c' U w h').mono ?_
    rintro e w' ⟨rfl, rfl⟩
    rw [hz.out]
    go_wp2_with fail
    refine (valid_ref _ A c T w h).mono ?_
    rintro e w' ⟨rfl, rfl⟩
    rw [hv.out]
    go_wp2_with fail
    refine (awake_any _).mono ?_
    rintro e w' ⟨rfl, hb⟩
    go_wp2
    go_ret
    exact ⟨rfl, hb⟩
  · replace hw := Lib.hid hw
    replace hz := Lib.hid hz
    replace hv := Lib.hid hv
    replace hu := Lib.hid hu
    go_enter Try.func10, Try.ntmps10
    go_wp2_with fail
    refine (wide_any _ A c T w h).mono ?_
    rintro e w' ⟨rfl, rfl⟩
    rw [hw.out]
    go_wp2_with fail
    refine (wide_any _ A' c' U w h').mono ?_
    rintro e w' ⟨rfl, rfl⟩
    rw [hz.out]
    go_wp2_with fail
    refine (valid_ref _ A c T w h).mono ?_
    rintro e w' ⟨rfl, rfl⟩
    rw [hv.out]
    go_wp2_with fail
    refine (valid_ref _ A' c' U w h').mono ?_
    rintro e w' ⟨rfl, rfl⟩
    rw [hu.out]
    go_wp2_with fail
    refine (awake_any _).mono ?_
    rintro e w' ⟨rfl, hb⟩
    go_wp2
    go_ret
    exact ⟨rfl, hb⟩
  · replace hw := Lib.hid hw
    replace hz := Lib.hid hz
    replace hv := Lib.hid hv
    replace hu := Lib.hid hu
    replace ha := Lib.hid ha
    go_enter Try.func10, Try.ntmps10
    go_wp2_with fail
    refine (wide_any _ A c T w h).mono ?_
    rintro e w' ⟨rfl, rfl⟩
    rw [hw.out]
    go_wp2_with fail
    refine (wide_any _ A' c' U w h').mono ?_
    rintro e w' ⟨rfl, rfl⟩
    rw [hz.out]
    go_wp2_with fail
    refine (valid_ref _ A c T w h).mono ?_
    rintro e w' ⟨rfl, rfl⟩
    rw [hv.out]
    go_wp2_with fail
    refine (valid_ref _ A' c' U w h').mono ?_
    rintro e w' ⟨rfl, rfl⟩
    rw [hu.out]
    go_wp2_with fail
    refine (isHour_ref _ _).mono ?_
    rintro e w' ⟨rfl, rfl⟩
    rw [ha.out]
    go_wp2_with fail
    refine (awake_any _).mono ?_
    rintro e w' ⟨rfl, hb⟩
    go_wp2
    go_ret
    exact ⟨rfl, hb⟩
  · replace hw := Lib.hid hw
    replace hz := Lib.hid hz
    replace hv := Lib.hid hv
    replace hu := Lib.hid hu
    replace ha := Lib.hid ha
    replace hb := Lib.hid hb
    go_enter Try.func10, Try.ntmps10
    go_wp2_with fail
    refine (wide_any _ A c T w h).mono ?_
    rintro e w' ⟨rfl, rfl⟩
    rw [hw.out]
    go_wp2_with fail
    refine (wide_any _ A' c' U w h').mono ?_
    rintro e w' ⟨rfl, rfl⟩
    rw [hz.out]
    go_wp2_with fail
    refine (valid_ref _ A c T w h).mono ?_
    rintro e w' ⟨rfl, rfl⟩
    rw [hv.out]
    go_wp2_with fail
    refine (valid_ref _ A' c' U w h').mono ?_
    rintro e w' ⟨rfl, rfl⟩
    rw [hu.out]
    go_wp2_with fail
    refine (isHour_ref _ _).mono ?_
    rintro e w' ⟨rfl, rfl⟩
    rw [ha.out]
    go_wp2_with fail
    refine (isHour_ref _ _).mono ?_
    rintro e w' ⟨rfl, rfl⟩
    rw [hb.out]
    go_wp2_with fail
    refine (awake_any _).mono ?_
    rintro e w' ⟨rfl, hb⟩
    go_wp2
    go_ret
    exact ⟨rfl, hb⟩

set_option maxHeartbeats 1000000 in
set_option maxRecDepth 100000 in
theorem innTT (A : Option Addr) (c : Nat) (T : List (List Int)) (A' : Option Addr) (c' : Nat) (U : List (List Int)) (t b : Int) (w : World) (h : Mat w w.heap.size A T) (h' : Mat w w.heap.size A' U)
    (hw : wideB T = false) (hz : wideB U = false) (hv : validB T = true) (hu : validB U = true) (ha : hourB t = true) (hb : hourB b = true) (hlen : T.length + U.length ≤ 4) (hl : hourB (t + b) = true) :
    Calls Try.prog 10 #[.slice A T.length c, .slice A' U.length c', .int .i64 t, .int .i64 b] w fun e w' => e = .returned (.bool true) ∧ Below w.heap.size w w' := by
  have hVT := val_of hv
  have hVU := val_of hu
  have hVs := val_sh b hVT
  obtain ⟨t1, t2⟩ := of_hourB ha
  obtain ⟨y1, y2⟩ := of_hourB hb
  obtain ⟨r1, r2⟩ := rnd_bound hVT
  obtain ⟨b1, b2, _, _⟩ := bt_spec r1
  obtain ⟨s1, s2⟩ := spd_bound hVT t
  obtain ⟨s3, s4⟩ := spd_bound hVU t
  have n4 := hVT.1.2
  have n4' := hVU.1.2
  have cS : ∀ W, Below w.heap.size w W → Calls Try.prog 17 #[.slice A T.length c, .int .i64 t] W fun e w' => e = R2 (spd T t, 0) ∧ Below W.heap.size W w' := fun W g => by
    have := Speed_any w.heap.size A c T t W (h.below g) g.size
    rwa [show speedR T t = (spd T t, 0) by unfold speedR; rw [hv, ha]; rfl] at this
  have cU : ∀ W, Below w.heap.size w W → Calls Try.prog 17 #[.slice A' U.length c', .int .i64 t] W fun e w' => e = R2 (spd U t, 0) ∧ Below W.heap.size W w' := fun W g => by
    have := Speed_any w.heap.size A' c' U t W (h'.below g) g.size
    rwa [show speedR U t = (spd U t, 0) by unfold speedR; rw [hu, ha]; rfl] at this
  have cP : ∀ W, Below w.heap.size w W → Calls Try.prog 43 #[.slice A T.length c, .slice A' U.length c'] W (NewMatE W (T ++ U, 0)) := fun W g => by
    have := Sum_any w.heap.size A A' c c' T U W (h.below g) (h'.below g) g.size
    rwa [show sumR T U = (T ++ U, 0) by unfold sumR; rw [hv, hu, if_neg (show ¬ 4 < T.length + U.length by omega)]; rfl] at this
  have cPS : ∀ W B A2 c2, Mat W B A2 (T ++ U) → B ≤ W.heap.size → Calls Try.prog 17 #[.slice A2 (T ++ U).length c2, .int .i64 t] W fun e w' => e = R2 (spd T t + spd U t, 0) ∧ Below W.heap.size W w' := fun W B A2 c2 g1 g2 => by
    have := Speed_any B A2 c2 (T ++ U) t W g1 g2
    rwa [show speedR (T ++ U) t = (spd T t + spd U t, 0) by unfold speedR; rw [validB_true (val_app hVT hVU hlen), ha, spd_app]; rfl] at this
  have cSh : ∀ W, Below w.heap.size w W → Calls Try.prog 38 #[.slice A T.length c, .int .i64 b] W (NewMatE W (shT b T, 0)) := fun W g => by
    have := Shifted_any w.heap.size A c T b W (h.below g) g.size
    rwa [show shiftR T b = (shT b T, 0) by unfold shiftR; rw [hv, hb]; rfl] at this
  have cN : ∀ W, Below w.heap.size w W → Calls Try.prog 25 #[.slice A T.length c] W fun e w' => e = R2 (drf T 0 (rnd T), 0) ∧ Below W.heap.size W w' := fun W g => by
    have := Net_any w.heap.size A c T W (h.below g)
    rwa [show netR T = (drf T 0 (rnd T), 0) by unfold netR; rw [hv]; rfl] at this
  have cNs : ∀ W B A2 c2, Mat W B A2 (shT b T) → Calls Try.prog 25 #[.slice A2 (shT b T).length c2] W fun e w' => e = R2 (drf T 0 (rnd T), 0) ∧ Below W.heap.size W w' := fun W B A2 c2 g1 => by
    have := Net_any B A2 c2 (shT b T) W g1
    rwa [show netR (shT b T) = (drf T 0 (rnd T), 0) by
      unfold netR; rw [validB_true hVs, rnd_sh, drf_sh b hVT]
      rw [show drf T (0 + b) (rnd T) = drf T 0 (rnd T) from sg_any _ _ _ _ (fun x => spd_period T x _ (Nat.dvd_refl _))]; rfl] at this
  have cLs : ∀ W B A2 c2, Mat W B A2 (shT b T) → B ≤ W.heap.size → Calls Try.prog 17 #[.slice A2 (shT b T).length c2, .int .i64 t] W fun e w' => e = R2 (spd T (t + b), 0) ∧ Below W.heap.size W w' := fun W B A2 c2 g1 g2 => by
    have := Speed_any B A2 c2 (shT b T) t W g1 g2
    rwa [show speedR (shT b T) t = (spd T (t + b), 0) by unfold speedR; rw [validB_true hVs, ha, spd_sh b hVT]; rfl] at this
  have cLt : ∀ W, Below w.heap.size w W → Calls Try.prog 17 #[.slice A T.length c, .int .i64 (t + b)] W fun e w' => e = R2 (spd T (t + b), 0) ∧ Below W.heap.size W w' := fun W g => by
    have := Speed_any w.heap.size A c T (t + b) W (h.below g) g.size
    rwa [show speedR T (t + b) = (spd T (t + b), 0) by unfold speedR; rw [hv, hl]; rfl] at this
  have cB : ∀ W, Below w.heap.size w W → Calls Try.prog 27 #[.slice A T.length c] W fun e w' => e = R2 ((bt T : Int), 0) ∧ Below W.heap.size W w' := fun W g => by
    have := Beat_any w.heap.size A c T W (h.below g) g.size
    rwa [show beatR T = ((bt T : Int), 0) by unfold beatR; rw [hv]; rfl] at this
  have cBs : ∀ W, Below w.heap.size w W → Calls Try.prog 38 #[.slice A T.length c, .int .i64 (bt T)] W (NewMatE W (shT (bt T) T, 0)) := fun W g => by
    have := Shifted_any w.heap.size A c T (bt T) W (h.below g) g.size
    rwa [show shiftR T (bt T) = (shT (bt T) T, 0) by unfold shiftR; rw [hv, hourB_true (by omega)]; rfl] at this
  have cI : ∀ W B A2 c2, Mat W B A T → Mat W B A2 (shT (bt T) T) → B ≤ W.heap.size → Calls Try.prog 45 #[.slice A T.length c, .slice A2 (shT (bt T) T).length c2] W fun e w' => e = RB (true, 0) ∧ Below W.heap.size W w' := fun W B A2 c2 g1 g2 g3 => by
    have := Same_any B A A2 c c2 T (shT (bt T) T) W g1 g2 g3
    rwa [show sameR T (shT (bt T) T) = (true, 0) by unfold sameR; rw [hv, validB_true (val_sh _ hVT), like_sh hVT]; rfl] at this
  clear hVT hVU hVs r1 r2 b1 b2
  generalize shT (bt T) T = X at cBs cI
  generalize shT b T = Y at cSh cNs cLs
  generalize bt T = bb at cB cBs
  generalize spd T t = x at *
  generalize spd U t = y at *
  generalize drf T 0 (rnd T) = nt at *
  generalize spd T (t + b) = z at *
  generalize T ++ U = P at *
  replace cS := Lib.hid cS
  replace cU := Lib.hid cU
  replace cP := Lib.hid cP
  replace cSh := Lib.hid cSh
  replace cN := Lib.hid cN
  replace cNs := Lib.hid cNs
  replace cB := Lib.hid cB
  replace cBs := Lib.hid cBs
  replace cI := Lib.hid cI
  replace cPS := Lib.hid cPS
  replace cLs := Lib.hid cLs
  replace cLt := Lib.hid cLt
  replace hw := Lib.hid hw
  replace hz := Lib.hid hz
  replace hv := Lib.hid hv
  replace hu := Lib.hid hu
  replace ha := Lib.hid ha
  replace hb := Lib.hid hb
  replace hl := Lib.hid hl
  go_enter Try.func10, Try.ntmps10
  go_wp2_with fail
  refine (wide_any _ A c T w h).mono ?_
  rintro e w' ⟨rfl, rfl⟩
  rw [hw.out]
  go_wp2_with fail
  refine (wide_any _ A' c' U w h').mono ?_
  rintro e w' ⟨rfl, rfl⟩
  rw [hz.out]
  go_wp2_with fail
  refine (valid_ref _ A c T w h).mono ?_
  rintro e w' ⟨rfl, rfl⟩
  rw [hv.out]
  go_wp2_with fail
  refine (valid_ref _ A' c' U w h').mono ?_
  rintro e w' ⟨rfl, rfl⟩
  rw [hu.out]
  go_wp2_with fail
  refine (isHour_ref _ _).mono ?_
  rintro e w' ⟨rfl, rfl⟩
  rw [ha.out]
  go_wp2_with fail
  refine (isHour_ref _ _).mono ?_
  rintro e w' ⟨rfl, rfl⟩
  rw [hb.out]
  go_wp2_with fail
  refine (cS.out _ (Below.refl _ _)).mono ?_
  rintro e w1 ⟨rfl, hb1⟩
  unfold R2
  go_wp2_with fail
  refine (cU.out _ hb1).mono ?_
  rintro e w2 ⟨rfl, hx2⟩
  have hb2 := hb1.trans (hx2.mono hb1.size)
  unfold R2
  go_wp2_with fail
  refine (cP.out _ hb2).mono ?_
  rintro e w3 ⟨A3, k3, rfl, hx3, hm3⟩
  dsimp only at hm3
  have hb3 := hb2.trans (hx3.mono hb2.size)
  clear hb1 hb2 hx2 hx3
  go_wp2_with fail
  refine (cPS.out w3 _ A3 k3 hm3 (Nat.le_refl _)).mono ?_
  rintro e w4 ⟨rfl, hx4⟩
  have hb4 := hb3.trans (hx4.mono hb3.size)
  clear hb3 hx4 hm3
  unfold R2
  go_wp2_with fail
  refine (cSh.out _ hb4).mono ?_
  rintro e w5 ⟨A5, k5, rfl, hx5, hm5⟩
  dsimp only at hm5
  have hb5 := hb4.trans (hx5.mono hb4.size)
  clear hb4 hx5
  go_wp2_with fail
  refine (cN.out _ hb5).mono ?_
  rintro e w6 ⟨rfl, hx6⟩
  have hb6 := hb5.trans (hx6.mono hb5.size)
  have hm6 := hm5.below hx6
  unfold R2
  go_wp2_with fail
  refine (cNs.out w6 _ A5 k5 hm6).mono ?_
  rintro e w7 ⟨rfl, hx7⟩
  have hb7 := hb6.trans (hx7.mono hb6.size)
  have hm7 := hm6.below (hx7.mono hx6.size)
  have hsz : w5.heap.size ≤ w7.heap.size := Nat.le_trans hx6.size hx7.size
  clear hb5 hb6 hx6 hx7 hm5 hm6
  unfold R2
  go_wp2_with fail
  refine (isHour_ref _ _).mono ?_
  rintro e w' ⟨rfl, rfl⟩
  rw [hl.out]
  go_wp2_with fail
  refine (cLs.out w7 _ A5 k5 hm7 hsz).mono ?_
  rintro e w8 ⟨rfl, hx8⟩
  have hb8 := hb7.trans (hx8.mono hb7.size)
  clear hb7 hx8 hm7
  unfold R2
  go_wp2_with fail
  refine (cLt.out _ hb8).mono ?_
  rintro e w9 ⟨rfl, hx9⟩
  have hb9 := hb8.trans (hx9.mono hb8.size)
  clear hb8 hx9
  unfold R2
  go_wp2_with fail
  refine (cB.out _ hb9).mono ?_
  rintro e wa ⟨rfl, hxa⟩
  have hba := hb9.trans (hxa.mono hb9.size)
  clear hb9 hxa
  unfold R2
  go_wp2_with fail
  refine (cBs.out _ hba).mono ?_
  rintro e wb ⟨Ab, kb, rfl, hxb, hmb⟩
  dsimp only at hmb
  have hbb := hba.trans (hxb.mono hba.size)
  clear hba hxb
  go_wp2_with fail
  refine (cI.out wb _ Ab kb ((h.below hbb).more hbb.size) hmb (Nat.le_refl _)).mono ?_
  rintro e wc ⟨rfl, hxc⟩
  have hbc := hbb.trans (hxc.mono hbb.size)
  clear hbb hxc hmb
  unfold RB
  go_wp2_with fail
  refine (awake_any _).mono ?_
  rintro e wd ⟨rfl, hxd⟩
  have hbd := hbc.trans (hxd.mono hbc.size)
  go_wp2
  go_ret
  exact ⟨rfl, hbd⟩

set_option maxHeartbeats 1000000 in
set_option maxRecDepth 100000 in
theorem innTF (A : Option Addr) (c : Nat) (T : List (List Int)) (A' : Option Addr) (c' : Nat) (U : List (List Int)) (t b : Int) (w : World) (h : Mat w w.heap.size A T) (h' : Mat w w.heap.size A' U)
    (hw : wideB T = false) (hz : wideB U = false) (hv : validB T = true) (hu : validB U = true) (ha : hourB t = true) (hb : hourB b = true) (hlen : T.length + U.length ≤ 4) (hl : hourB (t + b) = false) :
    Calls Try.prog 10 #[.slice A T.length c, .slice A' U.length c', .int .i64 t, .int .i64 b] w fun e w' => e = .returned (.bool true) ∧ Below w.heap.size w w' := by
  have hVT := val_of hv
  have hVU := val_of hu
  have hVs := val_sh b hVT
  obtain ⟨t1, t2⟩ := of_hourB ha
  obtain ⟨y1, y2⟩ := of_hourB hb
  obtain ⟨r1, r2⟩ := rnd_bound hVT
  obtain ⟨b1, b2, _, _⟩ := bt_spec r1
  obtain ⟨s1, s2⟩ := spd_bound hVT t
  obtain ⟨s3, s4⟩ := spd_bound hVU t
  have n4 := hVT.1.2
  have n4' := hVU.1.2
  have cS : ∀ W, Below w.heap.size w W → Calls Try.prog 17 #[.slice A T.length c, .int .i64 t] W fun e w' => e = R2 (spd T t, 0) ∧ Below W.heap.size W w' := fun W g => by
    have := Speed_any w.heap.size A c T t W (h.below g) g.size
    rwa [show speedR T t = (spd T t, 0) by unfold speedR; rw [hv, ha]; rfl] at this
  have cU : ∀ W, Below w.heap.size w W → Calls Try.prog 17 #[.slice A' U.length c', .int .i64 t] W fun e w' => e = R2 (spd U t, 0) ∧ Below W.heap.size W w' := fun W g => by
    have := Speed_any w.heap.size A' c' U t W (h'.below g) g.size
    rwa [show speedR U t = (spd U t, 0) by unfold speedR; rw [hu, ha]; rfl] at this
  have cP : ∀ W, Below w.heap.size w W → Calls Try.prog 43 #[.slice A T.length c, .slice A' U.length c'] W (NewMatE W (T ++ U, 0)) := fun W g => by
    have := Sum_any w.heap.size A A' c c' T U W (h.below g) (h'.below g) g.size
    rwa [show sumR T U = (T ++ U, 0) by unfold sumR; rw [hv, hu, if_neg (show ¬ 4 < T.length + U.length by omega)]; rfl] at this
  have cPS : ∀ W B A2 c2, Mat W B A2 (T ++ U) → B ≤ W.heap.size → Calls Try.prog 17 #[.slice A2 (T ++ U).length c2, .int .i64 t] W fun e w' => e = R2 (spd T t + spd U t, 0) ∧ Below W.heap.size W w' := fun W B A2 c2 g1 g2 => by
    have := Speed_any B A2 c2 (T ++ U) t W g1 g2
    rwa [show speedR (T ++ U) t = (spd T t + spd U t, 0) by unfold speedR; rw [validB_true (val_app hVT hVU hlen), ha, spd_app]; rfl] at this
  have cSh : ∀ W, Below w.heap.size w W → Calls Try.prog 38 #[.slice A T.length c, .int .i64 b] W (NewMatE W (shT b T, 0)) := fun W g => by
    have := Shifted_any w.heap.size A c T b W (h.below g) g.size
    rwa [show shiftR T b = (shT b T, 0) by unfold shiftR; rw [hv, hb]; rfl] at this
  have cN : ∀ W, Below w.heap.size w W → Calls Try.prog 25 #[.slice A T.length c] W fun e w' => e = R2 (drf T 0 (rnd T), 0) ∧ Below W.heap.size W w' := fun W g => by
    have := Net_any w.heap.size A c T W (h.below g)
    rwa [show netR T = (drf T 0 (rnd T), 0) by unfold netR; rw [hv]; rfl] at this
  have cNs : ∀ W B A2 c2, Mat W B A2 (shT b T) → Calls Try.prog 25 #[.slice A2 (shT b T).length c2] W fun e w' => e = R2 (drf T 0 (rnd T), 0) ∧ Below W.heap.size W w' := fun W B A2 c2 g1 => by
    have := Net_any B A2 c2 (shT b T) W g1
    rwa [show netR (shT b T) = (drf T 0 (rnd T), 0) by
      unfold netR; rw [validB_true hVs, rnd_sh, drf_sh b hVT]
      rw [show drf T (0 + b) (rnd T) = drf T 0 (rnd T) from sg_any _ _ _ _ (fun x => spd_period T x _ (Nat.dvd_refl _))]; rfl] at this
  have cB : ∀ W, Below w.heap.size w W → Calls Try.prog 27 #[.slice A T.length c] W fun e w' => e = R2 ((bt T : Int), 0) ∧ Below W.heap.size W w' := fun W g => by
    have := Beat_any w.heap.size A c T W (h.below g) g.size
    rwa [show beatR T = ((bt T : Int), 0) by unfold beatR; rw [hv]; rfl] at this
  have cBs : ∀ W, Below w.heap.size w W → Calls Try.prog 38 #[.slice A T.length c, .int .i64 (bt T)] W (NewMatE W (shT (bt T) T, 0)) := fun W g => by
    have := Shifted_any w.heap.size A c T (bt T) W (h.below g) g.size
    rwa [show shiftR T (bt T) = (shT (bt T) T, 0) by unfold shiftR; rw [hv, hourB_true (by omega)]; rfl] at this
  have cI : ∀ W B A2 c2, Mat W B A T → Mat W B A2 (shT (bt T) T) → B ≤ W.heap.size → Calls Try.prog 45 #[.slice A T.length c, .slice A2 (shT (bt T) T).length c2] W fun e w' => e = RB (true, 0) ∧ Below W.heap.size W w' := fun W B A2 c2 g1 g2 g3 => by
    have := Same_any B A A2 c c2 T (shT (bt T) T) W g1 g2 g3
    rwa [show sameR T (shT (bt T) T) = (true, 0) by unfold sameR; rw [hv, validB_true (val_sh _ hVT), like_sh hVT]; rfl] at this
  clear hVT hVU hVs r1 r2 b1 b2
  generalize shT (bt T) T = X at cBs cI
  generalize shT b T = Y at cSh cNs
  generalize bt T = bb at cB cBs
  generalize spd T t = x at *
  generalize spd U t = y at *
  generalize drf T 0 (rnd T) = nt at *
  generalize T ++ U = P at *
  replace cS := Lib.hid cS
  replace cU := Lib.hid cU
  replace cP := Lib.hid cP
  replace cSh := Lib.hid cSh
  replace cN := Lib.hid cN
  replace cNs := Lib.hid cNs
  replace cB := Lib.hid cB
  replace cBs := Lib.hid cBs
  replace cI := Lib.hid cI
  replace cPS := Lib.hid cPS
  replace hw := Lib.hid hw
  replace hz := Lib.hid hz
  replace hv := Lib.hid hv
  replace hu := Lib.hid hu
  replace ha := Lib.hid ha
  replace hb := Lib.hid hb
  replace hl := Lib.hid hl
  go_enter Try.func10, Try.ntmps10
  go_wp2_with fail
  refine (wide_any _ A c T w h).mono ?_
  rintro e w' ⟨rfl, rfl⟩
  rw [hw.out]
  go_wp2_with fail
  refine (wide_any _ A' c' U w h').mono ?_
  rintro e w' ⟨rfl, rfl⟩
  rw [hz.out]
  go_wp2_with fail
  refine (valid_ref _ A c T w h).mono ?_
  rintro e w' ⟨rfl, rfl⟩
  rw [hv.out]
  go_wp2_with fail
  refine (valid_ref _ A' c' U w h').mono ?_
  rintro e w' ⟨rfl, rfl⟩
  rw [hu.out]
  go_wp2_with fail
  refine (isHour_ref _ _).mono ?_
  rintro e w' ⟨rfl, rfl⟩
  rw [ha.out]
  go_wp2_with fail
  refine (isHour_ref _ _).mono ?_
  rintro e w' ⟨rfl, rfl⟩
  rw [hb.out]
  go_wp2_with fail
  refine (cS.out _ (Below.refl _ _)).mono ?_
  rintro e w1 ⟨rfl, hb1⟩
  unfold R2
  go_wp2_with fail
  refine (cU.out _ hb1).mono ?_
  rintro e w2 ⟨rfl, hx2⟩
  have hb2 := hb1.trans (hx2.mono hb1.size)
  unfold R2
  go_wp2_with fail
  refine (cP.out _ hb2).mono ?_
  rintro e w3 ⟨A3, k3, rfl, hx3, hm3⟩
  dsimp only at hm3
  have hb3 := hb2.trans (hx3.mono hb2.size)
  clear hb1 hb2 hx2 hx3
  go_wp2_with fail
  refine (cPS.out w3 _ A3 k3 hm3 (Nat.le_refl _)).mono ?_
  rintro e w4 ⟨rfl, hx4⟩
  have hb4 := hb3.trans (hx4.mono hb3.size)
  clear hb3 hx4 hm3
  unfold R2
  go_wp2_with fail
  refine (cSh.out _ hb4).mono ?_
  rintro e w5 ⟨A5, k5, rfl, hx5, hm5⟩
  dsimp only at hm5
  have hb5 := hb4.trans (hx5.mono hb4.size)
  clear hb4 hx5
  go_wp2_with fail
  refine (cN.out _ hb5).mono ?_
  rintro e w6 ⟨rfl, hx6⟩
  have hb6 := hb5.trans (hx6.mono hb5.size)
  have hm6 := hm5.below hx6
  unfold R2
  go_wp2_with fail
  refine (cNs.out w6 _ A5 k5 hm6).mono ?_
  rintro e w7 ⟨rfl, hx7⟩
  have hb7 := hb6.trans (hx7.mono hb6.size)
  have hm7 := hm6.below (hx7.mono hx6.size)
  have hsz : w5.heap.size ≤ w7.heap.size := Nat.le_trans hx6.size hx7.size
  clear hb5 hb6 hx6 hx7 hm5 hm6
  unfold R2
  go_wp2_with fail
  refine (isHour_ref _ _).mono ?_
  rintro e w' ⟨rfl, rfl⟩
  rw [hl.out]
  obtain ⟨w9, hw9⟩ : ∃ w9, w9 = w7 := ⟨_, rfl⟩
  subst hw9
  have hb9 := hb7
  clear hb7 hm7
  go_wp2_with fail
  refine (cB.out _ hb9).mono ?_
  rintro e wa ⟨rfl, hxa⟩
  have hba := hb9.trans (hxa.mono hb9.size)
  clear hb9 hxa
  unfold R2
  go_wp2_with fail
  refine (cBs.out _ hba).mono ?_
  rintro e wb ⟨Ab, kb, rfl, hxb, hmb⟩
  dsimp only at hmb
  have hbb := hba.trans (hxb.mono hba.size)
  clear hba hxb
  go_wp2_with fail
  refine (cI.out wb _ Ab kb ((h.below hbb).more hbb.size) hmb (Nat.le_refl _)).mono ?_
  rintro e wc ⟨rfl, hxc⟩
  have hbc := hbb.trans (hxc.mono hbb.size)
  clear hbb hxc hmb
  unfold RB
  go_wp2_with fail
  refine (awake_any _).mono ?_
  rintro e wd ⟨rfl, hxd⟩
  have hbd := hbc.trans (hxd.mono hbc.size)
  go_wp2
  go_ret
  exact ⟨rfl, hbd⟩

set_option maxHeartbeats 1000000 in
set_option maxRecDepth 100000 in
theorem innFT (A : Option Addr) (c : Nat) (T : List (List Int)) (A' : Option Addr) (c' : Nat) (U : List (List Int)) (t b : Int) (w : World) (h : Mat w w.heap.size A T) (h' : Mat w w.heap.size A' U)
    (hw : wideB T = false) (hz : wideB U = false) (hv : validB T = true) (hu : validB U = true) (ha : hourB t = true) (hb : hourB b = true) (hlen : 4 < T.length + U.length) (hl : hourB (t + b) = true) :
    Calls Try.prog 10 #[.slice A T.length c, .slice A' U.length c', .int .i64 t, .int .i64 b] w fun e w' => e = .returned (.bool true) ∧ Below w.heap.size w w' := by
  have hVT := val_of hv
  have hVU := val_of hu
  have hVs := val_sh b hVT
  obtain ⟨t1, t2⟩ := of_hourB ha
  obtain ⟨y1, y2⟩ := of_hourB hb
  obtain ⟨r1, r2⟩ := rnd_bound hVT
  obtain ⟨b1, b2, _, _⟩ := bt_spec r1
  obtain ⟨s1, s2⟩ := spd_bound hVT t
  obtain ⟨s3, s4⟩ := spd_bound hVU t
  have n4 := hVT.1.2
  have n4' := hVU.1.2
  have cS : ∀ W, Below w.heap.size w W → Calls Try.prog 17 #[.slice A T.length c, .int .i64 t] W fun e w' => e = R2 (spd T t, 0) ∧ Below W.heap.size W w' := fun W g => by
    have := Speed_any w.heap.size A c T t W (h.below g) g.size
    rwa [show speedR T t = (spd T t, 0) by unfold speedR; rw [hv, ha]; rfl] at this
  have cU : ∀ W, Below w.heap.size w W → Calls Try.prog 17 #[.slice A' U.length c', .int .i64 t] W fun e w' => e = R2 (spd U t, 0) ∧ Below W.heap.size W w' := fun W g => by
    have := Speed_any w.heap.size A' c' U t W (h'.below g) g.size
    rwa [show speedR U t = (spd U t, 0) by unfold speedR; rw [hu, ha]; rfl] at this
  have cP : ∀ W, Below w.heap.size w W → Calls Try.prog 43 #[.slice A T.length c, .slice A' U.length c'] W (NewMatE W ([], 4)) := fun W g => by
    have := Sum_any w.heap.size A A' c c' T U W (h.below g) (h'.below g) g.size
    rwa [show sumR T U = ([], 4) by unfold sumR; rw [hv, hu, if_pos hlen]; rfl] at this
  have cSh : ∀ W, Below w.heap.size w W → Calls Try.prog 38 #[.slice A T.length c, .int .i64 b] W (NewMatE W (shT b T, 0)) := fun W g => by
    have := Shifted_any w.heap.size A c T b W (h.below g) g.size
    rwa [show shiftR T b = (shT b T, 0) by unfold shiftR; rw [hv, hb]; rfl] at this
  have cN : ∀ W, Below w.heap.size w W → Calls Try.prog 25 #[.slice A T.length c] W fun e w' => e = R2 (drf T 0 (rnd T), 0) ∧ Below W.heap.size W w' := fun W g => by
    have := Net_any w.heap.size A c T W (h.below g)
    rwa [show netR T = (drf T 0 (rnd T), 0) by unfold netR; rw [hv]; rfl] at this
  have cNs : ∀ W B A2 c2, Mat W B A2 (shT b T) → Calls Try.prog 25 #[.slice A2 (shT b T).length c2] W fun e w' => e = R2 (drf T 0 (rnd T), 0) ∧ Below W.heap.size W w' := fun W B A2 c2 g1 => by
    have := Net_any B A2 c2 (shT b T) W g1
    rwa [show netR (shT b T) = (drf T 0 (rnd T), 0) by
      unfold netR; rw [validB_true hVs, rnd_sh, drf_sh b hVT]
      rw [show drf T (0 + b) (rnd T) = drf T 0 (rnd T) from sg_any _ _ _ _ (fun x => spd_period T x _ (Nat.dvd_refl _))]; rfl] at this
  have cLs : ∀ W B A2 c2, Mat W B A2 (shT b T) → B ≤ W.heap.size → Calls Try.prog 17 #[.slice A2 (shT b T).length c2, .int .i64 t] W fun e w' => e = R2 (spd T (t + b), 0) ∧ Below W.heap.size W w' := fun W B A2 c2 g1 g2 => by
    have := Speed_any B A2 c2 (shT b T) t W g1 g2
    rwa [show speedR (shT b T) t = (spd T (t + b), 0) by unfold speedR; rw [validB_true hVs, ha, spd_sh b hVT]; rfl] at this
  have cLt : ∀ W, Below w.heap.size w W → Calls Try.prog 17 #[.slice A T.length c, .int .i64 (t + b)] W fun e w' => e = R2 (spd T (t + b), 0) ∧ Below W.heap.size W w' := fun W g => by
    have := Speed_any w.heap.size A c T (t + b) W (h.below g) g.size
    rwa [show speedR T (t + b) = (spd T (t + b), 0) by unfold speedR; rw [hv, hl]; rfl] at this
  have cB : ∀ W, Below w.heap.size w W → Calls Try.prog 27 #[.slice A T.length c] W fun e w' => e = R2 ((bt T : Int), 0) ∧ Below W.heap.size W w' := fun W g => by
    have := Beat_any w.heap.size A c T W (h.below g) g.size
    rwa [show beatR T = ((bt T : Int), 0) by unfold beatR; rw [hv]; rfl] at this
  have cBs : ∀ W, Below w.heap.size w W → Calls Try.prog 38 #[.slice A T.length c, .int .i64 (bt T)] W (NewMatE W (shT (bt T) T, 0)) := fun W g => by
    have := Shifted_any w.heap.size A c T (bt T) W (h.below g) g.size
    rwa [show shiftR T (bt T) = (shT (bt T) T, 0) by unfold shiftR; rw [hv, hourB_true (by omega)]; rfl] at this
  have cI : ∀ W B A2 c2, Mat W B A T → Mat W B A2 (shT (bt T) T) → B ≤ W.heap.size → Calls Try.prog 45 #[.slice A T.length c, .slice A2 (shT (bt T) T).length c2] W fun e w' => e = RB (true, 0) ∧ Below W.heap.size W w' := fun W B A2 c2 g1 g2 g3 => by
    have := Same_any B A A2 c c2 T (shT (bt T) T) W g1 g2 g3
    rwa [show sameR T (shT (bt T) T) = (true, 0) by unfold sameR; rw [hv, validB_true (val_sh _ hVT), like_sh hVT]; rfl] at this
  clear hVT hVU hVs r1 r2 b1 b2
  generalize shT (bt T) T = X at cBs cI
  generalize shT b T = Y at cSh cNs cLs
  generalize bt T = bb at cB cBs
  generalize spd T t = x at *
  generalize spd U t = y at *
  generalize drf T 0 (rnd T) = nt at *
  generalize spd T (t + b) = z at *
  replace cS := Lib.hid cS
  replace cU := Lib.hid cU
  replace cP := Lib.hid cP
  replace cSh := Lib.hid cSh
  replace cN := Lib.hid cN
  replace cNs := Lib.hid cNs
  replace cB := Lib.hid cB
  replace cBs := Lib.hid cBs
  replace cI := Lib.hid cI
  replace cLs := Lib.hid cLs
  replace cLt := Lib.hid cLt
  replace hw := Lib.hid hw
  replace hz := Lib.hid hz
  replace hv := Lib.hid hv
  replace hu := Lib.hid hu
  replace ha := Lib.hid ha
  replace hb := Lib.hid hb
  replace hl := Lib.hid hl
  go_enter Try.func10, Try.ntmps10
  go_wp2_with fail
  refine (wide_any _ A c T w h).mono ?_
  rintro e w' ⟨rfl, rfl⟩
  rw [hw.out]
  go_wp2_with fail
  refine (wide_any _ A' c' U w h').mono ?_
  rintro e w' ⟨rfl, rfl⟩
  rw [hz.out]
  go_wp2_with fail
  refine (valid_ref _ A c T w h).mono ?_
  rintro e w' ⟨rfl, rfl⟩
  rw [hv.out]
  go_wp2_with fail
  refine (valid_ref _ A' c' U w h').mono ?_
  rintro e w' ⟨rfl, rfl⟩
  rw [hu.out]
  go_wp2_with fail
  refine (isHour_ref _ _).mono ?_
  rintro e w' ⟨rfl, rfl⟩
  rw [ha.out]
  go_wp2_with fail
  refine (isHour_ref _ _).mono ?_
  rintro e w' ⟨rfl, rfl⟩
  rw [hb.out]
  go_wp2_with fail
  refine (cS.out _ (Below.refl _ _)).mono ?_
  rintro e w1 ⟨rfl, hb1⟩
  unfold R2
  go_wp2_with fail
  refine (cU.out _ hb1).mono ?_
  rintro e w2 ⟨rfl, hx2⟩
  have hb2 := hb1.trans (hx2.mono hb1.size)
  unfold R2
  go_wp2_with fail
  refine (cP.out _ hb2).mono ?_
  rintro e w3 ⟨A3, k3, rfl, hx3, hm3⟩
  dsimp only at hm3
  have hb3 := hb2.trans (hx3.mono hb2.size)
  clear hb1 hb2 hx2 hx3
  obtain ⟨w4, hw4⟩ : ∃ w4, w4 = w3 := ⟨_, rfl⟩
  subst hw4
  have hb4 := hb3
  clear hb3 hm3
  go_wp2_with fail
  refine (cSh.out _ hb4).mono ?_
  rintro e w5 ⟨A5, k5, rfl, hx5, hm5⟩
  dsimp only at hm5
  have hb5 := hb4.trans (hx5.mono hb4.size)
  clear hb4 hx5
  go_wp2_with fail
  refine (cN.out _ hb5).mono ?_
  rintro e w6 ⟨rfl, hx6⟩
  have hb6 := hb5.trans (hx6.mono hb5.size)
  have hm6 := hm5.below hx6
  unfold R2
  go_wp2_with fail
  refine (cNs.out w6 _ A5 k5 hm6).mono ?_
  rintro e w7 ⟨rfl, hx7⟩
  have hb7 := hb6.trans (hx7.mono hb6.size)
  have hm7 := hm6.below (hx7.mono hx6.size)
  have hsz : w5.heap.size ≤ w7.heap.size := Nat.le_trans hx6.size hx7.size
  clear hb5 hb6 hx6 hx7 hm5 hm6
  unfold R2
  go_wp2_with fail
  refine (isHour_ref _ _).mono ?_
  rintro e w' ⟨rfl, rfl⟩
  rw [hl.out]
  go_wp2_with fail
  refine (cLs.out w7 _ A5 k5 hm7 hsz).mono ?_
  rintro e w8 ⟨rfl, hx8⟩
  have hb8 := hb7.trans (hx8.mono hb7.size)
  clear hb7 hx8 hm7
  unfold R2
  go_wp2_with fail
  refine (cLt.out _ hb8).mono ?_
  rintro e w9 ⟨rfl, hx9⟩
  have hb9 := hb8.trans (hx9.mono hb8.size)
  clear hb8 hx9
  unfold R2
  go_wp2_with fail
  refine (cB.out _ hb9).mono ?_
  rintro e wa ⟨rfl, hxa⟩
  have hba := hb9.trans (hxa.mono hb9.size)
  clear hb9 hxa
  unfold R2
  go_wp2_with fail
  refine (cBs.out _ hba).mono ?_
  rintro e wb ⟨Ab, kb, rfl, hxb, hmb⟩
  dsimp only at hmb
  have hbb := hba.trans (hxb.mono hba.size)
  clear hba hxb
  go_wp2_with fail
  refine (cI.out wb _ Ab kb ((h.below hbb).more hbb.size) hmb (Nat.le_refl _)).mono ?_
  rintro e wc ⟨rfl, hxc⟩
  have hbc := hbb.trans (hxc.mono hbb.size)
  clear hbb hxc hmb
  unfold RB
  go_wp2_with fail
  refine (awake_any _).mono ?_
  rintro e wd ⟨rfl, hxd⟩
  have hbd := hbc.trans (hxd.mono hbc.size)
  go_wp2
  go_ret
  exact ⟨rfl, hbd⟩

set_option maxHeartbeats 1000000 in
set_option maxRecDepth 100000 in
theorem innFF (A : Option Addr) (c : Nat) (T : List (List Int)) (A' : Option Addr) (c' : Nat) (U : List (List Int)) (t b : Int) (w : World) (h : Mat w w.heap.size A T) (h' : Mat w w.heap.size A' U)
    (hw : wideB T = false) (hz : wideB U = false) (hv : validB T = true) (hu : validB U = true) (ha : hourB t = true) (hb : hourB b = true) (hlen : 4 < T.length + U.length) (hl : hourB (t + b) = false) :
    Calls Try.prog 10 #[.slice A T.length c, .slice A' U.length c', .int .i64 t, .int .i64 b] w fun e w' => e = .returned (.bool true) ∧ Below w.heap.size w w' := by
  have hVT := val_of hv
  have hVU := val_of hu
  have hVs := val_sh b hVT
  obtain ⟨t1, t2⟩ := of_hourB ha
  obtain ⟨y1, y2⟩ := of_hourB hb
  obtain ⟨r1, r2⟩ := rnd_bound hVT
  obtain ⟨b1, b2, _, _⟩ := bt_spec r1
  obtain ⟨s1, s2⟩ := spd_bound hVT t
  obtain ⟨s3, s4⟩ := spd_bound hVU t
  have n4 := hVT.1.2
  have n4' := hVU.1.2
  have cS : ∀ W, Below w.heap.size w W → Calls Try.prog 17 #[.slice A T.length c, .int .i64 t] W fun e w' => e = R2 (spd T t, 0) ∧ Below W.heap.size W w' := fun W g => by
    have := Speed_any w.heap.size A c T t W (h.below g) g.size
    rwa [show speedR T t = (spd T t, 0) by unfold speedR; rw [hv, ha]; rfl] at this
  have cU : ∀ W, Below w.heap.size w W → Calls Try.prog 17 #[.slice A' U.length c', .int .i64 t] W fun e w' => e = R2 (spd U t, 0) ∧ Below W.heap.size W w' := fun W g => by
    have := Speed_any w.heap.size A' c' U t W (h'.below g) g.size
    rwa [show speedR U t = (spd U t, 0) by unfold speedR; rw [hu, ha]; rfl] at this
  have cP : ∀ W, Below w.heap.size w W → Calls Try.prog 43 #[.slice A T.length c, .slice A' U.length c'] W (NewMatE W ([], 4)) := fun W g => by
    have := Sum_any w.heap.size A A' c c' T U W (h.below g) (h'.below g) g.size
    rwa [show sumR T U = ([], 4) by unfold sumR; rw [hv, hu, if_pos hlen]; rfl] at this
  have cSh : ∀ W, Below w.heap.size w W → Calls Try.prog 38 #[.slice A T.length c, .int .i64 b] W (NewMatE W (shT b T, 0)) := fun W g => by
    have := Shifted_any w.heap.size A c T b W (h.below g) g.size
    rwa [show shiftR T b = (shT b T, 0) by unfold shiftR; rw [hv, hb]; rfl] at this
  have cN : ∀ W, Below w.heap.size w W → Calls Try.prog 25 #[.slice A T.length c] W fun e w' => e = R2 (drf T 0 (rnd T), 0) ∧ Below W.heap.size W w' := fun W g => by
    have := Net_any w.heap.size A c T W (h.below g)
    rwa [show netR T = (drf T 0 (rnd T), 0) by unfold netR; rw [hv]; rfl] at this
  have cNs : ∀ W B A2 c2, Mat W B A2 (shT b T) → Calls Try.prog 25 #[.slice A2 (shT b T).length c2] W fun e w' => e = R2 (drf T 0 (rnd T), 0) ∧ Below W.heap.size W w' := fun W B A2 c2 g1 => by
    have := Net_any B A2 c2 (shT b T) W g1
    rwa [show netR (shT b T) = (drf T 0 (rnd T), 0) by
      unfold netR; rw [validB_true hVs, rnd_sh, drf_sh b hVT]
      rw [show drf T (0 + b) (rnd T) = drf T 0 (rnd T) from sg_any _ _ _ _ (fun x => spd_period T x _ (Nat.dvd_refl _))]; rfl] at this
  have cB : ∀ W, Below w.heap.size w W → Calls Try.prog 27 #[.slice A T.length c] W fun e w' => e = R2 ((bt T : Int), 0) ∧ Below W.heap.size W w' := fun W g => by
    have := Beat_any w.heap.size A c T W (h.below g) g.size
    rwa [show beatR T = ((bt T : Int), 0) by unfold beatR; rw [hv]; rfl] at this
  have cBs : ∀ W, Below w.heap.size w W → Calls Try.prog 38 #[.slice A T.length c, .int .i64 (bt T)] W (NewMatE W (shT (bt T) T, 0)) := fun W g => by
    have := Shifted_any w.heap.size A c T (bt T) W (h.below g) g.size
    rwa [show shiftR T (bt T) = (shT (bt T) T, 0) by unfold shiftR; rw [hv, hourB_true (by omega)]; rfl] at this
  have cI : ∀ W B A2 c2, Mat W B A T → Mat W B A2 (shT (bt T) T) → B ≤ W.heap.size → Calls Try.prog 45 #[.slice A T.length c, .slice A2 (shT (bt T) T).length c2] W fun e w' => e = RB (true, 0) ∧ Below W.heap.size W w' := fun W B A2 c2 g1 g2 g3 => by
    have := Same_any B A A2 c c2 T (shT (bt T) T) W g1 g2 g3
    rwa [show sameR T (shT (bt T) T) = (true, 0) by unfold sameR; rw [hv, validB_true (val_sh _ hVT), like_sh hVT]; rfl] at this
  clear hVT hVU hVs r1 r2 b1 b2
  generalize shT (bt T) T = X at cBs cI
  generalize shT b T = Y at cSh cNs
  generalize bt T = bb at cB cBs
  generalize spd T t = x at *
  generalize spd U t = y at *
  generalize drf T 0 (rnd T) = nt at *
  replace cS := Lib.hid cS
  replace cU := Lib.hid cU
  replace cP := Lib.hid cP
  replace cSh := Lib.hid cSh
  replace cN := Lib.hid cN
  replace cNs := Lib.hid cNs
  replace cB := Lib.hid cB
  replace cBs := Lib.hid cBs
  replace cI := Lib.hid cI
  replace hw := Lib.hid hw
  replace hz := Lib.hid hz
  replace hv := Lib.hid hv
  replace hu := Lib.hid hu
  replace ha := Lib.hid ha
  replace hb := Lib.hid hb
  replace hl := Lib.hid hl
  go_enter Try.func10, Try.ntmps10
  go_wp2_with fail
  refine (wide_any _ A c T w h).mono ?_
  rintro e w' ⟨rfl, rfl⟩
  rw [hw.out]
  go_wp2_with fail
  refine (wide_any _ A' c' U w h').mono ?_
  rintro e w' ⟨rfl, rfl⟩
  rw [hz.out]
  go_wp2_with fail
  refine (valid_ref _ A c T w h).mono ?_
  rintro e w' ⟨rfl, rfl⟩
  rw [hv.out]
  go_wp2_with fail
  refine (valid_ref _ A' c' U w h').mono ?_
  rintro e w' ⟨rfl, rfl⟩
  rw [hu.out]
  go_wp2_with fail
  refine (isHour_ref _ _).mono ?_
  rintro e w' ⟨rfl, rfl⟩
  rw [ha.out]
  go_wp2_with fail
  refine (isHour_ref _ _).mono ?_
  rintro e w' ⟨rfl, rfl⟩
  rw [hb.out]
  go_wp2_with fail
  refine (cS.out _ (Below.refl _ _)).mono ?_
  rintro e w1 ⟨rfl, hb1⟩
  unfold R2
  go_wp2_with fail
  refine (cU.out _ hb1).mono ?_
  rintro e w2 ⟨rfl, hx2⟩
  have hb2 := hb1.trans (hx2.mono hb1.size)
  unfold R2
  go_wp2_with fail
  refine (cP.out _ hb2).mono ?_
  rintro e w3 ⟨A3, k3, rfl, hx3, hm3⟩
  dsimp only at hm3
  have hb3 := hb2.trans (hx3.mono hb2.size)
  clear hb1 hb2 hx2 hx3
  obtain ⟨w4, hw4⟩ : ∃ w4, w4 = w3 := ⟨_, rfl⟩
  subst hw4
  have hb4 := hb3
  clear hb3 hm3
  go_wp2_with fail
  refine (cSh.out _ hb4).mono ?_
  rintro e w5 ⟨A5, k5, rfl, hx5, hm5⟩
  dsimp only at hm5
  have hb5 := hb4.trans (hx5.mono hb4.size)
  clear hb4 hx5
  go_wp2_with fail
  refine (cN.out _ hb5).mono ?_
  rintro e w6 ⟨rfl, hx6⟩
  have hb6 := hb5.trans (hx6.mono hb5.size)
  have hm6 := hm5.below hx6
  unfold R2
  go_wp2_with fail
  refine (cNs.out w6 _ A5 k5 hm6).mono ?_
  rintro e w7 ⟨rfl, hx7⟩
  have hb7 := hb6.trans (hx7.mono hb6.size)
  have hm7 := hm6.below (hx7.mono hx6.size)
  have hsz : w5.heap.size ≤ w7.heap.size := Nat.le_trans hx6.size hx7.size
  clear hb5 hb6 hx6 hx7 hm5 hm6
  unfold R2
  go_wp2_with fail
  refine (isHour_ref _ _).mono ?_
  rintro e w' ⟨rfl, rfl⟩
  rw [hl.out]
  obtain ⟨w9, hw9⟩ : ∃ w9, w9 = w7 := ⟨_, rfl⟩
  subst hw9
  have hb9 := hb7
  clear hb7 hm7
  go_wp2_with fail
  refine (cB.out _ hb9).mono ?_
  rintro e wa ⟨rfl, hxa⟩
  have hba := hb9.trans (hxa.mono hb9.size)
  clear hb9 hxa
  unfold R2
  go_wp2_with fail
  refine (cBs.out _ hba).mono ?_
  rintro e wb ⟨Ab, kb, rfl, hxb, hmb⟩
  dsimp only at hmb
  have hbb := hba.trans (hxb.mono hba.size)
  clear hba hxb
  go_wp2_with fail
  refine (cI.out wb _ Ab kb ((h.below hbb).more hbb.size) hmb (Nat.le_refl _)).mono ?_
  rintro e wc ⟨rfl, hxc⟩
  have hbc := hbb.trans (hxc.mono hbb.size)
  clear hbb hxc hmb
  unfold RB
  go_wp2_with fail
  refine (awake_any _).mono ?_
  rintro e wd ⟨rfl, hxd⟩
  have hbd := hbc.trans (hxd.mono hbc.size)
  go_wp2
  go_ret
  exact ⟨rfl, hbd⟩

theorem walk (A : Option Addr) (c : Nat) (T : List (List Int)) (A' : Option Addr) (c' : Nat) (U : List (List Int)) (t b : Int) (w : World) (h : Mat w w.heap.size A T) (h' : Mat w w.heap.size A' U) (ht : -9223372036854775808 ≤ t ∧ t ≤ 9223372036854775807) (hby : -9223372036854775808 ≤ b ∧ b ≤ 9223372036854775807) :
    Calls Try.prog 10 #[.slice A T.length c, .slice A' U.length c', .int .i64 t, .int .i64 b] w fun e w' => e = .returned (.bool true) ∧ Below w.heap.size w w' := by
  cases hw : wideB T with
  | true => exact out A c T A' c' U t b w h h' (.inl hw)
  | false =>
  cases hz : wideB U with
  | true => exact out A c T A' c' U t b w h h' (.inr (.inl ⟨hw, hz⟩))
  | false =>
  cases hv : validB T with
  | false => exact out A c T A' c' U t b w h h' (.inr (.inr (.inl ⟨hw, hz, hv⟩)))
  | true =>
  cases hu : validB U with
  | false => exact out A c T A' c' U t b w h h' (.inr (.inr (.inr (.inl ⟨hw, hz, hv, hu⟩))))
  | true =>
  cases ha : hourB t with
  | false => exact out A c T A' c' U t b w h h' (.inr (.inr (.inr (.inr (.inl ⟨hw, hz, hv, hu, ha⟩)))))
  | true =>
  cases hb : hourB b with
  | false => exact out A c T A' c' U t b w h h' (.inr (.inr (.inr (.inr (.inr ⟨hw, hz, hv, hu, ha, hb⟩)))))
  | true =>
  by_cases hlen : T.length + U.length ≤ 4
  · cases hl : hourB (t + b) with
    | true => exact innTT A c T A' c' U t b w h h' hw hz hv hu ha hb hlen hl
    | false => exact innTF A c T A' c' U t b w h h' hw hz hv hu ha hb hlen hl
  · cases hl : hourB (t + b) with
    | true => exact innFT A c T A' c' U t b w h h' hw hz hv hu ha hb (by omega) hl
    | false => exact innFF A c T A' c' U t b w h h' hw hz hv hu ha hb (by omega) hl

/-! ### the row's step -/
set_option maxRecDepth 100000 in
theorem lifted (os : Os) (started : os.Started) (H : Type) (enc : TypeId × Value → H) :
    ReturnsInHanded {} Try.checked os 10 .any (Rows.tideSumsSpec.pre6 enc Try.prog Try.f10 Rows.tideSumsRow.domain false) (Rows.tideSumsSpec.post enc Try.prog Try.f10 false true false false) := by
  refine returnsInHanded_of_change (C := Try.checked) own started (by kernel_rfl) Try.func10
    (ChangeSpec.witness6 (enc := enc) (C := Try.checked) false ⟨#[], #[.slice none 0 0, .slice none 0 0, .int .i64 0, .int .i64 0], []⟩ 8 (by kernel_rfl) (by kernel_rfl) (by kernel_rfl) (by kernel_rfl)) ?_
  intro W base args ds gs before hval0 hW hcnd _
  have hval : ∀ (j : Nat) t v, Try.f10.params[j]? = some t → args[j]? = some v → Value.okWide Try.prog W .any base t v := hval0
  have hW' := hW
  obtain ⟨p, q, hA0, hV, rfl, hfz, hnd⟩ := hW
  have hA : DataW.TrodAll enc Try.prog W 0 (fun _ => true) true Try.f10.params.toList args.toList ds p := hA0
  rw [Try.params10] at hA hval
  obtain ⟨v0, vs0, d0, ds0, p0, q0, hargs, rfl, rfl, h0, r0⟩ := trodAll_cons hA
  obtain ⟨v1, vs1, d1, ds1, p1, q1, rfl, rfl, rfl, h1, r1⟩ := trodAll_cons r0
  obtain ⟨v2, vs2, d2, ds2, p2, q2, rfl, rfl, rfl, h2, r2⟩ := trodAll_cons r1
  obtain ⟨v3, vs3, d3, ds3, p3, q3, rfl, rfl, rfl, h3, r3⟩ := trodAll_cons r2
  obtain ⟨rfl, rfl, rfl⟩ := trodAll_nil r3
  obtain rfl : args = #[v0, v1, v2, v3] := by cases args; simp_all
  obtain ⟨rfl, rfl⟩ := trodVars_none hV
  obtain ⟨a0, len0, cap0, rfl⟩ := okWide_slice Try.underlying22 (hval 0 22 v0 rfl rfl)
  have k0 := h0
  have lt0 : ∀ x ∈ p0, x.block < W.heap.size := by obtain ⟨m, hm⟩ := k0; exact DataW.trod_lt m _ _ _ hm
  obtain ⟨T0, rfl, w0⟩ : ∃ T : List (List Int), T.length = len0 ∧ Mat W W.heap.size a0 T := by
    obtain ⟨fuel, hf⟩ := h0
    exact mat_of hf
  obtain ⟨a1, len1, cap1, rfl⟩ := okWide_slice Try.underlying22 (hval 1 22 v1 rfl rfl)
  have k1 := h1
  have lt1 : ∀ x ∈ p1, x.block < W.heap.size := by obtain ⟨m, hm⟩ := k1; exact DataW.trod_lt m _ _ _ hm
  obtain ⟨T1, rfl, w1⟩ : ∃ T : List (List Int), T.length = len1 ∧ Mat W W.heap.size a1 T := by
    obtain ⟨fuel, hf⟩ := h1
    exact mat_of hf
  obtain ⟨a2, rfl, rfl, rfl, w2⟩ := open_int Try.underlying3 (hval 2 3 v2 rfl rfl) h2
  obtain ⟨a3, rfl, rfl, rfl, w3⟩ := open_int Try.underlying3 (hval 3 3 v3 rfl rfl) h3
  clear hA0 hval0
  refine (walk a0 cap0 T0 a1 cap1 T1 a2 a3 W w0 w1 (i64_range w2) (i64_range w3)).mono fun e W' ⟨he, bel⟩ => ?_
  subst he
  exact ⟨_, rfl, _, _, _, [], _, [], hW', trodAll_mk1 (shut_bool Try.underlying4 _), (trodAll_cons_mk (Below.trod laidOut (by kernel_rfl) (of_decide_eq_true (by kernel_rfl)) k0 bel lt0) (trodAll_cons_mk (Below.trod laidOut (by kernel_rfl) (of_decide_eq_true (by kernel_rfl)) k1 bel lt1) (trodAll_cons_mk (shut_int Try.underlying3 w2) (trodAll_cons_mk (shut_int Try.underlying3 w3) trodAll_mk0)))), rfl, bel.frame _, fun h => by cases h⟩

theorem over : Rows.tideSumsRow.holds Try.pinned (OpenSpec.ofChange Rows.tideSumsSpec) :=
  OpenClaim.holds_of_wide 10 Try.f10 rfl rfl rfl rfl rfl rfl rfl ⟨rfl, rfl, rfl, rfl, rfl⟩ rfl rfl rfl rfl rfl (by kernel_rfl) Try.func10 (by kernel_rfl)
    (of_decide_eq_true (by kernel_rfl)) (by unfold Func.isWrapper; first | (rw [if_pos (by decide +kernel)]; kernel_rfl) | (rw [if_neg (by decide +kernel)]; exact ⟨rfl, rfl⟩))
    (fun os started H enc _ => lifted os started H enc)

/-- The statement. -/
theorem proved : Rows.TideSumsSaid := over
end Go.Proofs.Ytmpmlgognkmfgaa.lawTideSums
