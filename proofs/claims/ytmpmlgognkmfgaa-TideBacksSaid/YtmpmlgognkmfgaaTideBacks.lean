/-
  For every tide, hour and number of hours, the law TideBacks returns true: the tide back of the tide back is the tide, and what drifts in it.
  Conditions: none.
-/
import Derived.Test.YtmpmlgognkmfgaaAwake
import Derived.Test.YtmpmlgognkmfgaaOpen
import Derived.Test.YtmpmlgognkmfgaaMathB
namespace Go.Proofs.Ytmpmlgognkmfgaa.lawTideBacks
open Go.ChangeShapes Go.WideShapes Go.ChangeAt Go.RowKit Go.Deep Go.Proofs.Ytmpmlgognkmfgaa M
set_option linter.unusedVariables false
set_option linter.unusedSimpArgs false

/-- The ways out at once: a tide that is too wide, one that is not valid, an hour that is none. -/
def Out (T : List (List Int)) (t n : Int) : Prop := wideB T = true ∨ (wideB T = false ∧ validB T = false) ∨ (wideB T = false ∧ validB T = true ∧ hourB t = false) ∨ (wideB T = false ∧ validB T = true ∧ hourB t = true ∧ hourB (1 - t - n) = false)

set_option maxHeartbeats 2000000 in
theorem out (A : Option Addr) (c : Nat) (T : List (List Int)) (t n : Int) (w : World) (h : Mat w w.heap.size A T) (hn : 0 ≤ n ∧ n ≤ 65535) (ho : Out T t n) :
    Calls Try.prog 11 #[.slice A T.length c, .int .i64 t, .int .u16 n] w fun e w' => e = .returned (.bool true) ∧ Below w.heap.size w w' := by
  obtain ⟨n1, n2⟩ := hn
  rcases ho with hw | ⟨hw, hv⟩ | ⟨hw, hv, ha⟩ | ⟨hw, hv, ha, hb⟩
  · replace hw := Lib.hid hw
    go_enter Try.func11, Try.ntmps11
    go_wp2_with fail
    refine (wide_any _ A c T w h).mono ?_
    rintro e w' ⟨rfl, rfl⟩
    rw [hw.out]
    go_wp2_with fail
    refine (awake_any _).mono ?_
    rintro e w' ⟨rfl, hb⟩
    go_wp2
    go_ret
    exact ⟨rfl, hb⟩
  · replace hw := Lib.hid hw
    replace hv := Lib.hid hv
    go_enter Try.func11, Try.ntmps11
    go_wp2_with fail
    refine (wide_any _ A c T w h).mono ?_
    rintro e w' ⟨rfl, rfl⟩
    rw [hw.out]
    go_wp2_with fail
    refine (valid_ref _ A c T w h).mono ?_
    rintro e w' ⟨rfl, rfl⟩
    rw [hv.out]
    go_wp2_with fail
    refine (awake_any _).mono ?_
    rintro e w' ⟨rfl, hb⟩
    go_wp2
    go_ret
    exact ⟨rfl, hb⟩
  · replace hw := Lib.hid hw
    replace hv := Lib.hid hv
    replace ha := Lib.hid ha
    go_enter Try.func11, Try.ntmps11
    go_wp2_with fail
    refine (wide_any _ A c T w h).mono ?_
    rintro e w' ⟨rfl, rfl⟩
    rw [hw.out]
    go_wp2_with fail
    refine (valid_ref _ A c T w h).mono ?_
    rintro e w' ⟨rfl, rfl⟩
    rw [hv.out]
    go_wp2_with fail
    refine (isHour_ref _ _).mono ?_
    rintro e w' ⟨rfl, rfl⟩
    rw [ha.out]
    go_wp2_with fail
    refine (awake_any _).mono ?_
    rintro e w' ⟨rfl, hb⟩
    go_wp2
    go_ret
    exact ⟨rfl, hb⟩
  · obtain ⟨t1, t2⟩ := of_hourB ha
    replace hw := Lib.hid hw
    replace hv := Lib.hid hv
    replace ha := Lib.hid ha
    replace hb := Lib.hid hb
    go_enter Try.func11, Try.ntmps11
    go_wp2_with fail
    refine (wide_any _ A c T w h).mono ?_
    rintro e w' ⟨rfl, rfl⟩
    rw [hw.out]
    go_wp2_with fail
    refine (valid_ref _ A c T w h).mono ?_
    rintro e w' ⟨rfl, rfl⟩
    rw [hv.out]
    go_wp2_with fail
    refine (isHour_ref _ _).mono ?_
    rintro e w' ⟨rfl, rfl⟩
    rw [ha.out]
    go_wp2_with fail
    refine (isHour_ref _ _).mono ?_
    rintro e w' ⟨rfl, rfl⟩
    rw [hb.out]
    go_wp2_with fail
    refine (awake_any _).mono ?_
    rintro e w' ⟨rfl, hb⟩
    go_wp2
    go_ret
    exact ⟨rfl, hb⟩

set_option maxHeartbeats 4000000 in
theorem inn (A : Option Addr) (c : Nat) (T : List (List Int)) (t : Int) (n : Nat) (w : World) (h : Mat w w.heap.size A T) (hn : n ≤ 65535) (hw : wideB T = false) (hv : validB T = true) (ha : hourB t = true) (hb : hourB (1 - t - n) = true) :
    Calls Try.prog 11 #[.slice A T.length c, .int .i64 t, .int .u16 n] w fun e w' => e = .returned (.bool true) ∧ Below w.heap.size w w' := by
  have hV := val_of hv
  have hVb := val_bk hV
  obtain ⟨t1, t2⟩ := of_hourB ha
  have e1 : backR T = (bkT T, 0) := by unfold backR; rw [hv]; rfl
  have e2 : backR (bkT T) = (T, 0) := by unfold backR; rw [validB_true hVb, bkT_bkT hV]; rfl
  have e3 : driftR (bkT T) t n = (- drf T (1 - t - n) n, 0) := by unfold driftR; rw [validB_true hVb, ha, spanB_true (by omega)]; simp [two, drf_bk hV]
  have e4 : driftR T (1 - t - n) n = (drf T (1 - t - n) n, 0) := by unfold driftR; rw [hv, hb, spanB_true (by omega)]; simp [two]
  obtain ⟨d1, d2⟩ := drf_bd hV (1 - t - n) n (by omega)
  have c1 : Calls Try.prog 41 #[.slice A T.length c] w (NewMatE w (bkT T, 0)) := by rw [← e1]; exact Back_any _ A c T w h (Nat.le_refl _)
  have c2 : ∀ W A' c', Mat W W.heap.size A' (bkT T) → Calls Try.prog 41 #[.slice A' (bkT T).length c'] W (NewMatE W (T, 0)) := fun W A' c' h' => by
    have := Back_any _ A' c' (bkT T) W h' (Nat.le_refl _)
    rwa [e2] at this
  have c3 : ∀ W B A' c', Mat W B A' (bkT T) → B ≤ W.heap.size → Calls Try.prog 19 #[.slice A' (bkT T).length c', .int .i64 t, .int .i64 n] W fun e w' => e = R2 (- drf T (1 - t - n) n, 0) ∧ Below W.heap.size W w' := fun W B A' c' h' hB => by
    have := Drift_any B A' c' (bkT T) t n W h' hB
    rwa [e3] at this
  have c4 : ∀ W, Below w.heap.size w W → Calls Try.prog 19 #[.slice A T.length c, .int .i64 (1 - t - n), .int .i64 n] W fun e w' => e = R2 (drf T (1 - t - n) n, 0) ∧ Below W.heap.size W w' := fun W hB => by
    have := Drift_any w.heap.size A c T (1 - t - n) n W (h.below hB) hB.size
    rwa [e4] at this
  have c5 : ∀ W B A' c', Mat W B A' T → Mat W B A T → Calls Try.prog 40 #[.slice A' T.length c', .slice A T.length c] W fun e w' => e = .returned (.bool true) ∧ ∃ m, w' = W.drewN m := fun W B A' c' h1 h2 => by
    have := equal B A' A c' c T T W h1 h2
    rwa [decide_eq_true rfl] at this
  generalize drf T (1 - t - n) n = x at *
  generalize bkT T = U at *
  clear hV hVb e1 e2 e3 e4
  replace c1 := Lib.hid c1
  replace c2 := Lib.hid c2
  replace c3 := Lib.hid c3
  replace c4 := Lib.hid c4
  replace c5 := Lib.hid c5
  replace hw := Lib.hid hw
  replace hv := Lib.hid hv
  replace ha := Lib.hid ha
  replace hb := Lib.hid hb
  go_enter Try.func11, Try.ntmps11
  go_wp2_with fail
  refine (wide_any _ A c T w h).mono ?_
  rintro e w' ⟨rfl, rfl⟩
  rw [hw.out]
  go_wp2_with fail
  refine (valid_ref _ A c T w h).mono ?_
  rintro e w' ⟨rfl, rfl⟩
  rw [hv.out]
  go_wp2_with fail
  refine (isHour_ref _ _).mono ?_
  rintro e w' ⟨rfl, rfl⟩
  rw [ha.out]
  go_wp2_with fail
  refine (isHour_ref _ _).mono ?_
  rintro e w' ⟨rfl, rfl⟩
  rw [hb.out]
  go_wp2_with fail
  refine c1.out.mono ?_
  rintro e w1 ⟨A1, k1, rfl, hb1, hm1⟩
  dsimp only at hm1
  go_wp2_with fail
  refine (c2.out w1 A1 k1 hm1).mono ?_
  rintro e w2 ⟨A2, k2, rfl, hb2, hm2⟩
  dsimp only at hm2
  have hb02 := hb1.trans (hb2.mono hb1.size)
  have hm1' := hm1.below hb2
  go_wp2_with fail
  refine (c3.out w2 w1.heap.size A1 k1 hm1' hb2.size).mono ?_
  rintro e w3 ⟨rfl, hb3⟩
  have hb03 := hb02.trans (hb3.mono hb02.size)
  have hm2' := hm2.below hb3
  unfold R2
  go_wp2_with fail
  refine (c4.out w3 hb03).mono ?_
  rintro e w4 ⟨rfl, hb4⟩
  have hb04 := hb03.trans (hb4.mono hb03.size)
  have hm2'' := hm2'.below (hb4.mono hb3.size)
  unfold R2
  go_wp2_with fail
  refine (c5.out w4 w2.heap.size A2 k2 hm2'' ((h.below hb04).more hb02.size)).mono ?_
  rintro e w5 ⟨rfl, m, rfl⟩
  go_wp2_with fail
  refine (awake_any _).mono ?_
  rintro e w6 ⟨rfl, hb6⟩
  have hb06 := hb04.trans ((below_drewN (Below.refl w4.heap.size w4) m).mono hb04.size) |>.trans (hb6.mono (by simpa using hb04.size))
  go_wp2
  go_ret
  exact ⟨rfl, hb06⟩

theorem walk (A : Option Addr) (c : Nat) (T : List (List Int)) (t n : Int) (w : World) (h : Mat w w.heap.size A T) (ht : -9223372036854775808 ≤ t ∧ t ≤ 9223372036854775807) (hn : 0 ≤ n ∧ n ≤ 65535) :
    Calls Try.prog 11 #[.slice A T.length c, .int .i64 t, .int .u16 n] w fun e w' => e = .returned (.bool true) ∧ Below w.heap.size w w' := by
  cases hw : wideB T with
  | true => exact out A c T t n w h hn (.inl hw)
  | false =>
    cases hv : validB T with
    | false => exact out A c T t n w h hn (.inr (.inl ⟨hw, hv⟩))
    | true =>
      cases ha : hourB t with
      | false => exact out A c T t n w h hn (.inr (.inr (.inl ⟨hw, hv, ha⟩)))
      | true =>
        cases hb : hourB (1 - t - n) with
        | false => exact out A c T t n w h hn (.inr (.inr (.inr ⟨hw, hv, ha, hb⟩)))
        | true =>
          obtain ⟨n', rfl⟩ := Int.eq_ofNat_of_zero_le hn.1
          exact inn A c T t n' w h (by omega) hw hv ha hb

/-! ### the row's step -/
set_option maxRecDepth 100000 in
theorem lifted (os : Os) (started : os.Started) (H : Type) (enc : TypeId × Value → H) :
    ReturnsInHanded {} Try.checked os 11 .any (Rows.tideBacksSpec.pre6 enc Try.prog Try.f11 Rows.tideBacksRow.domain false) (Rows.tideBacksSpec.post enc Try.prog Try.f11 false true false false) := by
  refine returnsInHanded_of_change (C := Try.checked) own started (by kernel_rfl) Try.func11
    (ChangeSpec.witness6 (enc := enc) (C := Try.checked) false ⟨#[], #[.slice none 0 0, .int .i64 0, .int .u16 0], []⟩ 8 (by kernel_rfl) (by kernel_rfl) (by kernel_rfl) (by kernel_rfl)) ?_
  intro W base args ds gs before hval0 hW hcnd _
  have hval : ∀ (j : Nat) t v, Try.f11.params[j]? = some t → args[j]? = some v → Value.okWide Try.prog W .any base t v := hval0
  have hW' := hW
  obtain ⟨p, q, hA0, hV, rfl, hfz, hnd⟩ := hW
  have hA : DataW.TrodAll enc Try.prog W 0 (fun _ => true) true Try.f11.params.toList args.toList ds p := hA0
  rw [Try.params11] at hA hval
  obtain ⟨v0, vs0, d0, ds0, p0, q0, hargs, rfl, rfl, h0, r0⟩ := trodAll_cons hA
  obtain ⟨v1, vs1, d1, ds1, p1, q1, rfl, rfl, rfl, h1, r1⟩ := trodAll_cons r0
  obtain ⟨v2, vs2, d2, ds2, p2, q2, rfl, rfl, rfl, h2, r2⟩ := trodAll_cons r1
  obtain ⟨rfl, rfl, rfl⟩ := trodAll_nil r2
  obtain rfl : args = #[v0, v1, v2] := by cases args; simp_all
  obtain ⟨rfl, rfl⟩ := trodVars_none hV
  obtain ⟨a0, len0, cap0, rfl⟩ := okWide_slice Try.underlying22 (hval 0 22 v0 rfl rfl)
  have k0 := h0
  have lt0 : ∀ x ∈ p0, x.block < W.heap.size := by obtain ⟨m, hm⟩ := k0; exact DataW.trod_lt m _ _ _ hm
  obtain ⟨T0, rfl, w0⟩ : ∃ T : List (List Int), T.length = len0 ∧ Mat W W.heap.size a0 T := by
    obtain ⟨fuel, hf⟩ := h0
    exact mat_of hf
  obtain ⟨a1, rfl, rfl, rfl, w1⟩ := open_int Try.underlying3 (hval 1 3 v1 rfl rfl) h1
  obtain ⟨a2, rfl, rfl, rfl, w2⟩ := open_int Try.underlying46 (hval 2 46 v2 rfl rfl) h2
  clear hA0 hval0
  refine (walk a0 cap0 T0 a1 a2 W w0 (i64_range w1) (u16_range w2)).mono fun e W' ⟨he, bel⟩ => ?_
  subst he
  exact ⟨_, rfl, _, _, _, [], _, [], hW', trodAll_mk1 (shut_bool Try.underlying4 _), (trodAll_cons_mk (Below.trod laidOut (by kernel_rfl) (of_decide_eq_true (by kernel_rfl)) k0 bel lt0) (trodAll_cons_mk (shut_int Try.underlying3 w1) (trodAll_cons_mk (shut_int Try.underlying46 w2) trodAll_mk0))), rfl, bel.frame _, fun h => by cases h⟩

theorem over : Rows.tideBacksRow.holds Try.pinned (OpenSpec.ofChange Rows.tideBacksSpec) :=
  OpenClaim.holds_of_wide 11 Try.f11 rfl rfl rfl rfl rfl rfl rfl ⟨rfl, rfl, rfl, rfl, rfl⟩ rfl rfl rfl rfl rfl (by kernel_rfl) Try.func11 (by kernel_rfl)
    (of_decide_eq_true (by kernel_rfl)) (by unfold Func.isWrapper; first | (rw [if_pos (by decide +kernel)]; kernel_rfl) | (rw [if_neg (by decide +kernel)]; exact ⟨rfl, rfl⟩))
    (fun os started H enc _ => lifted os started H enc)

/-- The statement. -/
theorem proved : Rows.TideBacksSaid := over
end Go.Proofs.Ytmpmlgognkmfgaa.lawTideBacks
