/-
  For every tide, hour and number of hours, the law TideSpeeds returns true: the program's Valid, Speed and Drift answer as the specification's.
  Conditions: none.
-/
import Derived.Test.YtmpmlgognkmfgaaAwake
import Derived.Test.YtmpmlgognkmfgaaOpen
namespace Go.Proofs.Ytmpmlgognkmfgaa.lawTideSpeeds
open Go.ChangeShapes Go.WideShapes Go.ChangeAt Go.RowKit Go.Deep Go.Proofs.Ytmpmlgognkmfgaa M
set_option linter.unusedVariables false
set_option linter.unusedSimpArgs false

set_option maxHeartbeats 2000000 in
theorem walk (A : Option Addr) (c : Nat) (T : List (List Int)) (t n : Int) (w : World) (h : Mat w w.heap.size A T) :
    Calls Try.prog 3 #[.slice A T.length c, .int .i64 t, .int .i64 n] w fun e w' => e = .returned (.bool true) ∧ Below w.heap.size w w' := by
  cases hw : wideB T with
  | true =>
    have hw := Lib.hid hw
    go_enter Try.func3, Try.ntmps3
    go_wp2_with fail
    refine (wide_any _ A c T w h).mono ?_
    rintro e w' ⟨rfl, rfl⟩
    rw [hw.out]
    go_wp2_with fail
    refine (awake_any _).mono ?_
    rintro e w' ⟨rfl, hb⟩
    go_wp2
    go_ret
    exact ⟨rfl, hb⟩
  | false =>
    have hw := Lib.hid hw
    have c17 : ∀ W, Below w.heap.size w W → Calls Try.prog 17 #[.slice A T.length c, .int .i64 t] W fun e w' => e = R2 (speedR T t) ∧ Below w.heap.size w w' := fun W hb =>
      (Speed_any w.heap.size A c T t W (h.below hb) hb.size).mono fun e w' ⟨he, hb'⟩ => ⟨he, hb.trans (hb'.mono hb.size)⟩
    have c18 : ∀ W, Below w.heap.size w W → Calls Try.prog 18 #[.slice A T.length c, .int .i64 t] W fun e w' => e = R2 (speedR T t) ∧ Below w.heap.size w w' := fun W hb =>
      (Speed_ref w.heap.size A c T t W (h.below hb)).mono fun e w' ⟨he, hb'⟩ => ⟨he, hb' ▸ hb⟩
    have c19 : ∀ W, Below w.heap.size w W → Calls Try.prog 19 #[.slice A T.length c, .int .i64 t, .int .i64 n] W fun e w' => e = R2 (driftR T t n) ∧ Below w.heap.size w w' := fun W hb =>
      (Drift_any w.heap.size A c T t n W (h.below hb) hb.size).mono fun e w' ⟨he, hb'⟩ => ⟨he, hb.trans (hb'.mono hb.size)⟩
    have c20 : ∀ W, Below w.heap.size w W → Calls Try.prog 20 #[.slice A T.length c, .int .i64 t, .int .i64 n] W fun e w' => e = R2 (driftR T t n) ∧ Below w.heap.size w w' := fun W hb =>
      (Drift_ref w.heap.size A c T t n W (h.below hb)).mono fun e w' ⟨he, m, hb'⟩ => ⟨he, hb' ▸ below_drewN hb m⟩
    have c21 : ∀ W, Below w.heap.size w W → Calls Try.prog 21 #[.slice A T.length c] W fun e w' => e = .returned (.bool (validB T)) ∧ Below w.heap.size w w' := fun W hb =>
      (valid_any w.heap.size A c T W (h.below hb)).mono fun e w' ⟨he, hb'⟩ => ⟨he, hb' ▸ hb⟩
    have c22 : ∀ W, Below w.heap.size w W → Calls Try.prog 22 #[.slice A T.length c] W fun e w' => e = .returned (.bool (validB T)) ∧ Below w.heap.size w w' := fun W hb =>
      (valid_ref w.heap.size A c T W (h.below hb)).mono fun e w' ⟨he, hb'⟩ => ⟨he, hb' ▸ hb⟩
    generalize speedR T t = p at c17 c18
    generalize driftR T t n = q at c19 c20
    generalize validB T = v at c21 c22
    obtain ⟨p1, p2⟩ := p
    obtain ⟨q1, q2⟩ := q
    replace c17 := Lib.hid c17
    replace c18 := Lib.hid c18
    replace c19 := Lib.hid c19
    replace c20 := Lib.hid c20
    replace c21 := Lib.hid c21
    replace c22 := Lib.hid c22
    go_enter Try.func3, Try.ntmps3
    go_wp2_with fail
    refine (wide_any _ A c T w h).mono ?_
    rintro e w' ⟨rfl, rfl⟩
    rw [hw.out]
    go_wp2_with fail
    refine (c17.out _ (Below.refl _ _)).mono ?_
    rintro e w1 ⟨rfl, hb1⟩
    unfold R2
    go_wp2_with fail
    refine (c18.out _ hb1).mono ?_
    rintro e w2 ⟨rfl, hb2⟩
    unfold R2
    go_wp2_with fail
    refine (c19.out _ hb2).mono ?_
    rintro e w3 ⟨rfl, hb3⟩
    unfold R2
    go_wp2_with fail
    refine (c20.out _ hb3).mono ?_
    rintro e w4 ⟨rfl, hb4⟩
    unfold R2
    go_wp2_with fail
    refine (c21.out _ hb4).mono ?_
    rintro e w5 ⟨rfl, hb5⟩
    go_wp2_with fail
    refine (c22.out _ hb5).mono ?_
    rintro e w6 ⟨rfl, hb6⟩
    go_wp2_with fail
    refine (awake_any _).mono ?_
    rintro e w7 ⟨rfl, hb7⟩
    go_wp2
    go_ret
    exact ⟨rfl, hb6.trans (hb7.mono hb6.size)⟩

/-! ### the row's step -/
set_option maxRecDepth 100000 in
theorem lifted (os : Os) (started : os.Started) (H : Type) (enc : TypeId × Value → H) :
    ReturnsInHanded {} Try.checked os 3 .any (Rows.tideSpeedsSpec.pre6 enc Try.prog Try.f3 Rows.tideSpeedsRow.domain false) (Rows.tideSpeedsSpec.post enc Try.prog Try.f3 false true false false) := by
  refine returnsInHanded_of_change (C := Try.checked) own started (by kernel_rfl) Try.func3
    (ChangeSpec.witness6 (enc := enc) (C := Try.checked) false ⟨#[], #[.slice none 0 0, .int .i64 0, .int .i64 0], []⟩ 8 (by kernel_rfl) (by kernel_rfl) (by kernel_rfl) (by kernel_rfl)) ?_
  intro W base args ds gs before hval0 hW hcnd _
  have hval : ∀ (j : Nat) t v, Try.f3.params[j]? = some t → args[j]? = some v → Value.okWide Try.prog W .any base t v := hval0
  have hW' := hW
  obtain ⟨p, q, hA0, hV, rfl, hfz, hnd⟩ := hW
  have hA : DataW.TrodAll enc Try.prog W 0 (fun _ => true) true Try.f3.params.toList args.toList ds p := hA0
  rw [Try.params3] at hA hval
  obtain ⟨v0, vs0, d0, ds0, p0, q0, hargs, rfl, rfl, h0, r0⟩ := trodAll_cons hA
  obtain ⟨v1, vs1, d1, ds1, p1, q1, rfl, rfl, rfl, h1, r1⟩ := trodAll_cons r0
  obtain ⟨v2, vs2, d2, ds2, p2, q2, rfl, rfl, rfl, h2, r2⟩ := trodAll_cons r1
  obtain ⟨rfl, rfl, rfl⟩ := trodAll_nil r2
  obtain rfl : args = #[v0, v1, v2] := by cases args; simp_all
  obtain ⟨rfl, rfl⟩ := trodVars_none hV
  obtain ⟨a0, len0, cap0, rfl⟩ := okWide_slice Try.underlying22 (hval 0 22 v0 rfl rfl)
  have k0 := h0
  have lt0 : ∀ x ∈ p0, x.block < W.heap.size := by obtain ⟨m, hm⟩ := k0; exact DataW.trod_lt m _ _ _ hm
  obtain ⟨T, rfl, w0⟩ : ∃ T : List (List Int), T.length = len0 ∧ Mat W W.heap.size a0 T := by
    obtain ⟨fuel, hf⟩ := h0
    exact mat_of hf
  obtain ⟨a1, rfl, rfl, rfl, w1⟩ := open_int Try.underlying3 (hval 1 3 v1 rfl rfl) h1
  obtain ⟨a2, rfl, rfl, rfl, w2⟩ := open_int Try.underlying3 (hval 2 3 v2 rfl rfl) h2
  clear hA0 hval0
  refine (walk a0 cap0 T a1 a2 W w0).mono fun e W' ⟨he, bel⟩ => ?_
  subst he
  exact ⟨_, rfl, _, _, _, [], _, [], hW', trodAll_mk1 (shut_bool Try.underlying4 _), (trodAll_cons_mk (Below.trod laidOut (by kernel_rfl) (of_decide_eq_true (by kernel_rfl)) k0 bel lt0) (trodAll_cons_mk (shut_int Try.underlying3 w1) (trodAll_cons_mk (shut_int Try.underlying3 w2) trodAll_mk0))), rfl, bel.frame _, fun h => by cases h⟩

theorem over : Rows.tideSpeedsRow.holds Try.pinned (OpenSpec.ofChange Rows.tideSpeedsSpec) :=
  OpenClaim.holds_of_wide 3 Try.f3 rfl rfl rfl rfl rfl rfl rfl ⟨rfl, rfl, rfl, rfl, rfl⟩ rfl rfl rfl rfl rfl (by kernel_rfl) Try.func3 (by kernel_rfl)
    (of_decide_eq_true (by kernel_rfl)) (by unfold Func.isWrapper; first | (rw [if_pos (by decide +kernel)]; kernel_rfl) | (rw [if_neg (by decide +kernel)]; exact ⟨rfl, rfl⟩))
    (fun os started H enc _ => lifted os started H enc)

/-- The statement. -/
theorem proved : Rows.TideSpeedsSaid := over
end Go.Proofs.Ytmpmlgognkmfgaa.lawTideSpeeds
