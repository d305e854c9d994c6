/-
  For every tide, hour and number, the law TideEnds returns true: the program says as the specification when slack comes, which hour is highest and from which hour the drift is farthest.
  Conditions: none.
-/
import Derived.Test.YtmpmlgognkmfgaaAwake
import Derived.Test.YtmpmlgognkmfgaaOpen
import Derived.Test.YtmpmlgognkmfgaaPeakRef
namespace Go.Proofs.Ytmpmlgognkmfgaa.lawTideEnds
open Go.ChangeShapes Go.WideShapes Go.ChangeAt Go.RowKit Go.Deep Go.Proofs.Ytmpmlgognkmfgaa M
set_option linter.unusedVariables false
set_option linter.unusedSimpArgs false

set_option maxHeartbeats 2000000 in
theorem walk (A : Option Addr) (c : Nat) (T : List (List Int)) (t n : Int) (w : World) (h : Mat w w.heap.size A T) (_ : -9223372036854775808 ≤ t ∧ t ≤ 9223372036854775807) (_ : -9223372036854775808 ≤ n ∧ n ≤ 9223372036854775807) :
    Calls Try.prog 5 #[.slice A T.length c, .int .i64 t, .int .i64 n] w fun e w' => e = .returned (.bool true) ∧ Below w.heap.size w w' := by
  cases hw : wideB T with
  | true =>
    have hw := Lib.hid hw
    go_enter Try.func5, Try.ntmps5
    go_wp2_with fail
    refine (wide_any _ A c T w h).mono ?_
    rintro e w' ⟨rfl, rfl⟩
    rw [hw.out]
    go_wp2_with fail
    refine (awake_any _).mono ?_
    rintro e w' ⟨rfl, hb⟩
    go_wp2
    go_ret
    exact ⟨rfl, hb⟩
  | false =>
    have c32 : ∀ W, Below w.heap.size w W → Calls Try.prog 32 #[.slice A T.length c, .int .i64 t] W fun e w' => e = R2 (slackR T t) ∧ Below w.heap.size w w' := fun W hb =>
      (Slack_any w.heap.size A c T t W (h.below hb) hb.size).mono fun e w' ⟨he, hb'⟩ => ⟨he, hb.trans (hb'.mono hb.size)⟩
    have c33 : ∀ W, Below w.heap.size w W → Calls Try.prog 33 #[.slice A T.length c, .int .i64 t] W fun e w' => e = R2 (slackR T t) ∧ Below w.heap.size w w' := fun W hb =>
      (Slack_ref w.heap.size A c T t W (h.below hb)).mono fun e w' ⟨he, hb'⟩ => ⟨he, hb' ▸ hb⟩
    have c34 : ∀ W, Below w.heap.size w W → Calls Try.prog 34 #[.slice A T.length c] W fun e w' => e = R3 (peakR T) ∧ Below w.heap.size w w' := fun W hb =>
      (Highest_any w.heap.size A c T W (h.below hb) hb.size).mono fun e w' ⟨he, hb'⟩ => ⟨he, hb.trans (hb'.mono hb.size)⟩
    have c35 : ∀ W, Below w.heap.size w W → Calls Try.prog 35 #[.slice A T.length c] W fun e w' => e = R3 (peakR T) ∧ Below w.heap.size w w' := fun W hb =>
      (Highest_ref w.heap.size A c T W (h.below hb) hb.size).mono fun e w' ⟨he, hb'⟩ => ⟨he, hb.trans (hb'.mono hb.size)⟩
    have c36 : ∀ W, Below w.heap.size w W → Calls Try.prog 36 #[.slice A T.length c, .int .i64 n] W fun e w' => e = R3 (peakD T n) ∧ Below w.heap.size w w' := fun W hb =>
      (Farthest_any w.heap.size A c T n W (h.below hb) hb.size).mono fun e w' ⟨he, hb'⟩ => ⟨he, hb.trans (hb'.mono hb.size)⟩
    have c37 : ∀ W, Below w.heap.size w W → Calls Try.prog 37 #[.slice A T.length c, .int .i64 n] W fun e w' => e = R3 (peakD T n) ∧ Below w.heap.size w w' := fun W hb =>
      (Farthest_ref w.heap.size A c T n W (h.below hb)).mono fun e w' ⟨he, hb'⟩ => ⟨he, hb.trans (hb'.mono hb.size)⟩
    generalize slackR T t = p at c32 c33
    obtain ⟨p1, p2⟩ := p
    generalize peakR T = q at c34 c35
    obtain ⟨⟨q1, q2⟩, q3⟩ := q
    generalize peakD T n = r at c36 c37
    obtain ⟨⟨r1, r2⟩, r3⟩ := r
    replace c32 := Lib.hid c32
    replace c33 := Lib.hid c33
    replace c34 := Lib.hid c34
    replace c35 := Lib.hid c35
    replace c36 := Lib.hid c36
    replace c37 := Lib.hid c37
    replace hw := Lib.hid hw
    go_enter Try.func5, Try.ntmps5
    go_wp2_with fail
    refine (wide_any _ A c T w h).mono ?_
    rintro e w' ⟨rfl, rfl⟩
    rw [hw.out]
    go_wp2_with fail
    with_reducible refine (c32.out _ (Below.refl _ _)).mono ?_
    rintro e w1 ⟨rfl, hb1⟩
    unfold R2
    dsimp only
    go_wp2_with fail
    with_reducible refine (c33.out _ hb1).mono ?_
    rintro e w2 ⟨rfl, hb2⟩
    unfold R2
    dsimp only
    go_wp2_with fail
    with_reducible refine (c34.out _ hb2).mono ?_
    rintro e w3 ⟨rfl, hb3⟩
    unfold R3
    dsimp only
    go_wp2_with fail
    with_reducible refine (c35.out _ hb3).mono ?_
    rintro e w4 ⟨rfl, hb4⟩
    unfold R3
    dsimp only
    go_wp2_with fail
    with_reducible refine (c36.out _ hb4).mono ?_
    rintro e w5 ⟨rfl, hb5⟩
    unfold R3
    dsimp only
    go_wp2_with fail
    with_reducible refine (c37.out _ hb5).mono ?_
    rintro e w6 ⟨rfl, hb6⟩
    unfold R3
    dsimp only
    go_wp2_with fail
    refine (awake_any _).mono ?_
    rintro e w7 ⟨rfl, hb7⟩
    go_wp2
    go_ret
    exact ⟨rfl, hb6.trans (hb7.mono hb6.size)⟩

/-! ### the row's step -/
set_option maxRecDepth 100000 in
theorem lifted (os : Os) (started : os.Started) (H : Type) (enc : TypeId × Value → H) :
    ReturnsInHanded {} Try.checked os 5 .any (Rows.tideEndsSpec.pre6 enc Try.prog Try.f5 Rows.tideEndsRow.domain false) (Rows.tideEndsSpec.post enc Try.prog Try.f5 false true false false) := by
  refine returnsInHanded_of_change (C := Try.checked) own started (by kernel_rfl) Try.func5
    (ChangeSpec.witness6 (enc := enc) (C := Try.checked) false ⟨#[], #[.slice none 0 0, .int .i64 0, .int .i64 0], []⟩ 8 (by kernel_rfl) (by kernel_rfl) (by kernel_rfl) (by kernel_rfl)) ?_
  intro W base args ds gs before hval0 hW hcnd _
  have hval : ∀ (j : Nat) t v, Try.f5.params[j]? = some t → args[j]? = some v → Value.okWide Try.prog W .any base t v := hval0
  have hW' := hW
  obtain ⟨p, q, hA0, hV, rfl, hfz, hnd⟩ := hW
  have hA : DataW.TrodAll enc Try.prog W 0 (fun _ => true) true Try.f5.params.toList args.toList ds p := hA0
  rw [Try.params5] at hA hval
  obtain ⟨v0, vs0, d0, ds0, p0, q0, hargs, rfl, rfl, h0, r0⟩ := trodAll_cons hA
  obtain ⟨v1, vs1, d1, ds1, p1, q1, rfl, rfl, rfl, h1, r1⟩ := trodAll_cons r0
  obtain ⟨v2, vs2, d2, ds2, p2, q2, rfl, rfl, rfl, h2, r2⟩ := trodAll_cons r1
  obtain ⟨rfl, rfl, rfl⟩ := trodAll_nil r2
  obtain rfl : args = #[v0, v1, v2] := by cases args; simp_all
  obtain ⟨rfl, rfl⟩ := trodVars_none hV
  obtain ⟨a0, len0, cap0, rfl⟩ := okWide_slice Try.underlying22 (hval 0 22 v0 rfl rfl)
  have k0 := h0
  have lt0 : ∀ x ∈ p0, x.block < W.heap.size := by obtain ⟨m, hm⟩ := k0; exact DataW.trod_lt m _ _ _ hm
  obtain ⟨T0, rfl, w0⟩ : ∃ T : List (List Int), T.length = len0 ∧ Mat W W.heap.size a0 T := by
    obtain ⟨fuel, hf⟩ := h0
    exact mat_of hf
  obtain ⟨a1, rfl, rfl, rfl, w1⟩ := open_int Try.underlying3 (hval 1 3 v1 rfl rfl) h1
  obtain ⟨a2, rfl, rfl, rfl, w2⟩ := open_int Try.underlying3 (hval 2 3 v2 rfl rfl) h2
  clear hA0 hval0
  refine (walk a0 cap0 T0 a1 a2 W w0 (i64_range w1) (i64_range w2)).mono fun e W' ⟨he, bel⟩ => ?_
  subst he
  exact ⟨_, rfl, _, _, _, [], _, [], hW', trodAll_mk1 (shut_bool Try.underlying4 _), (trodAll_cons_mk (Below.trod laidOut (by kernel_rfl) (of_decide_eq_true (by kernel_rfl)) k0 bel lt0) (trodAll_cons_mk (shut_int Try.underlying3 w1) (trodAll_cons_mk (shut_int Try.underlying3 w2) trodAll_mk0))), rfl, bel.frame _, fun h => by cases h⟩

theorem over : Rows.tideEndsRow.holds Try.pinned (OpenSpec.ofChange Rows.tideEndsSpec) :=
  OpenClaim.holds_of_wide 5 Try.f5 rfl rfl rfl rfl rfl rfl rfl ⟨rfl, rfl, rfl, rfl, rfl⟩ rfl rfl rfl rfl rfl (by kernel_rfl) Try.func5 (by kernel_rfl)
    (of_decide_eq_true (by kernel_rfl)) (by unfold Func.isWrapper; first | (rw [if_pos (by decide +kernel)]; kernel_rfl) | (rw [if_neg (by decide +kernel)]; exact ⟨rfl, rfl⟩))
    (fun os started H enc _ => lifted os started H enc)

/-- The statement. -/
theorem proved : Rows.TideEndsSaid := over
end Go.Proofs.Ytmpmlgognkmfgaa.lawTideEnds
