/-
  For every tide, the law TideRounds returns true: the program's Round, Net, Beat and Once answer as the specification's.
  Conditions: none.
-/
import Derived.Test.YtmpmlgognkmfgaaAwake
import Derived.Test.YtmpmlgognkmfgaaOpen
import Derived.Test.YtmpmlgognkmfgaaTideG
namespace Go.Proofs.Ytmpmlgognkmfgaa.lawTideRounds
open Go.ChangeShapes Go.WideShapes Go.ChangeAt Go.RowKit Go.Deep Go.Proofs.Ytmpmlgognkmfgaa M
set_option linter.unusedVariables false
set_option linter.unusedSimpArgs false

set_option maxHeartbeats 2000000 in
theorem walk (A : Option Addr) (c : Nat) (T : List (List Int)) (w : World) (h : Mat w w.heap.size A T) :
    Calls Try.prog 4 #[.slice A T.length c] w fun e w' => e = .returned (.bool true) ∧ Below w.heap.size w w' := by
  cases hw : wideB T with
  | true =>
    have hw := Lib.hid hw
    go_enter Try.func4, Try.ntmps4
    go_wp2_with fail
    refine (wide_any _ A c T w h).mono ?_
    rintro e w' ⟨rfl, rfl⟩
    rw [hw.out]
    go_wp2_with fail
    refine (awake_any _).mono ?_
    rintro e w' ⟨rfl, hb⟩
    go_wp2
    go_ret
    exact ⟨rfl, hb⟩
  | false =>
    have hw := Lib.hid hw
    have c23 : ∀ W, Below w.heap.size w W → Calls Try.prog 23 #[.slice A T.length c] W fun e w' => e = R2 (roundR T) ∧ Below w.heap.size w w' := fun W hb =>
      (Round_any w.heap.size A c T W (h.below hb)).mono fun e w' ⟨he, hb'⟩ => ⟨he, hb.trans (hb'.mono hb.size)⟩
    have c24 : ∀ W, Below w.heap.size w W → Calls Try.prog 24 #[.slice A T.length c] W fun e w' => e = R2 (roundR T) ∧ Below w.heap.size w w' := fun W hb =>
      (Round_ref w.heap.size A c T W (h.below hb)).mono fun e w' ⟨he, hb'⟩ => ⟨he, hb' ▸ hb⟩
    have c25 : ∀ W, Below w.heap.size w W → Calls Try.prog 25 #[.slice A T.length c] W fun e w' => e = R2 (netR T) ∧ Below w.heap.size w w' := fun W hb =>
      (Net_any w.heap.size A c T W (h.below hb)).mono fun e w' ⟨he, hb'⟩ => ⟨he, hb.trans (hb'.mono hb.size)⟩
    have c26 : ∀ W, Below w.heap.size w W → Calls Try.prog 26 #[.slice A T.length c] W fun e w' => e = R2 (netR T) ∧ Below w.heap.size w w' := fun W hb =>
      (Net_ref w.heap.size A c T W (h.below hb)).mono fun e w' ⟨he, hb'⟩ => ⟨he, hb' ▸ hb⟩
    have c27 : ∀ W, Below w.heap.size w W → Calls Try.prog 27 #[.slice A T.length c] W fun e w' => e = R2 (beatR T) ∧ Below w.heap.size w w' := fun W hb =>
      (Beat_any w.heap.size A c T W (h.below hb) hb.size).mono fun e w' ⟨he, hb'⟩ => ⟨he, hb.trans (hb'.mono hb.size)⟩
    have c28 : ∀ W, Below w.heap.size w W → Calls Try.prog 28 #[.slice A T.length c] W fun e w' => e = R2 (beatR T) ∧ Below w.heap.size w w' := fun W hb =>
      (Beat_ref w.heap.size A c T W (h.below hb) hb.size).mono fun e w' ⟨he, hb'⟩ => ⟨he, hb.trans (hb'.mono hb.size)⟩
    have c29 : ∀ W, Below w.heap.size w W → Calls Try.prog 29 #[.slice A T.length c] W (NewRowE W (onceR T)) := fun W hb => Once_any w.heap.size A c T W (h.below hb) hb.size
    have c30 : ∀ W, Below w.heap.size w W → Calls Try.prog 30 #[.slice A T.length c] W (NewRowE W (onceR T)) := fun W hb => Once_ref w.heap.size A c T W (h.below hb) hb.size
    generalize roundR T = p at c23 c24
    generalize netR T = q at c25 c26
    generalize beatR T = r at c27 c28
    generalize onceR T = s at c29 c30
    obtain ⟨p1, p2⟩ := p
    obtain ⟨q1, q2⟩ := q
    obtain ⟨r1, r2⟩ := r
    obtain ⟨s1, s2⟩ := s
    replace c23 := Lib.hid c23
    replace c24 := Lib.hid c24
    replace c25 := Lib.hid c25
    replace c26 := Lib.hid c26
    replace c27 := Lib.hid c27
    replace c28 := Lib.hid c28
    replace c29 := Lib.hid c29
    replace c30 := Lib.hid c30
    go_enter Try.func4, Try.ntmps4
    go_wp2_with fail
    refine (wide_any _ A c T w h).mono ?_
    rintro e w' ⟨rfl, rfl⟩
    rw [hw.out]
    go_wp2_with fail
    refine (c23.out _ (Below.refl _ _)).mono ?_
    rintro e w1 ⟨rfl, hb1⟩
    unfold R2
    go_wp2_with fail
    refine (c24.out _ hb1).mono ?_
    rintro e w2 ⟨rfl, hb2⟩
    unfold R2
    go_wp2_with fail
    refine (c25.out _ hb2).mono ?_
    rintro e w3 ⟨rfl, hb3⟩
    unfold R2
    go_wp2_with fail
    refine (c26.out _ hb3).mono ?_
    rintro e w4 ⟨rfl, hb4⟩
    unfold R2
    go_wp2_with fail
    refine (c27.out _ hb4).mono ?_
    rintro e w5 ⟨rfl, hb5⟩
    unfold R2
    go_wp2_with fail
    refine (c28.out _ hb5).mono ?_
    rintro e w6 ⟨rfl, hb6⟩
    unfold R2
    go_wp2_with fail
    refine (c29.out _ hb6).mono ?_
    rintro e w7 ⟨A7, k7, rfl, hb67, hm7⟩
    dsimp only at hm7
    have hb7 := hb6.trans (hb67.mono hb6.size)
    go_wp2_with fail
    refine (c30.out _ hb7).mono ?_
    rintro e w8 ⟨A8, k8, rfl, hb78, hm8⟩
    dsimp only at hm8
    have hb8 := hb7.trans (hb78.mono hb7.size)
    have hsame := sameInts w8.heap.size A7 A8 k7 k8 s1 s1 w8 ((hm7.below hb78).more hb78.size) hm8
    rw [decide_eq_true rfl] at hsame
    replace hsame := Lib.hid hsame
    go_wp2_with fail
    refine hsame.out.mono ?_
    rintro e w9 ⟨rfl, m, rfl⟩
    go_wp2_with fail
    refine (awake_any _).mono ?_
    rintro e w10 ⟨rfl, hb10⟩
    have hbz := (below_drewN hb8 m).trans (hb10.mono (by simpa using hb8.size))
    go_wp2
    go_ret
    exact ⟨rfl, hbz⟩

/-! ### the row's step -/
set_option maxRecDepth 100000 in
theorem lifted (os : Os) (started : os.Started) (H : Type) (enc : TypeId × Value → H) :
    ReturnsInHanded {} Try.checked os 4 .any (Rows.tideRoundsSpec.pre6 enc Try.prog Try.f4 Rows.tideRoundsRow.domain false) (Rows.tideRoundsSpec.post enc Try.prog Try.f4 false true false false) := by
  refine returnsInHanded_of_change (C := Try.checked) own started (by kernel_rfl) Try.func4
    (ChangeSpec.witness6 (enc := enc) (C := Try.checked) false ⟨#[], #[.slice none 0 0], []⟩ 8 (by kernel_rfl) (by kernel_rfl) (by kernel_rfl) (by kernel_rfl)) ?_
  intro W base args ds gs before hval0 hW hcnd _
  have hval : ∀ (j : Nat) t v, Try.f4.params[j]? = some t → args[j]? = some v → Value.okWide Try.prog W .any base t v := hval0
  have hW' := hW
  obtain ⟨p, q, hA0, hV, rfl, hfz, hnd⟩ := hW
  have hA : DataW.TrodAll enc Try.prog W 0 (fun _ => true) true Try.f4.params.toList args.toList ds p := hA0
  rw [Try.params4] at hA hval
  obtain ⟨v0, vs0, d0, ds0, p0, q0, hargs, rfl, rfl, h0, r0⟩ := trodAll_cons hA
  obtain ⟨rfl, rfl, rfl⟩ := trodAll_nil r0
  obtain rfl : args = #[v0] := by cases args; simp_all
  obtain ⟨rfl, rfl⟩ := trodVars_none hV
  obtain ⟨a0, len0, cap0, rfl⟩ := okWide_slice Try.underlying22 (hval 0 22 v0 rfl rfl)
  have k0 := h0
  have lt0 : ∀ x ∈ p0, x.block < W.heap.size := by obtain ⟨m, hm⟩ := k0; exact DataW.trod_lt m _ _ _ hm
  obtain ⟨T0, rfl, w0⟩ : ∃ T : List (List Int), T.length = len0 ∧ Mat W W.heap.size a0 T := by
    obtain ⟨fuel, hf⟩ := h0
    exact mat_of hf
  clear hA0 hval0
  refine (walk a0 cap0 T0 W w0).mono fun e W' ⟨he, bel⟩ => ?_
  subst he
  exact ⟨_, rfl, _, _, _, [], _, [], hW', trodAll_mk1 (shut_bool Try.underlying4 _), (trodAll_cons_mk (Below.trod laidOut (by kernel_rfl) (of_decide_eq_true (by kernel_rfl)) k0 bel lt0) trodAll_mk0), rfl, bel.frame _, fun h => by cases h⟩

theorem over : Rows.tideRoundsRow.holds Try.pinned (OpenSpec.ofChange Rows.tideRoundsSpec) :=
  OpenClaim.holds_of_wide 4 Try.f4 rfl rfl rfl rfl rfl rfl rfl ⟨rfl, rfl, rfl, rfl, rfl⟩ rfl rfl rfl rfl rfl (by kernel_rfl) Try.func4 (by kernel_rfl)
    (of_decide_eq_true (by kernel_rfl)) (by unfold Func.isWrapper; first | (rw [if_pos (by decide +kernel)]; kernel_rfl) | (rw [if_neg (by decide +kernel)]; exact ⟨rfl, rfl⟩))
    (fun os started H enc _ => lifted os started H enc)

/-- The statement. -/
theorem proved : Rows.TideRoundsSaid := over
end Go.Proofs.Ytmpmlgognkmfgaa.lawTideRounds
