/-
  For any two tanks and any amount, the law TankTwo returns true: the program names the deeds that measure an amount with two tanks as the specification does.
  Conditions: none.
-/
import Derived.Test.YtgonibieeimdoaaK
import Derived.Test.YtgonibieeimdoaaI
import Derived.Test.YtgonibieeimdoaaJ
namespace Go.Proofs.Ytgonibieeimdoaa.lawTankTwo
open Go.ChangeShapes Go.WideShapes Go.ChangeAt Go.RowKit Go.Deep Go.Proofs.Ytgonibieeimdoaa M
set_option linter.unusedVariables false
set_option linter.unusedSimpArgs false

set_option maxRecDepth 100000 in
set_option maxHeartbeats 2000000 in
theorem walk (a b n : Int) (w : World) :
    Calls Try.prog 10 #[.int .i64 a, .int .i64 b, .int .i64 n] w fun e w' => e = .returned (.bool true) ∧ Below w.heap.size w w' := by
  have c1 := Lib.hid (Two_any a b n w)
  have c2 : ∀ W, Calls Try.prog 49 #[.int .i64 a, .int .i64 b, .int .i64 n] W (TwoR W a b n) := fun W => Two_ref a b n W
  replace c2 := Lib.hid c2
  go_enter Try.func10, Try.ntmps10
  go_wp2_with fail
  refine c1.out.mono ?_
  rintro e w1 ⟨D, er, A1, k1, hP, rfl, hb1, hD1⟩
  replace hP := Lib.hid hP
  replace hD1 := Lib.hid hD1
  go_wp2_with fail
  refine (c2.out w1).mono ?_
  rintro e w2 ⟨D', er', A2, k2, hP', rfl, hb2, hD2⟩
  obtain ⟨rfl, rfl⟩ := hP.out.uniq hP'
  have hbs : Below w.heap.size w w2 := hb1.trans (hb2.mono hb1.size)
  have hq := SameDeeds_any w2.heap.size A1 A2 k1 k2 D D w2 ((hD1.out.below hb2).more hb2.size) hD2
  rw [decide_eq_true rfl] at hq
  have hs : ∀ m, Calls Try.prog 18 #[] (w2.drewN m) fun e w' => e = .returned (.bool true) ∧ Below w.heap.size w w' := fun m => (Sane_any _).mono fun e w' ⟨he, hb⟩ => ⟨he, (below_drewN hbs m).trans (hb.mono hbs.size)⟩
  replace hq := Lib.hid hq
  replace hs := Lib.hid hs
  clear hD1 hD2 hP'
  go_wp2_with fail
  refine hq.out.mono ?_
  rintro e w3 ⟨rfl, m, rfl⟩
  go_wp2_with fail
  refine (hs.out m).mono ?_
  rintro e w4 ⟨rfl, hb4⟩
  go_wp2
  go_ret
  exact ⟨rfl, hb4⟩

/-! ### the row's step -/
set_option maxRecDepth 100000 in
theorem lifted (os : Os) (started : os.Started) (H : Type) (enc : TypeId × Value → H) :
    ReturnsInHanded {} Try.checked os 10 .any (Rows.tankTwoSpec.pre6 enc Try.prog Try.f10 Rows.tankTwoRow.domain false) (Rows.tankTwoSpec.post enc Try.prog Try.f10 false true false false) := by
  refine returnsInHanded_of_change (C := Try.checked) own started (by kernel_rfl) Try.func10
    (ChangeSpec.witness6 (enc := enc) (C := Try.checked) false ⟨#[], #[.int .i64 0, .int .i64 0, .int .i64 0], []⟩ 8 (by kernel_rfl) (by kernel_rfl) (by kernel_rfl) (by kernel_rfl)) ?_
  intro W base args ds gs before hval0 hW hcnd _
  have hval : ∀ (j : Nat) t v, Try.f10.params[j]? = some t → args[j]? = some v → Value.okWide Try.prog W .any base t v := hval0
  have hW' := hW
  obtain ⟨p, q, hA0, hV, rfl, hfz, hnd⟩ := hW
  have hA : DataW.TrodAll enc Try.prog W 0 (fun _ => true) true Try.f10.params.toList args.toList ds p := hA0
  rw [Try.params10] at hA hval
  obtain ⟨v0, vs0, d0, ds0, p0, q0, hargs, rfl, rfl, h0, r0⟩ := trodAll_cons hA
  obtain ⟨v1, vs1, d1, ds1, p1, q1, rfl, rfl, rfl, h1, r1⟩ := trodAll_cons r0
  obtain ⟨v2, vs2, d2, ds2, p2, q2, rfl, rfl, rfl, h2, r2⟩ := trodAll_cons r1
  obtain ⟨rfl, rfl, rfl⟩ := trodAll_nil r2
  obtain rfl : args = #[v0, v1, v2] := by cases args; simp_all
  obtain ⟨rfl, rfl⟩ := trodVars_none hV
  obtain ⟨a0, rfl, rfl, rfl, w0⟩ := open_int Try.underlying3 (hval 0 3 v0 rfl rfl) h0
  obtain ⟨a1, rfl, rfl, rfl, w1⟩ := open_int Try.underlying3 (hval 1 3 v1 rfl rfl) h1
  obtain ⟨a2, rfl, rfl, rfl, w2⟩ := open_int Try.underlying3 (hval 2 3 v2 rfl rfl) h2
  clear hA0 hval0
  refine (walk a0 a1 a2 W).mono fun e W' ⟨he, bel⟩ => ?_
  subst he
  exact ⟨_, rfl, _, _, _, [], _, [], hW', trodAll_mk1 (shut_bool Try.underlying4 _), (trodAll_cons_mk (shut_int Try.underlying3 w0) (trodAll_cons_mk (shut_int Try.underlying3 w1) (trodAll_cons_mk (shut_int Try.underlying3 w2) trodAll_mk0))), rfl, bel.frame _, fun h => by cases h⟩

theorem over : Rows.tankTwoRow.holds Try.pinned (OpenSpec.ofChange Rows.tankTwoSpec) :=
  OpenClaim.holds_of_wide 10 Try.f10 rfl rfl rfl rfl rfl rfl rfl ⟨rfl, rfl, rfl, rfl, rfl⟩ rfl rfl rfl rfl rfl (by kernel_rfl) Try.func10 (by kernel_rfl)
    (of_decide_eq_true (by kernel_rfl)) (by unfold Func.isWrapper; first | (rw [if_pos (by decide +kernel)]; kernel_rfl) | (rw [if_neg (by decide +kernel)]; exact ⟨rfl, rfl⟩))
    (fun os started H enc _ => lifted os started H enc)

/-- The statement. -/
theorem proved : Rows.TankTwoSaid := over
end Go.Proofs.Ytgonibieeimdoaa.lawTankTwo
