/-
  For any two claims and any estate, the law FundGarments returns true: the awards by the rule for one garment are the document's.
  Conditions: none.
-/
import Derived.Test.YthleekdkbgnabaaK
import Derived.Test.YthleekdkbgnabaaD
namespace Go.Proofs.Ythleekdkbgnabaa.lawFundGarments
open Go.Joins Go.ChangeShapes Go.WideShapes Go.ChangeAt Go.RowKit Go.Deep Go.Proofs.Ythleekdkbgnabaa M
set_option linter.unusedVariables false
set_option linter.unusedSimpArgs false
attribute [local go_sem high] run_eql2

set_option maxRecDepth 100000 in
set_option maxHeartbeats 4000000 in
theorem walk (a b c : Int) (w : World) (_ : -9223372036854775808 ≤ a ∧ a ≤ 9223372036854775807) (_ : -9223372036854775808 ≤ b ∧ b ≤ 9223372036854775807) (_ : -9223372036854775808 ≤ c ∧ c ≤ 9223372036854775807) : Calls Try.prog 6 #[.int .i64 a, .int .i64 b, .int .i64 c] w fun e w' => e = .returned (.bool true) ∧ Below w.heap.size w w' := by
  have k1 := fun X => Garment_any a b c X
  have k2 := fun X => Garment_ref a b c X
  unfold rtV at k1 k2
  generalize gaX a b c = P at *
  generalize gaY a b c = Q at *
  generalize gaE a b c = N at *
  have s1 : Go.Proofs.Ythleekdkbgnabaa.e2 P.n P.d P.n P.d = true := by simp [Go.Proofs.Ythleekdkbgnabaa.e2]
  have s2 : Go.Proofs.Ythleekdkbgnabaa.e2 Q.n Q.d Q.n Q.d = true := by simp [Go.Proofs.Ythleekdkbgnabaa.e2]
  replace k1 := Lib.hid k1
  replace k2 := Lib.hid k2
  go_enter Try.func6, Try.ntmps6
  go_wp2_with fail
  refine (k1.out _).mono ?_
  rintro e X1 ⟨rfl, hb1⟩
  have hT1 := Two.new X1 P Q
  obtain ⟨Y1, hY1⟩ : ∃ Y, Y = (X1.alloc (.cells #[.int .i64 P.n, .int .i64 P.d] 37)).alloc (.cells #[.int .i64 Q.n, .int .i64 Q.d] 37) := ⟨_, rfl⟩
  rw [← hY1] at hT1
  have z1 := Lib.hid (bel_trans hb1 hT1.below)
  replace hb1 := Lib.hid hb1
  replace hT1 := Lib.hid hT1
  replace hY1 := Lib.hid hY1
  go_wp2_with fail
  rw [← hY1.out]
  refine (k2.out _).mono ?_
  rintro e X2 ⟨rfl, hb2⟩
  have hT1' := hT1.out.up hb2
  have z2 := bel_trans z1.out hb2
  have hT2 := Two.new X2 P Q
  have hT3 := hT1'.up hT2.below
  obtain ⟨Y2, hY2⟩ : ∃ Y, Y = (X2.alloc (.cells #[.int .i64 P.n, .int .i64 P.d] 37)).alloc (.cells #[.int .i64 Q.n, .int .i64 Q.d] 37) := ⟨_, rfl⟩
  rw [← hY2] at hT2 hT3
  have z3 := Lib.hid (bel_trans z2 hT2.below)
  have a0 := hT3.a.c0
  have a1 := hT3.a.c1
  have a2 := hT3.b.c0
  have a3 := hT3.b.c1
  have b0 := hT2.a.c0
  have b1 := hT2.a.c1
  have b2 := hT2.b.c0
  have b3 := hT2.b.c1
  replace hb2 := Lib.hid hb2
  replace hT2 := Lib.hid hT2
  replace hT3 := Lib.hid hT3
  replace hT1' := Lib.hid hT1'
  replace z2 := Lib.hid z2
  have hYY := Lib.hid hY2
  rw [hY2] at a0 a1 a2 a3 b0 b1 b2 b3
  clear hY2
  go_wp2_with fail
  rw [← hYY.out]
  refine (Sane_any _).mono ?_
  rintro e X3 ⟨rfl, hb3⟩
  have z4 := Lib.hid (bel_trans z3.out hb3)
  clear hb3
  go_wp2
  go_ret
  exact ⟨rfl, z4.out⟩

/-! ### the row's step -/
set_option maxRecDepth 100000 in
theorem lifted (os : Os) (started : os.Started) (H : Type) (enc : TypeId × Value → H) :
    ReturnsInHanded {} Try.checked os 6 .any (Rows.fundGarmentsSpec.pre6 enc Try.prog Try.f6 Rows.fundGarmentsRow.domain false) (Rows.fundGarmentsSpec.post enc Try.prog Try.f6 false true false false) := by
  refine returnsInHanded_of_change (C := Try.checked) own started (by kernel_rfl) Try.func6
    (ChangeSpec.witness6 (enc := enc) (C := Try.checked) false ⟨#[], #[.int .i64 0, .int .i64 0, .int .i64 0], []⟩ 8 (by kernel_rfl) (by kernel_rfl) (by kernel_rfl) (by kernel_rfl)) ?_
  intro W base args ds gs before hval0 hW hcnd _
  have hval : ∀ (j : Nat) t v, Try.f6.params[j]? = some t → args[j]? = some v → Value.okWide Try.prog W .any base t v := hval0
  have hW' := hW
  obtain ⟨p, q, hA0, hV, rfl, hfz, hnd⟩ := hW
  have hA : DataW.TrodAll enc Try.prog W 0 (fun _ => true) true Try.f6.params.toList args.toList ds p := hA0
  rw [Try.params6] at hA hval
  obtain ⟨v0, vs0, d0, ds0, p0, q0, hargs, rfl, rfl, h0, r0⟩ := trodAll_cons hA
  obtain ⟨v1, vs1, d1, ds1, p1, q1, rfl, rfl, rfl, h1, r1⟩ := trodAll_cons r0
  obtain ⟨v2, vs2, d2, ds2, p2, q2, rfl, rfl, rfl, h2, r2⟩ := trodAll_cons r1
  obtain ⟨rfl, rfl, rfl⟩ := trodAll_nil r2
  obtain rfl : args = #[v0, v1, v2] := by cases args; simp_all
  obtain ⟨rfl, rfl⟩ := trodVars_none hV
  obtain ⟨a0, rfl, rfl, rfl, w0⟩ := open_int Try.underlying3 (hval 0 3 v0 rfl rfl) h0
  obtain ⟨a1, rfl, rfl, rfl, w1⟩ := open_int Try.underlying3 (hval 1 3 v1 rfl rfl) h1
  obtain ⟨a2, rfl, rfl, rfl, w2⟩ := open_int Try.underlying3 (hval 2 3 v2 rfl rfl) h2
  clear hA0 hval0
  refine (walk a0 a1 a2 W (i64_range w0) (i64_range w1) (i64_range w2)).mono fun e W' ⟨he, bel⟩ => ?_
  subst he
  exact ⟨_, rfl, _, _, _, [], _, [], hW', trodAll_mk1 (shut_bool Try.underlying4 _), (trodAll_cons_mk (shut_int Try.underlying3 w0) (trodAll_cons_mk (shut_int Try.underlying3 w1) (trodAll_cons_mk (shut_int Try.underlying3 w2) trodAll_mk0))), rfl, bel.frame _, fun h => by cases h⟩

theorem over : Rows.fundGarmentsRow.holds Try.pinned (OpenSpec.ofChange Rows.fundGarmentsSpec) :=
  OpenClaim.holds_of_wide 6 Try.f6 rfl rfl rfl rfl rfl rfl rfl ⟨rfl, rfl, rfl, rfl, rfl⟩ rfl rfl rfl rfl rfl (by kernel_rfl) Try.func6 (by kernel_rfl)
    (of_decide_eq_true (by kernel_rfl)) (by unfold Func.isWrapper; first | (rw [if_pos (by decide +kernel)]; kernel_rfl) | (rw [if_neg (by decide +kernel)]; exact ⟨rfl, rfl⟩))
    (fun os started H enc _ => lifted os started H enc)

/-- The statement. -/
theorem proved : Rows.FundGarmentsSaid := over
end Go.Proofs.Ythleekdkbgnabaa.lawFundGarments
