/-
  For any claims, estate and awards, the law FundChecks returns true: whether awards share the estate, and whether they agree, is as the document says.
  Conditions: none.
-/
import Derived.Test.YthleekdkbgnabaaK
import Derived.Test.YthleekdkbgnabaaAl
namespace Go.Proofs.Ythleekdkbgnabaa.lawFundChecks
open Go.Joins Go.ChangeShapes Go.WideShapes Go.ChangeAt Go.RowKit Go.Deep Go.Proofs.Ythleekdkbgnabaa M
set_option linter.unusedVariables false
set_option linter.unusedSimpArgs false

set_option maxRecDepth 100000 in
set_option maxHeartbeats 4000000 in
theorem out (A Aw : Option Addr) (c n cw m : Nat) (e : Int) (w : World) (hn : n ≤ 9223372036854775807) (hl : 40 < n) :
    Calls Try.prog 4 #[.slice A n c, .int .i64 e, .slice Aw m cw] w fun r w' => r = .returned (.bool true) ∧ Below w.heap.size w w' := by
  have k1 := Long_any A c n w hn
  rw [show decide (40 < (n : Int)) = true from decide_eq_true (by omega)] at k1
  replace k1 := Lib.hid k1
  go_enter Try.func4, Try.ntmps4
  go_wp2_with fail
  refine k1.out.mono ?_
  rintro _ X ⟨rfl, rfl⟩
  go_wp2_with fail
  refine (Sane_any _).mono ?_
  rintro _ X2 ⟨rfl, hb⟩
  go_wp2
  go_ret
  exact ⟨rfl, hb⟩
set_option maxRecDepth 100000 in
set_option maxHeartbeats 4000000 in
theorem out2 (A Aw : Option Addr) (c n cw m : Nat) (e : Int) (w : World) (hn : n ≤ 9223372036854775807) (hl : ¬ 40 < n) (hm : 40 < m) :
    Calls Try.prog 4 #[.slice A n c, .int .i64 e, .slice Aw m cw] w fun r w' => r = .returned (.bool true) ∧ Below w.heap.size w w' := by
  have k1 := Long_any A c n w hn
  rw [show decide (40 < (n : Int)) = false from decide_eq_false (by omega)] at k1
  replace k1 := Lib.hid k1
  have hm2 : (40 : Int) < m := by omega
  replace hl := Lib.hid hl
  go_enter Try.func4, Try.ntmps4
  go_wp2_with fail
  refine k1.out.mono ?_
  rintro _ X ⟨rfl, rfl⟩
  go_wp2_with fail
  refine (Sane_any _).mono ?_
  rintro _ X2 ⟨rfl, hb⟩
  go_wp2
  go_ret
  exact ⟨rfl, hb⟩
set_option maxRecDepth 100000 in
set_option maxHeartbeats 4000000 in
theorem inn (A Aw : Option Addr) (c cw : Nat) (l : List Int) (e : Int) (D : List Rt) (w : World) (h : Row w w.heap.size A l) (ho : Rts w w.heap.size Aw D) (hl : ¬ 40 < l.length) (hm : ¬ 40 < D.length) :
    Calls Try.prog 4 #[.slice A l.length c, .int .i64 e, .slice Aw D.length cw] w fun r w' => r = .returned (.bool true) ∧ Below w.heap.size w w' := by
  have k1 := Long_any A c l.length w h.1
  rw [show decide (40 < (l.length : Int)) = false from decide_eq_false (by omega)] at k1
  have a1 := Shares_any A Aw c cw l e D w h ho (by omega)
  have a2 := fun X (hX : Below w.heap.size w X) => SharesR_any A Aw c cw l e D X (h.up hX) (ho.up hX) (by omega) (by omega)
  have a3 := fun X (hX : Below w.heap.size w X) => Agrees_any A Aw c cw l e D X (h.up hX) (ho.up hX) (by omega)
  have a4 := fun X (hX : Below w.heap.size w X) => AgreesR_any A Aw c cw l e D X (h.up hX) (ho.up hX) (by omega) (by omega)
  have hm2 : ¬ (40 : Int) < D.length := by omega
  generalize shaB l e D = P at *
  generalize agB l e D = Q at *
  generalize errA l e D = E at *
  generalize l.length = n at *
  generalize D.length = m at *
  have s1 : (P == P) = true := by simp
  have s2 : (Q == Q) = true := by simp
  have s3 : (E == E) = true := by simp
  replace k1 := Lib.hid k1
  replace a1 := Lib.hid a1
  replace a2 := Lib.hid a2
  replace a3 := Lib.hid a3
  replace a4 := Lib.hid a4
  replace h := Lib.hid h
  replace ho := Lib.hid ho
  go_enter Try.func4, Try.ntmps4
  go_wp2_with fail
  refine k1.out.mono ?_
  rintro _ X ⟨rfl, rfl⟩
  go_wp2_with fail
  refine a1.out.mono ?_
  rintro _ X1 ⟨rfl, hb1⟩
  have b2 := Lib.hid (a2.out X1 hb1)
  replace hb1 := Lib.hid hb1
  go_wp2_with fail
  refine b2.out.mono ?_
  rintro _ X2 ⟨rfl, hb2⟩
  have z2 := bel_trans hb1.out hb2
  have b3 := Lib.hid (a3.out X2 z2)
  replace hb2 := Lib.hid hb2
  replace z2 := Lib.hid z2
  go_wp2_with fail
  refine b3.out.mono ?_
  rintro _ X3 ⟨rfl, hb3⟩
  have z3 := bel_trans z2.out hb3
  have b4 := Lib.hid (a4.out X3 z3)
  replace hb3 := Lib.hid hb3
  replace z3 := Lib.hid z3
  go_wp2_with fail
  refine b4.out.mono ?_
  rintro _ X4 ⟨rfl, hb4⟩
  have z4 := Lib.hid (bel_trans z3.out hb4)
  replace hb4 := Lib.hid hb4
  go_wp2_with fail
  refine (Sane_any _).mono ?_
  rintro _ X7 ⟨rfl, hb7⟩
  have z7 := Lib.hid (bel_trans z4.out hb7)
  clear hb7
  go_wp2
  go_ret
  exact ⟨rfl, z7.out⟩
theorem walk (A : Option Addr) (c : Nat) (l : List Int) (e : Int) (Aw : Option Addr) (cw : Nat) (D : List Rt) (w : World) (h : Row w w.heap.size A l) (_ : -9223372036854775808 ≤ e ∧ e ≤ 9223372036854775807) (ho : Rts w w.heap.size Aw D) :
    Calls Try.prog 4 #[.slice A l.length c, .int .i64 e, .slice Aw D.length cw] w fun r w' => r = .returned (.bool true) ∧ Below w.heap.size w w' := by
  by_cases hl : 40 < l.length
  · exact out A Aw c l.length cw D.length e w h.1 hl
  · by_cases hm : 40 < D.length
    · exact out2 A Aw c l.length cw D.length e w h.1 hl hm
    · exact inn A Aw c cw l e D w h ho hl hm

/-! ### the row's step -/
set_option maxRecDepth 100000 in
theorem lifted (os : Os) (started : os.Started) (H : Type) (enc : TypeId × Value → H) :
    ReturnsInHanded {} Try.checked os 4 .any (Rows.fundChecksSpec.pre6 enc Try.prog Try.f4 Rows.fundChecksRow.domain false) (Rows.fundChecksSpec.post enc Try.prog Try.f4 false true false false) := by
  refine returnsInHanded_of_change (C := Try.checked) own started (by kernel_rfl) Try.func4
    (ChangeSpec.witness6 (enc := enc) (C := Try.checked) false ⟨#[], #[.slice none 0 0, .int .i64 0, .slice none 0 0], []⟩ 8 (by kernel_rfl) (by kernel_rfl) (by kernel_rfl) (by kernel_rfl)) ?_
  intro W base args ds gs before hval0 hW hcnd _
  have hval : ∀ (j : Nat) t v, Try.f4.params[j]? = some t → args[j]? = some v → Value.okWide Try.prog W .any base t v := hval0
  have hW' := hW
  obtain ⟨p, q, hA0, hV, rfl, hfz, hnd⟩ := hW
  have hA : DataW.TrodAll enc Try.prog W 0 (fun _ => true) true Try.f4.params.toList args.toList ds p := hA0
  rw [Try.params4] at hA hval
  obtain ⟨v0, vs0, d0, ds0, p0, q0, hargs, rfl, rfl, h0, r0⟩ := trodAll_cons hA
  obtain ⟨v1, vs1, d1, ds1, p1, q1, rfl, rfl, rfl, h1, r1⟩ := trodAll_cons r0
  obtain ⟨v2, vs2, d2, ds2, p2, q2, rfl, rfl, rfl, h2, r2⟩ := trodAll_cons r1
  obtain ⟨rfl, rfl, rfl⟩ := trodAll_nil r2
  obtain rfl : args = #[v0, v1, v2] := by cases args; simp_all
  obtain ⟨rfl, rfl⟩ := trodVars_none hV
  have k0 := h0
  have lt0 : ∀ x ∈ p0, x.block < W.heap.size := by obtain ⟨m, hm⟩ := k0; exact DataW.trod_lt m _ _ _ hm
  obtain ⟨a0, len0, cap0, T0, rfl, rfl, w0⟩ : ∃ A len cap D, v0 = .slice A len cap ∧ D.length = len ∧ Row W W.heap.size A D := by
    obtain ⟨s0, s1, s2, rfl⟩ := okWide_slice Try.underlying22 (hval 0 22 v0 rfl rfl)
    obtain ⟨fuel, hf⟩ := h0
    exact row_of (by simpa [Value.cells] using hf)
  obtain ⟨a1, rfl, rfl, rfl, w1⟩ := open_int Try.underlying3 (hval 1 3 v1 rfl rfl) h1
  have k2 := h2
  have lt2 : ∀ x ∈ p2, x.block < W.heap.size := by obtain ⟨m, hm⟩ := k2; exact DataW.trod_lt m _ _ _ hm
  obtain ⟨a2, len2, cap2, T2, rfl, rfl, w2⟩ : ∃ A len cap D, v2 = .slice A len cap ∧ D.length = len ∧ Rts W W.heap.size A D := by
    obtain ⟨s0, s1, s2, rfl⟩ := okWide_slice Try.underlying25 (hval 2 25 v2 rfl rfl)
    obtain ⟨fuel, hf⟩ := h2
    obtain ⟨A, len, cap, D, e1, e2, e3, _⟩ := rts_of (by simpa [Value.cells] using hf)
    exact ⟨A, len, cap, D, e1, e2, e3⟩
  clear hA0 hval0
  refine (walk a0 cap0 T0 a1 a2 cap2 T2 W w0 (i64_range w1) w2).mono fun e W' ⟨he, bel⟩ => ?_
  subst he
  exact ⟨_, rfl, _, _, _, [], _, [], hW', trodAll_mk1 (shut_bool Try.underlying4 _), (trodAll_cons_mk (Below.trod laidOut (by kernel_rfl) (of_decide_eq_true (by kernel_rfl)) k0 bel lt0) (trodAll_cons_mk (shut_int Try.underlying3 w1) (trodAll_cons_mk (Below.trod laidOut (by kernel_rfl) (of_decide_eq_true (by kernel_rfl)) k2 bel lt2) trodAll_mk0))), rfl, bel.frame _, fun h => by cases h⟩

theorem over : Rows.fundChecksRow.holds Try.pinned (OpenSpec.ofChange Rows.fundChecksSpec) :=
  OpenClaim.holds_of_wide 4 Try.f4 rfl rfl rfl rfl rfl rfl rfl ⟨rfl, rfl, rfl, rfl, rfl⟩ rfl rfl rfl rfl rfl (by kernel_rfl) Try.func4 (by kernel_rfl)
    (of_decide_eq_true (by kernel_rfl)) (by unfold Func.isWrapper; first | (rw [if_pos (by decide +kernel)]; kernel_rfl) | (rw [if_neg (by decide +kernel)]; exact ⟨rfl, rfl⟩))
    (fun os started H enc _ => lifted os started H enc)

/-- The statement. -/
theorem proved : Rows.FundChecksSaid := over
end Go.Proofs.Ythleekdkbgnabaa.lawFundChecks
