/-
  For any claims, estate and rule, the law FundShares returns true: which claims are valid, the awards by the rule, and what is missing are the document's.
  Conditions: none.
-/
import Derived.Test.YthleekdkbgnabaaK
import Derived.Test.YthleekdkbgnabaaT
namespace Go.Proofs.Ythleekdkbgnabaa.lawFundShares
open Go.Joins Go.ChangeShapes Go.WideShapes Go.ChangeAt Go.RowKit Go.Deep Go.Proofs.Ythleekdkbgnabaa M
set_option linter.unusedVariables false
set_option linter.unusedSimpArgs false

set_option maxRecDepth 100000 in
set_option maxHeartbeats 4000000 in
theorem out (A : Option Addr) (c n : Nat) (e q : Int) (w : World) (hn : n ≤ 9223372036854775807) (hl : 40 < n) :
    Calls Try.prog 3 #[.slice A n c, .int .i64 e, .int .i64 q] w fun r w' => r = .returned (.bool true) ∧ Below w.heap.size w w' := by
  have k1 := Long_any A c n w hn
  rw [show decide (40 < (n : Int)) = true from decide_eq_true (by omega)] at k1
  replace k1 := Lib.hid k1
  go_enter Try.func3, Try.ntmps3
  go_wp2_with fail
  refine k1.out.mono ?_
  rintro _ X ⟨rfl, rfl⟩
  go_wp2_with fail
  refine (Sane_any _).mono ?_
  rintro _ X2 ⟨rfl, hb⟩
  go_wp2
  go_ret
  exact ⟨rfl, hb⟩
set_option maxRecDepth 100000 in
set_option maxHeartbeats 4000000 in
theorem inn (A : Option Addr) (c : Nat) (l : List Int) (e q : Int) (w : World) (h : Row w w.heap.size A l) (hl : ¬ 40 < l.length) :
    Calls Try.prog 3 #[.slice A l.length c, .int .i64 e, .int .i64 q] w fun r w' => r = .returned (.bool true) ∧ Below w.heap.size w w' := by
  have k1 := Long_any A c l.length w h.1
  rw [show decide (40 < (l.length : Int)) = false from decide_eq_false (by omega)] at k1
  have hh := fun X (hX : Below w.heap.size w X) => h.below hX
  have a1 := Share_any w.heap.size A c l e q w h (Nat.le_refl _)
  have a2 := fun X (hX : Below w.heap.size w X) => Share_ref w.heap.size A c l e q X (hh X hX) hX.size
  have a3 := fun X (hX : Below w.heap.size w X) => Missing_any w.heap.size A c l e X (hh X hX)
  have a4 := fun X (hX : Below w.heap.size w X) => Missing_ref w.heap.size A c l e X (hh X hX)
  have a5 := fun X (hX : Below w.heap.size w X) => Valid_any w.heap.size A c l X (hh X hX)
  have a6 := fun X (hX : Below w.heap.size w X) => Valid_ref w.heap.size A c l X (hh X hX)
  have hN : shN l e q ≤ 1000 := by unfold shN; split <;> omega
  unfold ShR at a1 a2
  generalize shN l e q = N at *
  generalize shR l e q = f at *
  generalize errS l e q = E at *
  generalize misR l e = m at *
  generalize errC l e = C at *
  generalize valB l = v at *
  generalize l.length = n at *
  have a7 := fun X A A' c c' h h' => same_true A A' N c c' f X h h' hN
  replace k1 := Lib.hid k1
  replace hh := Lib.hid hh
  replace a1 := Lib.hid a1
  replace a2 := Lib.hid a2
  replace a3 := Lib.hid a3
  replace a4 := Lib.hid a4
  replace a5 := Lib.hid a5
  replace a6 := Lib.hid a6
  replace a7 := Lib.hid a7
  replace h := Lib.hid h
  go_enter Try.func3, Try.ntmps3
  go_wp2_with fail
  refine k1.out.mono ?_
  rintro _ X ⟨rfl, rfl⟩
  go_wp2_with fail
  refine a1.out.mono ?_
  rintro _ X1 ⟨A1, N1, c1, rfl, hb1, rfl, f1⟩
  have b2 := Lib.hid (a2.out X1 hb1)
  replace hb1 := Lib.hid hb1
  replace f1 := Lib.hid f1
  go_wp2_with fail
  refine b2.out.mono ?_
  rintro _ X2 ⟨A2, N2, c2, rfl, hb2, rfl, f2⟩
  have z2 := bel_trans hb1.out hb2
  have g1 := f1.out.up hb2
  have b3 := Lib.hid (a3.out X2 z2)
  have b4 := Lib.hid (a4.out X2 z2)
  have b5 := Lib.hid (a5.out X2 z2)
  have b6 := Lib.hid (a6.out X2 z2)
  have b7 := Lib.hid (a7.out X2 A1 A2 c1 c2 g1 f2)
  replace hb2 := Lib.hid hb2
  replace z2 := Lib.hid z2
  replace f2 := Lib.hid f2
  replace g1 := Lib.hid g1
  go_wp2_with fail
  refine b3.out.mono ?_
  rintro _ X3 ⟨rfl, rfl⟩
  go_wp2_with fail
  refine b4.out.mono ?_
  rintro _ X3 ⟨rfl, rfl⟩
  go_wp2_with fail
  refine b5.out.mono ?_
  rintro _ X3 ⟨rfl, rfl⟩
  go_wp2_with fail
  refine b6.out.mono ?_
  rintro _ X3 ⟨rfl, rfl⟩
  go_wp2_with fail
  refine b7.out.mono ?_
  rintro _ X4 ⟨rfl, hb4⟩
  have z4 := Lib.hid (bel_trans z2.out hb4)
  clear hb4
  go_wp2_with fail
  refine (Sane_any _).mono ?_
  rintro _ X5 ⟨rfl, hb5⟩
  have z5 := Lib.hid (bel_trans z4.out hb5)
  clear hb5
  go_wp2
  go_ret
  exact ⟨rfl, z5.out⟩
theorem walk (A : Option Addr) (c : Nat) (l : List Int) (e q : Int) (w : World) (h : Row w w.heap.size A l) (_ : -9223372036854775808 ≤ e ∧ e ≤ 9223372036854775807) (_ : -9223372036854775808 ≤ q ∧ q ≤ 9223372036854775807) :
    Calls Try.prog 3 #[.slice A l.length c, .int .i64 e, .int .i64 q] w fun r w' => r = .returned (.bool true) ∧ Below w.heap.size w w' := by
  by_cases hl : 40 < l.length
  · exact out A c l.length e q w h.1 hl
  · exact inn A c l e q w h hl

/-! ### the row's step -/
set_option maxRecDepth 100000 in
theorem lifted (os : Os) (started : os.Started) (H : Type) (enc : TypeId × Value → H) :
    ReturnsInHanded {} Try.checked os 3 .any (Rows.fundSharesSpec.pre6 enc Try.prog Try.f3 Rows.fundSharesRow.domain false) (Rows.fundSharesSpec.post enc Try.prog Try.f3 false true false false) := by
  refine returnsInHanded_of_change (C := Try.checked) own started (by kernel_rfl) Try.func3
    (ChangeSpec.witness6 (enc := enc) (C := Try.checked) false ⟨#[], #[.slice none 0 0, .int .i64 0, .int .i64 0], []⟩ 8 (by kernel_rfl) (by kernel_rfl) (by kernel_rfl) (by kernel_rfl)) ?_
  intro W base args ds gs before hval0 hW hcnd _
  have hval : ∀ (j : Nat) t v, Try.f3.params[j]? = some t → args[j]? = some v → Value.okWide Try.prog W .any base t v := hval0
  have hW' := hW
  obtain ⟨p, q, hA0, hV, rfl, hfz, hnd⟩ := hW
  have hA : DataW.TrodAll enc Try.prog W 0 (fun _ => true) true Try.f3.params.toList args.toList ds p := hA0
  rw [Try.params3] at hA hval
  obtain ⟨v0, vs0, d0, ds0, p0, q0, hargs, rfl, rfl, h0, r0⟩ := trodAll_cons hA
  obtain ⟨v1, vs1, d1, ds1, p1, q1, rfl, rfl, rfl, h1, r1⟩ := trodAll_cons r0
  obtain ⟨v2, vs2, d2, ds2, p2, q2, rfl, rfl, rfl, h2, r2⟩ := trodAll_cons r1
  obtain ⟨rfl, rfl, rfl⟩ := trodAll_nil r2
  obtain rfl : args = #[v0, v1, v2] := by cases args; simp_all
  obtain ⟨rfl, rfl⟩ := trodVars_none hV
  have k0 := h0
  have lt0 : ∀ x ∈ p0, x.block < W.heap.size := by obtain ⟨m, hm⟩ := k0; exact DataW.trod_lt m _ _ _ hm
  obtain ⟨a0, len0, cap0, T0, rfl, rfl, w0⟩ : ∃ A len cap D, v0 = .slice A len cap ∧ D.length = len ∧ Row W W.heap.size A D := by
    obtain ⟨s0, s1, s2, rfl⟩ := okWide_slice Try.underlying22 (hval 0 22 v0 rfl rfl)
    obtain ⟨fuel, hf⟩ := h0
    exact row_of (by simpa [Value.cells] using hf)
  obtain ⟨a1, rfl, rfl, rfl, w1⟩ := open_int Try.underlying3 (hval 1 3 v1 rfl rfl) h1
  obtain ⟨a2, rfl, rfl, rfl, w2⟩ := open_int Try.underlying3 (hval 2 3 v2 rfl rfl) h2
  clear hA0 hval0
  refine (walk a0 cap0 T0 a1 a2 W w0 (i64_range w1) (i64_range w2)).mono fun e W' ⟨he, bel⟩ => ?_
  subst he
  exact ⟨_, rfl, _, _, _, [], _, [], hW', trodAll_mk1 (shut_bool Try.underlying4 _), (trodAll_cons_mk (Below.trod laidOut (by kernel_rfl) (of_decide_eq_true (by kernel_rfl)) k0 bel lt0) (trodAll_cons_mk (shut_int Try.underlying3 w1) (trodAll_cons_mk (shut_int Try.underlying3 w2) trodAll_mk0))), rfl, bel.frame _, fun h => by cases h⟩

theorem over : Rows.fundSharesRow.holds Try.pinned (OpenSpec.ofChange Rows.fundSharesSpec) :=
  OpenClaim.holds_of_wide 3 Try.f3 rfl rfl rfl rfl rfl rfl rfl ⟨rfl, rfl, rfl, rfl, rfl⟩ rfl rfl rfl rfl rfl (by kernel_rfl) Try.func3 (by kernel_rfl)
    (of_decide_eq_true (by kernel_rfl)) (by unfold Func.isWrapper; first | (rw [if_pos (by decide +kernel)]; kernel_rfl) | (rw [if_neg (by decide +kernel)]; exact ⟨rfl, rfl⟩))
    (fun os started H enc _ => lifted os started H enc)

/-- The statement. -/
theorem proved : Rows.FundSharesSaid := over
end Go.Proofs.Ythleekdkbgnabaa.lawFundShares
