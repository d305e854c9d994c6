/-
  For any claims and four numbers, the law FundMores returns true: by how much an award is greater with a greater claim, and with a claim that is split, is the document's.
  Conditions: none.
-/
import Derived.Test.YthleekdkbgnabaaKa
import Derived.Test.YthleekdkbgnabaaWf
import Derived.Test.YthleekdkbgnabaaXi
namespace Go.Proofs.Ythleekdkbgnabaa.lawFundMores
open Go.Joins Go.ChangeShapes Go.WideShapes Go.ChangeAt Go.RowKit Go.Deep Go.Proofs.Ythleekdkbgnabaa M
set_option linter.unusedVariables false
set_option linter.unusedSimpArgs false
attribute [local go_sem high] run_eql2

set_option maxRecDepth 100000 in
set_option maxHeartbeats 4000000 in
theorem out (A : Option Addr) (c n : Nat) (a0 a1 a2 a3 : Int) (w : World) (hn : n ≤ 9223372036854775807) (hl : 40 < n) :
    Calls Try.prog 8 #[.slice A n c, .agg #[.int .i64 a0, .int .i64 a1, .int .i64 a2, .int .i64 a3]] w fun r w' => r = .returned (.bool true) ∧ Below w.heap.size w w' := by
  have k1 := Long_any A c n (w.alloc (.cells #[.int .i64 a0, .int .i64 a1, .int .i64 a2, .int .i64 a3] 48)) hn
  rw [show decide (40 < (n : Int)) = true from decide_eq_true (by omega)] at k1
  have hb0 := Lib.hid (ba1 w (.cells #[.int .i64 a0, .int .i64 a1, .int .i64 a2, .int .i64 a3] 48))
  replace k1 := Lib.hid k1
  go_enter Try.func8, Try.ntmps8
  go_wp2_with fail
  refine k1.out.mono ?_
  rintro _ X ⟨rfl, rfl⟩
  go_wp2_with fail
  refine (Sane_any _).mono ?_
  rintro _ X2 ⟨rfl, hb⟩
  go_wp2
  go_ret
  exact ⟨rfl, bel_trans hb0.out hb⟩
set_option maxRecDepth 100000 in
set_option maxHeartbeats 4000000 in
theorem inn (A : Option Addr) (c : Nat) (l : List Int) (a0 a1 a2 a3 : Int) (w : World) (h : Row w w.heap.size A l) (hl : ¬ 40 < l.length) (hcap : l.length ≤ c) (hc9 : c ≤ 9223372036854775807) :
    Calls Try.prog 8 #[.slice A l.length c, .agg #[.int .i64 a0, .int .i64 a1, .int .i64 a2, .int .i64 a3]] w fun r w' => r = .returned (.bool true) ∧ Below w.heap.size w w' := by
  have hb0 := ba1 w (.cells #[.int .i64 a0, .int .i64 a1, .int .i64 a2, .int .i64 a3] 48)
  have hx0 := heap_alloc_new w (.cells #[.int .i64 a0, .int .i64 a1, .int .i64 a2, .int .i64 a3] 48)
  obtain ⟨Y0, hY0⟩ : ∃ Y, Y = w.alloc (.cells #[.int .i64 a0, .int .i64 a1, .int .i64 a2, .int .i64 a3] 48) := ⟨_, rfl⟩
  rw [← hY0] at hb0 hx0
  have hcel : ∀ X, Below Y0.heap.size Y0 X → (X.cell? ⟨w.heap.size, 0, none⟩ = some (.int .i64 a0) ∧ X.cell? ⟨w.heap.size, 1, none⟩ = some (.int .i64 a1)) ∧ X.cell? ⟨w.heap.size, 2, none⟩ = some (.int .i64 a2) ∧ X.cell? ⟨w.heap.size, 3, none⟩ = some (.int .i64 a3) := fun X hX => by
    have := (hX.block _ (blk_lt hx0)).trans hx0
    simp [World.cell?, this]
  have k1 := Long_any A c l.length Y0 h.1
  rw [show decide (40 < (l.length : Int)) = false from decide_eq_false (by omega)] at k1
  have hh := fun X (hX : Below w.heap.size w X) => h.below hX
  have a1' := fun X (hX : Below w.heap.size w X) => More_any w.heap.size A c l a0 a1 a2 X (hh X hX) hX.size
  have a2' := fun X (hX : Below w.heap.size w X) => MoreR_any w.heap.size A c l a0 a1 a2 X (hh X hX) hX.size
  have a3' := fun X (hX : Below w.heap.size w X) => Split_any w.heap.size A c l a0 a1 a2 a3 X (hh X hX) hX.size hcap hc9
  have a4' := fun X (hX : Below w.heap.size w X) => SplitR_any w.heap.size A c l a0 a1 a2 a3 X (hh X hX) hX.size hcap hc9
  have b1 := a1' Y0 hb0
  unfold rtV at *
  generalize moR l a0 a1 a2 = P at *
  generalize spR l a0 a1 a2 a3 = Q at *
  generalize moE l a0 a1 a2 = E1 at *
  generalize spE l a0 a1 a2 a3 = E2 at *
  generalize l.length = n at *
  have s1 : Go.Proofs.Ythleekdkbgnabaa.e2 P.n P.d P.n P.d = true := by simp [Go.Proofs.Ythleekdkbgnabaa.e2]
  have s2 : Go.Proofs.Ythleekdkbgnabaa.e2 Q.n Q.d Q.n Q.d = true := by simp [Go.Proofs.Ythleekdkbgnabaa.e2]
  replace k1 := Lib.hid k1
  replace hh := Lib.hid hh
  replace a1' := Lib.hid a1'
  replace a2' := Lib.hid a2'
  replace a3' := Lib.hid a3'
  replace a4' := Lib.hid a4'
  obtain ⟨⟨p00, p01⟩, p02, p03⟩ := hcel Y0 (Below.refl _ _)
  replace b1 := Lib.hid b1
  replace hcel := Lib.hid hcel
  replace hb0 := Lib.hid hb0
  replace hx0 := Lib.hid hx0
  have hYY := Lib.hid hY0
  clear hY0
  replace h := Lib.hid h
  go_enter Try.func8, Try.ntmps8
  go_wp2_with fail
  rw [← hYY.out]
  refine k1.out.mono ?_
  rintro _ X ⟨rfl, rfl⟩
  go_wp2_with fail
  refine b1.out.mono ?_
  rintro _ X1 ⟨rfl, hb1⟩
  have z1 := hb1
  have hn1 := ba1 X1 (.cells #[.int .i64 P.n, .int .i64 P.d] 37)
  have x11 := Bxr.new X1 P.n P.d
  have y1 := bel_trans z1 hn1
  obtain ⟨Y1, hY1⟩ : ∃ Y, Y = X1.alloc (.cells #[.int .i64 P.n, .int .i64 P.d] 37) := ⟨_, rfl⟩
  rw [← hY1] at y1
  rw [← hY1] at x11
  have b2 := Lib.hid (a2'.out Y1 (bel_trans hb0.out y1))
  obtain ⟨⟨p10, p11⟩, p12, p13⟩ := hcel.out Y1 y1
  rw [hY1] at p10 p11 p12 p13
  replace x11 := Lib.hid x11
  replace y1 := Lib.hid y1
  replace z1 := Lib.hid z1
  replace hn1 := Lib.hid hn1
  replace hb1 := Lib.hid hb1
  replace hY1 := Lib.hid hY1
  go_wp2_with fail
  rw [← hY1.out]
  refine b2.out.mono ?_
  rintro _ X2 ⟨rfl, hb2⟩
  have z2 := bel_trans y1.out hb2
  have x12 := x11.out.up hb2
  have hn2 := ba1 X2 (.cells #[.int .i64 P.n, .int .i64 P.d] 37)
  have x22 := Bxr.new X2 P.n P.d
  replace x12 := x12.up hn2
  have y2 := bel_trans z2 hn2
  obtain ⟨Y2, hY2⟩ : ∃ Y, Y = X2.alloc (.cells #[.int .i64 P.n, .int .i64 P.d] 37) := ⟨_, rfl⟩
  rw [← hY2] at y2
  rw [← hY2] at x12 x22
  have b3 := Lib.hid (a3'.out Y2 (bel_trans hb0.out y2))
  obtain ⟨⟨p20, p21⟩, p22, p23⟩ := hcel.out Y2 y2
  rw [hY2] at p20 p21 p22 p23
  replace x12 := Lib.hid x12
  replace x22 := Lib.hid x22
  replace y2 := Lib.hid y2
  replace z2 := Lib.hid z2
  replace hn2 := Lib.hid hn2
  replace hb2 := Lib.hid hb2
  replace hY2 := Lib.hid hY2
  go_wp2_with fail
  rw [← hY2.out]
  refine b3.out.mono ?_
  rintro _ X3 ⟨rfl, hb3⟩
  have z3 := bel_trans y2.out hb3
  have x13 := x12.out.up hb3
  have x23 := x22.out.up hb3
  have hn3 := ba1 X3 (.cells #[.int .i64 Q.n, .int .i64 Q.d] 37)
  have x33 := Bxr.new X3 Q.n Q.d
  replace x13 := x13.up hn3
  replace x23 := x23.up hn3
  have y3 := bel_trans z3 hn3
  obtain ⟨Y3, hY3⟩ : ∃ Y, Y = X3.alloc (.cells #[.int .i64 Q.n, .int .i64 Q.d] 37) := ⟨_, rfl⟩
  rw [← hY3] at y3
  rw [← hY3] at x13 x23 x33
  have b4 := Lib.hid (a4'.out Y3 (bel_trans hb0.out y3))
  obtain ⟨⟨p30, p31⟩, p32, p33⟩ := hcel.out Y3 y3
  rw [hY3] at p30 p31 p32 p33
  replace x13 := Lib.hid x13
  replace x23 := Lib.hid x23
  replace x33 := Lib.hid x33
  replace y3 := Lib.hid y3
  replace z3 := Lib.hid z3
  replace hn3 := Lib.hid hn3
  replace hb3 := Lib.hid hb3
  replace hY3 := Lib.hid hY3
  go_wp2_with fail
  rw [← hY3.out]
  refine b4.out.mono ?_
  rintro _ X4 ⟨rfl, hb4⟩
  have z4 := bel_trans y3.out hb4
  have x14 := x13.out.up hb4
  have x24 := x23.out.up hb4
  have x34 := x33.out.up hb4
  have hn4 := ba1 X4 (.cells #[.int .i64 Q.n, .int .i64 Q.d] 37)
  have x44 := Bxr.new X4 Q.n Q.d
  replace x14 := x14.up hn4
  replace x24 := x24.up hn4
  replace x34 := x34.up hn4
  have y4 := bel_trans z4 hn4
  obtain ⟨Y4, hY4⟩ : ∃ Y, Y = X4.alloc (.cells #[.int .i64 Q.n, .int .i64 Q.d] 37) := ⟨_, rfl⟩
  rw [← hY4] at y4
  rw [← hY4] at x14 x24 x34 x44
  have c1 := x14.c0
  have d1 := x14.c1
  have c2 := x24.c0
  have d2 := x24.c1
  have c3 := x34.c0
  have d3 := x34.c1
  have c4 := x44.c0
  have d4 := x44.c1
  rw [hY4] at c1 d1 c2 d2 c3 d3 c4 d4
  replace x14 := Lib.hid x14
  replace x24 := Lib.hid x24
  replace x34 := Lib.hid x34
  replace x44 := Lib.hid x44
  replace y4 := Lib.hid y4
  replace z4 := Lib.hid z4
  replace hn4 := Lib.hid hn4
  replace hb4 := Lib.hid hb4
  replace hY4 := Lib.hid hY4
  go_wp2_with fail
  rw [← hY4.out]
  refine (Sane_any _).mono ?_
  rintro _ X5 ⟨rfl, hb5⟩
  have z5 := Lib.hid (bel_trans y4.out hb5)
  clear hb5
  go_wp2
  go_ret
  exact ⟨rfl, bel_trans hb0.out z5.out⟩
theorem walk (A : Option Addr) (c : Nat) (l : List Int) (a0 a1 a2 a3 : Int) (w : World) (h : Row w w.heap.size A l ∧ l.length ≤ c ∧ c ≤ 9223372036854775807) :
    Calls Try.prog 8 #[.slice A l.length c, .agg #[.int .i64 a0, .int .i64 a1, .int .i64 a2, .int .i64 a3]] w fun r w' => r = .returned (.bool true) ∧ Below w.heap.size w w' := by
  by_cases hl : 40 < l.length
  · exact out A c l.length a0 a1 a2 a3 w h.1.1 hl
  · exact inn A c l a0 a1 a2 a3 w h.1 hl h.2.1 h.2.2

/-! ### the row's step -/
set_option maxRecDepth 100000 in
theorem lifted (os : Os) (started : os.Started) (H : Type) (enc : TypeId × Value → H) :
    ReturnsInHanded {} Try.checked os 8 .any (Rows.fundMoresSpec.pre6 enc Try.prog Try.f8 Rows.fundMoresRow.domain false) (Rows.fundMoresSpec.post enc Try.prog Try.f8 false true false false) := by
  refine returnsInHanded_of_change (C := Try.checked) own started (by kernel_rfl) Try.func8
    (ChangeSpec.witness6 (enc := enc) (C := Try.checked) false ⟨#[], #[.slice none 0 0, .agg #[.int .i64 0, .int .i64 0, .int .i64 0, .int .i64 0]], []⟩ 8 (by kernel_rfl) (by kernel_rfl) (by kernel_rfl) (by kernel_rfl)) ?_
  intro W base args ds gs before hval0 hW hcnd _
  have hval : ∀ (j : Nat) t v, Try.f8.params[j]? = some t → args[j]? = some v → Value.okWide Try.prog W .any base t v := hval0
  have hW' := hW
  obtain ⟨p, q, hA0, hV, rfl, hfz, hnd⟩ := hW
  have hA : DataW.TrodAll enc Try.prog W 0 (fun _ => true) true Try.f8.params.toList args.toList ds p := hA0
  rw [Try.params8] at hA hval
  obtain ⟨v0, vs0, d0, ds0, p0, q0, hargs, rfl, rfl, h0, r0⟩ := trodAll_cons hA
  obtain ⟨v1, vs1, d1, ds1, p1, q1, rfl, rfl, rfl, h1, r1⟩ := trodAll_cons r0
  obtain ⟨rfl, rfl, rfl⟩ := trodAll_nil r1
  obtain rfl : args = #[v0, v1] := by cases args; simp_all
  obtain ⟨rfl, rfl⟩ := trodVars_none hV
  have k0 := h0
  have lt0 : ∀ x ∈ p0, x.block < W.heap.size := by obtain ⟨m, hm⟩ := k0; exact DataW.trod_lt m _ _ _ hm
  obtain ⟨a0, len0, cap0, T0, rfl, rfl, w0⟩ : ∃ A len cap D, v0 = .slice A len cap ∧ D.length = len ∧ Row W W.heap.size A D ∧ D.length ≤ cap ∧ cap ≤ 9223372036854775807 := by
    obtain ⟨s0, s1, s2, rfl⟩ := okWide_slice Try.underlying22 (hval 0 22 v0 rfl rfl)
    obtain ⟨fuel, hf⟩ := h0
    obtain ⟨A, len, cap, D, e1, e2, e3, e4, e5⟩ := row_cap9 (by simpa [Value.cells] using hf)
    exact ⟨A, len, cap, D, e1, e2, e3, by omega, e5⟩
  have k1 := h1
  have lt1 : ∀ x ∈ p1, x.block < W.heap.size := by obtain ⟨m, hm⟩ := k1; exact DataW.trod_lt m _ _ _ hm
  obtain ⟨x10, x11, x12, x13, rfl⟩ := arr4_in (hval 1 48 v1 rfl rfl) h1
  clear hA0 hval0
  refine (walk a0 cap0 T0 x10 x11 x12 x13 W w0).mono fun e W' ⟨he, bel⟩ => ?_
  subst he
  exact ⟨_, rfl, _, _, _, [], _, [], hW', trodAll_mk1 (shut_bool Try.underlying4 _), (trodAll_cons_mk (Below.trod laidOut (by kernel_rfl) (of_decide_eq_true (by kernel_rfl)) k0 bel lt0) (trodAll_cons_mk (Below.trod laidOut (by kernel_rfl) (of_decide_eq_true (by kernel_rfl)) k1 bel lt1) trodAll_mk0)), rfl, bel.frame _, fun h => by cases h⟩

theorem over : Rows.fundMoresRow.holds Try.pinned (OpenSpec.ofChange Rows.fundMoresSpec) :=
  OpenClaim.holds_of_wide 8 Try.f8 rfl rfl rfl rfl rfl rfl rfl ⟨rfl, rfl, rfl, rfl, rfl⟩ rfl rfl rfl rfl rfl (by kernel_rfl) Try.func8 (by kernel_rfl)
    (of_decide_eq_true (by kernel_rfl)) (by unfold Func.isWrapper; first | (rw [if_pos (by decide +kernel)]; kernel_rfl) | (rw [if_neg (by decide +kernel)]; exact ⟨rfl, rfl⟩))
    (fun os started H enc _ => lifted os started H enc)

/-- The statement. -/
theorem proved : Rows.FundMoresSaid := over
end Go.Proofs.Ythleekdkbgnabaa.lawFundMores
