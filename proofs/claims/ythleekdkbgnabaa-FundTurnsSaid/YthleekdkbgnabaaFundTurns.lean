/-
  For any claims, order and estate, the law FundTurns returns true: what claimants get who come in an order, and the mean over all orders, are the document's.
  Conditions: none.
-/
import Derived.Test.YthleekdkbgnabaaK
import Derived.Test.YthleekdkbgnabaaTf
import Derived.Test.YthleekdkbgnabaaTk
namespace Go.Proofs.Ythleekdkbgnabaa.lawFundTurns
open Go.Joins Go.ChangeShapes Go.WideShapes Go.ChangeAt Go.RowKit Go.Deep Go.Proofs.Ythleekdkbgnabaa M
set_option linter.unusedVariables false
set_option linter.unusedSimpArgs false

set_option maxRecDepth 100000 in
set_option maxHeartbeats 4000000 in
theorem out (A Ao : Option Addr) (c n co m : Nat) (e : Int) (w : World) (hn : n ≤ 9223372036854775807) (hl : 40 < n) :
    Calls Try.prog 9 #[.slice A n c, .slice Ao m co, .int .i64 e] w fun r w' => r = .returned (.bool true) ∧ Below w.heap.size w w' := by
  have k1 := Long_any A c n w hn
  rw [show decide (40 < (n : Int)) = true from decide_eq_true (by omega)] at k1
  replace k1 := Lib.hid k1
  go_enter Try.func9, Try.ntmps9
  go_wp2_with fail
  refine k1.out.mono ?_
  rintro _ X ⟨rfl, rfl⟩
  go_wp2_with fail
  refine (Sane_any _).mono ?_
  rintro _ X2 ⟨rfl, hb⟩
  go_wp2
  go_ret
  exact ⟨rfl, hb⟩
set_option maxRecDepth 100000 in
set_option maxHeartbeats 4000000 in
theorem out2 (A Ao : Option Addr) (c n co m : Nat) (e : Int) (w : World) (hn : n ≤ 9223372036854775807) (hl : ¬ 40 < n) (hm : 40 < m) :
    Calls Try.prog 9 #[.slice A n c, .slice Ao m co, .int .i64 e] w fun r w' => r = .returned (.bool true) ∧ Below w.heap.size w w' := by
  have k1 := Long_any A c n w hn
  rw [show decide (40 < (n : Int)) = false from decide_eq_false (by omega)] at k1
  replace k1 := Lib.hid k1
  have hm2 : (40 : Int) < m := by omega
  replace hl := Lib.hid hl
  go_enter Try.func9, Try.ntmps9
  go_wp2_with fail
  refine k1.out.mono ?_
  rintro _ X ⟨rfl, rfl⟩
  go_wp2_with fail
  refine (Sane_any _).mono ?_
  rintro _ X2 ⟨rfl, hb⟩
  go_wp2
  go_ret
  exact ⟨rfl, hb⟩
set_option maxRecDepth 100000 in
set_option maxHeartbeats 4000000 in
theorem inn (A Ao : Option Addr) (c co : Nat) (l o : List Int) (e : Int) (w : World) (h : Row w w.heap.size A l) (ho : Row w w.heap.size Ao o) (hl : ¬ 40 < l.length) (hm : ¬ 40 < o.length) :
    Calls Try.prog 9 #[.slice A l.length c, .slice Ao o.length co, .int .i64 e] w fun r w' => r = .returned (.bool true) ∧ Below w.heap.size w w' := by
  have k1 := Long_any A c l.length w h.1
  rw [show decide (40 < (l.length : Int)) = false from decide_eq_false (by omega)] at k1
  have hh := fun X (hX : Below w.heap.size w X) => h.up hX
  have hho := fun X (hX : Below w.heap.size w X) => ho.up hX
  have a1 := Turn_any A Ao c co l o e w h ho
  have a2 := fun X (hX : Below w.heap.size w X) => Turn_ref A Ao c co l o e X (hh X hX) (hho X hX)
  have a3 := fun X (hX : Below w.heap.size w X) => Middle_any A c l e X (hh X hX)
  have a4 := fun X (hX : Below w.heap.size w X) => Middle_ref A c l e X (hh X hX)
  have hN : tuN l o e ≤ 1000 := by unfold tuN; split <;> omega
  have hM : miN l e ≤ 1000 := by unfold miN; split <;> omega
  have hm2 : ¬ (40 : Int) < o.length := by omega
  unfold TuR at a1 a2
  unfold ShR at a3 a4
  generalize tuN l o e = N at *
  generalize (tuS l o e o.length).2 = f at *
  generalize errU l o e = E at *
  generalize miN l e = M at *
  generalize meR l e = q at *
  generalize errV l e = C at *
  generalize l.length = n at *
  generalize o.length = m at *
  have a5 := fun X A A' c c' h h' => sameI_true A A' N c c' f X h h' hN
  have a6 := fun X A A' c c' h h' => same_true A A' M c c' q X h h' hM
  replace k1 := Lib.hid k1
  replace hh := Lib.hid hh
  replace hho := Lib.hid hho
  replace a1 := Lib.hid a1
  replace a2 := Lib.hid a2
  replace a3 := Lib.hid a3
  replace a4 := Lib.hid a4
  replace a5 := Lib.hid a5
  replace a6 := Lib.hid a6
  replace h := Lib.hid h
  replace ho := Lib.hid ho
  go_enter Try.func9, Try.ntmps9
  go_wp2_with fail
  refine k1.out.mono ?_
  rintro _ X ⟨rfl, rfl⟩
  go_wp2_with fail
  refine a1.out.mono ?_
  rintro _ X1 ⟨A1, N1, c1, rfl, hb1, rfl, f1⟩
  have b2 := Lib.hid (a2.out X1 hb1)
  replace hb1 := Lib.hid hb1
  replace f1 := Lib.hid f1
  go_wp2_with fail
  refine b2.out.mono ?_
  rintro _ X2 ⟨A2, N2, c2, rfl, hb2, rfl, f2⟩
  have z2 := bel_trans hb1.out hb2
  have g1 := f1.out.up hb2
  have b3 := Lib.hid (a3.out X2 z2)
  replace hb2 := Lib.hid hb2
  replace z2 := Lib.hid z2
  replace f2 := Lib.hid f2
  replace g1 := Lib.hid g1
  go_wp2_with fail
  refine b3.out.mono ?_
  rintro _ X3 ⟨A3, N3, c3, rfl, hb3, rfl, f3⟩
  have z3 := bel_trans z2.out hb3
  have g1b := g1.out.up hb3
  have f2b := f2.out.up hb3
  have b4 := Lib.hid (a4.out X3 z3)
  replace hb3 := Lib.hid hb3
  replace z3 := Lib.hid z3
  replace f3 := Lib.hid f3
  replace g1b := Lib.hid g1b
  replace f2b := Lib.hid f2b
  go_wp2_with fail
  refine b4.out.mono ?_
  rintro _ X4 ⟨A4, N4, c4, rfl, hb4, rfl, f4⟩
  have z4 := Lib.hid (bel_trans z3.out hb4)
  have f3b := f3.out.up hb4
  have b5 := Lib.hid (a5.out X4 A1 A2 c1 c2 (g1b.out.up hb4) (f2b.out.up hb4))
  replace hb4 := Lib.hid hb4
  replace f3b := Lib.hid f3b
  replace f4 := Lib.hid f4
  go_wp2_with fail
  refine b5.out.mono ?_
  rintro _ X5 ⟨rfl, hb5⟩
  have z5 := Lib.hid (bel_trans z4.out hb5)
  have b6 := Lib.hid (a6.out X5 A3 A4 c3 c4 (f3b.out.up hb5) (f4.out.up hb5))
  replace hb5 := Lib.hid hb5
  go_wp2_with fail
  refine b6.out.mono ?_
  rintro _ X6 ⟨rfl, hb6⟩
  have z6 := Lib.hid (bel_trans z5.out hb6)
  clear hb6
  go_wp2_with fail
  refine (Sane_any _).mono ?_
  rintro _ X7 ⟨rfl, hb7⟩
  have z7 := Lib.hid (bel_trans z6.out hb7)
  clear hb7
  go_wp2
  go_ret
  exact ⟨rfl, z7.out⟩
theorem walk (A : Option Addr) (c : Nat) (l : List Int) (Ao : Option Addr) (co : Nat) (o : List Int) (e : Int) (w : World) (h : Row w w.heap.size A l) (ho : Row w w.heap.size Ao o) (_ : -9223372036854775808 ≤ e ∧ e ≤ 9223372036854775807) :
    Calls Try.prog 9 #[.slice A l.length c, .slice Ao o.length co, .int .i64 e] w fun r w' => r = .returned (.bool true) ∧ Below w.heap.size w w' := by
  by_cases hl : 40 < l.length
  · exact out A Ao c l.length co o.length e w h.1 hl
  · by_cases hm : 40 < o.length
    · exact out2 A Ao c l.length co o.length e w h.1 hl hm
    · exact inn A Ao c co l o e w h ho hl hm

/-! ### the row's step -/
set_option maxRecDepth 100000 in
theorem lifted (os : Os) (started : os.Started) (H : Type) (enc : TypeId × Value → H) :
    ReturnsInHanded {} Try.checked os 9 .any (Rows.fundTurnsSpec.pre6 enc Try.prog Try.f9 Rows.fundTurnsRow.domain false) (Rows.fundTurnsSpec.post enc Try.prog Try.f9 false true false false) := by
  refine returnsInHanded_of_change (C := Try.checked) own started (by kernel_rfl) Try.func9
    (ChangeSpec.witness6 (enc := enc) (C := Try.checked) false ⟨#[], #[.slice none 0 0, .slice none 0 0, .int .i64 0], []⟩ 8 (by kernel_rfl) (by kernel_rfl) (by kernel_rfl) (by kernel_rfl)) ?_
  intro W base args ds gs before hval0 hW hcnd _
  have hval : ∀ (j : Nat) t v, Try.f9.params[j]? = some t → args[j]? = some v → Value.okWide Try.prog W .any base t v := hval0
  have hW' := hW
  obtain ⟨p, q, hA0, hV, rfl, hfz, hnd⟩ := hW
  have hA : DataW.TrodAll enc Try.prog W 0 (fun _ => true) true Try.f9.params.toList args.toList ds p := hA0
  rw [Try.params9] at hA hval
  obtain ⟨v0, vs0, d0, ds0, p0, q0, hargs, rfl, rfl, h0, r0⟩ := trodAll_cons hA
  obtain ⟨v1, vs1, d1, ds1, p1, q1, rfl, rfl, rfl, h1, r1⟩ := trodAll_cons r0
  obtain ⟨v2, vs2, d2, ds2, p2, q2, rfl, rfl, rfl, h2, r2⟩ := trodAll_cons r1
  obtain ⟨rfl, rfl, rfl⟩ := trodAll_nil r2
  obtain rfl : args = #[v0, v1, v2] := by cases args; simp_all
  obtain ⟨rfl, rfl⟩ := trodVars_none hV
  have k0 := h0
  have lt0 : ∀ x ∈ p0, x.block < W.heap.size := by obtain ⟨m, hm⟩ := k0; exact DataW.trod_lt m _ _ _ hm
  obtain ⟨a0, len0, cap0, T0, rfl, rfl, w0⟩ : ∃ A len cap D, v0 = .slice A len cap ∧ D.length = len ∧ Row W W.heap.size A D := by
    obtain ⟨s0, s1, s2, rfl⟩ := okWide_slice Try.underlying22 (hval 0 22 v0 rfl rfl)
    obtain ⟨fuel, hf⟩ := h0
    exact row_of (by simpa [Value.cells] using hf)
  have k1 := h1
  have lt1 : ∀ x ∈ p1, x.block < W.heap.size := by obtain ⟨m, hm⟩ := k1; exact DataW.trod_lt m _ _ _ hm
  obtain ⟨a1, len1, cap1, T1, rfl, rfl, w1⟩ : ∃ A len cap D, v1 = .slice A len cap ∧ D.length = len ∧ Row W W.heap.size A D := by
    obtain ⟨s0, s1, s2, rfl⟩ := okWide_slice Try.underlying22 (hval 1 22 v1 rfl rfl)
    obtain ⟨fuel, hf⟩ := h1
    exact row_of (by simpa [Value.cells] using hf)
  obtain ⟨a2, rfl, rfl, rfl, w2⟩ := open_int Try.underlying3 (hval 2 3 v2 rfl rfl) h2
  clear hA0 hval0
  refine (walk a0 cap0 T0 a1 cap1 T1 a2 W w0 w1 (i64_range w2)).mono fun e W' ⟨he, bel⟩ => ?_
  subst he
  exact ⟨_, rfl, _, _, _, [], _, [], hW', trodAll_mk1 (shut_bool Try.underlying4 _), (trodAll_cons_mk (Below.trod laidOut (by kernel_rfl) (of_decide_eq_true (by kernel_rfl)) k0 bel lt0) (trodAll_cons_mk (Below.trod laidOut (by kernel_rfl) (of_decide_eq_true (by kernel_rfl)) k1 bel lt1) (trodAll_cons_mk (shut_int Try.underlying3 w2) trodAll_mk0))), rfl, bel.frame _, fun h => by cases h⟩

theorem over : Rows.fundTurnsRow.holds Try.pinned (OpenSpec.ofChange Rows.fundTurnsSpec) :=
  OpenClaim.holds_of_wide 9 Try.f9 rfl rfl rfl rfl rfl rfl rfl ⟨rfl, rfl, rfl, rfl, rfl⟩ rfl rfl rfl rfl rfl (by kernel_rfl) Try.func9 (by kernel_rfl)
    (of_decide_eq_true (by kernel_rfl)) (by unfold Func.isWrapper; first | (rw [if_pos (by decide +kernel)]; kernel_rfl) | (rw [if_neg (by decide +kernel)]; exact ⟨rfl, rfl⟩))
    (fun os started H enc _ => lifted os started H enc)

/-- The statement. -/
theorem proved : Rows.FundTurnsSaid := over
end Go.Proofs.Ythleekdkbgnabaa.lawFundTurns
