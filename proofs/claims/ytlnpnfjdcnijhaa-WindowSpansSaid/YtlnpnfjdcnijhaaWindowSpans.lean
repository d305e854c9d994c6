/-
  For any window, the law WindowSpans returns true: the program tells the longest span at which a window is open as the specification does.
  Conditions: none.
-/
import Derived.Test.YtlnpnfjdcnijhaaU
import Derived.Test.YtlnpnfjdcnijhaaY
namespace Go.Proofs.Ytlnpnfjdcnijhaa.lawWindowSpans
open Go.Joins Go.ChangeShapes Go.WideShapes Go.ChangeAt Go.RowKit Go.Deep Go.Proofs.Ytlnpnfjdcnijhaa M
set_option linter.unusedVariables false
set_option linter.unusedSimpArgs false

set_option maxRecDepth 100000 in
set_option maxHeartbeats 2000000 in
theorem walk (A : Option Addr) (c : Nat) (x : Wn) (w : World) (h : Row w w.heap.size A x.hs) :
    Calls Try.prog 7 #[wnV x.p A x.hs.length c] w fun e w' => e = .returned (.bool true) ∧ Below w.heap.size w w' := by
  have aw : ∀ X, OnW w x.p A x.hs.length c X → Calls Try.prog 19 #[] X fun e w' => e = .returned (.bool true) ∧ OnW w x.p A x.hs.length c w' := fun X hX => (awake_any X).mono fun e w' ⟨he, hb⟩ => ⟨he, hX.up hb⟩
  have c41 : ∀ X, OnW w x.p A x.hs.length c X → Calls Try.prog 41 #[.agg #[.int .i64 x.p, .slice A x.hs.length c]] X fun e w' => e = .returned (L3 (longR x)) ∧ OnW w x.p A x.hs.length c w' := fun X hX => (Longest_any w.heap.size A c x X (h.below hX.below) hX.below.size).mono fun e w' ⟨he, hb⟩ => ⟨he, hX.up hb⟩
  have c42 : ∀ X, OnW w x.p A x.hs.length c X → Calls Try.prog 42 #[.agg #[.int .i64 x.p, .slice A x.hs.length c]] X fun e w' => e = .returned (L3 (longR x)) ∧ OnW w x.p A x.hs.length c w' := fun X hX => (Longest_ref w.heap.size A c x X (h.below hX.below) hX.below.size).mono fun e w' ⟨he, hb⟩ => ⟨he, hX.up hb⟩
  have h63 := h.1
  have hW := onW_new w x.p A x.hs.length c
  have c0 := hW.box.c0
  have c1 := hW.box.c1
  have cl := (wide_law A c x.hs.length x.p _ h.1).mono fun e w' ⟨he, hb⟩ => And.intro he (hW.up hb)
  unfold wnV at *
  unfold L3 at *
  generalize longR x = R at *
  obtain ⟨R1, R2, R3⟩ := R
  simp only [] at c41 c42
  replace aw := Lib.hid aw
  replace c41 := Lib.hid c41
  replace c42 := Lib.hid c42
  replace hW := Lib.hid hW
  by_cases hl : 4000 < x.hs.length
  · rw [decide_eq_true hl] at cl
    replace cl := Lib.hid cl
    replace hl := Lib.hid hl
    go_enter Try.func7, Try.ntmps7
    go_wp2_with fail
    refine cl.out.mono ?_
    rintro e X1 ⟨rfl, hX1⟩
    go_wp2_with fail
    refine (aw.out _ hX1).mono ?_
    rintro e X2 ⟨rfl, hX2⟩
    go_wp2
    go_ret
    exact ⟨rfl, hX2.below⟩
  · rw [decide_eq_false hl] at cl
    replace cl := Lib.hid cl
    replace hl := Lib.hid hl
    go_enter Try.func7, Try.ntmps7
    go_wp2_with fail
    refine cl.out.mono ?_
    rintro e X1 ⟨rfl, hX1⟩
    have a0 := hX1.box.c0
    have a1 := hX1.box.c1
    go_wp2_with fail
    refine (c41.out _ hX1).mono ?_
    rintro e X2 ⟨rfl, hX2⟩
    have b0 := hX2.box.c0
    have b1 := hX2.box.c1
    go_wp2_with fail
    refine (c42.out _ hX2).mono ?_
    rintro e X3 ⟨rfl, hX3⟩
    go_wp2_with fail
    refine (aw.out _ hX3).mono ?_
    rintro e X4 ⟨rfl, hX4⟩
    go_wp2
    go_ret
    exact ⟨rfl, hX4.below⟩

/-! ### the row's step -/
set_option maxRecDepth 100000 in
theorem lifted (os : Os) (started : os.Started) (H : Type) (enc : TypeId × Value → H) :
    ReturnsInHanded {} Try.checked os 7 .any (Rows.windowSpansSpec.pre6 enc Try.prog Try.f7 Rows.windowSpansRow.domain false) (Rows.windowSpansSpec.post enc Try.prog Try.f7 false true false false) := by
  refine returnsInHanded_of_change (C := Try.checked) own started (by kernel_rfl) Try.func7
    (ChangeSpec.witness6 (enc := enc) (C := Try.checked) false ⟨#[], #[.agg #[.int .i64 0, .slice none 0 0]], []⟩ 8 (by kernel_rfl) (by kernel_rfl) (by kernel_rfl) (by kernel_rfl)) ?_
  intro W base args ds gs before hval0 hW hcnd _
  have hval : ∀ (j : Nat) t v, Try.f7.params[j]? = some t → args[j]? = some v → Value.okWide Try.prog W .any base t v := hval0
  have hW' := hW
  obtain ⟨p, q, hA0, hV, rfl, hfz, hnd⟩ := hW
  have hA : DataW.TrodAll enc Try.prog W 0 (fun _ => true) true Try.f7.params.toList args.toList ds p := hA0
  rw [Try.params7] at hA hval
  obtain ⟨v0, vs0, d0, ds0, p0, q0, hargs, rfl, rfl, h0, r0⟩ := trodAll_cons hA
  obtain ⟨rfl, rfl, rfl⟩ := trodAll_nil r0
  obtain rfl : args = #[v0] := by cases args; simp_all
  obtain ⟨rfl, rfl⟩ := trodVars_none hV
  have k0 := h0
  have lt0 : ∀ x ∈ p0, x.block < W.heap.size := by obtain ⟨m, hm⟩ := k0; exact DataW.trod_lt m _ _ _ hm
  obtain ⟨a0, cap0, T0, rfl, w0⟩ := wn_in (hval 0 24 v0 rfl rfl) h0
  clear hA0 hval0
  refine (walk a0 cap0 T0 W w0).mono fun e W' ⟨he, bel⟩ => ?_
  subst he
  exact ⟨_, rfl, _, _, _, [], _, [], hW', trodAll_mk1 (shut_bool Try.underlying4 _), (trodAll_cons_mk (Below.trod laidOut (by kernel_rfl) (of_decide_eq_true (by kernel_rfl)) k0 bel lt0) trodAll_mk0), rfl, bel.frame _, fun h => by cases h⟩

theorem over : Rows.windowSpansRow.holds Try.pinned (OpenSpec.ofChange Rows.windowSpansSpec) :=
  OpenClaim.holds_of_wide 7 Try.f7 rfl rfl rfl rfl rfl rfl rfl ⟨rfl, rfl, rfl, rfl, rfl⟩ rfl rfl rfl rfl rfl (by kernel_rfl) Try.func7 (by kernel_rfl)
    (of_decide_eq_true (by kernel_rfl)) (by unfold Func.isWrapper; first | (rw [if_pos (by decide +kernel)]; kernel_rfl) | (rw [if_neg (by decide +kernel)]; exact ⟨rfl, rfl⟩))
    (fun os started H enc _ => lifted os started H enc)

/-- The statement. -/
theorem proved : Rows.WindowSpansSaid := over
end Go.Proofs.Ytlnpnfjdcnijhaa.lawWindowSpans
