/-
  For any window and number of hours, the law WindowOthers returns true: not, the shifted and the plain window are those of the specification, and so are the errors.
  Conditions: none.
-/
import Derived.Test.YtlnpnfjdcnijhaaBm
namespace Go.Proofs.Ytlnpnfjdcnijhaa.lawWindowOthers
open Go.Joins Go.ChangeShapes Go.WideShapes Go.ChangeAt Go.RowKit Go.Deep Go.Proofs.Ytlnpnfjdcnijhaa M
set_option linter.unusedVariables false
set_option linter.unusedSimpArgs false

set_option maxRecDepth 100000 in
set_option maxHeartbeats 4000000 in
theorem out0 (A : Option Addr) (c : Nat) (x : Wn) (d : Int) (w : World) (h : Row w w.heap.size A x.hs) (l3 : 4000 < x.hs.length) :
    Calls Try.prog 5 #[wnV x.p A x.hs.length c, .int .i64 d] w fun e w' => e = .returned (.bool true) ∧ Below w.heap.size w w' := by
  have h63 := h.1
  have hT := onW_new w x.p A x.hs.length c
  have hbel := hT.below
  have B2 : Bw _ w.heap.size x A c := ⟨hT.box, (h.below hT.below).more hT.below.size⟩
  unfold wnV
  clear hT
  go_enter Try.func5, Try.ntmps5
  have fB20 := B2.c0
  have fB21 := B2.c1
  have K := Lib.hid (widelaw_big B2 l3)
  go_wp2_with fail
  refine K.out.mono ?_
  rintro e X1 ⟨rfl, hb1⟩
  clear K
  clear fB20 fB21
  replace B2 := B2.up hb1
  replace hbel := bel_trans hbel hb1
  go_wp2_with fail
  refine (awake_any X1).mono ?_
  rintro e X2 ⟨rfl, hb2⟩
  replace hbel := bel_trans hbel hb2
  go_wp2
  go_ret
  exact ⟨rfl, hbel⟩

set_option maxRecDepth 100000 in
set_option maxHeartbeats 8000000 in
theorem inn (A : Option Addr) (c : Nat) (x : Wn) (d : Int) (w : World) (h : Row w w.heap.size A x.hs) (l3 : x.hs.length ≤ 4000) :
    Calls Try.prog 5 #[wnV x.p A x.hs.length c, .int .i64 d] w fun e w' => e = .returned (.bool true) ∧ Below w.heap.size w w' := by
  have h63 := h.1
  have hT := onW_new w x.p A x.hs.length c
  have hbel := hT.below
  have B2 : Bw _ w.heap.size x A c := ⟨hT.box, (h.below hT.below).more hT.below.size⟩
  unfold wnV
  clear hT
  obtain ⟨⟨z1, r1⟩, q1⟩ : ∃ q, notR x = q := ⟨_, rfl⟩
  obtain ⟨⟨z2, r2⟩, q2⟩ : ∃ q, shiftR x d = q := ⟨_, rfl⟩
  obtain ⟨⟨z3, r3⟩, q3⟩ : ∃ q, plainR x = q := ⟨_, rfl⟩
  have e1 : (r1 == r1) = true := by simp
  have e2 : (r2 == r2) = true := by simp
  have e3 : (r3 == r3) = true := by simp
  have hA : ∀ b, w.heap.size ≤ b → ∀ a, A = some a → a.block ≠ b ∨ x.hs.length = 0 := fun b hb a ha => by
    rcases Nat.eq_zero_or_pos x.hs.length with h0 | h0
    · exact .inr h0
    · obtain ⟨b', o, e, hb', _⟩ := h.2 h0
      rw [ha] at e; injection e with e
      exact .inl (by rw [e]; show b' ≠ b; omega)
  replace q1 := Lib.hid q1
  replace q2 := Lib.hid q2
  replace q3 := Lib.hid q3
  replace hA := Lib.hid hA
  go_enter Try.func5, Try.ntmps5
  have fB20 := B2.c0
  have fB21 := B2.c1
  have K := Lib.hid (widelaw_call B2 l3)
  go_wp2_with fail
  refine K.out.mono ?_
  rintro e X1 ⟨rfl, hb1⟩
  clear K
  clear fB20 fB21
  replace B2 := B2.up hb1
  replace hbel := bel_trans hbel hb1
  have lB2_2 := B2.1.lt
  have fB20 := B2.c0
  have fB21 := B2.c1
  have K := Lib.hid (not_is B2 q1.out)
  go_wp2_with fail
  refine K.out.mono ?_
  rintro e X2 ⟨A2, c2, rfl, hb2, hr2, hf2⟩
  clear K
  clear fB20 fB21
  replace B2 := B2.up hb2
  replace hbel := bel_trans hbel hb2
  replace B2 := B2.up (ba1 X2 (.cells #[.int .i64 z1.p, .slice A2 z1.hs.length c2] 24))
  replace hbel := bel_trans hbel (ba1 X2 (.cells #[.int .i64 z1.p, .slice A2 z1.hs.length c2] 24))
  have B5 := Bw.new c2 hr2
  have w5 : w.heap.size < X2.heap.size := by have := B2.1.lt; simp at lB2_2 this ⊢; have := hb2.size; omega
  have lB2_3 := B2.1.lt
  have lB5_3 := B5.1.lt
  have fB20 := B2.c0
  have fB21 := B2.c1
  have K := Lib.hid (notref_is B2 q1.out)
  go_wp2_with fail
  refine K.out.mono ?_
  rintro e X3 ⟨A3, c3, rfl, hb3, hr3, hf3⟩
  clear K
  clear fB20 fB21
  replace B2 := B2.up hb3
  replace B5 := B5.up hb3
  replace hbel := bel_trans hbel hb3
  replace B2 := B2.up (ba1 X3 (.cells #[.int .i64 z1.p, .slice A3 z1.hs.length c3] 24))
  replace B5 := B5.up (ba1 X3 (.cells #[.int .i64 z1.p, .slice A3 z1.hs.length c3] 24))
  replace hbel := bel_trans hbel (ba1 X3 (.cells #[.int .i64 z1.p, .slice A3 z1.hs.length c3] 24))
  have B7 := Bw.new c3 hr3
  have w7 : X2.heap.size < X3.heap.size := by have := hb3.size; omega
  have fB50 := B5.c0
  have fB51 := B5.c1
  have fB70 := B7.c0
  have fB71 := B7.c1
  have K := Lib.hid (equal_self B5 B7)
  go_wp2_with fail
  refine K.out.mono ?_
  rintro e X4 ⟨rfl, hb4⟩
  clear K
  clear fB50 fB51 fB70 fB71
  replace B2 := B2.up hb4
  replace B5 := B5.up hb4
  replace B7 := B7.up hb4
  replace hbel := bel_trans hbel hb4
  have lt5 := B5.1.lt
  have loB25 := B2.1.lt
  have loB75 := B7.1.lt
  have fB20 := B2.c0
  have fB21 := B2.c1
  have K := Lib.hid (shift_is B2 q2.out)
  go_wp2_with fail
  refine K.out.mono ?_
  rintro e X5 ⟨A5, c5, rfl, hb5, hr5, hf5⟩
  clear K
  clear fB20 fB21
  replace B2 := B2.up hb5
  replace B5 := B5.up hb5
  replace B7 := B7.up hb5
  replace hbel := bel_trans hbel hb5
  have y0 := B5.c0
  have y1 := B5.c1
  have y2 := B5.1.fz 0
  have y3 := B5.1.fz 1
  have yl := B5.1.lt
  replace B5 := Bw.set (c' := c5) B5 hr5 (fun a ha => .inl (by have := hf5 a ha; omega))
  replace B2 := B2.far (b' := X2.heap.size) (show w.heap.size ≠ X2.heap.size by omega) (hA.out X2.heap.size (by omega)) z2.p A5 z2.hs.length c5
  replace B7 := B7.far (b' := X2.heap.size) (show X3.heap.size ≠ X2.heap.size by omega) (fun a ha => .inl (by have := hf3 a ha; omega)) z2.p A5 z2.hs.length c5
  replace hbel := set2_below hbel (show w.heap.size ≤ X2.heap.size by omega) (.int .i64 z2.p) (.slice A5 z2.hs.length c5)
  have lt6 := B7.1.lt
  have loB26 := B2.1.lt
  have loB56 := B5.1.lt
  have fB20 := B2.c0
  have fB21 := B2.c1
  have K := Lib.hid (shiftref_is B2 q2.out)
  go_wp2_with fail
  refine K.out.mono ?_
  rintro e X6 ⟨A6, c6, rfl, hb6, hr6, hf6⟩
  clear K
  clear y0 y1 y2 y3 yl fB20 fB21
  replace B2 := B2.up hb6
  replace B5 := B5.up hb6
  replace B7 := B7.up hb6
  replace hbel := bel_trans hbel hb6
  have y0 := B7.c0
  have y1 := B7.c1
  have y2 := B7.1.fz 0
  have y3 := B7.1.fz 1
  have yl := B7.1.lt
  replace B7 := Bw.set (c' := c6) B7 hr6 (fun a ha => .inl (by have := hf6 a ha; omega))
  replace B2 := B2.far (b' := X3.heap.size) (show w.heap.size ≠ X3.heap.size by omega) (hA.out X3.heap.size (by omega)) z2.p A6 z2.hs.length c6
  replace B5 := B5.far (b' := X3.heap.size) (show X2.heap.size ≠ X3.heap.size by omega) (fun a ha => .inl (by have := hf5 a ha; omega)) z2.p A6 z2.hs.length c6
  replace hbel := set2_below hbel (show w.heap.size ≤ X3.heap.size by omega) (.int .i64 z2.p) (.slice A6 z2.hs.length c6)
  have fB50 := B5.c0
  have fB51 := B5.c1
  have fB70 := B7.c0
  have fB71 := B7.c1
  have K := Lib.hid (equal_self B5 B7)
  go_wp2_with fail
  refine K.out.mono ?_
  rintro e X7 ⟨rfl, hb7⟩
  clear K
  clear y0 y1 y2 y3 yl fB50 fB51 fB70 fB71
  replace B2 := B2.up hb7
  replace B5 := B5.up hb7
  replace B7 := B7.up hb7
  replace hbel := bel_trans hbel hb7
  have lt8 := B5.1.lt
  have loB28 := B2.1.lt
  have loB78 := B7.1.lt
  have fB20 := B2.c0
  have fB21 := B2.c1
  have K := Lib.hid (plainE_is B2 q3.out)
  go_wp2_with fail
  refine K.out.mono ?_
  rintro e X8 ⟨A8, c8, rfl, hb8, hr8, hf8⟩
  clear K
  clear fB20 fB21
  replace B2 := B2.up hb8
  replace B5 := B5.up hb8
  replace B7 := B7.up hb8
  replace hbel := bel_trans hbel hb8
  have y0 := B5.c0
  have y1 := B5.c1
  have y2 := B5.1.fz 0
  have y3 := B5.1.fz 1
  have yl := B5.1.lt
  replace B5 := Bw.set (c' := c8) B5 hr8 (fun a ha => .inl (by have := hf8 a ha; omega))
  replace B2 := B2.far (b' := X2.heap.size) (show w.heap.size ≠ X2.heap.size by omega) (hA.out X2.heap.size (by omega)) z3.p A8 z3.hs.length c8
  replace B7 := B7.far (b' := X2.heap.size) (show X3.heap.size ≠ X2.heap.size by omega) (fun a ha => .inl (by have := hf6 a ha; omega)) z3.p A8 z3.hs.length c8
  replace hbel := set2_below hbel (show w.heap.size ≤ X2.heap.size by omega) (.int .i64 z3.p) (.slice A8 z3.hs.length c8)
  have lt9 := B7.1.lt
  have loB29 := B2.1.lt
  have loB59 := B5.1.lt
  have fB20 := B2.c0
  have fB21 := B2.c1
  have K := Lib.hid (plainref_is B2 q3.out)
  go_wp2_with fail
  refine K.out.mono ?_
  rintro e X9 ⟨A9, c9, rfl, hb9, hr9, hf9⟩
  clear K
  clear y0 y1 y2 y3 yl fB20 fB21
  replace B2 := B2.up hb9
  replace B5 := B5.up hb9
  replace B7 := B7.up hb9
  replace hbel := bel_trans hbel hb9
  have y0 := B7.c0
  have y1 := B7.c1
  have y2 := B7.1.fz 0
  have y3 := B7.1.fz 1
  have yl := B7.1.lt
  replace B7 := Bw.set (c' := c9) B7 hr9 (fun a ha => .inl (by have := hf9 a ha; omega))
  replace B2 := B2.far (b' := X3.heap.size) (show w.heap.size ≠ X3.heap.size by omega) (hA.out X3.heap.size (by omega)) z3.p A9 z3.hs.length c9
  replace B5 := B5.far (b' := X3.heap.size) (show X2.heap.size ≠ X3.heap.size by omega) (fun a ha => .inl (by have := hf8 a ha; omega)) z3.p A9 z3.hs.length c9
  replace hbel := set2_below hbel (show w.heap.size ≤ X3.heap.size by omega) (.int .i64 z3.p) (.slice A9 z3.hs.length c9)
  have fB50 := B5.c0
  have fB51 := B5.c1
  have fB70 := B7.c0
  have fB71 := B7.c1
  have K := Lib.hid (equal_self B5 B7)
  go_wp2_with fail
  refine K.out.mono ?_
  rintro e X10 ⟨rfl, hb10⟩
  clear K
  clear y0 y1 y2 y3 yl fB50 fB51 fB70 fB71
  replace B2 := B2.up hb10
  replace B5 := B5.up hb10
  replace B7 := B7.up hb10
  replace hbel := bel_trans hbel hb10
  go_wp2_with fail
  refine (awake_any X10).mono ?_
  rintro e X11 ⟨rfl, hb11⟩
  replace hbel := bel_trans hbel hb11
  go_wp2
  go_ret
  exact ⟨rfl, hbel⟩

theorem walk (A : Option Addr) (c : Nat) (x : Wn) (d : Int) (w : World) (h : Row w w.heap.size A x.hs) (hd : -9223372036854775808 ≤ d ∧ d ≤ 9223372036854775807) :
    Calls Try.prog 5 #[wnV x.p A x.hs.length c, .int .i64 d] w fun e w' => e = .returned (.bool true) ∧ Below w.heap.size w w' := by
  rcases Nat.lt_or_ge 4000 x.hs.length with l3 | l3
  · exact out0 A c x d w h l3
  exact inn A c x d w h l3

/-! ### the row's step -/
set_option maxRecDepth 100000 in
theorem lifted (os : Os) (started : os.Started) (H : Type) (enc : TypeId × Value → H) :
    ReturnsInHanded {} Try.checked os 5 .any (Rows.windowOthersSpec.pre6 enc Try.prog Try.f5 Rows.windowOthersRow.domain false) (Rows.windowOthersSpec.post enc Try.prog Try.f5 false true false false) := by
  refine returnsInHanded_of_change (C := Try.checked) own started (by kernel_rfl) Try.func5
    (ChangeSpec.witness6 (enc := enc) (C := Try.checked) false ⟨#[], #[.agg #[.int .i64 0, .slice none 0 0], .int .i64 0], []⟩ 8 (by kernel_rfl) (by kernel_rfl) (by kernel_rfl) (by kernel_rfl)) ?_
  intro W base args ds gs before hval0 hW hcnd _
  have hval : ∀ (j : Nat) t v, Try.f5.params[j]? = some t → args[j]? = some v → Value.okWide Try.prog W .any base t v := hval0
  have hW' := hW
  obtain ⟨p, q, hA0, hV, rfl, hfz, hnd⟩ := hW
  have hA : DataW.TrodAll enc Try.prog W 0 (fun _ => true) true Try.f5.params.toList args.toList ds p := hA0
  rw [Try.params5] at hA hval
  obtain ⟨v0, vs0, d0, ds0, p0, q0, hargs, rfl, rfl, h0, r0⟩ := trodAll_cons hA
  obtain ⟨v1, vs1, d1, ds1, p1, q1, rfl, rfl, rfl, h1, r1⟩ := trodAll_cons r0
  obtain ⟨rfl, rfl, rfl⟩ := trodAll_nil r1
  obtain rfl : args = #[v0, v1] := by cases args; simp_all
  obtain ⟨rfl, rfl⟩ := trodVars_none hV
  have k0 := h0
  have lt0 : ∀ x ∈ p0, x.block < W.heap.size := by obtain ⟨m, hm⟩ := k0; exact DataW.trod_lt m _ _ _ hm
  obtain ⟨a0, cap0, T0, rfl, w0⟩ := wn_in (hval 0 24 v0 rfl rfl) h0
  obtain ⟨a1, rfl, rfl, rfl, w1⟩ := open_int Try.underlying3 (hval 1 3 v1 rfl rfl) h1
  clear hA0 hval0
  refine (walk a0 cap0 T0 a1 W w0 (i64_range w1)).mono fun e W' ⟨he, bel⟩ => ?_
  subst he
  exact ⟨_, rfl, _, _, _, [], _, [], hW', trodAll_mk1 (shut_bool Try.underlying4 _), (trodAll_cons_mk (Below.trod laidOut (by kernel_rfl) (of_decide_eq_true (by kernel_rfl)) k0 bel lt0) (trodAll_cons_mk (shut_int Try.underlying3 w1) trodAll_mk0)), rfl, bel.frame _, fun h => by cases h⟩

theorem over : Rows.windowOthersRow.holds Try.pinned (OpenSpec.ofChange Rows.windowOthersSpec) :=
  OpenClaim.holds_of_wide 5 Try.f5 rfl rfl rfl rfl rfl rfl rfl ⟨rfl, rfl, rfl, rfl, rfl⟩ rfl rfl rfl rfl rfl (by kernel_rfl) Try.func5 (by kernel_rfl)
    (of_decide_eq_true (by kernel_rfl)) (by unfold Func.isWrapper; first | (rw [if_pos (by decide +kernel)]; kernel_rfl) | (rw [if_neg (by decide +kernel)]; exact ⟨rfl, rfl⟩))
    (fun os started H enc _ => lifted os started H enc)

/-- The statement. -/
theorem proved : Rows.WindowOthersSaid := over
end Go.Proofs.Ytlnpnfjdcnijhaa.lawWindowOthers
