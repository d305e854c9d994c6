/-
  For any two windows, the law WindowPairs returns true: the window that is open when both are, and the one that is open when one of two is, are those of the specification, and so are the errors.
  Conditions: none.
-/
import Derived.Test.YtlnpnfjdcnijhaaBo
namespace Go.Proofs.Ytlnpnfjdcnijhaa.lawWindowPairs
open Go.Joins Go.ChangeShapes Go.WideShapes Go.ChangeAt Go.RowKit Go.Deep Go.Proofs.Ytlnpnfjdcnijhaa M
set_option linter.unusedVariables false
set_option linter.unusedSimpArgs false

set_option maxRecDepth 100000 in
set_option maxHeartbeats 4000000 in
theorem out0 (A A' : Option Addr) (c c' : Nat) (x y : Wn) (w : World) (h : Row w w.heap.size A x.hs) (h' : Row w w.heap.size A' y.hs) (l3 : 4000 < x.hs.length) :
    Calls Try.prog 4 #[wnV x.p A x.hs.length c, wnV y.p A' y.hs.length c'] w fun e w' => e = .returned (.bool true) ∧ Below w.heap.size w w' := by
  have h63 := h.1
  have h63' := h'.1
  have hT := twO_new w x.p y.p A A' x.hs.length y.hs.length c c'
  have hbel := hT.below
  have B2 : Bw _ w.heap.size x A c := ⟨hT.b1, (h.below hT.below).more hT.below.size⟩
  have B3 : Bw _ (w.heap.size + 1) y A' c' := ⟨hT.b2, (h'.below hT.below).more hT.below.size⟩
  unfold wnV
  clear hT
  go_enter Try.func4, Try.ntmps4
  have fB20 := B2.c0
  have fB21 := B2.c1
  have K := Lib.hid (widelaw_big B2 l3)
  go_wp2_with fail
  refine K.out.mono ?_
  rintro e X1 ⟨rfl, hb1⟩
  clear K
  clear fB20 fB21
  replace B2 := B2.up hb1
  replace B3 := B3.up hb1
  replace hbel := bel_trans hbel hb1
  go_wp2_with fail
  refine (awake_any X1).mono ?_
  rintro e X2 ⟨rfl, hb2⟩
  replace hbel := bel_trans hbel hb2
  go_wp2
  go_ret
  exact ⟨rfl, hbel⟩

set_option maxRecDepth 100000 in
set_option maxHeartbeats 4000000 in
theorem out1 (A A' : Option Addr) (c c' : Nat) (x y : Wn) (w : World) (h : Row w w.heap.size A x.hs) (h' : Row w w.heap.size A' y.hs) (l3 : x.hs.length ≤ 4000) (l4 : 4000 < y.hs.length) :
    Calls Try.prog 4 #[wnV x.p A x.hs.length c, wnV y.p A' y.hs.length c'] w fun e w' => e = .returned (.bool true) ∧ Below w.heap.size w w' := by
  have h63 := h.1
  have h63' := h'.1
  have hT := twO_new w x.p y.p A A' x.hs.length y.hs.length c c'
  have hbel := hT.below
  have B2 : Bw _ w.heap.size x A c := ⟨hT.b1, (h.below hT.below).more hT.below.size⟩
  have B3 : Bw _ (w.heap.size + 1) y A' c' := ⟨hT.b2, (h'.below hT.below).more hT.below.size⟩
  unfold wnV
  clear hT
  go_enter Try.func4, Try.ntmps4
  have fB20 := B2.c0
  have fB21 := B2.c1
  have K := Lib.hid (widelaw_call B2 l3)
  go_wp2_with fail
  refine K.out.mono ?_
  rintro e X1 ⟨rfl, hb1⟩
  clear K
  clear fB20 fB21
  replace B2 := B2.up hb1
  replace B3 := B3.up hb1
  replace hbel := bel_trans hbel hb1
  have fB30 := B3.c0
  have fB31 := B3.c1
  have K := Lib.hid (widelaw_big B3 l4)
  go_wp2_with fail
  refine K.out.mono ?_
  rintro e X2 ⟨rfl, hb2⟩
  clear K
  clear fB30 fB31
  replace B2 := B2.up hb2
  replace B3 := B3.up hb2
  replace hbel := bel_trans hbel hb2
  go_wp2_with fail
  refine (awake_any X2).mono ?_
  rintro e X3 ⟨rfl, hb3⟩
  replace hbel := bel_trans hbel hb3
  go_wp2
  go_ret
  exact ⟨rfl, hbel⟩

set_option maxRecDepth 100000 in
set_option maxHeartbeats 4000000 in
theorem inn (A A' : Option Addr) (c c' : Nat) (x y : Wn) (w : World) (h : Row w w.heap.size A x.hs) (h' : Row w w.heap.size A' y.hs) (l3 : x.hs.length ≤ 4000) (l4 : y.hs.length ≤ 4000) :
    Calls Try.prog 4 #[wnV x.p A x.hs.length c, wnV y.p A' y.hs.length c'] w fun e w' => e = .returned (.bool true) ∧ Below w.heap.size w w' := by
  have h63 := h.1
  have h63' := h'.1
  have hT := twO_new w x.p y.p A A' x.hs.length y.hs.length c c'
  have hbel := hT.below
  have B2 : Bw _ w.heap.size x A c := ⟨hT.b1, (h.below hT.below).more hT.below.size⟩
  have B3 : Bw _ (w.heap.size + 1) y A' c' := ⟨hT.b2, (h'.below hT.below).more hT.below.size⟩
  unfold wnV
  clear hT
  obtain ⟨⟨z1, r1⟩, q1⟩ : ∃ q, bothR x y = q := ⟨_, rfl⟩
  obtain ⟨⟨z2, r2⟩, q2⟩ : ∃ q, eithR x y = q := ⟨_, rfl⟩
  have e1 : (r1 == r1) = true := by simp
  have e2 : (r2 == r2) = true := by simp
  replace q1 := Lib.hid q1
  replace q2 := Lib.hid q2
  go_enter Try.func4, Try.ntmps4
  have fB20 := B2.c0
  have fB21 := B2.c1
  have K := Lib.hid (widelaw_call B2 l3)
  go_wp2_with fail
  refine K.out.mono ?_
  rintro e X1 ⟨rfl, hb1⟩
  clear K
  clear fB20 fB21
  replace B2 := B2.up hb1
  replace B3 := B3.up hb1
  replace hbel := bel_trans hbel hb1
  have fB30 := B3.c0
  have fB31 := B3.c1
  have K := Lib.hid (widelaw_call B3 l4)
  go_wp2_with fail
  refine K.out.mono ?_
  rintro e X2 ⟨rfl, hb2⟩
  clear K
  clear fB30 fB31
  replace B2 := B2.up hb2
  replace B3 := B3.up hb2
  replace hbel := bel_trans hbel hb2
  have fB20 := B2.c0
  have fB21 := B2.c1
  have fB30 := B3.c0
  have fB31 := B3.c1
  have K := Lib.hid (bothE_is B2 B3 q1.out)
  go_wp2_with fail
  refine K.out.mono ?_
  rintro e X3 ⟨A3, c3, rfl, hb3, hr3, hf3⟩
  clear K
  clear fB20 fB21 fB30 fB31
  replace B2 := B2.up hb3
  replace B3 := B3.up hb3
  replace hbel := bel_trans hbel hb3
  replace B2 := B2.up (ba1 X3 (.cells #[.int .i64 z1.p, .slice A3 z1.hs.length c3] 24))
  replace B3 := B3.up (ba1 X3 (.cells #[.int .i64 z1.p, .slice A3 z1.hs.length c3] 24))
  replace hbel := bel_trans hbel (ba1 X3 (.cells #[.int .i64 z1.p, .slice A3 z1.hs.length c3] 24))
  have B5 := Bw.new c3 hr3
  clear hr3 hf3
  have fB20 := B2.c0
  have fB21 := B2.c1
  have fB30 := B3.c0
  have fB31 := B3.c1
  have K := Lib.hid (bothref_is B2 B3 q1.out)
  go_wp2_with fail
  refine K.out.mono ?_
  rintro e X4 ⟨A4, c4, rfl, hb4, hr4, hf4⟩
  clear K
  clear fB20 fB21 fB30 fB31
  replace B2 := B2.up hb4
  replace B3 := B3.up hb4
  replace B5 := B5.up hb4
  replace hbel := bel_trans hbel hb4
  replace B2 := B2.up (ba1 X4 (.cells #[.int .i64 z1.p, .slice A4 z1.hs.length c4] 24))
  replace B3 := B3.up (ba1 X4 (.cells #[.int .i64 z1.p, .slice A4 z1.hs.length c4] 24))
  replace B5 := B5.up (ba1 X4 (.cells #[.int .i64 z1.p, .slice A4 z1.hs.length c4] 24))
  replace hbel := bel_trans hbel (ba1 X4 (.cells #[.int .i64 z1.p, .slice A4 z1.hs.length c4] 24))
  have B7 := Bw.new c4 hr4
  clear hr4 hf4
  have fB20 := B2.c0
  have fB21 := B2.c1
  have fB30 := B3.c0
  have fB31 := B3.c1
  have K := Lib.hid (eithE_is B2 B3 q2.out)
  go_wp2_with fail
  refine K.out.mono ?_
  rintro e X5 ⟨A5, c5, rfl, hb5, hr5, hf5⟩
  clear K
  clear fB20 fB21 fB30 fB31
  replace B2 := B2.up hb5
  replace B3 := B3.up hb5
  replace B5 := B5.up hb5
  replace B7 := B7.up hb5
  replace hbel := bel_trans hbel hb5
  replace B2 := B2.up (ba1 X5 (.cells #[.int .i64 z2.p, .slice A5 z2.hs.length c5] 24))
  replace B3 := B3.up (ba1 X5 (.cells #[.int .i64 z2.p, .slice A5 z2.hs.length c5] 24))
  replace B5 := B5.up (ba1 X5 (.cells #[.int .i64 z2.p, .slice A5 z2.hs.length c5] 24))
  replace B7 := B7.up (ba1 X5 (.cells #[.int .i64 z2.p, .slice A5 z2.hs.length c5] 24))
  replace hbel := bel_trans hbel (ba1 X5 (.cells #[.int .i64 z2.p, .slice A5 z2.hs.length c5] 24))
  have B9 := Bw.new c5 hr5
  clear hr5 hf5
  have fB20 := B2.c0
  have fB21 := B2.c1
  have fB30 := B3.c0
  have fB31 := B3.c1
  have K := Lib.hid (eithref_is B2 B3 q2.out)
  go_wp2_with fail
  refine K.out.mono ?_
  rintro e X6 ⟨A6, c6, rfl, hb6, hr6, hf6⟩
  clear K
  clear fB20 fB21 fB30 fB31
  replace B2 := B2.up hb6
  replace B3 := B3.up hb6
  replace B5 := B5.up hb6
  replace B7 := B7.up hb6
  replace B9 := B9.up hb6
  replace hbel := bel_trans hbel hb6
  replace B2 := B2.up (ba1 X6 (.cells #[.int .i64 z2.p, .slice A6 z2.hs.length c6] 24))
  replace B3 := B3.up (ba1 X6 (.cells #[.int .i64 z2.p, .slice A6 z2.hs.length c6] 24))
  replace B5 := B5.up (ba1 X6 (.cells #[.int .i64 z2.p, .slice A6 z2.hs.length c6] 24))
  replace B7 := B7.up (ba1 X6 (.cells #[.int .i64 z2.p, .slice A6 z2.hs.length c6] 24))
  replace B9 := B9.up (ba1 X6 (.cells #[.int .i64 z2.p, .slice A6 z2.hs.length c6] 24))
  replace hbel := bel_trans hbel (ba1 X6 (.cells #[.int .i64 z2.p, .slice A6 z2.hs.length c6] 24))
  have B11 := Bw.new c6 hr6
  clear hr6 hf6
  have fB50 := B5.c0
  have fB51 := B5.c1
  have fB70 := B7.c0
  have fB71 := B7.c1
  have K := Lib.hid (equal_self B5 B7)
  go_wp2_with fail
  refine K.out.mono ?_
  rintro e X7 ⟨rfl, hb7⟩
  clear K
  clear fB50 fB51 fB70 fB71
  replace B2 := B2.up hb7
  replace B3 := B3.up hb7
  replace B5 := B5.up hb7
  replace B7 := B7.up hb7
  replace B9 := B9.up hb7
  replace B11 := B11.up hb7
  replace hbel := bel_trans hbel hb7
  have fB90 := B9.c0
  have fB91 := B9.c1
  have fB110 := B11.c0
  have fB111 := B11.c1
  have K := Lib.hid (equal_self B9 B11)
  go_wp2_with fail
  refine K.out.mono ?_
  rintro e X8 ⟨rfl, hb8⟩
  clear K
  clear fB90 fB91 fB110 fB111
  replace B2 := B2.up hb8
  replace B3 := B3.up hb8
  replace B5 := B5.up hb8
  replace B7 := B7.up hb8
  replace B9 := B9.up hb8
  replace B11 := B11.up hb8
  replace hbel := bel_trans hbel hb8
  go_wp2_with fail
  refine (awake_any X8).mono ?_
  rintro e X9 ⟨rfl, hb9⟩
  replace hbel := bel_trans hbel hb9
  go_wp2
  go_ret
  exact ⟨rfl, hbel⟩

theorem walk (A : Option Addr) (c : Nat) (x : Wn) (A' : Option Addr) (c' : Nat) (y : Wn) (w : World) (h : Row w w.heap.size A x.hs) (h' : Row w w.heap.size A' y.hs) :
    Calls Try.prog 4 #[wnV x.p A x.hs.length c, wnV y.p A' y.hs.length c'] w fun e w' => e = .returned (.bool true) ∧ Below w.heap.size w w' := by
  rcases Nat.lt_or_ge 4000 x.hs.length with l3 | l3
  · exact out0 A A' c c' x y w h h' l3
  rcases Nat.lt_or_ge 4000 y.hs.length with l4 | l4
  · exact out1 A A' c c' x y w h h' l3 l4
  exact inn A A' c c' x y w h h' l3 l4

/-! ### the row's step -/
set_option maxRecDepth 100000 in
theorem lifted (os : Os) (started : os.Started) (H : Type) (enc : TypeId × Value → H) :
    ReturnsInHanded {} Try.checked os 4 .any (Rows.windowPairsSpec.pre6 enc Try.prog Try.f4 Rows.windowPairsRow.domain false) (Rows.windowPairsSpec.post enc Try.prog Try.f4 false true false false) := by
  refine returnsInHanded_of_change (C := Try.checked) own started (by kernel_rfl) Try.func4
    (ChangeSpec.witness6 (enc := enc) (C := Try.checked) false ⟨#[], #[.agg #[.int .i64 0, .slice none 0 0], .agg #[.int .i64 0, .slice none 0 0]], []⟩ 8 (by kernel_rfl) (by kernel_rfl) (by kernel_rfl) (by kernel_rfl)) ?_
  intro W base args ds gs before hval0 hW hcnd _
  have hval : ∀ (j : Nat) t v, Try.f4.params[j]? = some t → args[j]? = some v → Value.okWide Try.prog W .any base t v := hval0
  have hW' := hW
  obtain ⟨p, q, hA0, hV, rfl, hfz, hnd⟩ := hW
  have hA : DataW.TrodAll enc Try.prog W 0 (fun _ => true) true Try.f4.params.toList args.toList ds p := hA0
  rw [Try.params4] at hA hval
  obtain ⟨v0, vs0, d0, ds0, p0, q0, hargs, rfl, rfl, h0, r0⟩ := trodAll_cons hA
  obtain ⟨v1, vs1, d1, ds1, p1, q1, rfl, rfl, rfl, h1, r1⟩ := trodAll_cons r0
  obtain ⟨rfl, rfl, rfl⟩ := trodAll_nil r1
  obtain rfl : args = #[v0, v1] := by cases args; simp_all
  obtain ⟨rfl, rfl⟩ := trodVars_none hV
  have k0 := h0
  have lt0 : ∀ x ∈ p0, x.block < W.heap.size := by obtain ⟨m, hm⟩ := k0; exact DataW.trod_lt m _ _ _ hm
  obtain ⟨a0, cap0, T0, rfl, w0⟩ := wn_in (hval 0 24 v0 rfl rfl) h0
  have k1 := h1
  have lt1 : ∀ x ∈ p1, x.block < W.heap.size := by obtain ⟨m, hm⟩ := k1; exact DataW.trod_lt m _ _ _ hm
  obtain ⟨a1, cap1, T1, rfl, w1⟩ := wn_in (hval 1 24 v1 rfl rfl) h1
  clear hA0 hval0
  refine (walk a0 cap0 T0 a1 cap1 T1 W w0 w1).mono fun e W' ⟨he, bel⟩ => ?_
  subst he
  exact ⟨_, rfl, _, _, _, [], _, [], hW', trodAll_mk1 (shut_bool Try.underlying4 _), (trodAll_cons_mk (Below.trod laidOut (by kernel_rfl) (of_decide_eq_true (by kernel_rfl)) k0 bel lt0) (trodAll_cons_mk (Below.trod laidOut (by kernel_rfl) (of_decide_eq_true (by kernel_rfl)) k1 bel lt1) trodAll_mk0)), rfl, bel.frame _, fun h => by cases h⟩

theorem over : Rows.windowPairsRow.holds Try.pinned (OpenSpec.ofChange Rows.windowPairsSpec) :=
  OpenClaim.holds_of_wide 4 Try.f4 rfl rfl rfl rfl rfl rfl rfl ⟨rfl, rfl, rfl, rfl, rfl⟩ rfl rfl rfl rfl rfl (by kernel_rfl) Try.func4 (by kernel_rfl)
    (of_decide_eq_true (by kernel_rfl)) (by unfold Func.isWrapper; first | (rw [if_pos (by decide +kernel)]; kernel_rfl) | (rw [if_neg (by decide +kernel)]; exact ⟨rfl, rfl⟩))
    (fun os started H enc _ => lifted os started H enc)

/-- The statement. -/
theorem proved : Rows.WindowPairsSaid := over
end Go.Proofs.Ytlnpnfjdcnijhaa.lawWindowPairs
