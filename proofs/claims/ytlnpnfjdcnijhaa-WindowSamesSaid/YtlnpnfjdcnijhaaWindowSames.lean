/-
  For any two windows, the law WindowSames returns true: the program says whether they are the same just as the specification does.
  Conditions: none.
-/
import Derived.Test.YtlnpnfjdcnijhaaBk
namespace Go.Proofs.Ytlnpnfjdcnijhaa.lawWindowSames
open Go.Joins Go.ChangeShapes Go.WideShapes Go.ChangeAt Go.RowKit Go.Deep Go.Proofs.Ytlnpnfjdcnijhaa M
set_option linter.unusedVariables false
set_option linter.unusedSimpArgs false

set_option maxRecDepth 100000 in
set_option maxHeartbeats 4000000 in
theorem out0 (A A' : Option Addr) (c c' : Nat) (x y : Wn) (w : World) (h : Row w w.heap.size A x.hs) (h' : Row w w.heap.size A' y.hs) (l3 : 4000 < x.hs.length) :
    Calls Try.prog 6 #[wnV x.p A x.hs.length c, wnV y.p A' y.hs.length c'] w fun e w' => e = .returned (.bool true) ∧ Below w.heap.size w w' := by
  have h63 := h.1
  have h63' := h'.1
  have hT := twO_new w x.p y.p A A' x.hs.length y.hs.length c c'
  have hbel := hT.below
  have B2 : Bw _ w.heap.size x A c := ⟨hT.b1, (h.below hT.below).more hT.below.size⟩
  have B3 : Bw _ (w.heap.size + 1) y A' c' := ⟨hT.b2, (h'.below hT.below).more hT.below.size⟩
  unfold wnV
  clear hT
  go_enter Try.func6, Try.ntmps6
  have fB20 := B2.c0
  have fB21 := B2.c1
  have K := Lib.hid (widelaw_big B2 l3)
  go_wp2_with fail
  refine K.out.mono ?_
  rintro e X1 ⟨rfl, hb1⟩
  clear K
  clear fB20 fB21
  replace B2 := B2.up hb1
  replace B3 := B3.up hb1
  replace hbel := bel_trans hbel hb1
  go_wp2_with fail
  refine (awake_any X1).mono ?_
  rintro e X2 ⟨rfl, hb2⟩
  replace hbel := bel_trans hbel hb2
  go_wp2
  go_ret
  exact ⟨rfl, hbel⟩

set_option maxRecDepth 100000 in
set_option maxHeartbeats 4000000 in
theorem out1 (A A' : Option Addr) (c c' : Nat) (x y : Wn) (w : World) (h : Row w w.heap.size A x.hs) (h' : Row w w.heap.size A' y.hs) (l3 : x.hs.length ≤ 4000) (l4 : 4000 < y.hs.length) :
    Calls Try.prog 6 #[wnV x.p A x.hs.length c, wnV y.p A' y.hs.length c'] w fun e w' => e = .returned (.bool true) ∧ Below w.heap.size w w' := by
  have h63 := h.1
  have h63' := h'.1
  have hT := twO_new w x.p y.p A A' x.hs.length y.hs.length c c'
  have hbel := hT.below
  have B2 : Bw _ w.heap.size x A c := ⟨hT.b1, (h.below hT.below).more hT.below.size⟩
  have B3 : Bw _ (w.heap.size + 1) y A' c' := ⟨hT.b2, (h'.below hT.below).more hT.below.size⟩
  unfold wnV
  clear hT
  go_enter Try.func6, Try.ntmps6
  have fB20 := B2.c0
  have fB21 := B2.c1
  have K := Lib.hid (widelaw_call B2 l3)
  go_wp2_with fail
  refine K.out.mono ?_
  rintro e X1 ⟨rfl, hb1⟩
  clear K
  clear fB20 fB21
  replace B2 := B2.up hb1
  replace B3 := B3.up hb1
  replace hbel := bel_trans hbel hb1
  have fB30 := B3.c0
  have fB31 := B3.c1
  have K := Lib.hid (widelaw_big B3 l4)
  go_wp2_with fail
  refine K.out.mono ?_
  rintro e X2 ⟨rfl, hb2⟩
  clear K
  clear fB30 fB31
  replace B2 := B2.up hb2
  replace B3 := B3.up hb2
  replace hbel := bel_trans hbel hb2
  go_wp2_with fail
  refine (awake_any X2).mono ?_
  rintro e X3 ⟨rfl, hb3⟩
  replace hbel := bel_trans hbel hb3
  go_wp2
  go_ret
  exact ⟨rfl, hbel⟩

set_option maxRecDepth 100000 in
set_option maxHeartbeats 4000000 in
theorem inn (A A' : Option Addr) (c c' : Nat) (x y : Wn) (w : World) (h : Row w w.heap.size A x.hs) (h' : Row w w.heap.size A' y.hs) (l3 : x.hs.length ≤ 4000) (l4 : y.hs.length ≤ 4000) :
    Calls Try.prog 6 #[wnV x.p A x.hs.length c, wnV y.p A' y.hs.length c'] w fun e w' => e = .returned (.bool true) ∧ Below w.heap.size w w' := by
  have h63 := h.1
  have h63' := h'.1
  have hT := twO_new w x.p y.p A A' x.hs.length y.hs.length c c'
  have hbel := hT.below
  have B2 : Bw _ w.heap.size x A c := ⟨hT.b1, (h.below hT.below).more hT.below.size⟩
  have B3 : Bw _ (w.heap.size + 1) y A' c' := ⟨hT.b2, (h'.below hT.below).more hT.below.size⟩
  unfold wnV
  clear hT
  obtain ⟨⟨q, r⟩, hq⟩ : ∃ q, sameR x y = q := ⟨_, rfl⟩
  have hqq : (q == q) = true := by simp
  have hrr : (r == r) = true := by simp
  replace hq := Lib.hid hq
  go_enter Try.func6, Try.ntmps6
  have fB20 := B2.c0
  have fB21 := B2.c1
  have K := Lib.hid (widelaw_call B2 l3)
  go_wp2_with fail
  refine K.out.mono ?_
  rintro e X1 ⟨rfl, hb1⟩
  clear K
  clear fB20 fB21
  replace B2 := B2.up hb1
  replace B3 := B3.up hb1
  replace hbel := bel_trans hbel hb1
  have fB30 := B3.c0
  have fB31 := B3.c1
  have K := Lib.hid (widelaw_call B3 l4)
  go_wp2_with fail
  refine K.out.mono ?_
  rintro e X2 ⟨rfl, hb2⟩
  clear K
  clear fB30 fB31
  replace B2 := B2.up hb2
  replace B3 := B3.up hb2
  replace hbel := bel_trans hbel hb2
  have fB20 := B2.c0
  have fB21 := B2.c1
  have fB30 := B3.c0
  have fB31 := B3.c1
  have K := Lib.hid (same_is B2 B3 hq.out)
  go_wp2_with fail
  refine K.out.mono ?_
  rintro e X3 ⟨rfl, hb3⟩
  clear K
  clear fB20 fB21 fB30 fB31
  replace B2 := B2.up hb3
  replace B3 := B3.up hb3
  replace hbel := bel_trans hbel hb3
  have fB20 := B2.c0
  have fB21 := B2.c1
  have fB30 := B3.c0
  have fB31 := B3.c1
  have K := Lib.hid (sameref_is B2 B3 hq.out)
  go_wp2_with fail
  refine K.out.mono ?_
  rintro e X4 ⟨rfl, hb4⟩
  clear K
  clear fB20 fB21 fB30 fB31
  replace B2 := B2.up hb4
  replace B3 := B3.up hb4
  replace hbel := bel_trans hbel hb4
  go_wp2_with fail
  refine (awake_any X4).mono ?_
  rintro e X5 ⟨rfl, hb5⟩
  replace hbel := bel_trans hbel hb5
  go_wp2
  go_ret
  exact ⟨rfl, hbel⟩

theorem walk (A : Option Addr) (c : Nat) (x : Wn) (A' : Option Addr) (c' : Nat) (y : Wn) (w : World) (h : Row w w.heap.size A x.hs) (h' : Row w w.heap.size A' y.hs) :
    Calls Try.prog 6 #[wnV x.p A x.hs.length c, wnV y.p A' y.hs.length c'] w fun e w' => e = .returned (.bool true) ∧ Below w.heap.size w w' := by
  rcases Nat.lt_or_ge 4000 x.hs.length with l3 | l3
  · exact out0 A A' c c' x y w h h' l3
  rcases Nat.lt_or_ge 4000 y.hs.length with l4 | l4
  · exact out1 A A' c c' x y w h h' l3 l4
  exact inn A A' c c' x y w h h' l3 l4

/-! ### the row's step -/
set_option maxRecDepth 100000 in
theorem lifted (os : Os) (started : os.Started) (H : Type) (enc : TypeId × Value → H) :
    ReturnsInHanded {} Try.checked os 6 .any (Rows.windowSamesSpec.pre6 enc Try.prog Try.f6 Rows.windowSamesRow.domain false) (Rows.windowSamesSpec.post enc Try.prog Try.f6 false true false false) := by
  refine returnsInHanded_of_change (C := Try.checked) own started (by kernel_rfl) Try.func6
    (ChangeSpec.witness6 (enc := enc) (C := Try.checked) false ⟨#[], #[.agg #[.int .i64 0, .slice none 0 0], .agg #[.int .i64 0, .slice none 0 0]], []⟩ 8 (by kernel_rfl) (by kernel_rfl) (by kernel_rfl) (by kernel_rfl)) ?_
  intro W base args ds gs before hval0 hW hcnd _
  have hval : ∀ (j : Nat) t v, Try.f6.params[j]? = some t → args[j]? = some v → Value.okWide Try.prog W .any base t v := hval0
  have hW' := hW
  obtain ⟨p, q, hA0, hV, rfl, hfz, hnd⟩ := hW
  have hA : DataW.TrodAll enc Try.prog W 0 (fun _ => true) true Try.f6.params.toList args.toList ds p := hA0
  rw [Try.params6] at hA hval
  obtain ⟨v0, vs0, d0, ds0, p0, q0, hargs, rfl, rfl, h0, r0⟩ := trodAll_cons hA
  obtain ⟨v1, vs1, d1, ds1, p1, q1, rfl, rfl, rfl, h1, r1⟩ := trodAll_cons r0
  obtain ⟨rfl, rfl, rfl⟩ := trodAll_nil r1
  obtain rfl : args = #[v0, v1] := by cases args; simp_all
  obtain ⟨rfl, rfl⟩ := trodVars_none hV
  have k0 := h0
  have lt0 : ∀ x ∈ p0, x.block < W.heap.size := by obtain ⟨m, hm⟩ := k0; exact DataW.trod_lt m _ _ _ hm
  obtain ⟨a0, cap0, T0, rfl, w0⟩ := wn_in (hval 0 24 v0 rfl rfl) h0
  have k1 := h1
  have lt1 : ∀ x ∈ p1, x.block < W.heap.size := by obtain ⟨m, hm⟩ := k1; exact DataW.trod_lt m _ _ _ hm
  obtain ⟨a1, cap1, T1, rfl, w1⟩ := wn_in (hval 1 24 v1 rfl rfl) h1
  clear hA0 hval0
  refine (walk a0 cap0 T0 a1 cap1 T1 W w0 w1).mono fun e W' ⟨he, bel⟩ => ?_
  subst he
  exact ⟨_, rfl, _, _, _, [], _, [], hW', trodAll_mk1 (shut_bool Try.underlying4 _), (trodAll_cons_mk (Below.trod laidOut (by kernel_rfl) (of_decide_eq_true (by kernel_rfl)) k0 bel lt0) (trodAll_cons_mk (Below.trod laidOut (by kernel_rfl) (of_decide_eq_true (by kernel_rfl)) k1 bel lt1) trodAll_mk0)), rfl, bel.frame _, fun h => by cases h⟩

theorem over : Rows.windowSamesRow.holds Try.pinned (OpenSpec.ofChange Rows.windowSamesSpec) :=
  OpenClaim.holds_of_wide 6 Try.f6 rfl rfl rfl rfl rfl rfl rfl ⟨rfl, rfl, rfl, rfl, rfl⟩ rfl rfl rfl rfl rfl (by kernel_rfl) Try.func6 (by kernel_rfl)
    (of_decide_eq_true (by kernel_rfl)) (by unfold Func.isWrapper; first | (rw [if_pos (by decide +kernel)]; kernel_rfl) | (rw [if_neg (by decide +kernel)]; exact ⟨rfl, rfl⟩))
    (fun os started H enc _ => lifted os started H enc)

/-- The statement. -/
theorem proved : Rows.WindowSamesSaid := over
end Go.Proofs.Ytlnpnfjdcnijhaa.lawWindowSames
