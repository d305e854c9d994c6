/-
  For any window, shift and hour, the law WindowShifts returns true: a shifted window is open when the window is later, and a shift there and back is the window.
  Conditions: none.
-/
import Derived.Test.YtlnpnfjdcnijhaaU
import Derived.Test.YtlnpnfjdcnijhaaAf
namespace Go.Proofs.Ytlnpnfjdcnijhaa.lawWindowShifts
open Go.Joins Go.ChangeShapes Go.WideShapes Go.ChangeAt Go.RowKit Go.Deep Go.Proofs.Ytlnpnfjdcnijhaa M
set_option linter.unusedVariables false
set_option linter.unusedSimpArgs false

set_option maxRecDepth 100000 in
set_option maxHeartbeats 2000000 in
theorem out (A : Option Addr) (c : Nat) (x : Wn) (by_ hour : Int) (w : World) (h : Row w w.heap.size A x.hs) (ho : 4000 < x.hs.length ∨ (¬ 4000 < x.hs.length ∧ winB x 3600 = false) ∨ (¬ 4000 < x.hs.length ∧ winB x 3600 = true ∧ ¬ (-1000000 ≤ by_ ∧ by_ ≤ 1000000))) :
    Calls Try.prog 11 #[wnV x.p A x.hs.length c, .int .i64 by_, .int .u32 hour] w fun e w' => e = .returned (.bool true) ∧ Below w.heap.size w w' := by
  have h63 := h.1
  have hW := onW_new w x.p A x.hs.length c
  have c0 := hW.box.c0
  have c1 := hW.box.c1
  have cl := (wide_law A c x.hs.length x.p _ h.1).mono fun e w' ⟨he, hb⟩ => And.intro he (hW.up hb)
  have cw : ∀ X, OnW w x.p A x.hs.length c X → _ := fun X hX => wide_on h (Nat.le_refl _) hX
  unfold wnV at *
  replace hW := Lib.hid hW
  rcases ho with hl | ⟨hl, hv⟩ | ⟨hl, hv, hby⟩
  · rw [decide_eq_true hl] at cl
    replace cl := Lib.hid cl
    replace cw := Lib.hid cw
    replace hl := Lib.hid hl
    go_enter Try.func11, Try.ntmps11
    go_wp2_with fail
    refine cl.out.mono ?_
    rintro e X1 ⟨rfl, hX1⟩
    go_wp2_with fail
    refine (awake_any X1).mono ?_
    rintro e X2 ⟨rfl, hb2⟩
    go_wp2
    go_ret
    exact ⟨rfl, (hX1.up hb2).below⟩
  · rw [decide_eq_false hl] at cl
    rw [hv] at cw
    replace cl := Lib.hid cl
    replace cw := Lib.hid cw
    replace hl := Lib.hid hl
    replace hv := Lib.hid hv
    go_enter Try.func11, Try.ntmps11
    go_wp2_with fail
    refine cl.out.mono ?_
    rintro e X1 ⟨rfl, hX1⟩
    have f0 := hX1.box.c0
    have f1 := hX1.box.c1
    go_wp2_with fail
    refine (cw.out _ hX1).mono ?_
    rintro e X2 ⟨rfl, hX2⟩
    go_wp2_with fail
    refine (awake_any X2).mono ?_
    rintro e X3 ⟨rfl, hb3⟩
    go_wp2
    go_ret
    exact ⟨rfl, (hX2.up hb3).below⟩
  · rw [decide_eq_false hl] at cl
    rw [hv] at cw
    replace cl := Lib.hid cl
    replace cw := Lib.hid cw
    replace hl := Lib.hid hl
    replace hv := Lib.hid hv
    by_cases h1 : by_ < -1000000
    · replace hby := Lib.hid hby
      go_enter Try.func11, Try.ntmps11
      go_wp2_with fail
      refine cl.out.mono ?_
      rintro e X1 ⟨rfl, hX1⟩
      have f0 := hX1.box.c0
      have f1 := hX1.box.c1
      go_wp2_with fail
      refine (cw.out _ hX1).mono ?_
      rintro e X2 ⟨rfl, hX2⟩
      go_wp2_with fail
      refine (awake_any X2).mono ?_
      rintro e X3 ⟨rfl, hb3⟩
      go_wp2
      go_ret
      exact ⟨rfl, (hX2.up hb3).below⟩
    · have h2 : 1000000 < by_ := by omega
      replace hby := Lib.hid hby
      go_enter Try.func11, Try.ntmps11
      go_wp2_with fail
      refine cl.out.mono ?_
      rintro e X1 ⟨rfl, hX1⟩
      have f0 := hX1.box.c0
      have f1 := hX1.box.c1
      go_wp2_with fail
      refine (cw.out _ hX1).mono ?_
      rintro e X2 ⟨rfl, hX2⟩
      go_wp2_with fail
      refine (awake_any X2).mono ?_
      rintro e X3 ⟨rfl, hb3⟩
      go_wp2
      go_ret
      exact ⟨rfl, (hX2.up hb3).below⟩

set_option maxRecDepth 100000 in
set_option maxHeartbeats 2000000 in
theorem inn (A : Option Addr) (c : Nat) (x : Wn) (by_ : Int) (hour : Nat) (w : World) (h : Row w w.heap.size A x.hs) (hl : ¬ 4000 < x.hs.length) (hv : winB x 3600 = true) (hby : -1000000 ≤ by_ ∧ by_ ≤ 1000000) (hh9 : hour ≤ 4294967295) :
    Calls Try.prog 11 #[wnV x.p A x.hs.length c, .int .i64 by_, .int .u32 hour] w fun e w' => e = .returned (.bool true) ∧ Below w.heap.size w w' := by
  have h63 := h.1
  obtain ⟨⟨p1, p2⟩, hg⟩ := winB_iff.1 hv
  obtain ⟨p, hp⟩ := Int.eq_ofNat_of_zero_le (show 0 ≤ x.p by omega)
  have hp1 : 1 ≤ p := by omega
  have hp4 : p ≤ 4000 := by omega
  have hW := onW_new w x.p A x.hs.length c
  have c0 := hW.box.c0
  have c1 := hW.box.c1
  have cl := (wide_law A c x.hs.length x.p _ h.1).mono fun e w' ⟨he, hb⟩ => And.intro he (hW.up hb)
  rw [decide_eq_false hl] at cl
  have cw : ∀ X, OnW w x.p A x.hs.length c X → _ := fun X hX => wide_on h (Nat.le_refl _) hX
  rw [hv] at cw
  -- the shifted window
  obtain ⟨l1, hl1⟩ : ∃ l1, l1 = hrsL (fun j => opB x ((j : Nat) + by_)) p := ⟨_, rfl⟩
  have hv1 : winB ⟨p, l1⟩ 3600 = true := by rw [hl1]; exact hrsL_win hp1 (by omega)
  have hop1 : ∀ z : Int, opB ⟨p, l1⟩ z = opB x (z + by_) := fun z => by
    rw [hl1]; exact hrsL_op (f := fun h => opB x (h + by_)) hp1 (fun z => opB_mod hp by_ z) z
  have hl2 : hrsL (fun j => opB ⟨p, l1⟩ ((j : Nat) + -by_)) p = x.hs := by
    rw [← hrsL_self hp hp1 hg]
    exact hrsL_congr fun j _ => by rw [hop1, show (j : Int) + -by_ + by_ = j by omega]
  have hl1l : l1.length ≤ p := by rw [hl1]; exact hrsL_le _ _
  have cs : ∀ X, OnW w x.p A x.hs.length c X → Calls Try.prog 35 #[wnV x.p A x.hs.length c, .int .i64 by_] X (NewW2 X p l1) := fun X hX => by
    rw [hl1]; exact Shifted_good w.heap.size A c x p by_ X (h.below hX.below) hX.below.size hv hp hby
  have cb : ∀ A1 c1 X, Row X X.heap.size A1 l1 → Calls Try.prog 35 #[wnV p A1 l1.length c1, .int .i64 (-by_)] X (NewW2 X p x.hs) := fun A1 c1 X hX => by
    have := Shifted_good X.heap.size A1 c1 ⟨p, l1⟩ p (-by_) X hX (Nat.le_refl _) hv1 rfl (by omega)
    rw [hl2] at this
    exact this
  obtain ⟨at_, hat⟩ : ∃ at_ : Nat, at_ = 1000000 + hour % 900000000 := ⟨_, rfl⟩
  obtain ⟨fr, hfr⟩ : ∃ fr, fr = hour % 900000000 := ⟨_, rfl⟩
  have hmod : ((hour : Nat) : Int) % 900000000 = (fr : Int) := by omega
  have hat2 : (1000000 : Int) + (fr : Int) = (at_ : Int) := by omega
  have hat9 : at_ ≤ 901000000 := by omega
  have hat1 : 1000000 ≤ at_ := by omega
  obtain ⟨q, hq⟩ : ∃ q, q = opB x ((at_ : Int) + by_) := ⟨_, rfl⟩
  have ca : ∀ A1 c1 X, Row X X.heap.size A1 l1 → Calls Try.prog 57 #[wnV p A1 l1.length c1, .int .i64 (at_ : Nat)] X fun e w' => e = .returned (.tuple #[.bool q, .bool true]) ∧ Below X.heap.size X w' := fun A1 c1 X hX => by
    have := opens_any X.heap.size A1 c1 ⟨p, l1⟩ (at_ : Nat) X hX (Nat.le_refl _)
    rw [open_true hv1 (by omega) (by omega), hop1, ← hq] at this
    exact this
  have cx : ∀ X, OnW w x.p A x.hs.length c X → Calls Try.prog 57 #[wnV x.p A x.hs.length c, .int .i64 ((at_ : Int) + by_)] X fun e w' => e = .returned (.tuple #[.bool q, .bool true]) ∧ Below X.heap.size X w' := fun X hX => by
    have := opens_any w.heap.size A c x ((at_ : Int) + by_) X (h.below hX.below) hX.below.size
    rw [open_true hv (by omega) (by omega), ← hq] at this
    exact this
  have ce : ∀ A2 c2 X, OnW w x.p A x.hs.length c X → Row X X.heap.size A2 x.hs → Calls Try.prog 32 #[.agg #[.int .i64 (p : Nat), .slice A2 x.hs.length c2], .agg #[.int .i64 x.p, .slice A x.hs.length c]] X fun e w' => e = .returned (.bool true) ∧ Below X.heap.size X w' := fun A2 c2 X hX hR => by
    have := Equal_any X.heap.size A2 A c2 c x.p x.hs X hR ((h.below hX.below).more hX.below.size) (Nat.le_refl _)
    unfold wnV at this
    rw [← hp]; exact this
  unfold wnV at *
  obtain ⟨hby1, hby2⟩ := hby
  have wr1 : IntKind.i64.wrap ((at_ : Int) + by_) = (at_ : Int) + by_ := IntWalk.i64_in _ (by omega)
  have wr2 : IntKind.i64.wrap (-by_) = -by_ := IntWalk.i64_in _ (by omega)
  have hx4 : x.hs.length ≤ 4000 := by omega
  clear hl1 hl2 hop1 hat hfr hg hq p1 p2
  replace hp := Lib.hid hp
  replace hv := Lib.hid hv
  replace hv1 := Lib.hid hv1
  replace hl := Lib.hid hl
  replace cl := Lib.hid cl
  replace cw := Lib.hid cw
  replace cs := Lib.hid cs
  replace cb := Lib.hid cb
  replace ca := Lib.hid ca
  replace cx := Lib.hid cx
  replace ce := Lib.hid ce
  replace hW := Lib.hid hW
  go_enter Try.func11, Try.ntmps11
  go_wp2_with fail
  refine cl.out.mono ?_
  rintro e X1 ⟨rfl, hX1⟩
  have f0 := hX1.box.c0
  have f1 := hX1.box.c1
  go_wp2_with fail
  refine (cw.out _ hX1).mono ?_
  rintro e X2 ⟨rfl, hX2⟩
  have g0 := hX2.box.c0
  have g1 := hX2.box.c1
  have cs2 := Lib.hid (cs.out _ hX2)
  go_wp2_with fail
  refine cs2.out.mono ?_
  rintro e X3 ⟨A3, c3, rfl, hb3, hr3⟩
  unfold wnV
  have hX3 := hX2.up hb3
  -- its box
  have hb4 := ba1 X3 (.cells #[.int .i64 (p : Nat), .slice A3 l1.length c3] 24)
  have hX4 := hX3.up hb4
  have hs4 := BxW.new X3 p A3 l1.length c3
  have hr4 := hr3.up hb4
  have i0 := hs4.c0
  have i1 := hs4.c1
  have cb2 := Lib.hid (cb.out A3 c3 _ hr4)
  replace hb3 := Lib.hid hb3
  go_wp2_with fail
  refine cb2.out.mono ?_
  rintro e X5 ⟨A5, c5, rfl, hb5, hr5⟩
  unfold wnV
  have hb6 := ba1 X5 (.cells #[.int .i64 (p : Nat), .slice A5 x.hs.length c5] 24)
  have hX6 := (hX4.up hb5).up hb6
  have hs6 := (hs4.up hb5).up hb6
  have hr6 := (hr4.up hb5).up hb6
  have hr7 := hr5.up hb6
  have ht6 := BxW.new X5 p A5 x.hs.length c5
  have j0 := hX6.box.c0
  have j1 := hX6.box.c1
  have k0 := ht6.c0
  have k1 := ht6.c1
  have ce2 := Lib.hid (ce.out A5 c5 _ hX6 hr7)
  replace hb4 := Lib.hid hb4
  replace hb5 := Lib.hid hb5
  replace hb6 := Lib.hid hb6
  go_wp2_with fail
  refine ce2.out.mono ?_
  rintro e X7 ⟨rfl, hb7⟩
  have hX7 := hX6.up hb7
  have hs7 := hs6.up hb7
  have hr8 := hr6.up hb7
  have m0 := hs7.c0
  have m1 := hs7.c1
  have ca2 := Lib.hid (ca.out A3 c3 _ hr8)
  replace hb7 := Lib.hid hb7
  go_wp2_with fail
  refine ca2.out.mono ?_
  rintro e X8 ⟨rfl, hb8⟩
  have hX8 := hX7.up hb8
  have n0 := hX8.box.c0
  have n1 := hX8.box.c1
  have cx2 := Lib.hid (cx.out _ hX8)
  replace hb8 := Lib.hid hb8
  go_wp2_with fail
  refine cx2.out.mono ?_
  rintro e X9 ⟨rfl, hb9⟩
  have hX9 := hX8.up hb9
  go_wp2_with fail
  refine (awake_any X9).mono ?_
  rintro e X10 ⟨rfl, hb10⟩
  go_wp2
  go_ret
  exact ⟨rfl, (hX9.up hb10).below⟩

theorem walk (A : Option Addr) (c : Nat) (x : Wn) (by_ hour : Int) (w : World) (h : Row w w.heap.size A x.hs) (hh : 0 ≤ hour ∧ hour ≤ 4294967295) :
    Calls Try.prog 11 #[wnV x.p A x.hs.length c, .int .i64 by_, .int .u32 hour] w fun e w' => e = .returned (.bool true) ∧ Below w.heap.size w w' := by
  obtain ⟨h', rfl⟩ := Int.eq_ofNat_of_zero_le hh.1
  by_cases hl : 4000 < x.hs.length
  · exact out A c x by_ h' w h (.inl hl)
  · cases hv : winB x 3600 with
    | false => exact out A c x by_ h' w h (.inr (.inl ⟨hl, hv⟩))
    | true =>
      by_cases hby : -1000000 ≤ by_ ∧ by_ ≤ 1000000
      · exact inn A c x by_ h' w h hl hv hby (by omega)
      · exact out A c x by_ h' w h (.inr (.inr ⟨hl, hv, hby⟩))

/-! ### the row's step -/
set_option maxRecDepth 100000 in
theorem lifted (os : Os) (started : os.Started) (H : Type) (enc : TypeId × Value → H) :
    ReturnsInHanded {} Try.checked os 11 .any (Rows.windowShiftsSpec.pre6 enc Try.prog Try.f11 Rows.windowShiftsRow.domain false) (Rows.windowShiftsSpec.post enc Try.prog Try.f11 false true false false) := by
  refine returnsInHanded_of_change (C := Try.checked) own started (by kernel_rfl) Try.func11
    (ChangeSpec.witness6 (enc := enc) (C := Try.checked) false ⟨#[], #[.agg #[.int .i64 0, .slice none 0 0], .int .i64 0, .int .u32 0], []⟩ 8 (by kernel_rfl) (by kernel_rfl) (by kernel_rfl) (by kernel_rfl)) ?_
  intro W base args ds gs before hval0 hW hcnd _
  have hval : ∀ (j : Nat) t v, Try.f11.params[j]? = some t → args[j]? = some v → Value.okWide Try.prog W .any base t v := hval0
  have hW' := hW
  obtain ⟨p, q, hA0, hV, rfl, hfz, hnd⟩ := hW
  have hA : DataW.TrodAll enc Try.prog W 0 (fun _ => true) true Try.f11.params.toList args.toList ds p := hA0
  rw [Try.params11] at hA hval
  obtain ⟨v0, vs0, d0, ds0, p0, q0, hargs, rfl, rfl, h0, r0⟩ := trodAll_cons hA
  obtain ⟨v1, vs1, d1, ds1, p1, q1, rfl, rfl, rfl, h1, r1⟩ := trodAll_cons r0
  obtain ⟨v2, vs2, d2, ds2, p2, q2, rfl, rfl, rfl, h2, r2⟩ := trodAll_cons r1
  obtain ⟨rfl, rfl, rfl⟩ := trodAll_nil r2
  obtain rfl : args = #[v0, v1, v2] := by cases args; simp_all
  obtain ⟨rfl, rfl⟩ := trodVars_none hV
  have k0 := h0
  have lt0 : ∀ x ∈ p0, x.block < W.heap.size := by obtain ⟨m, hm⟩ := k0; exact DataW.trod_lt m _ _ _ hm
  obtain ⟨a0, cap0, T0, rfl, w0⟩ := wn_in (hval 0 24 v0 rfl rfl) h0
  obtain ⟨a1, rfl, rfl, rfl, w1⟩ := open_int Try.underlying3 (hval 1 3 v1 rfl rfl) h1
  obtain ⟨a2, rfl, rfl, rfl, w2⟩ := open_int Try.underlying56 (hval 2 56 v2 rfl rfl) h2
  clear hA0 hval0
  refine (walk a0 cap0 T0 a1 a2 W w0 (u32_range w2)).mono fun e W' ⟨he, bel⟩ => ?_
  subst he
  exact ⟨_, rfl, _, _, _, [], _, [], hW', trodAll_mk1 (shut_bool Try.underlying4 _), (trodAll_cons_mk (Below.trod laidOut (by kernel_rfl) (of_decide_eq_true (by kernel_rfl)) k0 bel lt0) (trodAll_cons_mk (shut_int Try.underlying3 w1) (trodAll_cons_mk (shut_int Try.underlying56 w2) trodAll_mk0))), rfl, bel.frame _, fun h => by cases h⟩

theorem over : Rows.windowShiftsRow.holds Try.pinned (OpenSpec.ofChange Rows.windowShiftsSpec) :=
  OpenClaim.holds_of_wide 11 Try.f11 rfl rfl rfl rfl rfl rfl rfl ⟨rfl, rfl, rfl, rfl, rfl⟩ rfl rfl rfl rfl rfl (by kernel_rfl) Try.func11 (by kernel_rfl)
    (of_decide_eq_true (by kernel_rfl)) (by unfold Func.isWrapper; first | (rw [if_pos (by decide +kernel)]; kernel_rfl) | (rw [if_neg (by decide +kernel)]; exact ⟨rfl, rfl⟩))
    (fun os started H enc _ => lifted os started H enc)

/-- The statement. -/
theorem proved : Rows.WindowShiftsSaid := over
end Go.Proofs.Ytlnpnfjdcnijhaa.lawWindowShifts
