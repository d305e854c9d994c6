/-
  For any two tides, the law TideLikes returns true: they are the same exactly if their speeds of a beat are equal.
  Conditions: none.
-/
import Derived.Test.YtmpmlgognkmfgaaAwake
import Derived.Test.YtmpmlgognkmfgaaOpen
import Derived.Test.YtmpmlgognkmfgaaTideH
namespace Go.Proofs.Ytmpmlgognkmfgaa.lawTideLikes
open Go.ChangeShapes Go.WideShapes Go.ChangeAt Go.RowKit Go.Deep Go.Proofs.Ytmpmlgognkmfgaa M
set_option linter.unusedVariables false
set_option linter.unusedSimpArgs false

set_option maxHeartbeats 2000000 in
theorem walk (A : Option Addr) (c : Nat) (T : List (List Int)) (A' : Option Addr) (c' : Nat) (U : List (List Int)) (w : World) (h : Mat w w.heap.size A T) (h' : Mat w w.heap.size A' U) :
    Calls Try.prog 12 #[.slice A T.length c, .slice A' U.length c'] w fun e w' => e = .returned (.bool true) ∧ Below w.heap.size w w' := by
  cases hw : wideB T with
  | true =>
    have hw := Lib.hid hw
    go_enter Try.func12, Try.ntmps12
    go_wp2_with fail
    refine (wide_any _ A c T w h).mono ?_
    rintro e w' ⟨rfl, rfl⟩
    rw [hw.out]
    go_wp2_with fail
    refine (awake_any _).mono ?_
    rintro e w' ⟨rfl, hb⟩
    go_wp2
    go_ret
    exact ⟨rfl, hb⟩
  | false =>
  cases hw' : wideB U with
  | true =>
    have hw := Lib.hid hw
    have hw' := Lib.hid hw'
    go_enter Try.func12, Try.ntmps12
    go_wp2_with fail
    refine (wide_any _ A c T w h).mono ?_
    rintro e w' ⟨rfl, rfl⟩
    rw [hw.out]
    go_wp2_with fail
    refine (wide_any _ A' c' U w h').mono ?_
    rintro e w' ⟨rfl, rfl⟩
    rw [hw'.out]
    go_wp2_with fail
    refine (awake_any _).mono ?_
    rintro e w' ⟨rfl, hb⟩
    go_wp2
    go_ret
    exact ⟨rfl, hb⟩
  | false =>
    cases hv : validB T with
    | false =>
      cases hu : validB U with
      | false =>
        have c1 : Calls Try.prog 45 #[.slice A T.length c, .slice A' U.length c'] w fun e w' => e = RB (false, 10) ∧ Below w.heap.size w w' := by
          have := Same_any w.heap.size A A' c c' T U w h h' (Nat.le_refl _)
          rwa [show sameR T U = (false, 10) by unfold sameR; rw [hv]; rfl] at this
        have c2 : ∀ W, Below w.heap.size w W → Calls Try.prog 29 #[.slice A T.length c] W (NewRowE W ([], 10)) := fun W hb => by
          have := Once_any w.heap.size A c T W (h.below hb) hb.size
          rwa [show onceR T = ([], 10) by unfold onceR; rw [hv]; rfl] at this
        have c3 : ∀ W, Below w.heap.size w W → Calls Try.prog 29 #[.slice A' U.length c'] W (NewRowE W ([], 10)) := fun W hb => by
          have := Once_any w.heap.size A' c' U W (h'.below hb) hb.size
          rwa [show onceR U = ([], 10) by unfold onceR; rw [hu]; rfl] at this
        replace c1 := Lib.hid c1
        replace c2 := Lib.hid c2
        replace c3 := Lib.hid c3
        replace hw := Lib.hid hw
        replace hw' := Lib.hid hw'
        replace hv := Lib.hid hv
        replace hu := Lib.hid hu
        go_enter Try.func12, Try.ntmps12
        go_wp2_with fail
        refine (wide_any _ A c T w h).mono ?_
        rintro e w' ⟨rfl, rfl⟩
        rw [hw.out]
        go_wp2_with fail
        refine (wide_any _ A' c' U w h').mono ?_
        rintro e w' ⟨rfl, rfl⟩
        rw [hw'.out]
        go_wp2_with fail
        refine c1.out.mono ?_
        rintro e w1 ⟨rfl, hb1⟩
        unfold RB
        go_wp2_with fail
        refine (c2.out _ hb1).mono ?_
        rintro e w2 ⟨A2, k2, rfl, hb12, hm2⟩
        dsimp only at hm2
        have hb2 := hb1.trans (hb12.mono hb1.size)
        go_wp2_with fail
        refine (c3.out _ hb2).mono ?_
        rintro e w3 ⟨A3, k3, rfl, hb23, hm3⟩
        dsimp only at hm3
        have hb3 := hb2.trans (hb23.mono hb2.size)
        go_wp2_with fail
        refine (awake_any _).mono ?_
        rintro e w4 ⟨rfl, hb4⟩
        go_wp2
        go_ret
        exact ⟨rfl, hb3.trans (hb4.mono hb3.size)⟩
      | true =>
        have c1 : Calls Try.prog 45 #[.slice A T.length c, .slice A' U.length c'] w fun e w' => e = RB (false, 10) ∧ Below w.heap.size w w' := by
          have := Same_any w.heap.size A A' c c' T U w h h' (Nat.le_refl _)
          rwa [show sameR T U = (false, 10) by unfold sameR; rw [hv]; rfl] at this
        have c2 : ∀ W, Below w.heap.size w W → Calls Try.prog 29 #[.slice A T.length c] W (NewRowE W ([], 10)) := fun W hb => by
          have := Once_any w.heap.size A c T W (h.below hb) hb.size
          rwa [show onceR T = ([], 10) by unfold onceR; rw [hv]; rfl] at this
        have c3 : ∀ W, Below w.heap.size w W → Calls Try.prog 29 #[.slice A' U.length c'] W (NewRowE W (spdL U (bt U), 0)) := fun W hb => by
          have := Once_any w.heap.size A' c' U W (h'.below hb) hb.size
          rwa [show onceR U = (spdL U (bt U), 0) by unfold onceR; rw [hu]; rfl] at this
        generalize spdL U (bt U) = N at c3
        replace c1 := Lib.hid c1
        replace c2 := Lib.hid c2
        replace c3 := Lib.hid c3
        replace hw := Lib.hid hw
        replace hw' := Lib.hid hw'
        replace hv := Lib.hid hv
        replace hu := Lib.hid hu
        go_enter Try.func12, Try.ntmps12
        go_wp2_with fail
        refine (wide_any _ A c T w h).mono ?_
        rintro e w' ⟨rfl, rfl⟩
        rw [hw.out]
        go_wp2_with fail
        refine (wide_any _ A' c' U w h').mono ?_
        rintro e w' ⟨rfl, rfl⟩
        rw [hw'.out]
        go_wp2_with fail
        refine c1.out.mono ?_
        rintro e w1 ⟨rfl, hb1⟩
        unfold RB
        go_wp2_with fail
        refine (c2.out _ hb1).mono ?_
        rintro e w2 ⟨A2, k2, rfl, hb12, hm2⟩
        dsimp only at hm2
        have hb2 := hb1.trans (hb12.mono hb1.size)
        go_wp2_with fail
        refine (c3.out _ hb2).mono ?_
        rintro e w3 ⟨A3, k3, rfl, hb23, hm3⟩
        dsimp only at hm3
        have hb3 := hb2.trans (hb23.mono hb2.size)
        go_wp2_with fail
        refine (awake_any _).mono ?_
        rintro e w4 ⟨rfl, hb4⟩
        go_wp2
        go_ret
        exact ⟨rfl, hb3.trans (hb4.mono hb3.size)⟩
    | true =>
      cases hu : validB U with
      | false =>
        have c1 : Calls Try.prog 45 #[.slice A T.length c, .slice A' U.length c'] w fun e w' => e = RB (false, 10) ∧ Below w.heap.size w w' := by
          have := Same_any w.heap.size A A' c c' T U w h h' (Nat.le_refl _)
          rwa [show sameR T U = (false, 10) by unfold sameR; rw [hv, hu]; rfl] at this
        have c2 : ∀ W, Below w.heap.size w W → Calls Try.prog 29 #[.slice A T.length c] W (NewRowE W (spdL T (bt T), 0)) := fun W hb => by
          have := Once_any w.heap.size A c T W (h.below hb) hb.size
          rwa [show onceR T = (spdL T (bt T), 0) by unfold onceR; rw [hv]; rfl] at this
        have c3 : ∀ W, Below w.heap.size w W → Calls Try.prog 29 #[.slice A' U.length c'] W (NewRowE W ([], 10)) := fun W hb => by
          have := Once_any w.heap.size A' c' U W (h'.below hb) hb.size
          rwa [show onceR U = ([], 10) by unfold onceR; rw [hu]; rfl] at this
        generalize spdL T (bt T) = L at c2
        replace c1 := Lib.hid c1
        replace c2 := Lib.hid c2
        replace c3 := Lib.hid c3
        replace hw := Lib.hid hw
        replace hw' := Lib.hid hw'
        replace hv := Lib.hid hv
        replace hu := Lib.hid hu
        go_enter Try.func12, Try.ntmps12
        go_wp2_with fail
        refine (wide_any _ A c T w h).mono ?_
        rintro e w' ⟨rfl, rfl⟩
        rw [hw.out]
        go_wp2_with fail
        refine (wide_any _ A' c' U w h').mono ?_
        rintro e w' ⟨rfl, rfl⟩
        rw [hw'.out]
        go_wp2_with fail
        refine c1.out.mono ?_
        rintro e w1 ⟨rfl, hb1⟩
        unfold RB
        go_wp2_with fail
        refine (c2.out _ hb1).mono ?_
        rintro e w2 ⟨A2, k2, rfl, hb12, hm2⟩
        dsimp only at hm2
        have hb2 := hb1.trans (hb12.mono hb1.size)
        go_wp2_with fail
        refine (c3.out _ hb2).mono ?_
        rintro e w3 ⟨A3, k3, rfl, hb23, hm3⟩
        dsimp only at hm3
        have hb3 := hb2.trans (hb23.mono hb2.size)
        go_wp2_with fail
        refine (awake_any _).mono ?_
        rintro e w4 ⟨rfl, hb4⟩
        go_wp2
        go_ret
        exact ⟨rfl, hb3.trans (hb4.mono hb3.size)⟩
      | true =>
        have c1 : Calls Try.prog 45 #[.slice A T.length c, .slice A' U.length c'] w fun e w' => e = RB (likeB T U, 0) ∧ Below w.heap.size w w' := by
          have := Same_any w.heap.size A A' c c' T U w h h' (Nat.le_refl _)
          rwa [show sameR T U = (likeB T U, 0) by unfold sameR; rw [hv, hu]; rfl] at this
        have c2 : ∀ W, Below w.heap.size w W → Calls Try.prog 29 #[.slice A T.length c] W (NewRowE W (spdL T (bt T), 0)) := fun W hb => by
          have := Once_any w.heap.size A c T W (h.below hb) hb.size
          rwa [show onceR T = (spdL T (bt T), 0) by unfold onceR; rw [hv]; rfl] at this
        have c3 : ∀ W, Below w.heap.size w W → Calls Try.prog 29 #[.slice A' U.length c'] W (NewRowE W (spdL U (bt U), 0)) := fun W hb => by
          have := Once_any w.heap.size A' c' U W (h'.below hb) hb.size
          rwa [show onceR U = (spdL U (bt U), 0) by unfold onceR; rw [hu]; rfl] at this
        have hl := Lib.hid (show likeB T U = decide (spdL T (bt T) = spdL U (bt U)) from rfl)
        generalize spdL T (bt T) = L at c2 hl
        generalize spdL U (bt U) = N at c3 hl
        generalize likeB T U = z at c1 hl
        replace c1 := Lib.hid c1
        replace c2 := Lib.hid c2
        replace c3 := Lib.hid c3
        replace hw := Lib.hid hw
        replace hw' := Lib.hid hw'
        replace hv := Lib.hid hv
        replace hu := Lib.hid hu
        go_enter Try.func12, Try.ntmps12
        go_wp2_with fail
        refine (wide_any _ A c T w h).mono ?_
        rintro e w' ⟨rfl, rfl⟩
        rw [hw.out]
        go_wp2_with fail
        refine (wide_any _ A' c' U w h').mono ?_
        rintro e w' ⟨rfl, rfl⟩
        rw [hw'.out]
        go_wp2_with fail
        refine c1.out.mono ?_
        rintro e w1 ⟨rfl, hb1⟩
        unfold RB
        go_wp2_with fail
        refine (c2.out _ hb1).mono ?_
        rintro e w2 ⟨A2, k2, rfl, hb12, hm2⟩
        dsimp only at hm2
        have hb2 := hb1.trans (hb12.mono hb1.size)
        go_wp2_with fail
        refine (c3.out _ hb2).mono ?_
        rintro e w3 ⟨A3, k3, rfl, hb23, hm3⟩
        dsimp only at hm3
        have hb3 := hb2.trans (hb23.mono hb2.size)
        have hsame := sameInts w3.heap.size A2 A3 k2 k3 L N w3 ((hm2.below hb23).more hb23.size) hm3
        replace hsame := Lib.hid hsame
        go_wp2_with fail
        refine hsame.out.mono ?_
        rintro e w4 ⟨rfl, m, rfl⟩
        rw [← hl.out]
        go_wp2_with fail
        refine (awake_any _).mono ?_
        rintro e w5 ⟨rfl, hb5⟩
        have hbz := (below_drewN hb3 m).trans (hb5.mono (by simpa using hb3.size))
        go_wp2
        go_ret
        exact ⟨rfl, hbz⟩

/-! ### the row's step -/
set_option maxRecDepth 100000 in
theorem lifted (os : Os) (started : os.Started) (H : Type) (enc : TypeId × Value → H) :
    ReturnsInHanded {} Try.checked os 12 .any (Rows.tideLikesSpec.pre6 enc Try.prog Try.f12 Rows.tideLikesRow.domain false) (Rows.tideLikesSpec.post enc Try.prog Try.f12 false true false false) := by
  refine returnsInHanded_of_change (C := Try.checked) own started (by kernel_rfl) Try.func12
    (ChangeSpec.witness6 (enc := enc) (C := Try.checked) false ⟨#[], #[.slice none 0 0, .slice none 0 0], []⟩ 8 (by kernel_rfl) (by kernel_rfl) (by kernel_rfl) (by kernel_rfl)) ?_
  intro W base args ds gs before hval0 hW hcnd _
  have hval : ∀ (j : Nat) t v, Try.f12.params[j]? = some t → args[j]? = some v → Value.okWide Try.prog W .any base t v := hval0
  have hW' := hW
  obtain ⟨p, q, hA0, hV, rfl, hfz, hnd⟩ := hW
  have hA : DataW.TrodAll enc Try.prog W 0 (fun _ => true) true Try.f12.params.toList args.toList ds p := hA0
  rw [Try.params12] at hA hval
  obtain ⟨v0, vs0, d0, ds0, p0, q0, hargs, rfl, rfl, h0, r0⟩ := trodAll_cons hA
  obtain ⟨v1, vs1, d1, ds1, p1, q1, rfl, rfl, rfl, h1, r1⟩ := trodAll_cons r0
  obtain ⟨rfl, rfl, rfl⟩ := trodAll_nil r1
  obtain rfl : args = #[v0, v1] := by cases args; simp_all
  obtain ⟨rfl, rfl⟩ := trodVars_none hV
  obtain ⟨a0, len0, cap0, rfl⟩ := okWide_slice Try.underlying22 (hval 0 22 v0 rfl rfl)
  have k0 := h0
  have lt0 : ∀ x ∈ p0, x.block < W.heap.size := by obtain ⟨m, hm⟩ := k0; exact DataW.trod_lt m _ _ _ hm
  obtain ⟨T0, rfl, w0⟩ : ∃ T : List (List Int), T.length = len0 ∧ Mat W W.heap.size a0 T := by
    obtain ⟨fuel, hf⟩ := h0
    exact mat_of hf
  obtain ⟨a1, len1, cap1, rfl⟩ := okWide_slice Try.underlying22 (hval 1 22 v1 rfl rfl)
  have k1 := h1
  have lt1 : ∀ x ∈ p1, x.block < W.heap.size := by obtain ⟨m, hm⟩ := k1; exact DataW.trod_lt m _ _ _ hm
  obtain ⟨T1, rfl, w1⟩ : ∃ T : List (List Int), T.length = len1 ∧ Mat W W.heap.size a1 T := by
    obtain ⟨fuel, hf⟩ := h1
    exact mat_of hf
  clear hA0 hval0
  refine (walk a0 cap0 T0 a1 cap1 T1 W w0 w1).mono fun e W' ⟨he, bel⟩ => ?_
  subst he
  exact ⟨_, rfl, _, _, _, [], _, [], hW', trodAll_mk1 (shut_bool Try.underlying4 _), (trodAll_cons_mk (Below.trod laidOut (by kernel_rfl) (of_decide_eq_true (by kernel_rfl)) k0 bel lt0) (trodAll_cons_mk (Below.trod laidOut (by kernel_rfl) (of_decide_eq_true (by kernel_rfl)) k1 bel lt1) trodAll_mk0)), rfl, bel.frame _, fun h => by cases h⟩

theorem over : Rows.tideLikesRow.holds Try.pinned (OpenSpec.ofChange Rows.tideLikesSpec) :=
  OpenClaim.holds_of_wide 12 Try.f12 rfl rfl rfl rfl rfl rfl rfl ⟨rfl, rfl, rfl, rfl, rfl⟩ rfl rfl rfl rfl rfl (by kernel_rfl) Try.func12 (by kernel_rfl)
    (of_decide_eq_true (by kernel_rfl)) (by unfold Func.isWrapper; first | (rw [if_pos (by decide +kernel)]; kernel_rfl) | (rw [if_neg (by decide +kernel)]; exact ⟨rfl, rfl⟩))
    (fun os started H enc _ => lifted os started H enc)

/-- The statement. -/
theorem proved : Rows.TideLikesSaid := over
end Go.Proofs.Ytmpmlgognkmfgaa.lawTideLikes
