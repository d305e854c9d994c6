/-
  For any two tides and any number of hours, the law TideOthers returns true: the program shifts, turns back and sums tides as the specification.
  Conditions: none.
-/
import Derived.Test.YtmpmlgognkmfgaaAwake
import Derived.Test.YtmpmlgognkmfgaaOpen
import Derived.Test.YtmpmlgognkmfgaaSumRef
import Derived.Test.YtmpmlgognkmfgaaSame
namespace Go.Proofs.Ytmpmlgognkmfgaa.lawTideOthers
open Go.ChangeShapes Go.WideShapes Go.ChangeAt Go.RowKit Go.Deep Go.Proofs.Ytmpmlgognkmfgaa M
set_option linter.unusedVariables false
set_option linter.unusedSimpArgs false

theorem equal_new (A A' : Option Addr) (c c' : Nat) (l : List (List Int)) (w : World) (B B' : Nat) (h : Mat w B A l) (h' : Mat w B' A' l) :
    Calls Try.prog 40 #[.slice A l.length c, .slice A' l.length c'] w fun e w' => e = .returned (.bool true) ∧ ∃ n, w' = w.drewN n := by
  have := equal (max B B') A A' c c' l l w (h.more (Nat.le_max_left _ _)) (h'.more (Nat.le_max_right _ _))
  rwa [decide_eq_true rfl] at this

set_option maxHeartbeats 2000000 in
theorem walk (A : Option Addr) (c : Nat) (T : List (List Int)) (A' : Option Addr) (c' : Nat) (U : List (List Int)) (by_ : Int) (w : World) (h : Mat w w.heap.size A T) (h' : Mat w w.heap.size A' U) (hby : -9223372036854775808 ≤ by_ ∧ by_ ≤ 9223372036854775807) :
    Calls Try.prog 6 #[.slice A T.length c, .slice A' U.length c', .int .i64 by_] w fun e w' => e = .returned (.bool true) ∧ Below w.heap.size w w' := by
  cases hw : wideB T with
  | true =>
    have hw := Lib.hid hw
    go_enter Try.func6, Try.ntmps6
    go_wp2_with fail
    refine (wide_any _ A c T w h).mono ?_
    rintro e w' ⟨rfl, rfl⟩
    rw [hw.out]
    go_wp2_with fail
    refine (awake_any _).mono ?_
    rintro e w' ⟨rfl, hb⟩
    go_wp2
    go_ret
    exact ⟨rfl, hb⟩
  | false =>
  cases hw' : wideB U with
  | true =>
    have hw := Lib.hid hw
    have hw' := Lib.hid hw'
    go_enter Try.func6, Try.ntmps6
    go_wp2_with fail
    refine (wide_any _ A c T w h).mono ?_
    rintro e w' ⟨rfl, rfl⟩
    rw [hw.out]
    go_wp2_with fail
    refine (wide_any _ A' c' U w h').mono ?_
    rintro e w' ⟨rfl, rfl⟩
    rw [hw'.out]
    go_wp2_with fail
    refine (awake_any _).mono ?_
    rintro e w' ⟨rfl, hb⟩
    go_wp2
    go_ret
    exact ⟨rfl, hb⟩
  | false =>
    have c38 : ∀ W, Below w.heap.size w W → Calls Try.prog 38 #[.slice A T.length c, .int .i64 by_] W (NewMatE W (shiftR T by_)) := fun W hb => Shifted_any w.heap.size A c T by_ W (h.below hb) hb.size
    have c39 : ∀ W, Below w.heap.size w W → Calls Try.prog 39 #[.slice A T.length c, .int .i64 by_] W (NewMatE W (shiftR T by_)) := fun W hb => Shifted_ref w.heap.size A c T by_ W (h.below hb) hb.size
    have c41 : ∀ W, Below w.heap.size w W → Calls Try.prog 41 #[.slice A T.length c] W (NewMatE W (backR T)) := fun W hb => Back_any w.heap.size A c T W (h.below hb) hb.size
    have c42 : ∀ W, Below w.heap.size w W → Calls Try.prog 42 #[.slice A T.length c] W (NewMatE W (backR T)) := fun W hb => Back_ref w.heap.size A c T W (h.below hb) hb.size
    have c43 : ∀ W, Below w.heap.size w W → Calls Try.prog 43 #[.slice A T.length c, .slice A' U.length c'] W (NewMatE W (sumR T U)) := fun W hb => Sum_any w.heap.size A A' c c' T U W (h.below hb) (h'.below hb) hb.size
    have c44 : ∀ W, Below w.heap.size w W → Calls Try.prog 44 #[.slice A T.length c, .slice A' U.length c'] W (NewMatE W (sumR T U)) := fun W hb => Sum_ref w.heap.size A A' c c' T U W (h.below hb) (h'.below hb) hb.size
    generalize shiftR T by_ = p at c38 c39
    generalize backR T = q at c41 c42
    generalize sumR T U = r at c43 c44
    obtain ⟨p1, p2⟩ := p
    obtain ⟨q1, q2⟩ := q
    obtain ⟨r1, r2⟩ := r
    replace c38 := Lib.hid c38
    replace c39 := Lib.hid c39
    replace c41 := Lib.hid c41
    replace c42 := Lib.hid c42
    replace c43 := Lib.hid c43
    replace c44 := Lib.hid c44
    have hw := Lib.hid hw
    have hw' := Lib.hid hw'
    go_enter Try.func6, Try.ntmps6
    go_wp2_with fail
    refine (wide_any _ A c T w h).mono ?_
    rintro e w' ⟨rfl, rfl⟩
    rw [hw.out]
    go_wp2_with fail
    refine (wide_any _ A' c' U w h').mono ?_
    rintro e w' ⟨rfl, rfl⟩
    rw [hw'.out]
    go_wp2_with fail
    refine (c38.out _ (Below.refl w.heap.size w)).mono ?_
    rintro e w1 ⟨A1, k1, rfl, hx1, hm1⟩
    dsimp only at hm1
    have hb1 : Below w.heap.size w w1 := (Below.refl w.heap.size w).trans (hx1.mono (Below.refl w.heap.size w).size)
    go_wp2_with fail
    refine (c39.out _ hb1).mono ?_
    rintro e w2 ⟨A2, k2, rfl, hx2, hm2⟩
    dsimp only at hm2
    have hb2 : Below w.heap.size w w2 := hb1.trans (hx2.mono hb1.size)
    have he2 := Lib.hid (equal_new A1 A2 k1 k2 p1 w2 _ _ (hm1.below hx2) hm2)
    go_wp2_with fail
    refine he2.out.mono ?_
    rintro e w3 ⟨rfl, m3, hw3⟩
    have hb3 : Below w.heap.size w w3 := by rw [hw3]; exact below_drewN hb2 m3
    clear hw3 hm1 hm2 hx1 hx2 hb1 hb2 he2
    go_wp2_with fail
    refine (c41.out _ hb3).mono ?_
    rintro e w4 ⟨A4, k4, rfl, hx4, hm4⟩
    dsimp only at hm4
    have hb4 : Below w.heap.size w w4 := hb3.trans (hx4.mono hb3.size)
    go_wp2_with fail
    refine (c42.out _ hb4).mono ?_
    rintro e w5 ⟨A5, k5, rfl, hx5, hm5⟩
    dsimp only at hm5
    have hb5 : Below w.heap.size w w5 := hb4.trans (hx5.mono hb4.size)
    have he5 := Lib.hid (equal_new A4 A5 k4 k5 q1 w5 _ _ (hm4.below hx5) hm5)
    go_wp2_with fail
    refine he5.out.mono ?_
    rintro e w6 ⟨rfl, m6, hw6⟩
    have hb6 : Below w.heap.size w w6 := by rw [hw6]; exact below_drewN hb5 m6
    clear hw6 hm4 hm5 hx4 hx5 hb4 hb5 he5
    go_wp2_with fail
    refine (c43.out _ hb6).mono ?_
    rintro e w7 ⟨A7, k7, rfl, hx7, hm7⟩
    dsimp only at hm7
    have hb7 : Below w.heap.size w w7 := hb6.trans (hx7.mono hb6.size)
    go_wp2_with fail
    refine (c44.out _ hb7).mono ?_
    rintro e w8 ⟨A8, k8, rfl, hx8, hm8⟩
    dsimp only at hm8
    have hb8 : Below w.heap.size w w8 := hb7.trans (hx8.mono hb7.size)
    have he8 := Lib.hid (equal_new A7 A8 k7 k8 r1 w8 _ _ (hm7.below hx8) hm8)
    go_wp2_with fail
    refine he8.out.mono ?_
    rintro e w9 ⟨rfl, m9, hw9⟩
    have hb9 : Below w.heap.size w w9 := by rw [hw9]; exact below_drewN hb8 m9
    clear hw9 hm7 hm8 hx7 hx8 hb7 hb8 he8
    go_wp2_with fail
    refine (awake_any _).mono ?_
    rintro e w10 ⟨rfl, hb10⟩
    have hbz := hb9.trans (hb10.mono hb9.size)
    go_wp2
    go_ret
    exact ⟨rfl, hbz⟩

/-! ### the row's step -/
set_option maxRecDepth 100000 in
theorem lifted (os : Os) (started : os.Started) (H : Type) (enc : TypeId × Value → H) :
    ReturnsInHanded {} Try.checked os 6 .any (Rows.tideOthersSpec.pre6 enc Try.prog Try.f6 Rows.tideOthersRow.domain false) (Rows.tideOthersSpec.post enc Try.prog Try.f6 false true false false) := by
  refine returnsInHanded_of_change (C := Try.checked) own started (by kernel_rfl) Try.func6
    (ChangeSpec.witness6 (enc := enc) (C := Try.checked) false ⟨#[], #[.slice none 0 0, .slice none 0 0, .int .i64 0], []⟩ 8 (by kernel_rfl) (by kernel_rfl) (by kernel_rfl) (by kernel_rfl)) ?_
  intro W base args ds gs before hval0 hW hcnd _
  have hval : ∀ (j : Nat) t v, Try.f6.params[j]? = some t → args[j]? = some v → Value.okWide Try.prog W .any base t v := hval0
  have hW' := hW
  obtain ⟨p, q, hA0, hV, rfl, hfz, hnd⟩ := hW
  have hA : DataW.TrodAll enc Try.prog W 0 (fun _ => true) true Try.f6.params.toList args.toList ds p := hA0
  rw [Try.params6] at hA hval
  obtain ⟨v0, vs0, d0, ds0, p0, q0, hargs, rfl, rfl, h0, r0⟩ := trodAll_cons hA
  obtain ⟨v1, vs1, d1, ds1, p1, q1, rfl, rfl, rfl, h1, r1⟩ := trodAll_cons r0
  obtain ⟨v2, vs2, d2, ds2, p2, q2, rfl, rfl, rfl, h2, r2⟩ := trodAll_cons r1
  obtain ⟨rfl, rfl, rfl⟩ := trodAll_nil r2
  obtain rfl : args = #[v0, v1, v2] := by cases args; simp_all
  obtain ⟨rfl, rfl⟩ := trodVars_none hV
  obtain ⟨a0, len0, cap0, rfl⟩ := okWide_slice Try.underlying22 (hval 0 22 v0 rfl rfl)
  have k0 := h0
  have lt0 : ∀ x ∈ p0, x.block < W.heap.size := by obtain ⟨m, hm⟩ := k0; exact DataW.trod_lt m _ _ _ hm
  obtain ⟨T0, rfl, w0⟩ : ∃ T : List (List Int), T.length = len0 ∧ Mat W W.heap.size a0 T := by
    obtain ⟨fuel, hf⟩ := h0
    exact mat_of hf
  obtain ⟨a1, len1, cap1, rfl⟩ := okWide_slice Try.underlying22 (hval 1 22 v1 rfl rfl)
  have k1 := h1
  have lt1 : ∀ x ∈ p1, x.block < W.heap.size := by obtain ⟨m, hm⟩ := k1; exact DataW.trod_lt m _ _ _ hm
  obtain ⟨T1, rfl, w1⟩ : ∃ T : List (List Int), T.length = len1 ∧ Mat W W.heap.size a1 T := by
    obtain ⟨fuel, hf⟩ := h1
    exact mat_of hf
  obtain ⟨a2, rfl, rfl, rfl, w2⟩ := open_int Try.underlying3 (hval 2 3 v2 rfl rfl) h2
  clear hA0 hval0
  refine (walk a0 cap0 T0 a1 cap1 T1 a2 W w0 w1 (i64_range w2)).mono fun e W' ⟨he, bel⟩ => ?_
  subst he
  exact ⟨_, rfl, _, _, _, [], _, [], hW', trodAll_mk1 (shut_bool Try.underlying4 _), (trodAll_cons_mk (Below.trod laidOut (by kernel_rfl) (of_decide_eq_true (by kernel_rfl)) k0 bel lt0) (trodAll_cons_mk (Below.trod laidOut (by kernel_rfl) (of_decide_eq_true (by kernel_rfl)) k1 bel lt1) (trodAll_cons_mk (shut_int Try.underlying3 w2) trodAll_mk0))), rfl, bel.frame _, fun h => by cases h⟩

theorem over : Rows.tideOthersRow.holds Try.pinned (OpenSpec.ofChange Rows.tideOthersSpec) :=
  OpenClaim.holds_of_wide 6 Try.f6 rfl rfl rfl rfl rfl rfl rfl ⟨rfl, rfl, rfl, rfl, rfl⟩ rfl rfl rfl rfl rfl (by kernel_rfl) Try.func6 (by kernel_rfl)
    (of_decide_eq_true (by kernel_rfl)) (by unfold Func.isWrapper; first | (rw [if_pos (by decide +kernel)]; kernel_rfl) | (rw [if_neg (by decide +kernel)]; exact ⟨rfl, rfl⟩))
    (fun os started H enc _ => lifted os started H enc)

/-- The statement. -/
theorem proved : Rows.TideOthersSaid := over
end Go.Proofs.Ytmpmlgognkmfgaa.lawTideOthers
