/-
  For any claims, estate and rule, the law FundWholes returns true: the claimant with the least award, and awards in whole numbers, are the specification's.
  Conditions: none.
-/
import Derived.Test.YthleekdkbgnabaaJw
import Derived.Test.YthleekdkbgnabaaTf
import Derived.Test.YthleekdkbgnabaaK
namespace Go.Proofs.Ythleekdkbgnabaa.lawFundWholes
open Go.Joins Go.ChangeShapes Go.WideShapes Go.ChangeAt Go.RowKit Go.Deep Go.Proofs.Ythleekdkbgnabaa M
set_option linter.unusedVariables false
set_option linter.unusedSimpArgs false
set_option maxRecDepth 100000 in
set_option maxHeartbeats 2000000 in
theorem WholeR_bad (B : Nat) (A : Option Addr) (c : Nat) (l : List Int) (e q : Int) (w : World) (h : Row w B A l) (hB : B ≤ w.heap.size) (hk : ¬ okS l e q) :
    Calls Try.prog 39 #[.slice A l.length c, .int .i64 e, .int .i64 q] w fun r w' => r = .returned (.tuple #[.slice none 0 0, .int .i64 (errS l e q)]) ∧ Below w.heap.size w w' := by
  have k1 := Share_ref B A c l e q w h hB
  unfold ShR at k1
  have hne := errS_ne hk
  generalize shR l e q = F at *
  generalize shN l e q = n at *
  generalize l.length = ln at *
  generalize errS l e q = E at *
  have hn : (E != 0) = true := by simp; omega
  replace k1 := Lib.hid k1
  replace h := Lib.hid h
  replace hk := Lib.hid hk
  replace hne := Lib.hid hne
  go_enter Try.func39, Try.ntmps39
  go_wp2_with fail
  refine k1.out.mono ?_
  rintro _ X ⟨A', N, cp, rfl, hb, hN, hf⟩
  replace hb := Lib.hid hb
  replace hN := Lib.hid hN
  replace hf := Lib.hid hf
  go_wp2
  go_ret2
  exact ⟨rfl, hb.out⟩
set_option maxRecDepth 100000 in
set_option maxHeartbeats 4000000 in
theorem out (A : Option Addr) (c n : Nat) (e q : Int) (w : World) (hn : n ≤ 9223372036854775807) (hl : 40 < n) :
    Calls Try.prog 7 #[.slice A n c, .int .i64 e, .int .i64 q] w fun r w' => r = .returned (.bool true) ∧ Below w.heap.size w w' := by
  have k1 := Long_any A c n w hn
  rw [show decide (40 < (n : Int)) = true from decide_eq_true (by omega)] at k1
  replace k1 := Lib.hid k1
  go_enter Try.func7, Try.ntmps7
  go_wp2_with fail
  refine k1.out.mono ?_
  rintro _ X ⟨rfl, rfl⟩
  go_wp2_with fail
  refine (Sane_any _).mono ?_
  rintro _ X2 ⟨rfl, hb⟩
  go_wp2
  go_ret
  exact ⟨rfl, hb⟩
set_option maxRecDepth 100000 in
set_option maxHeartbeats 4000000 in
theorem core (A : Option Addr) (c n : Nat) (e q : Int) (w : World) (x : Nat) (E : Int) (N : Nat) (W : Nat → Int)
    (k1 : Calls Try.prog 17 #[.slice A n c] w fun r w' => r = .returned (.bool false) ∧ w' = w)
    (a1 : Calls Try.prog 36 #[.slice A n c, .int .i64 e, .int .i64 q] w fun r w' => r = .returned (.tuple #[.int .i64 (x : Nat), .int .i64 E]) ∧ Below w.heap.size w w')
    (a2 : ∀ X, Below w.heap.size w X → Calls Try.prog 37 #[.slice A n c, .int .i64 e, .int .i64 q] X fun r w' => r = .returned (.tuple #[.int .i64 (x : Nat), .int .i64 E]) ∧ Below X.heap.size X w')
    (a3 : ∀ X, Below w.heap.size w X → Calls Try.prog 38 #[.slice A n c, .int .i64 e, .int .i64 q] X fun r w' => ∃ A1 cp, r = .returned (.tuple #[.slice A1 N cp, .int .i64 E]) ∧ Below X.heap.size X w' ∧ (∃ W, ItF w' A1 N W ∧
      ∀ Y, Below w.heap.size w Y → Calls Try.prog 39 #[.slice A n c, .int .i64 e, .int .i64 q] Y fun r w' => ∃ A2 cp', r = .returned (.tuple #[.slice A2 N cp', .int .i64 E]) ∧ Below Y.heap.size Y w' ∧ ItF w' A2 N W)) (hN : N ≤ 1000) :
    Calls Try.prog 7 #[.slice A n c, .int .i64 e, .int .i64 q] w fun r w' => r = .returned (.bool true) ∧ Below w.heap.size w w' := by
  have hit : ∀ X Y A' N W, ItF X A' N W → Below X.heap.size X Y → ItF Y A' N W := fun X Y A' N W h hb hn => by
    obtain ⟨g, e, q⟩ := h hn
    exact ⟨g, e, q.up hb⟩
  have hEE : (E == E) = true := by simp
  replace k1 := Lib.hid k1
  replace a1 := Lib.hid a1
  replace a2 := Lib.hid a2
  replace a3 := Lib.hid a3
  replace hit := Lib.hid hit
  replace hN := Lib.hid hN
  go_enter Try.func7, Try.ntmps7
  go_wp2_with fail
  refine k1.out.mono ?_
  rintro _ X ⟨rfl, rfl⟩
  go_wp2_with fail
  refine a1.out.mono ?_
  rintro _ X1 ⟨rfl, hb1⟩
  have kk := Lib.hid (a2.out X1 hb1)
  replace hb1 := Lib.hid hb1
  go_wp2_with fail
  refine kk.out.mono ?_
  rintro _ X2 ⟨rfl, hb2⟩
  have b2 := bel_trans hb1.out hb2
  have k3 := Lib.hid (a3.out X2 b2)
  replace b2 := Lib.hid b2
  clear hb2
  go_wp2_with fail
  refine k3.out.mono ?_
  rintro _ X3 ⟨A3, cp3, rfl, hb3, W', f3, k4⟩
  have b3 := bel_trans b2.out hb3
  have k5 := Lib.hid (k4 X3 b3)
  replace b3 := Lib.hid b3
  replace f3 := Lib.hid f3
  clear hb3 k4
  go_wp2_with fail
  refine k5.out.mono ?_
  rintro _ X4 ⟨A4, cp4, rfl, hb4, f4⟩
  have b4 := bel_trans b3.out hb4
  have kS := Lib.hid (sameI_true A3 A4 N cp3 cp4 W' X4 (hit.out _ _ _ _ _ f3.out hb4) f4 hN.out)
  replace b4 := Lib.hid b4
  replace f4 := Lib.hid f4
  clear hb4
  go_wp2_with fail
  refine kS.out.mono ?_
  rintro _ X5 ⟨rfl, hb5⟩
  have b5 := Lib.hid (bel_trans b4.out hb5)
  clear hb5
  go_wp2_with fail
  refine (Sane_any _).mono ?_
  rintro _ X6 ⟨rfl, hb6⟩
  have b6 := Lib.hid (bel_trans b5.out hb6)
  clear hb6
  go_wp2
  go_ret
  exact ⟨rfl, b6.out⟩
theorem walk (A : Option Addr) (c : Nat) (l : List Int) (e q : Int) (w : World) (h : Row w w.heap.size A l) (_ : -9223372036854775808 ≤ e ∧ e ≤ 9223372036854775807) (_ : -9223372036854775808 ≤ q ∧ q ≤ 9223372036854775807) :
    Calls Try.prog 7 #[.slice A l.length c, .int .i64 e, .int .i64 q] w fun r w' => r = .returned (.bool true) ∧ Below w.heap.size w w' := by
  by_cases hl : 40 < l.length
  · exact out A c l.length e q w h.1 hl
  · have k1 := Long_any A c l.length w h.1
    rw [show decide (40 < (l.length : Int)) = false from decide_eq_false (by omega)] at k1
    by_cases hk : okS l e q
    · have a2 := fun X (hX : Below w.heap.size w X) => Least_ref X.heap.size A c l e q X (h.up hX) (Nat.le_refl _)
      rw [shN_ok hk, errS_ok hk] at a2
      obtain ⟨k, hk4, rfl⟩ := okS_nat hk
      have hn := val_len hk.1.1
      refine core A c l.length e _ w _ 0 l.length (fun _ => 0) k1 (Least_ok w.heap.size A c l e w h (Nat.le_refl _) hk.1 k hk4) a2 (fun X hX => ?_) (by omega)
      refine (Whole_ok X.heap.size A c l e X (h.up hX) (Nat.le_refl _) hk.1 k hk4).mono ?_
      rintro _ w' ⟨g, Q, s, L, σ, rfl, hb, hbl, hK, hI⟩
      refine ⟨_, _, rfl, hb, _, fun _ => ⟨g, rfl, hbl⟩, fun Y hY => ?_⟩
      refine (Whole_ref Y.heap.size A c l e _ Q s L σ Y (h.up hY) (Nat.le_refl _) hk hK hI).mono ?_
      rintro _ w'' ⟨g2, cp2, rfl, hb2, hbl2⟩
      exact ⟨_, _, rfl, hb2, fun _ => ⟨g2, rfl, hbl2⟩⟩
    · have a2 := fun X (hX : Below w.heap.size w X) => Least_ref X.heap.size A c l e q X (h.up hX) (Nat.le_refl _)
      rw [shN_bad hk] at a2
      have hno : ∀ X A' W, ItF X A' 0 W := fun X A' W hh => absurd hh (Nat.lt_irrefl _)
      refine core A c l.length e q w 0 (errS l e q) 0 (fun _ => 0) k1 (Least_bad w.heap.size A c l e q w h hk) a2 (fun X hX => ?_) (by omega)
      refine (Whole_bad X.heap.size A c l e q X (h.up hX) hk).mono ?_
      rintro _ w' ⟨rfl, hb⟩
      refine ⟨_, _, rfl, hb, fun _ => 0, hno _ _ _, fun Y hY => ?_⟩
      refine (WholeR_bad Y.heap.size A c l e q Y (h.up hY) (Nat.le_refl _) hk).mono ?_
      rintro _ w'' ⟨rfl, hb2⟩
      exact ⟨_, _, rfl, hb2, hno _ _ _⟩

/-! ### the row's step -/
set_option maxRecDepth 100000 in
theorem lifted (os : Os) (started : os.Started) (H : Type) (enc : TypeId × Value → H) :
    ReturnsInHanded {} Try.checked os 7 .any (Rows.fundWholesSpec.pre6 enc Try.prog Try.f7 Rows.fundWholesRow.domain false) (Rows.fundWholesSpec.post enc Try.prog Try.f7 false true false false) := by
  refine returnsInHanded_of_change (C := Try.checked) own started (by kernel_rfl) Try.func7
    (ChangeSpec.witness6 (enc := enc) (C := Try.checked) false ⟨#[], #[.slice none 0 0, .int .i64 0, .int .i64 0], []⟩ 8 (by kernel_rfl) (by kernel_rfl) (by kernel_rfl) (by kernel_rfl)) ?_
  intro W base args ds gs before hval0 hW hcnd _
  have hval : ∀ (j : Nat) t v, Try.f7.params[j]? = some t → args[j]? = some v → Value.okWide Try.prog W .any base t v := hval0
  have hW' := hW
  obtain ⟨p, q, hA0, hV, rfl, hfz, hnd⟩ := hW
  have hA : DataW.TrodAll enc Try.prog W 0 (fun _ => true) true Try.f7.params.toList args.toList ds p := hA0
  rw [Try.params7] at hA hval
  obtain ⟨v0, vs0, d0, ds0, p0, q0, hargs, rfl, rfl, h0, r0⟩ := trodAll_cons hA
  obtain ⟨v1, vs1, d1, ds1, p1, q1, rfl, rfl, rfl, h1, r1⟩ := trodAll_cons r0
  obtain ⟨v2, vs2, d2, ds2, p2, q2, rfl, rfl, rfl, h2, r2⟩ := trodAll_cons r1
  obtain ⟨rfl, rfl, rfl⟩ := trodAll_nil r2
  obtain rfl : args = #[v0, v1, v2] := by cases args; simp_all
  obtain ⟨rfl, rfl⟩ := trodVars_none hV
  have k0 := h0
  have lt0 : ∀ x ∈ p0, x.block < W.heap.size := by obtain ⟨m, hm⟩ := k0; exact DataW.trod_lt m _ _ _ hm
  obtain ⟨a0, len0, cap0, T0, rfl, rfl, w0⟩ : ∃ A len cap D, v0 = .slice A len cap ∧ D.length = len ∧ Row W W.heap.size A D := by
    obtain ⟨s0, s1, s2, rfl⟩ := okWide_slice Try.underlying22 (hval 0 22 v0 rfl rfl)
    obtain ⟨fuel, hf⟩ := h0
    exact row_of (by simpa [Value.cells] using hf)
  obtain ⟨a1, rfl, rfl, rfl, w1⟩ := open_int Try.underlying3 (hval 1 3 v1 rfl rfl) h1
  obtain ⟨a2, rfl, rfl, rfl, w2⟩ := open_int Try.underlying3 (hval 2 3 v2 rfl rfl) h2
  clear hA0 hval0
  refine (walk a0 cap0 T0 a1 a2 W w0 (i64_range w1) (i64_range w2)).mono fun e W' ⟨he, bel⟩ => ?_
  subst he
  exact ⟨_, rfl, _, _, _, [], _, [], hW', trodAll_mk1 (shut_bool Try.underlying4 _), (trodAll_cons_mk (Below.trod laidOut (by kernel_rfl) (of_decide_eq_true (by kernel_rfl)) k0 bel lt0) (trodAll_cons_mk (shut_int Try.underlying3 w1) (trodAll_cons_mk (shut_int Try.underlying3 w2) trodAll_mk0))), rfl, bel.frame _, fun h => by cases h⟩

theorem over : Rows.fundWholesRow.holds Try.pinned (OpenSpec.ofChange Rows.fundWholesSpec) :=
  OpenClaim.holds_of_wide 7 Try.f7 rfl rfl rfl rfl rfl rfl rfl ⟨rfl, rfl, rfl, rfl, rfl⟩ rfl rfl rfl rfl rfl (by kernel_rfl) Try.func7 (by kernel_rfl)
    (of_decide_eq_true (by kernel_rfl)) (by unfold Func.isWrapper; first | (rw [if_pos (by decide +kernel)]; kernel_rfl) | (rw [if_neg (by decide +kernel)]; exact ⟨rfl, rfl⟩))
    (fun os started H enc _ => lifted os started H enc)

/-- The statement. -/
theorem proved : Rows.FundWholesSaid := over
end Go.Proofs.Ythleekdkbgnabaa.lawFundWholes
