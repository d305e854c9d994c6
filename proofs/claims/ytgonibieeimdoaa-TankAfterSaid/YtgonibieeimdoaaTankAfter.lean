/-
  For any tanks, levels and deeds, the law TankAfter returns true: the levels behind deeds, and how much is filled in and emptied out, are the document's.
  Conditions: none.
-/
import Derived.Test.YtgonibieeimdoaaK
import Derived.Test.YtgonibieeimdoaaR
namespace Go.Proofs.Ytgonibieeimdoaa.lawTankAfter
open Go.ChangeShapes Go.WideShapes Go.ChangeAt Go.RowKit Go.Deep Go.Proofs.Ytgonibieeimdoaa M
set_option linter.unusedVariables false
set_option linter.unusedSimpArgs false

theorem Long_any (A A' : Option Addr) (c c' n m : Nat) (w : World) (q : Bool) (hq : q = (decide (20 < n) || decide (20 < m))) (hn : n ≤ 9223372036854775807) (hm : m ≤ 9223372036854775807) :
    Calls Try.prog 17 #[.slice A n c, .slice A' m c'] w fun e w' => e = .returned (.bool q) ∧ w = w' := by
  subst hq
  by_cases h1 : 20 < n
  · go_enter Try.func17, Try.ntmps17
    go_wp2
    go_ret
    exact ⟨ret_bool (by simp [h1]), rfl⟩
  · by_cases h2 : 20 < m
    · go_enter Try.func17, Try.ntmps17
      go_wp2
      go_ret
      exact ⟨ret_bool (by simp [h1, h2]; omega), rfl⟩
    · go_enter Try.func17, Try.ntmps17
      go_wp2
      go_ret
      exact ⟨ret_bool (by simp [h1, h2]; omega), rfl⟩
theorem same_is {X : World} {A1 A2 : Option Addr} {n : Nat} {l : List Int} (c1 c2 : Nat) (h1 : Row X X.heap.size A1 l) (h2 : Row X X.heap.size A2 l) (hn : n = l.length) : Calls Try.prog 23 #[.slice A1 n c1, .slice A2 n c2] X fun e Y => e = .returned (.bool true) ∧ Below X.heap.size X Y := by
  subst hn
  refine (SameInts_any X.heap.size A1 A2 c1 c2 l l X h1 h2).mono fun e Y hh => ?_
  unfold sameI at hh
  rw [decide_eq_true rfl] at hh
  refine ⟨hh.1, ?_⟩
  first
    | (obtain ⟨_, n, rfl⟩ := hh; exact below_drewN (Below.refl _ _) n)
    | (obtain ⟨_, rfl⟩ := hh; exact Below.refl _ _)
theorem sane_any (w : World) : Calls Try.prog 18 #[] w fun e w' => e = .returned (.bool true) ∧ Below w.heap.size w w' := Sane_any w

set_option maxRecDepth 100000 in
set_option maxHeartbeats 4000000 in
theorem walk (A : Option Addr) (c : Nat) (t : List Int) (A' : Option Addr) (c' : Nat) (l : List Int) (A'' : Option Addr) (c'' : Nat) (D : List Dd) (w : World) (h : Row w w.heap.size A t) (h' : Row w w.heap.size A' l) (h'' : Dls w w.heap.size A'' D) :
    Calls Try.prog 4 #[.slice A t.length c, .slice A' l.length c', .slice A'' D.length c''] w fun e w' => e = .returned (.bool true) ∧ Below w.heap.size w w' := by
  have h63 := h.1
  have h63' := h'.1
  have h63'' := h''.1
  have hbel := Below.refl w.heap.size w
  have T := h
  have L := h'
  have DD := h''
  have hL := Long_any A A' c c' t.length l.length w _ rfl h63 h63'
  cases hq : (decide (20 < t.length) || decide (20 < l.length)) with
  | true =>
    rw [hq] at hL
    replace hL := Lib.hid hL
    replace hq := Lib.hid hq
    go_enter Try.func4, Try.ntmps4
    go_wp2_with fail
    refine hL.out.mono ?_
    rintro e X0 ⟨rfl, rfl⟩
    go_wp2_with fail
    refine (sane_any _).mono ?_
    rintro e XA ⟨rfl, hbA⟩
    replace hbel := bel_trans hbel hbA
    go_wp2
    go_ret
    exact ⟨rfl, hbel⟩
  | false =>
    rw [hq] at hL
    replace hL := Lib.hid hL
    replace hq := Lib.hid hq
    by_cases h300 : 300 < D.length
    · go_enter Try.func4, Try.ntmps4
      go_wp2_with fail
      refine hL.out.mono ?_
      rintro e X0 ⟨rfl, rfl⟩
      go_wp2_with fail
      refine (sane_any _).mono ?_
      rintro e XA ⟨rfl, hbA⟩
      replace hbel := bel_trans hbel hbA
      go_wp2
      go_ret
      exact ⟨rfl, hbel⟩
    · go_enter Try.func4, Try.ntmps4
      go_wp2_with fail
      refine hL.out.mono ?_
      rintro e X0 ⟨rfl, rfl⟩
      have K := After_any w.heap.size A A' A'' c c' c'' t l D w T L DD (Nat.le_refl _)
      unfold AftP at K
      replace K := Lib.hid K
      go_wp2_with fail
      refine K.out.mono ?_
      rintro e X1 ⟨A1, c1, rfl, hb1, r1⟩
      clear K
      replace T := T.up hb1
      replace L := L.up hb1
      replace DD := DD.up hb1
      replace hbel := bel_trans hbel hb1
      have K := After_ref X1.heap.size A A' A'' c c' c'' t l D X1 T L DD (Nat.le_refl _)
      unfold AftP at K
      replace K := Lib.hid K
      go_wp2_with fail
      refine K.out.mono ?_
      rintro e X2 ⟨A2, c2, rfl, hb2, r2⟩
      clear K
      replace T := T.up hb2
      replace L := L.up hb2
      replace DD := DD.up hb2
      replace r1 := r1.up hb2
      replace hbel := bel_trans hbel hb2
      have K := Water_any X2.heap.size A A' A'' c c' c'' t l D X2 T L DD (Nat.le_refl _)
      replace K := Lib.hid K
      go_wp2_with fail
      refine K.out.mono ?_
      rintro e X3 ⟨rfl, hb3⟩
      clear K
      replace T := T.up hb3
      replace L := L.up hb3
      replace DD := DD.up hb3
      replace r1 := r1.up hb3
      replace r2 := r2.up hb3
      replace hbel := bel_trans hbel hb3
      have K := Water_ref X3.heap.size A A' A'' c c' c'' t l D X3 T L DD (Nat.le_refl _)
      replace K := Lib.hid K
      go_wp2_with fail
      refine K.out.mono ?_
      rintro e X4 ⟨rfl, hb4⟩
      clear K
      replace r1 := r1.up hb4
      replace r2 := r2.up hb4
      replace hbel := bel_trans hbel hb4
      have KS := Lib.hid (same_is c1 c2 r1 r2 rfl)
      obtain ⟨er, her⟩ : ∃ er, er = (aftR t l D).2 := ⟨_, rfl⟩
      obtain ⟨nr, hnr⟩ : ∃ nr, nr = (aftR t l D).1.length := ⟨_, rfl⟩
      obtain ⟨wa, hwa⟩ : ∃ er, er = (watR t l D).1 := ⟨_, rfl⟩
      obtain ⟨wb, hwb⟩ : ∃ er, er = (watR t l D).2.1 := ⟨_, rfl⟩
      obtain ⟨wc, hwc⟩ : ∃ er, er = (watR t l D).2.2 := ⟨_, rfl⟩
      rw [← her, ← hwa, ← hwb, ← hwc]
      rw [← hnr] at KS ⊢
      have hee : (er == er) = true := by simp
      have haa : (wa == wa) = true := by simp
      have hbb : (wb == wb) = true := by simp
      have hcc : (wc == wc) = true := by simp
      replace her := Lib.hid her
      replace hnr := Lib.hid hnr
      replace hwa := Lib.hid hwa
      replace hwb := Lib.hid hwb
      replace hwc := Lib.hid hwc
      replace r1 := Lib.hid r1
      replace r2 := Lib.hid r2
      go_wp2_with fail
      refine KS.out.mono ?_
      rintro e X5 ⟨rfl, hb5⟩
      replace hbel := bel_trans hbel hb5
      go_wp2_with fail
      refine (sane_any _).mono ?_
      rintro e XA ⟨rfl, hbA⟩
      replace hbel := bel_trans hbel hbA
      go_wp2
      go_ret
      exact ⟨rfl, hbel⟩

/-! ### the row's step -/
set_option maxRecDepth 100000 in
theorem lifted (os : Os) (started : os.Started) (H : Type) (enc : TypeId × Value → H) :
    ReturnsInHanded {} Try.checked os 4 .any (Rows.tankAfterSpec.pre6 enc Try.prog Try.f4 Rows.tankAfterRow.domain false) (Rows.tankAfterSpec.post enc Try.prog Try.f4 false true false false) := by
  refine returnsInHanded_of_change (C := Try.checked) own started (by kernel_rfl) Try.func4
    (ChangeSpec.witness6 (enc := enc) (C := Try.checked) false ⟨#[], #[.slice none 0 0, .slice none 0 0, .slice none 0 0], []⟩ 8 (by kernel_rfl) (by kernel_rfl) (by kernel_rfl) (by kernel_rfl)) ?_
  intro W base args ds gs before hval0 hW hcnd _
  have hval : ∀ (j : Nat) t v, Try.f4.params[j]? = some t → args[j]? = some v → Value.okWide Try.prog W .any base t v := hval0
  have hW' := hW
  obtain ⟨p, q, hA0, hV, rfl, hfz, hnd⟩ := hW
  have hA : DataW.TrodAll enc Try.prog W 0 (fun _ => true) true Try.f4.params.toList args.toList ds p := hA0
  rw [Try.params4] at hA hval
  obtain ⟨v0, vs0, d0, ds0, p0, q0, hargs, rfl, rfl, h0, r0⟩ := trodAll_cons hA
  obtain ⟨v1, vs1, d1, ds1, p1, q1, rfl, rfl, rfl, h1, r1⟩ := trodAll_cons r0
  obtain ⟨v2, vs2, d2, ds2, p2, q2, rfl, rfl, rfl, h2, r2⟩ := trodAll_cons r1
  obtain ⟨rfl, rfl, rfl⟩ := trodAll_nil r2
  obtain rfl : args = #[v0, v1, v2] := by cases args; simp_all
  obtain ⟨rfl, rfl⟩ := trodVars_none hV
  have k0 := h0
  have lt0 : ∀ x ∈ p0, x.block < W.heap.size := by obtain ⟨m, hm⟩ := k0; exact DataW.trod_lt m _ _ _ hm
  obtain ⟨a0, len0, cap0, T0, rfl, rfl, w0⟩ : ∃ A len cap D, v0 = .slice A len cap ∧ D.length = len ∧ Row W W.heap.size A D := by
    obtain ⟨s0, s1, s2, rfl⟩ := okWide_slice Try.underlying22 (hval 0 22 v0 rfl rfl)
    obtain ⟨fuel, hf⟩ := h0
    exact row_of (by simpa [Value.cells] using hf)
  have k1 := h1
  have lt1 : ∀ x ∈ p1, x.block < W.heap.size := by obtain ⟨m, hm⟩ := k1; exact DataW.trod_lt m _ _ _ hm
  obtain ⟨a1, len1, cap1, T1, rfl, rfl, w1⟩ : ∃ A len cap D, v1 = .slice A len cap ∧ D.length = len ∧ Row W W.heap.size A D := by
    obtain ⟨s0, s1, s2, rfl⟩ := okWide_slice Try.underlying22 (hval 1 22 v1 rfl rfl)
    obtain ⟨fuel, hf⟩ := h1
    exact row_of (by simpa [Value.cells] using hf)
  have k2 := h2
  have lt2 : ∀ x ∈ p2, x.block < W.heap.size := by obtain ⟨m, hm⟩ := k2; exact DataW.trod_lt m _ _ _ hm
  obtain ⟨a2, len2, cap2, T2, rfl, rfl, w2⟩ : ∃ A len cap D, v2 = .slice A len cap ∧ D.length = len ∧ Dls W W.heap.size A D := by
    obtain ⟨s0, s1, s2, rfl⟩ := okWide_slice Try.underlying32 (hval 2 32 v2 rfl rfl)
    obtain ⟨fuel, hf⟩ := h2
    exact dls_of (by simpa [Value.cells] using hf)
  clear hA0 hval0
  refine (walk a0 cap0 T0 a1 cap1 T1 a2 cap2 T2 W w0 w1 w2).mono fun e W' ⟨he, bel⟩ => ?_
  subst he
  exact ⟨_, rfl, _, _, _, [], _, [], hW', trodAll_mk1 (shut_bool Try.underlying4 _), (trodAll_cons_mk (Below.trod laidOut (by kernel_rfl) (of_decide_eq_true (by kernel_rfl)) k0 bel lt0) (trodAll_cons_mk (Below.trod laidOut (by kernel_rfl) (of_decide_eq_true (by kernel_rfl)) k1 bel lt1) (trodAll_cons_mk (Below.trod laidOut (by kernel_rfl) (of_decide_eq_true (by kernel_rfl)) k2 bel lt2) trodAll_mk0))), rfl, bel.frame _, fun h => by cases h⟩

theorem over : Rows.tankAfterRow.holds Try.pinned (OpenSpec.ofChange Rows.tankAfterSpec) :=
  OpenClaim.holds_of_wide 4 Try.f4 rfl rfl rfl rfl rfl rfl rfl ⟨rfl, rfl, rfl, rfl, rfl⟩ rfl rfl rfl rfl rfl (by kernel_rfl) Try.func4 (by kernel_rfl)
    (of_decide_eq_true (by kernel_rfl)) (by unfold Func.isWrapper; first | (rw [if_pos (by decide +kernel)]; kernel_rfl) | (rw [if_neg (by decide +kernel)]; exact ⟨rfl, rfl⟩))
    (fun os started H enc _ => lifted os started H enc)

/-- The statement. -/
theorem proved : Rows.TankAfterSaid := over
end Go.Proofs.Ytgonibieeimdoaa.lawTankAfter
