/-
  For any rounds, any two places and any hour, the law WindowMeets returns true: the program says as the specification when rounds meet, which two never do, and which hours are in all.
  Conditions: none.
-/
import Derived.Test.YtlnpnfjdcnijhaaK
import Derived.Test.YtlnpnfjdcnijhaaH
namespace Go.Proofs.Ytlnpnfjdcnijhaa.lawWindowMeets
open Go.ChangeShapes Go.WideShapes Go.ChangeAt Go.RowKit Go.Deep Go.Proofs.Ytlnpnfjdcnijhaa M
set_option linter.unusedVariables false
set_option linter.unusedSimpArgs false

set_option maxRecDepth 100000 in
set_option maxHeartbeats 2000000 in
theorem walk (A : Option Addr) (c : Nat) (l : List Rd) (i k hour : Int) (w : World) (h : Rds w w.heap.size A l) (hh : -9223372036854775808 ≤ hour ∧ hour ≤ 9223372036854775807) :
    Calls Try.prog 9 #[.slice A l.length c, .int .i64 i, .int .i64 k, .int .i64 hour] w fun e w' => e = .returned (.bool true) ∧ Below w.heap.size w w' := by
  have hL := Long_any A c l.length w h.1
  by_cases hl : 40 < l.length
  · rw [decide_eq_true hl] at hL
    replace hL := Lib.hid hL
    have hl := Lib.hid hl
    go_enter Try.func9, Try.ntmps9
    go_wp2_with fail
    refine hL.out.mono ?_
    rintro e w' ⟨rfl, rfl⟩
    go_wp2_with fail
    refine (awake_any _).mono ?_
    rintro e w' ⟨rfl, hb⟩
    go_wp2
    go_ret
    exact ⟨rfl, hb⟩
  · rw [decide_eq_false hl] at hL
    have c49 : ∀ W, Below w.heap.size w W → Calls Try.prog 49 #[.slice A l.length c] W fun e w' => e = .returned (M3 (meetR l)) ∧ Below w.heap.size w w' := fun W hb =>
      (Meet_any w.heap.size A c l W (h.below hb) hb.size).mono fun e w' ⟨he, hb'⟩ => ⟨he, hb.trans (hb'.mono hb.size)⟩
    have c50 : ∀ W, Below w.heap.size w W → Calls Try.prog 50 #[.slice A l.length c] W fun e w' => e = .returned (M3 (meetR l)) ∧ Below w.heap.size w w' := fun W hb =>
      (Meet_ref w.heap.size A c l W (h.below hb) hb.size).mono fun e w' ⟨he, hb'⟩ => ⟨he, hb.trans (hb'.mono hb.size)⟩
    have c51 : ∀ W, Below w.heap.size w W → Calls Try.prog 51 #[.slice A l.length c] W fun e w' => ∃ r, NevP l r ∧ e = .returned (M3 r) ∧ Below w.heap.size w w' := fun W hb =>
      (Never_any w.heap.size A c l W (h.below hb) hb.size).mono fun e w' ⟨r, hr, he, hb'⟩ => ⟨r, hr, he, hb.trans (hb'.mono hb.size)⟩
    have c52 : ∀ W, Below w.heap.size w W → Calls Try.prog 52 #[.slice A l.length c] W fun e w' => ∃ r, NevP l r ∧ e = .returned (M3 r) ∧ Below w.heap.size w w' := fun W hb =>
      (Never_ref w.heap.size A c l W (h.below hb) hb.size).mono fun e w' ⟨r, hr, he, hb'⟩ => ⟨r, hr, he, hb.trans (hb'.mono hb.size)⟩
    have c53 : ∀ W, Below w.heap.size w W → Calls Try.prog 53 #[.slice A l.length c, .int .i64 i, .int .i64 k] W fun e w' => e = .returned (.tuple #[.bool (isnR l i k).1, .int .i64 (isnR l i k).2]) ∧ Below w.heap.size w w' := fun W hb =>
      (IsNever_any w.heap.size A c l i k W (h.below hb) hb.size).mono fun e w' ⟨he, hb'⟩ => ⟨he, hb.trans (hb'.mono hb.size)⟩
    have c54 : ∀ W, Below w.heap.size w W → Calls Try.prog 54 #[.slice A l.length c, .int .i64 i, .int .i64 k] W fun e w' => e = .returned (.tuple #[.bool (isnR l i k).1, .int .i64 (isnR l i k).2]) ∧ Below w.heap.size w w' := fun W hb =>
      (IsNever_ref w.heap.size A c l i k W (h.below hb) hb.size).mono fun e w' ⟨he, hb'⟩ => ⟨he, hb.trans (hb'.mono hb.size)⟩
    have c55 : ∀ W, Below w.heap.size w W → Calls Try.prog 55 #[.slice A l.length c, .int .i64 hour] W fun e w' => e = .returned (.tuple #[.bool (hitsR l hour).1, .int .i64 (hitsR l hour).2]) ∧ Below w.heap.size w w' := fun W hb =>
      (Hits_any w.heap.size A c l hour W (h.below hb) hb.size hh.2).mono fun e w' ⟨he, hb'⟩ => ⟨he, hb.trans (hb'.mono hb.size)⟩
    have c56 : ∀ W, Below w.heap.size w W → Calls Try.prog 56 #[.slice A l.length c, .int .i64 hour] W fun e w' => e = .returned (.tuple #[.bool (hitsR l hour).1, .int .i64 (hitsR l hour).2]) ∧ Below w.heap.size w w' := fun W hb =>
      (Hits_ref w.heap.size A c l hour W (h.below hb) hb.size hh.2).mono fun e w' ⟨he, hb'⟩ => ⟨he, hb.trans (hb'.mono hb.size)⟩
    generalize meetR l = m at c49 c50
    generalize isnR l i k = n at c53 c54
    generalize hitsR l hour = q at c55 c56
    obtain ⟨m1, m2, m3⟩ := m
    obtain ⟨n1, n2⟩ := n
    obtain ⟨q1, q2⟩ := q
    unfold M3 at c49 c50
    simp only [] at c49 c50 c53 c54 c55 c56
    replace hL := Lib.hid hL
    have hl := Lib.hid hl
    replace c49 := Lib.hid c49
    replace c50 := Lib.hid c50
    replace c51 := Lib.hid c51
    replace c52 := Lib.hid c52
    replace c53 := Lib.hid c53
    replace c54 := Lib.hid c54
    replace c55 := Lib.hid c55
    replace c56 := Lib.hid c56
    go_enter Try.func9, Try.ntmps9
    go_wp2_with fail
    refine hL.out.mono ?_
    rintro e w' ⟨rfl, rfl⟩
    go_wp2_with fail
    refine (c49.out _ (Below.refl _ _)).mono ?_
    rintro e w1 ⟨rfl, hb1⟩
    go_wp2_with fail
    refine (c50.out _ hb1).mono ?_
    rintro e w2 ⟨rfl, hb2⟩
    go_wp2_with fail
    refine (c51.out _ hb2).mono ?_
    rintro e w3 ⟨⟨r1, r2, r3⟩, hr, rfl, hb3⟩
    unfold M3
    replace hr := Lib.hid hr
    go_wp2_with fail
    refine (c52.out _ hb3).mono ?_
    rintro e w4 ⟨⟨s1, s2, s3⟩, hs, rfl, hb4⟩
    have hrs := hr.out.uniq hs
    injection hrs with h1 hrs
    injection hrs with h2 h3
    subst h1 h2 h3
    unfold M3
    clear hs
    go_wp2_with fail
    refine (c53.out _ hb4).mono ?_
    rintro e w5 ⟨rfl, hb5⟩
    go_wp2_with fail
    refine (c54.out _ hb5).mono ?_
    rintro e w6 ⟨rfl, hb6⟩
    go_wp2_with fail
    refine (c55.out _ hb6).mono ?_
    rintro e w7 ⟨rfl, hb7⟩
    go_wp2_with fail
    refine (c56.out _ hb7).mono ?_
    rintro e w8 ⟨rfl, hb8⟩
    go_wp2_with fail
    refine (awake_any _).mono ?_
    rintro e w9 ⟨rfl, hb9⟩
    have hbz := hb8.trans (hb9.mono hb8.size)
    go_wp2
    go_ret
    exact ⟨rfl, hbz⟩

/-! ### the row's step -/
set_option maxRecDepth 100000 in
theorem lifted (os : Os) (started : os.Started) (H : Type) (enc : TypeId × Value → H) :
    ReturnsInHanded {} Try.checked os 9 .any (Rows.windowMeetsSpec.pre6 enc Try.prog Try.f9 Rows.windowMeetsRow.domain false) (Rows.windowMeetsSpec.post enc Try.prog Try.f9 false true false false) := by
  refine returnsInHanded_of_change (C := Try.checked) own started (by kernel_rfl) Try.func9
    (ChangeSpec.witness6 (enc := enc) (C := Try.checked) false ⟨#[], #[.slice none 0 0, .int .i64 0, .int .i64 0, .int .i64 0], []⟩ 8 (by kernel_rfl) (by kernel_rfl) (by kernel_rfl) (by kernel_rfl)) ?_
  intro W base args ds gs before hval0 hW hcnd _
  have hval : ∀ (j : Nat) t v, Try.f9.params[j]? = some t → args[j]? = some v → Value.okWide Try.prog W .any base t v := hval0
  have hW' := hW
  obtain ⟨p, q, hA0, hV, rfl, hfz, hnd⟩ := hW
  have hA : DataW.TrodAll enc Try.prog W 0 (fun _ => true) true Try.f9.params.toList args.toList ds p := hA0
  rw [Try.params9] at hA hval
  obtain ⟨v0, vs0, d0, ds0, p0, q0, hargs, rfl, rfl, h0, r0⟩ := trodAll_cons hA
  obtain ⟨v1, vs1, d1, ds1, p1, q1, rfl, rfl, rfl, h1, r1⟩ := trodAll_cons r0
  obtain ⟨v2, vs2, d2, ds2, p2, q2, rfl, rfl, rfl, h2, r2⟩ := trodAll_cons r1
  obtain ⟨v3, vs3, d3, ds3, p3, q3, rfl, rfl, rfl, h3, r3⟩ := trodAll_cons r2
  obtain ⟨rfl, rfl, rfl⟩ := trodAll_nil r3
  obtain rfl : args = #[v0, v1, v2, v3] := by cases args; simp_all
  obtain ⟨rfl, rfl⟩ := trodVars_none hV
  have k0 := h0
  have lt0 : ∀ x ∈ p0, x.block < W.heap.size := by obtain ⟨m, hm⟩ := k0; exact DataW.trod_lt m _ _ _ hm
  obtain ⟨a0, len0, cap0, T0, rfl, rfl, w0⟩ : ∃ A len cap D, v0 = .slice A len cap ∧ D.length = len ∧ Rds W W.heap.size A D := by
    obtain ⟨s0, s1, s2, rfl⟩ := okWide_slice Try.underlying50 (hval 0 50 v0 rfl rfl)
    obtain ⟨fuel, hf⟩ := h0
    exact rds_of (by simpa [Value.cells] using hf)
  obtain ⟨a1, rfl, rfl, rfl, w1⟩ := open_int Try.underlying3 (hval 1 3 v1 rfl rfl) h1
  obtain ⟨a2, rfl, rfl, rfl, w2⟩ := open_int Try.underlying3 (hval 2 3 v2 rfl rfl) h2
  obtain ⟨a3, rfl, rfl, rfl, w3⟩ := open_int Try.underlying3 (hval 3 3 v3 rfl rfl) h3
  clear hA0 hval0
  refine (walk a0 cap0 T0 a1 a2 a3 W w0 (i64_range w3)).mono fun e W' ⟨he, bel⟩ => ?_
  subst he
  exact ⟨_, rfl, _, _, _, [], _, [], hW', trodAll_mk1 (shut_bool Try.underlying4 _), (trodAll_cons_mk (Below.trod laidOut (by kernel_rfl) (of_decide_eq_true (by kernel_rfl)) k0 bel lt0) (trodAll_cons_mk (shut_int Try.underlying3 w1) (trodAll_cons_mk (shut_int Try.underlying3 w2) (trodAll_cons_mk (shut_int Try.underlying3 w3) trodAll_mk0)))), rfl, bel.frame _, fun h => by cases h⟩

theorem over : Rows.windowMeetsRow.holds Try.pinned (OpenSpec.ofChange Rows.windowMeetsSpec) :=
  OpenClaim.holds_of_wide 9 Try.f9 rfl rfl rfl rfl rfl rfl rfl ⟨rfl, rfl, rfl, rfl, rfl⟩ rfl rfl rfl rfl rfl (by kernel_rfl) Try.func9 (by kernel_rfl)
    (of_decide_eq_true (by kernel_rfl)) (by unfold Func.isWrapper; first | (rw [if_pos (by decide +kernel)]; kernel_rfl) | (rw [if_neg (by decide +kernel)]; exact ⟨rfl, rfl⟩))
    (fun os started H enc _ => lifted os started H enc)

/-- The statement. -/
theorem proved : Rows.WindowMeetsSaid := over
end Go.Proofs.Ytlnpnfjdcnijhaa.lawWindowMeets
