/-
  For any windows and hour, the law WindowFirsts returns true: the first hour of windows taken together, and how many there are in their period, are the document's.
  Conditions: none.
-/
import Derived.Test.YtlnpnfjdcnijhaaBy
namespace Go.Proofs.Ytlnpnfjdcnijhaa.lawWindowFirsts
open Go.Joins Go.ChangeShapes Go.WideShapes Go.ChangeAt Go.RowKit Go.Deep Go.Proofs.Ytlnpnfjdcnijhaa M
set_option linter.unusedVariables false
set_option linter.unusedSimpArgs false

theorem many_is {X : World} {A : Option Addr} {D : List Wc} {n : Nat} {q : Bool} (c : Nat) (h : Wds X X.heap.size A D) (hn : n = D.length) (hq : mnyB D = q) : Calls Try.prog 43 #[.slice A n c] X fun e Y => e = .returned (.bool q) ∧ Below X.heap.size X Y := by
  subst hn; subst hq; exact many_any X.heap.size A c D X h (Nat.le_refl _)
theorem number_is {X : World} {A : Option Addr} {D : List Wc} {n : Nat} {a b r : Int} (c : Nat) (h : Wds X X.heap.size A D) (hn : n = D.length) (hq : numR D = (a, b, r)) : Calls Try.prog 46 #[.slice A n c] X fun e Y => e = .returned (.tuple #[.int .i64 a, .int .i64 b, .int .i64 r]) ∧ Below X.heap.size X Y := by
  subst hn
  have := Number_any X.heap.size A c D X h (Nat.le_refl _)
  rw [hq] at this; exact this
theorem first_is {X : World} {A : Option Addr} {D : List Wc} {n : Nat} {hour a r : Int} (c : Nat) (h : Wds X X.heap.size A D) (hn : n = D.length) (hq : firR D hour = (a, r)) : Calls Try.prog 44 #[.slice A n c, .int .i64 hour] X fun e Y => e = .returned (.tuple #[.int .i64 a, .int .i64 r]) ∧ Below X.heap.size X Y := by
  subst hn
  have := First_any X.heap.size A c D hour X h (Nat.le_refl _)
  rw [hq] at this; exact this
theorem number_ref {X : World} {A : Option Addr} {D : List Wc} {n : Nat} {a b r : Int} (c : Nat) (h : Wds X X.heap.size A D) (hn : n = D.length) (hq : numR D = (a, b, r)) : Calls Try.prog 47 #[.slice A n c] X fun e Y => e = .returned (.tuple #[.int .i64 a, .int .i64 b, .int .i64 r]) ∧ Below X.heap.size X Y := by
  subst hn
  have := Number_ref X.heap.size A c D X h (Nat.le_refl _)
  rw [hq] at this; exact this
theorem first_ref {X : World} {A : Option Addr} {D : List Wc} {n : Nat} {hour a r : Int} (c : Nat) (h : Wds X X.heap.size A D) (hn : n = D.length) (hq : firR D hour = (a, r)) : Calls Try.prog 45 #[.slice A n c, .int .i64 hour] X fun e Y => e = .returned (.tuple #[.int .i64 a, .int .i64 r]) ∧ Below X.heap.size X Y := by
  subst hn
  have := First_ref X.heap.size A c D hour X h (Nat.le_refl _)
  rw [hq] at this; exact this

set_option maxRecDepth 100000 in
set_option maxHeartbeats 4000000 in
theorem out0 (A : Option Addr) (c : Nat) (D : List Wc) (hour : Int) (w : World) (h : Wds w w.heap.size A D) (hm : mnyB D = true) :
    Calls Try.prog 8 #[.slice A D.length c, .int .i64 hour] w fun e w' => e = .returned (.bool true) ∧ Below w.heap.size w w' := by
  have h63 := h.1
  have hbel := Below.refl w.heap.size w
  have L := h
  obtain ⟨n, hn⟩ : ∃ n, n = D.length := ⟨_, rfl⟩
  rw [← hn] at h63 ⊢
  replace hn := Lib.hid hn
  replace hm := Lib.hid hm
  go_enter Try.func8, Try.ntmps8
  have K := Lib.hid (many_is c L hn.out hm.out)
  go_wp2_with fail
  refine K.out.mono ?_
  rintro e X1 ⟨rfl, hb1⟩
  clear K
  replace L := L.upp hb1
  replace hbel := bel_trans hbel hb1
  go_wp2_with fail
  refine (awake_any X1).mono ?_
  rintro e X2 ⟨rfl, hb2⟩
  replace hbel := bel_trans hbel hb2
  go_wp2
  go_ret
  exact ⟨rfl, hbel⟩

set_option maxRecDepth 100000 in
set_option maxHeartbeats 4000000 in
theorem inn (A : Option Addr) (c : Nat) (D : List Wc) (hour : Int) (w : World) (h : Wds w w.heap.size A D) (hm : mnyB D = false) :
    Calls Try.prog 8 #[.slice A D.length c, .int .i64 hour] w fun e w' => e = .returned (.bool true) ∧ Below w.heap.size w w' := by
  have h63 := h.1
  have hbel := Below.refl w.heap.size w
  have L := h
  obtain ⟨n, hn⟩ : ∃ n, n = D.length := ⟨_, rfl⟩
  rw [← hn] at h63 ⊢
  obtain ⟨⟨a, b⟩, hF⟩ : ∃ R, firR D hour = R := ⟨_, rfl⟩
  obtain ⟨⟨p, q, r⟩, hN⟩ : ∃ R, numR D = R := ⟨_, rfl⟩
  have ea : (a == a) = true := by simp
  have eb : (b == b) = true := by simp
  have ep : (p == p) = true := by simp
  have eq : (q == q) = true := by simp
  have er : (r == r) = true := by simp
  replace hN := Lib.hid hN
  replace hF := Lib.hid hF
  replace hn := Lib.hid hn
  replace hm := Lib.hid hm
  go_enter Try.func8, Try.ntmps8
  have K := Lib.hid (many_is c L hn.out hm.out)
  go_wp2_with fail
  refine K.out.mono ?_
  rintro e X1 ⟨rfl, hb1⟩
  clear K
  replace L := L.upp hb1
  replace hbel := bel_trans hbel hb1
  have K := Lib.hid (first_is c L hn.out hF.out)
  go_wp2_with fail
  refine K.out.mono ?_
  rintro e X2 ⟨rfl, hb2⟩
  clear K
  replace L := L.upp hb2
  replace hbel := bel_trans hbel hb2
  have K := Lib.hid (first_ref c L hn.out hF.out)
  go_wp2_with fail
  refine K.out.mono ?_
  rintro e X3 ⟨rfl, hb3⟩
  clear K
  replace L := L.upp hb3
  replace hbel := bel_trans hbel hb3
  have K := Lib.hid (number_is c L hn.out hN.out)
  go_wp2_with fail
  refine K.out.mono ?_
  rintro e X4 ⟨rfl, hb4⟩
  clear K
  replace L := L.upp hb4
  replace hbel := bel_trans hbel hb4
  have K := Lib.hid (number_ref c L hn.out hN.out)
  go_wp2_with fail
  refine K.out.mono ?_
  rintro e X5 ⟨rfl, hb5⟩
  clear K
  replace L := L.upp hb5
  replace hbel := bel_trans hbel hb5
  go_wp2_with fail
  refine (awake_any X5).mono ?_
  rintro e X6 ⟨rfl, hb6⟩
  replace hbel := bel_trans hbel hb6
  go_wp2
  go_ret
  exact ⟨rfl, hbel⟩

theorem walk (A : Option Addr) (c : Nat) (D : List Wc) (hour : Int) (w : World) (h : Wds w w.heap.size A D) (hh : -9223372036854775808 ≤ hour ∧ hour ≤ 9223372036854775807) :
    Calls Try.prog 8 #[.slice A D.length c, .int .i64 hour] w fun e w' => e = .returned (.bool true) ∧ Below w.heap.size w w' := by
  cases hm : mnyB D with
  | true => exact out0 A c D hour w h hm
  | false => exact inn A c D hour w h hm

/-! ### the row's step -/
set_option maxRecDepth 100000 in
theorem lifted (os : Os) (started : os.Started) (H : Type) (enc : TypeId × Value → H) :
    ReturnsInHanded {} Try.checked os 8 .any (Rows.windowFirstsSpec.pre6 enc Try.prog Try.f8 Rows.windowFirstsRow.domain false) (Rows.windowFirstsSpec.post enc Try.prog Try.f8 false true false false) := by
  refine returnsInHanded_of_change (C := Try.checked) own started (by kernel_rfl) Try.func8
    (ChangeSpec.witness6 (enc := enc) (C := Try.checked) false ⟨#[], #[.slice none 0 0, .int .i64 0], []⟩ 8 (by kernel_rfl) (by kernel_rfl) (by kernel_rfl) (by kernel_rfl)) ?_
  intro W base args ds gs before hval0 hW hcnd _
  have hval : ∀ (j : Nat) t v, Try.f8.params[j]? = some t → args[j]? = some v → Value.okWide Try.prog W .any base t v := hval0
  have hW' := hW
  obtain ⟨p, q, hA0, hV, rfl, hfz, hnd⟩ := hW
  have hA : DataW.TrodAll enc Try.prog W 0 (fun _ => true) true Try.f8.params.toList args.toList ds p := hA0
  rw [Try.params8] at hA hval
  obtain ⟨v0, vs0, d0, ds0, p0, q0, hargs, rfl, rfl, h0, r0⟩ := trodAll_cons hA
  obtain ⟨v1, vs1, d1, ds1, p1, q1, rfl, rfl, rfl, h1, r1⟩ := trodAll_cons r0
  obtain ⟨rfl, rfl, rfl⟩ := trodAll_nil r1
  obtain rfl : args = #[v0, v1] := by cases args; simp_all
  obtain ⟨rfl, rfl⟩ := trodVars_none hV
  have k0 := h0
  have lt0 : ∀ x ∈ p0, x.block < W.heap.size := by obtain ⟨m, hm⟩ := k0; exact DataW.trod_lt m _ _ _ hm
  obtain ⟨a0, len0, cap0, T0, rfl, rfl, w0⟩ : ∃ A len cap D, v0 = .slice A len cap ∧ D.length = len ∧ Wds W W.heap.size A D := by
    obtain ⟨s0, s1, s2, rfl⟩ := okWide_slice Try.underlying45 (hval 0 45 v0 rfl rfl)
    obtain ⟨fuel, hf⟩ := h0
    exact wds_of (by simpa [Value.cells] using hf)
  obtain ⟨a1, rfl, rfl, rfl, w1⟩ := open_int Try.underlying3 (hval 1 3 v1 rfl rfl) h1
  clear hA0 hval0
  refine (walk a0 cap0 T0 a1 W w0 (i64_range w1)).mono fun e W' ⟨he, bel⟩ => ?_
  subst he
  exact ⟨_, rfl, _, _, _, [], _, [], hW', trodAll_mk1 (shut_bool Try.underlying4 _), (trodAll_cons_mk (Below.trod laidOut (by kernel_rfl) (of_decide_eq_true (by kernel_rfl)) k0 bel lt0) (trodAll_cons_mk (shut_int Try.underlying3 w1) trodAll_mk0)), rfl, bel.frame _, fun h => by cases h⟩

theorem over : Rows.windowFirstsRow.holds Try.pinned (OpenSpec.ofChange Rows.windowFirstsSpec) :=
  OpenClaim.holds_of_wide 8 Try.f8 rfl rfl rfl rfl rfl rfl rfl ⟨rfl, rfl, rfl, rfl, rfl⟩ rfl rfl rfl rfl rfl (by kernel_rfl) Try.func8 (by kernel_rfl)
    (of_decide_eq_true (by kernel_rfl)) (by unfold Func.isWrapper; first | (rw [if_pos (by decide +kernel)]; kernel_rfl) | (rw [if_neg (by decide +kernel)]; exact ⟨rfl, rfl⟩))
    (fun os started H enc _ => lifted os started H enc)

/-- The statement. -/
theorem proved : Rows.WindowFirstsSaid := over
end Go.Proofs.Ytlnpnfjdcnijhaa.lawWindowFirsts
