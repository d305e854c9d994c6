/-
  For any window and any two numbers, the law WindowNexts returns true: the next hour is open, and none before it is.
  Conditions: none.
-/
import Derived.Test.YtlnpnfjdcnijhaaU
namespace Go.Proofs.Ytlnpnfjdcnijhaa.lawWindowNexts
open Go.Joins Go.ChangeShapes Go.WideShapes Go.ChangeAt Go.RowKit Go.Deep Go.Proofs.Ytlnpnfjdcnijhaa M
set_option linter.unusedVariables false
set_option linter.unusedSimpArgs false

/-- What the law's calls say, at any later world. -/
structure Cs (A : Option Addr) (c : Nat) (x : Wn) (w : World) : Prop where
  aw : ∀ X, OnW w x.p A x.hs.length c X → Calls Try.prog 19 #[] X fun e w' => e = .returned (.bool true) ∧ OnW w x.p A x.hs.length c w'
  law : ∀ X, OnW w x.p A x.hs.length c X → Calls Try.prog 18 #[.agg #[.int .i64 x.p, .slice A x.hs.length c]] X fun e w' => e = .returned (.bool (decide (4000 < x.hs.length))) ∧ OnW w x.p A x.hs.length c w'
  wide : ∀ X, OnW w x.p A x.hs.length c X → Calls Try.prog 58 #[.agg #[.int .i64 x.p, .slice A x.hs.length c]] X fun e w' => e = .returned (.bool (winB x 3600)) ∧ OnW w x.p A x.hs.length c w'
  next : ∀ h X, OnW w x.p A x.hs.length c X → Calls Try.prog 22 #[.agg #[.int .i64 x.p, .slice A x.hs.length c], .int .i64 h] X fun e w' => e = .returned (.tuple #[.int .i64 (nextR x h).1, .int .i64 (nextR x h).2]) ∧ OnW w x.p A x.hs.length c w'
  opens : ∀ h X, OnW w x.p A x.hs.length c X → Calls Try.prog 57 #[.agg #[.int .i64 x.p, .slice A x.hs.length c], .int .i64 h] X fun e w' => e = .returned (.tuple #[.bool (openR x h).1, .bool ((openR x h).2 == 0)]) ∧ OnW w x.p A x.hs.length c w'
theorem cs_of {A : Option Addr} {c : Nat} {x : Wn} {w : World} (h : Row w w.heap.size A x.hs) : Cs A c x w :=
  ⟨fun X hX => (awake_any X).mono fun e w' ⟨he, hb⟩ => ⟨he, hX.up hb⟩,
   fun X hX => (wide_law A c x.hs.length x.p X h.1).mono fun e w' ⟨he, hb⟩ => ⟨he, hX.up hb⟩,
   fun X hX => wide_on h (Nat.le_refl _) hX,
   fun hr X hX => (Next_any w.heap.size A c x hr X (h.below hX.below) hX.below.size).mono fun e w' ⟨he, hb⟩ => ⟨he, hX.up hb⟩,
   fun hr X hX => (opens_any w.heap.size A c x hr X (h.below hX.below) hX.below.size).mono fun e w' ⟨he, hb⟩ => ⟨he, hX.up hb⟩⟩

set_option maxRecDepth 100000 in
set_option maxHeartbeats 2000000 in
theorem out (A : Option Addr) (c : Nat) (x : Wn) (hour k : Nat) (w : World) (h : Row w w.heap.size A x.hs) (ho : 4000 < x.hs.length ∨ (¬ 4000 < x.hs.length ∧ winB x 3600 = false)) :
    Calls Try.prog 14 #[wnV x.p A x.hs.length c, .int .u32 hour, .int .u32 k] w fun e w' => e = .returned (.bool true) ∧ Below w.heap.size w w' := by
  have cs := Lib.hid (cs_of (c := c) h)
  have h63 := h.1
  have hW := onW_new w x.p A x.hs.length c
  have c0 := hW.box.c0
  have c1 := hW.box.c1
  replace hW := Lib.hid hW
  unfold wnV
  rcases ho with hl | ⟨hl, hv⟩
  · have cl := cs.out.law _ hW.out
    rw [decide_eq_true hl] at cl
    replace cl := Lib.hid cl
    replace hl := Lib.hid hl
    go_enter Try.func14, Try.ntmps14
    go_wp2_with fail
    refine cl.out.mono ?_
    rintro e X1 ⟨rfl, hX1⟩
    go_wp2_with fail
    refine (cs.out.aw _ hX1).mono ?_
    rintro e X2 ⟨rfl, hX2⟩
    go_wp2
    go_ret
    exact ⟨rfl, hX2.below⟩
  · have cl := cs.out.law _ hW.out
    rw [decide_eq_false hl] at cl
    have cw := cs.out.wide
    rw [hv] at cw
    replace cl := Lib.hid cl
    replace cw := Lib.hid cw
    replace hl := Lib.hid hl
    replace hv := Lib.hid hv
    go_enter Try.func14, Try.ntmps14
    go_wp2_with fail
    refine cl.out.mono ?_
    rintro e X1 ⟨rfl, hX1⟩
    have f0 := hX1.box.c0
    have f1 := hX1.box.c1
    go_wp2_with fail
    refine (cw.out _ hX1).mono ?_
    rintro e X2 ⟨rfl, hX2⟩
    go_wp2_with fail
    refine (cs.out.aw _ hX2).mono ?_
    rintro e X3 ⟨rfl, hX3⟩
    go_wp2
    go_ret
    exact ⟨rfl, hX3.below⟩

set_option maxRecDepth 100000 in
set_option maxHeartbeats 1000000 in
theorem inn (A : Option Addr) (c : Nat) (x : Wn) (hour k : Nat) (w : World) (h : Row w w.heap.size A x.hs) (hl : ¬ 4000 < x.hs.length) (hv : winB x 3600 = true) (hh9 : hour ≤ 4294967295) (hk9 : k ≤ 4294967295) :
    Calls Try.prog 14 #[wnV x.p A x.hs.length c, .int .u32 hour, .int .u32 k] w fun e w' => e = .returned (.bool true) ∧ Below w.heap.size w w' := by
  have cs := Lib.hid (cs_of (c := c) h)
  have h63 := h.1
  have hW := onW_new w x.p A x.hs.length c
  have c0 := hW.box.c0
  have c1 := hW.box.c1
  have cl := cs.out.law _ hW
  rw [decide_eq_false hl] at cl
  have cw := cs.out.wide
  rw [hv] at cw
  obtain ⟨⟨p1, p2⟩, _⟩ := winB_iff.1 hv
  obtain ⟨fr, hfr⟩ : ∃ fr, fr = hour % 900000000 := ⟨_, rfl⟩
  have hfr9 : fr < 900000000 := by omega
  have hmod : ((hour : Nat) : Int) % 900000000 = (fr : Int) := by omega
  have cn := cs.out.next (fr : Int)
  rw [next_true hv (by omega) (by omega)] at cn
  replace hW := Lib.hid hW
  replace cl := Lib.hid cl
  replace cw := Lib.hid cw
  replace hl := Lib.hid hl
  unfold wnV
  clear hfr
  cases hf : fstO x.p.toNat (opB x) (fr : Int) with
  | none =>
    have hn0 := never_open hv hf
    unfold nextO at cn
    rw [hf] at cn
    simp only [] at cn
    have hn0i : (((x.hs.length : Nat) : Int) == 0) = true := by simp [hn0]
    replace cn := Lib.hid cn
    replace hf := Lib.hid hf
    replace hn0 := Lib.hid hn0
    replace hv := Lib.hid hv
    go_enter Try.func14, Try.ntmps14
    go_wp2_with fail
    refine cl.out.mono ?_
    rintro e X1 ⟨rfl, hX1⟩
    have f0 := hX1.box.c0
    have f1 := hX1.box.c1
    go_wp2_with fail
    refine (cw.out _ hX1).mono ?_
    rintro e X2 ⟨rfl, hX2⟩
    have g0 := hX2.box.c0
    have g1 := hX2.box.c1
    go_wp2_with fail
    refine (cn.out _ hX2).mono ?_
    rintro e X3 ⟨rfl, hX3⟩
    have i0 := hX3.box.c0
    have i1 := hX3.box.c1
    go_wp2_with fail
    refine ((Lib.hid (awake_any X3)).out).mono ?_
    rintro e X4 ⟨rfl, hb4⟩
    have hz := hX3.below.trans (hb4.mono hX3.below.size)
    go_wp2
    go_ret
    exact ⟨rfl, hz⟩
  | some j =>
    obtain ⟨hjp, hjo, hjn⟩ := fstO_spec hf
    unfold nextO at cn
    rw [hf] at cn
    simp only [] at cn
    have hjP : (j : Int) < x.p := by omega
    have co := cs.out.opens ((fr : Int) + j)
    rw [open_true hv (by omega) (by omega), hjo] at co
    have cz : 0 < j → ∀ X, OnW w x.p A x.hs.length c X → Calls Try.prog 57 #[.agg #[.int .i64 x.p, .slice A x.hs.length c], .int .i64 ((fr : Int) + ((k % j : Nat) : Int))] X fun e w' => e = .returned (.tuple #[.bool false, .bool true]) ∧ OnW w x.p A x.hs.length c w' := fun h0 => by
      have hlt := Nat.mod_lt k h0
      have h1 := cs.out.opens ((fr : Int) + ((k % j : Nat) : Int))
      rw [open_true hv (by omega) (by omega), hjn _ hlt] at h1
      exact h1
    simp only [] at co
    have hnn0 : ((fr : Int) + j) = ((fr + j : Nat) : Int) := by rw [Int.natCast_add]
    rw [hnn0] at cn co
    obtain ⟨nn, hnn⟩ : ∃ nn, nn = fr + j := ⟨_, rfl⟩
    rw [← hnn] at cn co
    have hsub : (nn : Int) - (fr : Int) = (j : Int) := by omega
    have hnp : (nn : Int) < (fr : Int) + x.p := by omega
    have hnf : (fr : Int) ≤ (nn : Int) := by omega
    have hn9 : nn ≤ 1000000000 := by omega
    have hj9 : j ≤ 3600 := by omega
    clear hnn0
    replace hnn := Lib.hid hnn
    replace cn := Lib.hid cn
    replace co := Lib.hid co
    replace cz := Lib.hid cz
    replace hf := Lib.hid hf
    replace hjo := Lib.hid hjo
    replace hjn := Lib.hid hjn
    replace hv := Lib.hid hv
    replace hjp := Lib.hid hjp
    go_enter Try.func14, Try.ntmps14
    go_wp2_with fail
    refine cl.out.mono ?_
    rintro e X1 ⟨rfl, hX1⟩
    have f0 := hX1.box.c0
    have f1 := hX1.box.c1
    go_wp2_with fail
    refine (cw.out _ hX1).mono ?_
    rintro e X2 ⟨rfl, hX2⟩
    have g0 := hX2.box.c0
    have g1 := hX2.box.c1
    go_wp2_with fail
    refine (cn.out _ hX2).mono ?_
    rintro e X3 ⟨rfl, hX3⟩
    have i0 := hX3.box.c0
    have i1 := hX3.box.c1
    go_wp2_with fail
    refine (co.out _ hX3).mono ?_
    rintro e X4 ⟨rfl, hX4⟩
    have j0 := hX4.box.c0
    have j1 := hX4.box.c1
    by_cases hj0 : j = 0
    · have hnz : nn = fr := by have := hnn.out; omega
      subst hnz
      go_wp2_with fail
      refine (cs.out.aw _ hX4).mono ?_
      rintro e X5 ⟨rfl, hX5⟩
      go_wp2
      go_ret
      exact ⟨rfl, hX5.below⟩
    · have hne : ((nn : Int) == (fr : Int)) = false := by have := hnn.out; simp; omega
      have hj1 : ¬ ((j : Int) = 0) := by omega
      have hj2 : (1 : Int) ≤ (j : Int) := by omega
      have hkm : ((k : Nat) : Int) % (j : Int) = ((k % j : Nat) : Int) := rfl
      have hlt := Nat.mod_lt k (show 0 < j by omega)
      have cy := cz.out (by omega)
      have hXd := hX4.drew
      have k0 := hXd.cells
      obtain ⟨z, hz⟩ : ∃ z, z = k % j := ⟨_, rfl⟩
      rw [← hz] at cy hkm hlt
      clear hz
      have hz9 : z ≤ 3600 := by omega
      replace cy := Lib.hid cy
      have wj : IntKind.i64.wrap (j : Int) = (j : Int) := IntWalk.i64_in _ (by omega)
      have wk : IntKind.i64.wrap (k : Int) = (k : Int) := IntWalk.i64_in _ (by omega)
      have wz : IntKind.i64.wrap (z : Int) = (z : Int) := IntWalk.i64_in _ (by omega)
      have wfz : IntKind.i64.wrap ((fr : Int) + z) = (fr : Int) + z := IntWalk.i64_in _ (by omega)
      have hkt : ((k : Nat) : Int).tmod (j : Int) = (z : Int) := hkm
      go_wp2_with fail
      go_region_held3 (fun X => X.cell? ⟨w.heap.size, 0, none⟩ = some (.int .i64 x.p) ∧ X.cell? ⟨w.heap.size, 1, none⟩ = some (.slice A x.hs.length c))
        (first | with_reducible exact k0 | with_reducible exact k1)
        (first | (go_at_call 57; refine (cy.out _ hXd).mono ?_; rintro _ X5 ⟨rfl, hX5⟩; have k1 := hX5.cells))
      all_goals
        go_wp2_with fail
        refine (cs.out.aw _ hX5).mono ?_
        rintro e X6 ⟨rfl, hX6⟩
        go_wp2
        go_ret
        exact ⟨rfl, hX6.below⟩

theorem walk (A : Option Addr) (c : Nat) (x : Wn) (hour k : Int) (w : World) (h : Row w w.heap.size A x.hs) (hh : 0 ≤ hour ∧ hour ≤ 4294967295) (hk : 0 ≤ k ∧ k ≤ 4294967295) :
    Calls Try.prog 14 #[wnV x.p A x.hs.length c, .int .u32 hour, .int .u32 k] w fun e w' => e = .returned (.bool true) ∧ Below w.heap.size w w' := by
  obtain ⟨h', rfl⟩ := Int.eq_ofNat_of_zero_le hh.1
  obtain ⟨k', rfl⟩ := Int.eq_ofNat_of_zero_le hk.1
  by_cases hl : 4000 < x.hs.length
  · exact out A c x h' k' w h (.inl hl)
  · cases hv : winB x 3600 with
    | false => exact out A c x h' k' w h (.inr ⟨hl, hv⟩)
    | true => exact inn A c x h' k' w h hl hv (by omega) (by omega)

/-! ### the row's step -/
set_option maxRecDepth 100000 in
theorem lifted (os : Os) (started : os.Started) (H : Type) (enc : TypeId × Value → H) :
    ReturnsInHanded {} Try.checked os 14 .any (Rows.windowNextsSpec.pre6 enc Try.prog Try.f14 Rows.windowNextsRow.domain false) (Rows.windowNextsSpec.post enc Try.prog Try.f14 false true false false) := by
  refine returnsInHanded_of_change (C := Try.checked) own started (by kernel_rfl) Try.func14
    (ChangeSpec.witness6 (enc := enc) (C := Try.checked) false ⟨#[], #[.agg #[.int .i64 0, .slice none 0 0], .int .u32 0, .int .u32 0], []⟩ 8 (by kernel_rfl) (by kernel_rfl) (by kernel_rfl) (by kernel_rfl)) ?_
  intro W base args ds gs before hval0 hW hcnd _
  have hval : ∀ (j : Nat) t v, Try.f14.params[j]? = some t → args[j]? = some v → Value.okWide Try.prog W .any base t v := hval0
  have hW' := hW
  obtain ⟨p, q, hA0, hV, rfl, hfz, hnd⟩ := hW
  have hA : DataW.TrodAll enc Try.prog W 0 (fun _ => true) true Try.f14.params.toList args.toList ds p := hA0
  rw [Try.params14] at hA hval
  obtain ⟨v0, vs0, d0, ds0, p0, q0, hargs, rfl, rfl, h0, r0⟩ := trodAll_cons hA
  obtain ⟨v1, vs1, d1, ds1, p1, q1, rfl, rfl, rfl, h1, r1⟩ := trodAll_cons r0
  obtain ⟨v2, vs2, d2, ds2, p2, q2, rfl, rfl, rfl, h2, r2⟩ := trodAll_cons r1
  obtain ⟨rfl, rfl, rfl⟩ := trodAll_nil r2
  obtain rfl : args = #[v0, v1, v2] := by cases args; simp_all
  obtain ⟨rfl, rfl⟩ := trodVars_none hV
  have k0 := h0
  have lt0 : ∀ x ∈ p0, x.block < W.heap.size := by obtain ⟨m, hm⟩ := k0; exact DataW.trod_lt m _ _ _ hm
  obtain ⟨a0, cap0, T0, rfl, w0⟩ := wn_in (hval 0 24 v0 rfl rfl) h0
  obtain ⟨a1, rfl, rfl, rfl, w1⟩ := open_int Try.underlying56 (hval 1 56 v1 rfl rfl) h1
  obtain ⟨a2, rfl, rfl, rfl, w2⟩ := open_int Try.underlying56 (hval 2 56 v2 rfl rfl) h2
  clear hA0 hval0
  refine (walk a0 cap0 T0 a1 a2 W w0 (u32_range w1) (u32_range w2)).mono fun e W' ⟨he, bel⟩ => ?_
  subst he
  exact ⟨_, rfl, _, _, _, [], _, [], hW', trodAll_mk1 (shut_bool Try.underlying4 _), (trodAll_cons_mk (Below.trod laidOut (by kernel_rfl) (of_decide_eq_true (by kernel_rfl)) k0 bel lt0) (trodAll_cons_mk (shut_int Try.underlying56 w1) (trodAll_cons_mk (shut_int Try.underlying56 w2) trodAll_mk0))), rfl, bel.frame _, fun h => by cases h⟩

theorem over : Rows.windowNextsRow.holds Try.pinned (OpenSpec.ofChange Rows.windowNextsSpec) :=
  OpenClaim.holds_of_wide 14 Try.f14 rfl rfl rfl rfl rfl rfl rfl ⟨rfl, rfl, rfl, rfl, rfl⟩ rfl rfl rfl rfl rfl (by kernel_rfl) Try.func14 (by kernel_rfl)
    (of_decide_eq_true (by kernel_rfl)) (by unfold Func.isWrapper; first | (rw [if_pos (by decide +kernel)]; kernel_rfl) | (rw [if_neg (by decide +kernel)]; exact ⟨rfl, rfl⟩))
    (fun os started H enc _ => lifted os started H enc)

/-- The statement. -/
theorem proved : Rows.WindowNextsSaid := over
end Go.Proofs.Ytlnpnfjdcnijhaa.lawWindowNexts
