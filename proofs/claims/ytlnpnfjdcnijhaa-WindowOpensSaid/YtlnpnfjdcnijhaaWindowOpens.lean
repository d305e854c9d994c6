/-
  For any window and any hour, the law WindowOpens returns true: the program says as the specification which windows are valid, whether one is open at an hour, the next hour at which it is, and how much of a period.
  Conditions: none.
-/
import Derived.Test.YtlnpnfjdcnijhaaU
import Derived.Test.YtlnpnfjdcnijhaaV
import Derived.Laws.StructEq
namespace Go.Proofs.Ytlnpnfjdcnijhaa.lawWindowOpens
open Go.Joins Go.ChangeShapes Go.WideShapes Go.ChangeAt Go.RowKit Go.Deep Go.Proofs.Ytlnpnfjdcnijhaa M
set_option linter.unusedVariables false
set_option linter.unusedSimpArgs false

set_option maxRecDepth 10000 in
theorem run_eq2 (w : World) (a0 a1 b0 b1 : Int) :
    (Op.equalIn 10000 33 (.agg #[.int .i64 a0, .int .i64 a1]) (.agg #[.int .i64 b0, .int .i64 b1])).run Try.prog w = .ok (decide (a0 = b0 ∧ a1 = b1)) w := by
  have q : ∀ a b : Int, (Op.equalIn 9999 3 (.int .i64 a) (.int .i64 b)).run Try.prog w = .ok (a == b) w := fun a b => run_equalIn_int w 9998 3 .i64 .i64 a b Try.underlying3
  have p : ∀ (xs : Array Value) (k : Nat) (v : Value), xs[k]? = some v → (part 3 xs k).run Try.prog w = .ok v w := fun xs k v h => run_part_plain (P := Try.prog) (e := 3) w (by kernel_rfl) h
  have p0 : ∀ (v0 v1 : Value), (part 3 #[v0, v1] 0).run Try.prog w = .ok v0 w := fun _ _ => p _ 0 _ rfl
  have p1 : ∀ (v0 v1 : Value), (part 3 #[v0, v1] 1).run Try.prog w = .ok v1 w := fun _ _ => p _ 1 _ rfl
  have hf : ∃ n0 n1 : String, (Try.prog.fieldsOf 33).toList.map (fun f => (f.name, f.type, f.offset)) = [(n0, 3, 0), (n1, 3, 1)] ∧ n0 ≠ "_" ∧ n1 ≠ "_" :=
    ⟨"N", "D", by kernel_rfl, by decide, by decide⟩
  obtain ⟨n0, n1, hm, h0, h1⟩ := hf
  have hl : (Try.prog.fieldsOf 33).toList.length = 2 := by have := congrArg List.length hm; simpa using this
  rw [run_equalIn_struct (P := Try.prog) w 9999 33 _ _ (by kernel_rfl) (by kernel_rfl)]
  generalize (Try.prog.fieldsOf 33).toList = fs at *
  match fs, hl with
  | [f0, f1], _ =>
    simp only [List.map_cons, List.map_nil, List.cons.injEq, Prod.mk.injEq, and_true] at hm
    obtain ⟨⟨m1, m2, m3⟩, m4, m5, m6⟩ := hm
    simp only [Op.eqFields, m1, m2, m3, m4, m5, m6, h0, h1, ne_eq, not_false_eq_true, if_true, Sem.run_bind, p0, p1, q, Result.andThen_ok]
    by_cases g0 : a0 = b0 <;> by_cases g1 : a1 = b1 <;> simp [g0, g1, p0, p1, q, go_sem]
theorem run_eql2 (w : World) (a0 a1 : Int) : (binOp .eql 33 (.agg #[.int .i64 a0, .int .i64 a1]) (.agg #[.int .i64 a0, .int .i64 a1])).run Try.prog w = .ok (.bool true) w := by
  rw [run_eql_struct, run_eq2]; simp [go_sem]
attribute [local go_sem high] run_eql2

/-- What the law's calls say, at any later world. -/
structure Cs (A : Option Addr) (c : Nat) (x : Wn) (h : Int) (w : World) : Prop where
  aw : ∀ X, OnW w x.p A x.hs.length c X → Calls Try.prog 19 #[] X fun e w' => e = .returned (.bool true) ∧ OnW w x.p A x.hs.length c w'
  law : ∀ X, OnW w x.p A x.hs.length c X → Calls Try.prog 18 #[.agg #[.int .i64 x.p, .slice A x.hs.length c]] X fun e w' => e = .returned (.bool (decide (4000 < x.hs.length))) ∧ OnW w x.p A x.hs.length c w'
  c20 : ∀ X, OnW w x.p A x.hs.length c X → Calls Try.prog 20 #[.agg #[.int .i64 x.p, .slice A x.hs.length c], .int .i64 h] X fun e w' => e = .returned (.tuple #[.bool (openR x h).1, .int .i64 (openR x h).2]) ∧ OnW w x.p A x.hs.length c w'
  c21 : ∀ X, OnW w x.p A x.hs.length c X → Calls Try.prog 21 #[.agg #[.int .i64 x.p, .slice A x.hs.length c], .int .i64 h] X fun e w' => e = .returned (.tuple #[.bool (openR x h).1, .int .i64 (openR x h).2]) ∧ OnW w x.p A x.hs.length c w'
  c22 : ∀ X, OnW w x.p A x.hs.length c X → Calls Try.prog 22 #[.agg #[.int .i64 x.p, .slice A x.hs.length c], .int .i64 h] X fun e w' => e = .returned (.tuple #[.int .i64 (nextR x h).1, .int .i64 (nextR x h).2]) ∧ OnW w x.p A x.hs.length c w'
  c23 : ∀ X, OnW w x.p A x.hs.length c X → Calls Try.prog 23 #[.agg #[.int .i64 x.p, .slice A x.hs.length c], .int .i64 h] X fun e w' => e = .returned (.tuple #[.int .i64 (nextR x h).1, .int .i64 (nextR x h).2]) ∧ OnW w x.p A x.hs.length c w'
  c24 : ∀ X, OnW w x.p A x.hs.length c X → Calls Try.prog 24 #[.agg #[.int .i64 x.p, .slice A x.hs.length c]] X fun e w' => e = .returned (.bool (winB x 60)) ∧ OnW w x.p A x.hs.length c w'
  c25 : ∀ X, OnW w x.p A x.hs.length c X → Calls Try.prog 25 #[.agg #[.int .i64 x.p, .slice A x.hs.length c]] X fun e w' => e = .returned (.bool (winB x 60)) ∧ OnW w x.p A x.hs.length c w'
  c26 : ∀ X, OnW w x.p A x.hs.length c X → Calls Try.prog 26 #[.agg #[.int .i64 x.p, .slice A x.hs.length c]] X fun e w' => e = .returned (.tuple #[.agg #[.int .i64 (partR x).1.1, .int .i64 (partR x).1.2], .int .i64 (partR x).2]) ∧ OnW w x.p A x.hs.length c w' ∧ Below X.heap.size X w'
  c27 : ∀ X, OnW w x.p A x.hs.length c X → Calls Try.prog 27 #[.agg #[.int .i64 x.p, .slice A x.hs.length c]] X fun e w' => e = .returned (.tuple #[.agg #[.int .i64 (partR x).1.1, .int .i64 (partR x).1.2], .int .i64 (partR x).2]) ∧ OnW w x.p A x.hs.length c w' ∧ Below X.heap.size X w'
theorem cs_of {A : Option Addr} {c : Nat} {x : Wn} {h : Int} {w : World} (hr : Row w w.heap.size A x.hs) : Cs A c x h w :=
  ⟨fun X hX => (awake_any X).mono fun e w' ⟨he, hb⟩ => ⟨he, hX.up hb⟩,
   fun X hX => (wide_law A c x.hs.length x.p X hr.1).mono fun e w' ⟨he, hb⟩ => ⟨he, hX.up hb⟩,
   fun X hX => (Open_any w.heap.size A c x h X (hr.below hX.below) hX.below.size).mono fun e w' ⟨he, hb⟩ => ⟨he, hX.up hb⟩,
   fun X hX => (Open_ref w.heap.size A c x h X (hr.below hX.below) hX.below.size).mono fun e w' ⟨he, hb⟩ => ⟨he, hX.up hb⟩,
   fun X hX => (Next_any w.heap.size A c x h X (hr.below hX.below) hX.below.size).mono fun e w' ⟨he, hb⟩ => ⟨he, hX.up hb⟩,
   fun X hX => (Next_ref w.heap.size A c x h X (hr.below hX.below) hX.below.size).mono fun e w' ⟨he, hb⟩ => ⟨he, hX.up hb⟩,
   fun X hX => (Valid_any w.heap.size A c x X (hr.below hX.below) hX.below.size).mono fun e w' ⟨he, hb⟩ => ⟨he, hX.up hb⟩,
   fun X hX => (Valid_ref w.heap.size A c x X (hr.below hX.below) hX.below.size).mono fun e w' ⟨he, hb⟩ => ⟨he, hX.up hb⟩,
   fun X hX => (Part_any w.heap.size A c x X (hr.below hX.below) hX.below.size).mono fun e w' ⟨he, hb⟩ => ⟨he, hX.up hb, hb⟩,
   fun X hX => (Part_ref w.heap.size A c x X (hr.below hX.below) hX.below.size).mono fun e w' ⟨he, hb⟩ => ⟨he, hX.up hb, hb⟩⟩

set_option maxRecDepth 100000 in
set_option maxHeartbeats 4000000 in
theorem walk (A : Option Addr) (c : Nat) (x : Wn) (hour : Int) (w : World) (h : Row w w.heap.size A x.hs) :
    Calls Try.prog 3 #[wnV x.p A x.hs.length c, .int .i64 hour] w fun e w' => e = .returned (.bool true) ∧ Below w.heap.size w w' := by
  obtain ⟨aw, law, c20, c21, c22, c23, c24, c25, c26, c27⟩ := cs_of (c := c) (h := hour) h
  have h63 := h.1
  have hW := onW_new w x.p A x.hs.length c
  have c0 := hW.box.c0
  have c1 := hW.box.c1
  have cl := law _ hW
  unfold wnV
  by_cases hl : 4000 < x.hs.length
  · rw [decide_eq_true hl] at cl
    replace cl := Lib.hid cl
    replace hl := Lib.hid hl
    replace hW := Lib.hid hW
    clear c20 c21 c22 c23 c24 c25 c26 c27 law
    replace aw := Lib.hid aw
    go_enter Try.func3, Try.ntmps3
    go_wp2_with fail
    refine cl.out.mono ?_
    rintro e X1 ⟨rfl, hX1⟩
    go_wp2_with fail
    refine (aw.out _ hX1).mono ?_
    rintro e X2 ⟨rfl, hX2⟩
    go_wp2
    go_ret
    exact ⟨rfl, hX2.below⟩
  · rw [decide_eq_false hl] at cl
    generalize openR x hour = r1 at c20 c21
    generalize nextR x hour = r2 at c22 c23
    generalize winB x 60 = r3 at c24 c25
    generalize partR x = r4 at c26 c27
    obtain ⟨r11, r12⟩ := r1
    obtain ⟨r21, r22⟩ := r2
    obtain ⟨⟨r41, r42⟩, r43⟩ := r4
    simp only [] at c20 c21 c22 c23 c26 c27
    replace cl := Lib.hid cl
    replace hl := Lib.hid hl
    replace hW := Lib.hid hW
    replace aw := Lib.hid aw
    replace law := Lib.hid law
    replace c20 := Lib.hid c20
    replace c21 := Lib.hid c21
    replace c22 := Lib.hid c22
    replace c23 := Lib.hid c23
    replace c24 := Lib.hid c24
    replace c25 := Lib.hid c25
    replace c26 := Lib.hid c26
    replace c27 := Lib.hid c27
    go_enter Try.func3, Try.ntmps3
    go_wp2_with fail
    refine cl.out.mono ?_
    rintro e X1 ⟨rfl, hX1⟩
    have a0 := hX1.box.c0
    have a1 := hX1.box.c1
    go_wp2_with fail
    refine (c20.out _ hX1).mono ?_
    rintro e X2 ⟨rfl, hX2⟩
    have b0 := hX2.box.c0
    have b1 := hX2.box.c1
    go_wp2_with fail
    refine (c21.out _ hX2).mono ?_
    rintro e X3 ⟨rfl, hX3⟩
    have d0 := hX3.box.c0
    have d1 := hX3.box.c1
    go_wp2_with fail
    refine (c22.out _ hX3).mono ?_
    rintro e X4 ⟨rfl, hX4⟩
    have e0 := hX4.box.c0
    have e1 := hX4.box.c1
    go_wp2_with fail
    refine (c23.out _ hX4).mono ?_
    rintro e X5 ⟨rfl, hX5⟩
    have hX5d := hX5.drew
    have k0 := hX5d.cells
    have f0 := hX5.box.c0
    have f1 := hX5.box.c1
    go_wp2_with fail
    go_region_held3 (fun X => X.cell? ⟨w.heap.size, 0, none⟩ = some (.int .i64 x.p) ∧ X.cell? ⟨w.heap.size, 1, none⟩ = some (.slice A x.hs.length c))
      (first | with_reducible exact k0 | with_reducible exact k1 | with_reducible exact k2)
      (first
        | (go_at_call 24; refine (c24.out _ (by first | exact hX7 | exact hX5d)).mono ?_; rintro _ X6 ⟨rfl, hX6⟩; have k1 := hX6.cells)
        | (go_at_call 25; refine (c25.out _ (by first | exact hX6 | exact hX5d)).mono ?_; rintro _ X7 ⟨rfl, hX7⟩; have k2 := hX7.cells))
    all_goals
      obtain ⟨g0, g1⟩ := k1
      obtain ⟨i0, i1⟩ := k2
      go_wp2_with fail
      refine (c26.out _ (by assumption)).mono ?_
      rintro e X8 ⟨rfl, hX8, hb8⟩
      have hb9 := ba1 X8 (.cells #[.int .i64 r41, .int .i64 r42] 33)
      have hX9 := hX8.up hb9
      have hP := show BxP (X8.alloc (.cells #[.int .i64 r41, .int .i64 r42] 33)) X8.heap.size r41 r42 from heap_alloc_new X8 _
      have l0 := hX9.box.c0
      have l1 := hX9.box.c1
      replace hb8 := Lib.hid hb8
      replace hb9 := Lib.hid hb9
      replace hX8 := Lib.hid hX8
      go_wp2_with fail
      refine (c27.out _ hX9).mono ?_
      rintro e X10 ⟨rfl, hX10, hb10⟩
      have hb11 := ba1 X10 (.cells #[.int .i64 r41, .int .i64 r42] 33)
      have hX11 := hX10.up hb11
      have hP1 := (hP.up hb10).up hb11
      have hP2 := show BxP (X10.alloc (.cells #[.int .i64 r41, .int .i64 r42] 33)) X10.heap.size r41 r42 from heap_alloc_new X10 _
      have m0 := hP1.c0
      have m1 := hP1.c1
      have m2 := hP2.c0
      have m3 := hP2.c1
      replace hb10 := Lib.hid hb10
      replace hb11 := Lib.hid hb11
      replace hP := Lib.hid hP
      replace hP1 := Lib.hid hP1
      replace hP2 := Lib.hid hP2
      go_wp2_with fail
      refine (aw.out _ hX11).mono ?_
      rintro e X12 ⟨rfl, hX12⟩
      go_wp2
      go_ret
      exact ⟨rfl, hX12.below⟩

/-! ### the row's step -/
set_option maxRecDepth 100000 in
theorem lifted (os : Os) (started : os.Started) (H : Type) (enc : TypeId × Value → H) :
    ReturnsInHanded {} Try.checked os 3 .any (Rows.windowOpensSpec.pre6 enc Try.prog Try.f3 Rows.windowOpensRow.domain false) (Rows.windowOpensSpec.post enc Try.prog Try.f3 false true false false) := by
  refine returnsInHanded_of_change (C := Try.checked) own started (by kernel_rfl) Try.func3
    (ChangeSpec.witness6 (enc := enc) (C := Try.checked) false ⟨#[], #[.agg #[.int .i64 0, .slice none 0 0], .int .i64 0], []⟩ 8 (by kernel_rfl) (by kernel_rfl) (by kernel_rfl) (by kernel_rfl)) ?_
  intro W base args ds gs before hval0 hW hcnd _
  have hval : ∀ (j : Nat) t v, Try.f3.params[j]? = some t → args[j]? = some v → Value.okWide Try.prog W .any base t v := hval0
  have hW' := hW
  obtain ⟨p, q, hA0, hV, rfl, hfz, hnd⟩ := hW
  have hA : DataW.TrodAll enc Try.prog W 0 (fun _ => true) true Try.f3.params.toList args.toList ds p := hA0
  rw [Try.params3] at hA hval
  obtain ⟨v0, vs0, d0, ds0, p0, q0, hargs, rfl, rfl, h0, r0⟩ := trodAll_cons hA
  obtain ⟨v1, vs1, d1, ds1, p1, q1, rfl, rfl, rfl, h1, r1⟩ := trodAll_cons r0
  obtain ⟨rfl, rfl, rfl⟩ := trodAll_nil r1
  obtain rfl : args = #[v0, v1] := by cases args; simp_all
  obtain ⟨rfl, rfl⟩ := trodVars_none hV
  have k0 := h0
  have lt0 : ∀ x ∈ p0, x.block < W.heap.size := by obtain ⟨m, hm⟩ := k0; exact DataW.trod_lt m _ _ _ hm
  obtain ⟨a0, cap0, T0, rfl, w0⟩ := wn_in (hval 0 24 v0 rfl rfl) h0
  obtain ⟨a1, rfl, rfl, rfl, w1⟩ := open_int Try.underlying3 (hval 1 3 v1 rfl rfl) h1
  clear hA0 hval0
  refine (walk a0 cap0 T0 a1 W w0).mono fun e W' ⟨he, bel⟩ => ?_
  subst he
  exact ⟨_, rfl, _, _, _, [], _, [], hW', trodAll_mk1 (shut_bool Try.underlying4 _), (trodAll_cons_mk (Below.trod laidOut (by kernel_rfl) (of_decide_eq_true (by kernel_rfl)) k0 bel lt0) (trodAll_cons_mk (shut_int Try.underlying3 w1) trodAll_mk0)), rfl, bel.frame _, fun h => by cases h⟩

theorem over : Rows.windowOpensRow.holds Try.pinned (OpenSpec.ofChange Rows.windowOpensSpec) :=
  OpenClaim.holds_of_wide 3 Try.f3 rfl rfl rfl rfl rfl rfl rfl ⟨rfl, rfl, rfl, rfl, rfl⟩ rfl rfl rfl rfl rfl (by kernel_rfl) Try.func3 (by kernel_rfl)
    (of_decide_eq_true (by kernel_rfl)) (by unfold Func.isWrapper; first | (rw [if_pos (by decide +kernel)]; kernel_rfl) | (rw [if_neg (by decide +kernel)]; exact ⟨rfl, rfl⟩))
    (fun os started H enc _ => lifted os started H enc)

/-- The statement. -/
theorem proved : Rows.WindowOpensSaid := over
end Go.Proofs.Ytlnpnfjdcnijhaa.lawWindowOpens
