/-
  For any bay, any slick and any number of moves, the law SlickMoves returns true: Move and After answer as the specification.
  Conditions: the table of directions starts as the program's text lays it.
-/
import Derived.Test.YtnbgjgiknfcdkaaDoorR
import Derived.Test.YtnbgjgiknfcdkaaDoorZk
import Derived.Test.YtnbgjgiknfcdkaaDoorCards
import Derived.Test.YtnbgjgiknfcdkaaDoorTie
import Derived.SevenTiedAt
namespace Go.Proofs.YtnbgjgiknfcdkaaDoor.lawSlickMoves
open Go.ChangeShapes Go.WideShapes Go.ChangeAt Go.RowKit Go.Deep Go.Proofs.YtnbgjgiknfcdkaaDoor M
set_option linter.unusedVariables false
set_option linter.unusedSimpArgs false

/-- The law's world: the boxes of the bay and of the slick. -/
structure LawM (w : World) (W H l s K o aw : Value) (X : World) : Prop where
  below : Below w.heap.size w X
  bay : Quad X w.heap.size W H l s
  slk : Tri X (w.heap.size + 1) K o aw
theorem LawM.call {w : World} {W H l s K o aw : Value} {X Y : World} (h : LawM w W H l s K o aw X) (hb : Below X.heap.size X Y) : LawM w W H l s K o aw Y :=
  ⟨h.below.trans (hb.mono h.below.size), h.bay.up hb, h.slk.up hb⟩
theorem lawM_start (w : World) (W H l s K o aw : Value) : LawM w W H l s K o aw ((w.alloc (.cells #[W, H, l, s] 25)).alloc (.cells #[K, o, aw] 28)) := by
  refine ⟨ba2 w _ _, (Quad.new w W H l s).up (ba1 _ _), ?_⟩
  have := Tri.new (w.alloc (.cells #[W, H, l, s] 25)) K o aw
  simpa using this
theorem int_of {z : Int} (h : (Lit.int IntKind.i64 z).wf = true) : -9223372036854775808 ≤ z ∧ z ≤ 9223372036854775807 := by
  simp [Lit.wf] at h
  exact ⟨h.1, h.2⟩
set_option maxRecDepth 100000 in
theorem int_in {H : Type} {enc : TypeId × Value → H} {W : World} {v : Value} {d : DataW H} {p : List MemPlace} {b0 : Nat} (hv : Value.okWide Tryd.prog W .any b0 3 v) (h : DataW.Trod enc Tryd.prog W 0 (fun _ => true) true 3 v d p) : ∃ z : Int, v = .int .i64 z ∧ (-9223372036854775808 ≤ z ∧ z ≤ 9223372036854775807) := by
  obtain ⟨z, rfl⟩ := okWide_int Tryd.underlying3 hv
  obtain ⟨fuel, hf⟩ := h
  obtain ⟨z', e, _, hw⟩ := DataW.trod_int Tryd.underlying3 hf
  obtain rfl : z = z' := by simpa [Value.cells] using e
  exact ⟨z, rfl, int_of hw⟩

set_option maxRecDepth 100000 in
set_option maxHeartbeats 8000000 in
theorem walk (W H : Int) (aL aS aO : Option Addr) (cL cS cO : Nat) (L : List Bool) (n : Nat) (S : List Int) (K : Int) (O : List Int) (aw N : Int) (w : World) (h : BayIn w w.heap.size aL L aS n S) (hO : Row w w.heap.size aO O) (hd : Dirs w) (hN : -9223372036854775808 ≤ N ∧ N ≤ 9223372036854775807) :
    Calls Tryd.prog 4 #[.agg #[.int .i64 W, .int .i64 H, .slice aL L.length cL, .slice aS n cS], .agg #[.int .i64 K, .slice aO O.length cO, .int .i64 aw], .int .i64 N] w fun e w' => e = .returned (.bool true) ∧ Below w.heap.size w w' := by
  have hst := lawM_start w (.int .i64 W) (.int .i64 H) (.slice aL L.length cL) (.slice aS n cS) (.int .i64 K) (.slice aO O.length cO) (.int .i64 aw)
  have hs1 : 1 ≤ w.heap.size := hd.1
  have sane : ∀ X, LawM w (.int .i64 W) (.int .i64 H) (.slice aL L.length cL) (.slice aS n cS) (.int .i64 K) (.slice aO O.length cO) (.int .i64 aw) X → Calls Tryd.prog 17 #[] X fun e w' => e = .returned (.bool true) ∧ Below w.heap.size w w' := fun X hX =>
    (Sane_any X (hd.below hX.below hs1)).mono fun e w' ⟨he, hb⟩ => ⟨he, hX.below.trans (hb.mono hX.below.size)⟩
  have c15 : ∀ X, Calls Tryd.prog 15 #[.agg #[.int .i64 W, .int .i64 H, .slice aL L.length cL, .slice aS n cS]] X fun e w' => e = .returned (.bool (decide (100 < L.length) || decide (100 < n))) ∧ Below X.heap.size X w' := fun X => Long_any W H aL aS cL n cS L.length X h.land.1 h.share.1
  have c16 : ∀ X, Calls Tryd.prog 16 #[.agg #[.int .i64 K, .slice aO O.length cO, .int .i64 aw]] X fun e w' => e = .returned (.bool (decide (100 < O.length))) ∧ Below X.heap.size X w' := fun X => long_any K aw aO cO O.length X hO.1
  have c29 : ∀ X, LawM w (.int .i64 W) (.int .i64 H) (.slice aL L.length cL) (.slice aS n cS) (.int .i64 K) (.slice aO O.length cO) (.int .i64 aw) X → Calls Tryd.prog 29 #[.agg #[.int .i64 W, .int .i64 H, .slice aL L.length cL, .slice aS n cS], .agg #[.int .i64 K, .slice aO O.length cO, .int .i64 aw]] X (SlkRes X (aftR W H L n S K O aw 1)) := fun X hX =>
    Move_any w.heap.size W H aL aS aO cL cS cO L n S K O aw X (h.below hX.below) (hO.below hX.below) hX.below.size hs1 (hd.below hX.below hs1)
  have c30 : O.length ≤ 100 → ∀ X, LawM w (.int .i64 W) (.int .i64 H) (.slice aL L.length cL) (.slice aS n cS) (.int .i64 K) (.slice aO O.length cO) (.int .i64 aw) X → Calls Tryd.prog 30 #[.agg #[.int .i64 W, .int .i64 H, .slice aL L.length cL, .slice aS n cS], .agg #[.int .i64 K, .slice aO O.length cO, .int .i64 aw]] X (SlkRes X (aftR W H L n S K O aw 1)) := fun m1 X hX =>
    MoveR_any w.heap.size W H aL aS aO cL cS cO L n S K O aw X (h.below hX.below) (hO.below hX.below) hX.below.size m1
  have c31 : ∀ X, LawM w (.int .i64 W) (.int .i64 H) (.slice aL L.length cL) (.slice aS n cS) (.int .i64 K) (.slice aO O.length cO) (.int .i64 aw) X → Calls Tryd.prog 31 #[.agg #[.int .i64 W, .int .i64 H, .slice aL L.length cL, .slice aS n cS], .agg #[.int .i64 K, .slice aO O.length cO, .int .i64 aw], .int .i64 N] X (SlkRes X (aftR W H L n S K O aw N)) := fun X hX =>
    After_any w.heap.size W H aL aS aO cL cS cO L n S K O aw N X (h.below hX.below) (hO.below hX.below) hX.below.size hs1 (hd.below hX.below hs1) hN
  have c32 : O.length ≤ 100 → ∀ X, LawM w (.int .i64 W) (.int .i64 H) (.slice aL L.length cL) (.slice aS n cS) (.int .i64 K) (.slice aO O.length cO) (.int .i64 aw) X → Calls Tryd.prog 32 #[.agg #[.int .i64 W, .int .i64 H, .slice aL L.length cL, .slice aS n cS], .agg #[.int .i64 K, .slice aO O.length cO, .int .i64 aw], .int .i64 N] X (SlkRes X (aftR W H L n S K O aw N)) := fun m1 X hX =>
    AfterR_any w.heap.size W H aL aS aO cL cS cO L n S K O aw N X (h.below hX.below) (hO.below hX.below) hX.below.size m1
  generalize aftR W H L n S K O aw 1 = R1 at c29 c30
  obtain ⟨k1, o1, a1, e1⟩ := R1
  generalize aftR W H L n S K O aw N = R2 at c31 c32
  obtain ⟨k2, o2, a2, e2⟩ := R2
  unfold SlkRes at c29 c30 c31 c32
  dsimp only at c29 c30 c31 c32
  have hl1 : decide (100 < O.length) = false → O.length ≤ 100 := fun e => by have := of_decide_eq_false e; omega
  generalize hg0 : (decide (100 < L.length) || decide (100 < n)) = l0 at c15
  generalize hg1 : decide (100 < O.length) = l1 at c16 hl1
  clear hg0 hg1
  clear h hO hd hs1 hN
  replace c29 := Lib.hid c29
  replace c30 := Lib.hid c30
  replace c31 := Lib.hid c31
  replace c32 := Lib.hid c32
  replace c15 := Lib.hid c15
  replace c16 := Lib.hid c16
  replace sane := Lib.hid sane
  replace hst := Lib.hid hst
  replace hl1 := Lib.hid hl1
  have h0 := hst.out
  have q0 := h0.bay.c0
  have q1 := h0.bay.c1
  have q2 := h0.bay.c2
  have q3 := h0.bay.c3
  go_enter Tryd.func4, Tryd.ntmps4
  go_wp2_with fail
  refine (c15.out _).mono ?_
  rintro e w1 ⟨rfl, hb1⟩
  have h1 := h0.call hb1
  clear hb1 h0 q0 q1 q2 q3
  cases l0 with
  | true =>
    go_wp2_with fail
    refine (sane.out _ h1).mono ?_
    rintro e w9 ⟨rfl, h9⟩
    go_wp2
    go_ret
    exact ⟨rfl, h9⟩
  | false =>
  have p0 := h1.slk.c0
  have p1 := h1.slk.c1
  have p2 := h1.slk.c2
  go_wp2_with fail
  refine (c16.out _).mono ?_
  rintro e w2 ⟨rfl, hb2⟩
  have h3 := h1.call hb2
  clear hb2 h1 p0 p1 p2
  cases l1 with
  | true =>
    go_wp2_with fail
    refine (sane.out _ h3).mono ?_
    rintro e w9 ⟨rfl, h9⟩
    go_wp2
    go_ret
    exact ⟨rfl, h9⟩
  | false =>
  have m1 : O.length ≤ 100 := by first | exact hl1.out trivial | exact hl1.out rfl
  have d30 := c30.out m1
  have d32 := c32.out m1
  clear hl1 c30 c32 m1
  replace d30 := Lib.hid d30
  replace d32 := Lib.hid d32
  have q0 := h3.bay.c0
  have q1 := h3.bay.c1
  have q2 := h3.bay.c2
  have q3 := h3.bay.c3
  have p0 := h3.slk.c0
  have p1 := h3.slk.c1
  have p2 := h3.slk.c2
  go_wp2_with fail
  refine (c29.out _ h3).mono ?_
  rintro e w4 ⟨Ax, cx, rfl, hb4, rx4, fx4⟩
  have h5 := (h3.call hb4).call (ba1 w4 (.cells #[.int .i64 k1, .slice Ax o1.length cx, .int .i64 a1] 28))
  have t5 := Tri.new w4 (.int .i64 k1) (.slice Ax o1.length cx) (.int .i64 a1)
  have s5 := rx4.up (ba1 w4 (.cells #[.int .i64 k1, .slice Ax o1.length cx, .int .i64 a1] 28))
  clear hb4 h3 q0 q1 q2 q3 p0 p1 p2 fx4 rx4
  have q0 := h5.bay.c0
  have q1 := h5.bay.c1
  have q2 := h5.bay.c2
  have q3 := h5.bay.c3
  have p0 := h5.slk.c0
  have p1 := h5.slk.c1
  have p2 := h5.slk.c2
  go_wp2_with fail
  refine (d30.out _ h5).mono ?_
  rintro e w6 ⟨Ay, cy, rfl, hb6, ry6, fy6⟩
  have h7 := (h5.call hb6).call (ba1 w6 (.cells #[.int .i64 k1, .slice Ay o1.length cy, .int .i64 a1] 28))
  have t7 := (t5.up hb6).up (ba1 w6 (.cells #[.int .i64 k1, .slice Ay o1.length cy, .int .i64 a1] 28))
  have s7 := (s5.up hb6).up (ba1 w6 (.cells #[.int .i64 k1, .slice Ay o1.length cy, .int .i64 a1] 28))
  have u7 := Tri.new w6 (.int .i64 k1) (.slice Ay o1.length cy) (.int .i64 a1)
  have v7 := ry6.up (ba1 w6 (.cells #[.int .i64 k1, .slice Ay o1.length cy, .int .i64 a1] 28))
  clear hb6 h5 q0 q1 q2 q3 p0 p1 p2 fy6 ry6 t5 s5
  have q0 := h7.bay.c0
  have q1 := h7.bay.c1
  have q2 := h7.bay.c2
  have q3 := h7.bay.c3
  have p0 := h7.slk.c0
  have p1 := h7.slk.c1
  have p2 := h7.slk.c2
  go_wp2_with fail
  refine (c31.out _ h7).mono ?_
  rintro e w8 ⟨Au, cu, rfl, hb8, ru8, fu8⟩
  have h9 := (h7.call hb8).call (ba1 w8 (.cells #[.int .i64 k2, .slice Au o2.length cu, .int .i64 a2] 28))
  have t9 := (t7.up hb8).up (ba1 w8 (.cells #[.int .i64 k2, .slice Au o2.length cu, .int .i64 a2] 28))
  have s9 := (s7.up hb8).up (ba1 w8 (.cells #[.int .i64 k2, .slice Au o2.length cu, .int .i64 a2] 28))
  have u9 := (u7.up hb8).up (ba1 w8 (.cells #[.int .i64 k2, .slice Au o2.length cu, .int .i64 a2] 28))
  have v9 := (v7.up hb8).up (ba1 w8 (.cells #[.int .i64 k2, .slice Au o2.length cu, .int .i64 a2] 28))
  have x9 := Tri.new w8 (.int .i64 k2) (.slice Au o2.length cu) (.int .i64 a2)
  have y9 := ru8.up (ba1 w8 (.cells #[.int .i64 k2, .slice Au o2.length cu, .int .i64 a2] 28))
  clear hb8 h7 q0 q1 q2 q3 p0 p1 p2 fu8 ru8 t7 s7 u7 v7
  have q0 := h9.bay.c0
  have q1 := h9.bay.c1
  have q2 := h9.bay.c2
  have q3 := h9.bay.c3
  have p0 := h9.slk.c0
  have p1 := h9.slk.c1
  have p2 := h9.slk.c2
  go_wp2_with fail
  refine (d32.out _ h9).mono ?_
  rintro e w10 ⟨Av, cv, rfl, hb10, rv10, fv10⟩
  have h11 := (h9.call hb10).call (ba1 w10 (.cells #[.int .i64 k2, .slice Av o2.length cv, .int .i64 a2] 28))
  have t11 := (t9.up hb10).up (ba1 w10 (.cells #[.int .i64 k2, .slice Av o2.length cv, .int .i64 a2] 28))
  have s11 := (s9.up hb10).up (ba1 w10 (.cells #[.int .i64 k2, .slice Av o2.length cv, .int .i64 a2] 28))
  have u11 := (u9.up hb10).up (ba1 w10 (.cells #[.int .i64 k2, .slice Av o2.length cv, .int .i64 a2] 28))
  have v11 := (v9.up hb10).up (ba1 w10 (.cells #[.int .i64 k2, .slice Av o2.length cv, .int .i64 a2] 28))
  have x11 := (x9.up hb10).up (ba1 w10 (.cells #[.int .i64 k2, .slice Av o2.length cv, .int .i64 a2] 28))
  have y11 := (y9.up hb10).up (ba1 w10 (.cells #[.int .i64 k2, .slice Av o2.length cv, .int .i64 a2] 28))
  have z11 := Tri.new w10 (.int .i64 k2) (.slice Av o2.length cv) (.int .i64 a2)
  have zz11 := rv10.up (ba1 w10 (.cells #[.int .i64 k2, .slice Av o2.length cv, .int .i64 a2] 28))
  clear hb10 h9 q0 q1 q2 q3 p0 p1 p2 fv10 rv10 t9 s9 u9 v9 x9 y9 c29 d30 c31 d32 c15 c16
  have c33 : ∀ X A A' c c', Row X X.heap.size A o1 → Row X X.heap.size A' o1 → Calls Tryd.prog 33 #[.agg #[.int .i64 k1, .slice A o1.length c, .int .i64 a1], .agg #[.int .i64 k1, .slice A' o1.length c', .int .i64 a1]] X fun e w' => e = .returned (.bool true) ∧ Below X.heap.size X w' := fun X A A' c c' x3 x5 =>
    Equal_ref X.heap.size A A' c c' k1 k1 o1 o1 a1 a1 X x3 x5 (Nat.le_refl _) rfl rfl rfl
  have d33 : ∀ X A A' c c', Row X X.heap.size A o2 → Row X X.heap.size A' o2 → Calls Tryd.prog 33 #[.agg #[.int .i64 k2, .slice A o2.length c, .int .i64 a2], .agg #[.int .i64 k2, .slice A' o2.length c', .int .i64 a2]] X fun e w' => e = .returned (.bool true) ∧ Below X.heap.size X w' := fun X A A' c c' x3 x5 =>
    Equal_ref X.heap.size A A' c c' k2 k2 o2 o2 a2 a2 X x3 x5 (Nat.le_refl _) rfl rfl rfl
  replace c33 := Lib.hid c33
  replace d33 := Lib.hid d33
  have p0 := t11.c0
  have p1 := t11.c1
  have p2 := t11.c2
  have q0 := u11.c0
  have q1 := u11.c1
  have q2 := u11.c2
  go_wp2_with fail
  refine (c33.out _ Ax Ay cx cy s11 v11).mono ?_
  rintro e w12 ⟨rfl, hb12⟩
  have h13 := h11.call hb12
  have x13 := x11.up hb12
  have y13 := y11.up hb12
  have z13 := z11.up hb12
  have zz13 := zz11.up hb12
  clear hb12 h11 t11 s11 u11 v11 x11 y11 z11 zz11 p0 p1 p2 q0 q1 q2
  have p0 := x13.c0
  have p1 := x13.c1
  have p2 := x13.c2
  have q0 := z13.c0
  have q1 := z13.c1
  have q2 := z13.c2
  go_wp2_with fail
  refine (d33.out _ Au Av cu cv y13 zz13).mono ?_
  rintro e w14 ⟨rfl, hb14⟩
  have h15 := h13.call hb14
  clear hb14 h13 x13 y13 z13 zz13 p0 p1 p2 q0 q1 q2
  go_wp2_with fail
  refine (sane.out _ h15).mono ?_
  rintro e w16 ⟨rfl, h16⟩
  go_wp2
  go_ret
  exact ⟨rfl, h16⟩

/-! ### the row's step -/
set_option maxRecDepth 100000 in
/-- The door's own heap meets the condition. -/
theorem door_met (os : Os) (args : Array Value) : laidMetH Tryd.prog laidV ((World.doorLaid Tryd.prog 400 os).forCall (fun _ _ => 0) ⟨#[], args, []⟩).memory :=
  laidMetH_of_parts3 (fuel := 8) (laidMet_of_run' 8 (by kernel_rfl) (by kernel_rfl)) (by kernel_rfl) (by kernel_rfl)

set_option maxRecDepth 100000 in
theorem lifted (os : Os) (started : os.Started) (H : Type) (enc : TypeId × Value → H) :
    ReturnsInHanded {} Tryd.checked os 4 .any (fun w args => (Rows.slickMovesSpec.pre enc Tryd.prog Tryd.f4 [] false w args ∧ laidMetH Tryd.prog laidV w) ∧ sizedMet enc Tryd.prog Tryd.f4 (OpenSpec.ofChange Rows.slickMovesSpec) false w args)
      (Rows.slickMovesSpec.post enc Tryd.prog Tryd.f4 false true false false) := by
  refine returnsInHanded_of_change_and (C := Tryd.checked) (X := fun w _ => laidMetH Tryd.prog laidV w) (fun _ _ _ hh h => h.of_heap hh) own started (by kernel_rfl) Tryd.func4
    (ChangeSpec.witness_shaped (enc := enc) (C := Tryd.checked) (os := os) (X := fun w _ => laidMetH Tryd.prog laidV w) false (World.doorLaid Tryd.prog 400 os) #[.agg #[.int .i64 0, .int .i64 0, .slice none 0 0, .slice none 0 0], .agg #[.int .i64 0, .slice none 0 0, .int .i64 0], .int .i64 0] 8 rfl (World.shaped_of_RefB (by kernel_rfl) (by kernel_rfl)) (by kernel_rfl) (by kernel_rfl) (by kernel_rfl) (door_met os _)) ?_
  intro W base args ds gs before hval0 hW _ _ hL _
  have hval : ∀ (j : Nat) t v, Tryd.f4.params[j]? = some t → args[j]? = some v → Value.okWide Tryd.prog W .any base t v := hval0
  have hW' := hW
  obtain ⟨p, q, hA0, hV, rfl, hfz, hnd⟩ := hW
  have hA : DataW.TrodAll enc Tryd.prog W 0 (fun _ => true) true Tryd.f4.params.toList args.toList ds p := hA0
  rw [Tryd.params4] at hA hval
  obtain ⟨v0, vs0, d0, ds0, p0, q0, hargs, rfl, rfl, h0, r0⟩ := trodAll_cons hA
  obtain ⟨v1, vs1, d1, ds1, p1, q1, rfl, rfl, rfl, h1, r1⟩ := trodAll_cons r0
  obtain ⟨v2, vs2, d2, ds2, p2, q2, rfl, rfl, rfl, h2, r2⟩ := trodAll_cons r1
  obtain ⟨rfl, rfl, rfl⟩ := trodAll_nil r2
  obtain rfl : args = #[v0, v1, v2] := by cases args; simp_all
  obtain ⟨rfl, rfl⟩ := trodVars_none hV
  have hdirs := dirs_of hL
  have k0 := h0
  have lt0 : ∀ x ∈ p0, x.block < W.heap.size := by obtain ⟨m, hm⟩ := k0; exact DataW.trod_lt m _ _ _ hm
  obtain ⟨Wd, Hd, aL, aS, cL, cS, n, L, S, rfl, hb0⟩ := bay_in (hval 0 25 v0 rfl rfl) h0
  have k1 := h1
  have lt1 : ∀ x ∈ p1, x.block < W.heap.size := by obtain ⟨m, hm⟩ := k1; exact DataW.trod_lt m _ _ _ hm
  obtain ⟨K, aw, aO, cO, O, rfl, hb1⟩ := slick_in (hval 1 28 v1 rfl rfl) h1
  have k2 := h2
  have lt2 : ∀ x ∈ p2, x.block < W.heap.size := by obtain ⟨m, hm⟩ := k2; exact DataW.trod_lt m _ _ _ hm
  obtain ⟨N, rfl, hN⟩ := int_in (hval 2 3 v2 rfl rfl) h2
  clear hA0 hval0
  refine (walk Wd Hd aL aS aO cL cS cO L n S K O aw N W hb0 hb1 hdirs hN).mono fun e W' ⟨he, bel⟩ => ?_
  subst he
  exact ⟨_, rfl, _, _, _, [], _, [], hW', trodAll_mk1 (shut_bool Tryd.underlying4 _), (trodAll_cons_mk (Below.trod laidOut (by kernel_rfl) (of_decide_eq_true (by kernel_rfl)) k0 bel lt0) (trodAll_cons_mk (Below.trod laidOut (by kernel_rfl) (of_decide_eq_true (by kernel_rfl)) k1 bel lt1) (trodAll_cons_mk (Below.trod laidOut (by kernel_rfl) (of_decide_eq_true (by kernel_rfl)) k2 bel lt2) trodAll_mk0))), rfl, bel.frame _, fun h => by cases h⟩

theorem over : Rows.SlickMovesSaid :=
  OpenClaim.holds_of_wide 4 Tryd.f4 rfl rfl rfl rfl rfl rfl rfl ⟨rfl, rfl, rfl, rfl, rfl⟩ rfl rfl rfl rfl rfl (by kernel_rfl) Tryd.func4 (by kernel_rfl)
    (of_decide_eq_true (by kernel_rfl)) (by unfold Func.isWrapper; first | (rw [if_pos (by decide +kernel)]; kernel_rfl) | (rw [if_neg (by decide +kernel)]; exact ⟨rfl, rfl⟩))
    (fun os started H enc _ => lifted os started H enc)

/-- The statement: the tied card. -/
theorem proved : Rows.SlickMovesCardSaid :=
  Claim7.holds_tied_plain_at .later [] [.data] true (true, "38a074445a3967dedbdfb9374eda118d846433fb573c587a55d7c5edfad1e3dd") false
    over (fun _ h => by cases h) (by kernel_rfl) (fun _ h => by cases h) slickMoves_row_tie rfl ⟨rfl, rfl⟩ (by kernel_rfl) rfl
    (fun f fn hf hfn => by
      obtain rfl : f = 4 := Option.some.inj ((show Tryd.prog.funcNamed "skimmer/skimmerlaw02.SlickMoves" = some 4 by kernel_rfl).symm.trans hf) |>.symm
      obtain rfl : fn = Tryd.f4 := (Option.some.inj (Tryd.func4.symm.trans hfn)).symm
      exact ⟨by kernel_rfl, fun j t ht => by
        rw [Tryd.params4] at ht
        have hm : t ∈ [25, 28, 3] := by simpa using Array.mem_of_getElem? ht
        have hall : ([25, 28, 3].all fun u => !Tryd.prog.wantsStandIn u) = true := by kernel_rfl
        exact (show Tryd.prog.wantsStandIn t = false by simpa using List.all_eq_true.1 hall t hm)⟩)
    (by kernel_rfl)
end Go.Proofs.YtnbgjgiknfcdkaaDoor.lawSlickMoves
