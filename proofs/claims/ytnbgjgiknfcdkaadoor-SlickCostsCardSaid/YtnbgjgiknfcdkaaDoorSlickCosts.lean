/-
  For any bay, any slick, any prices and any number of moves, the law SlickCosts returns true: Cost and Before answer as the specification.
  Conditions: the table of directions starts as the program's text lays it.
-/
import Derived.Test.YtnbgjgiknfcdkaaDoorR
import Derived.Test.YtnbgjgiknfcdkaaDoorZp
import Derived.Test.YtnbgjgiknfcdkaaDoorCards
import Derived.Test.YtnbgjgiknfcdkaaDoorTie
import Derived.SevenTiedAt
import Derived.Lib.SmallJoins
namespace Go.Proofs.YtnbgjgiknfcdkaaDoor.lawSlickCosts
open Go.ChangeShapes Go.WideShapes Go.ChangeAt Go.RowKit Go.Deep Go.Proofs.YtnbgjgiknfcdkaaDoor M
set_option linter.unusedVariables false
set_option linter.unusedSimpArgs false

/-- Prices and a number, in their box. -/
def Duo (w : World) (b : Nat) (x y : Value) : Prop := w.heap[b]? = some (.cells #[x, y] 47 (0, 0))
theorem Duo.new (w : World) (x y : Value) : Duo (w.alloc (.cells #[x, y] 47)) w.heap.size x y := World.alloc_heap_new w _
theorem Duo.lt {w : World} {b : Nat} {x y : Value} (h : Duo w b x y) : b < w.heap.size := blk_lt h
theorem Duo.c0 {w : World} {b : Nat} {x y : Value} (h : Duo w b x y) : w.cell? ⟨b, 0, none⟩ = some x := by simp [World.cell?, show w.heap[b]? = _ from h]
theorem Duo.c1 {w : World} {b : Nat} {x y : Value} (h : Duo w b x y) : w.cell? ⟨b, 1, none⟩ = some y := by simp [World.cell?, show w.heap[b]? = _ from h]
theorem Duo.up {w w' : World} {b : Nat} {x y : Value} (h : Duo w b x y) (hb : Below w.heap.size w w') : Duo w' b x y := (hb.block b h.lt).trans h
/-- The law's world: the boxes of the bay, of the slick, and of the prices. -/
structure LawC (w : World) (W H l s K o aw p N : Value) (X : World) : Prop where
  below : Below w.heap.size w X
  bay : Quad X w.heap.size W H l s
  slk : Tri X (w.heap.size + 1) K o aw
  two : Duo X (w.heap.size + 1 + 1) p N
theorem LawC.call {w : World} {W H l s K o aw p N : Value} {X Y : World} (h : LawC w W H l s K o aw p N X) (hb : Below X.heap.size X Y) : LawC w W H l s K o aw p N Y :=
  ⟨h.below.trans (hb.mono h.below.size), h.bay.up hb, h.slk.up hb, h.two.up hb⟩
theorem lawC_start (w : World) (W H l s K o aw p N : Value) : LawC w W H l s K o aw p N (((w.alloc (.cells #[W, H, l, s] 25)).alloc (.cells #[K, o, aw] 28)).alloc (.cells #[p, N] 47)) := by
  refine ⟨ba3 w _ _ _, ((Quad.new w W H l s).up (ba1 _ _)).up (ba1 _ _), ?_, ?_⟩
  · have := (Tri.new (w.alloc (.cells #[W, H, l, s] 25)) K o aw).up (ba1 _ (.cells #[p, N] 47))
    simpa using this
  · have := Duo.new ((w.alloc (.cells #[W, H, l, s] 25)).alloc (.cells #[K, o, aw] 28)) p N
    simpa using this
theorem drew_below (w : World) (n : Nat) : Below w.heap.size w (w.drewN n) := below_drewN (Below.refl _ _) n
theorem int_of {z : Int} (h : (Lit.int IntKind.i64 z).wf = true) : -9223372036854775808 ≤ z ∧ z ≤ 9223372036854775807 := by
  simp [Lit.wf] at h
  exact ⟨h.1, h.2⟩
theorem cells47 : Tryd.prog.cellsOf 47 = 2 := by kernel_rfl
section
variable {H : Type} {enc : TypeId × Value → H} {W : World} {v : Value}
set_option maxRecDepth 100000 in
theorem two_in {d : DataW H} {p : List MemPlace} {b0 : Nat} (hv : Value.okWide Tryd.prog W .any b0 47 v) (h : DataW.Trod enc Tryd.prog W 0 (fun _ => true) true 47 v d p) :
    ∃ (N : Int) (aP : Option Addr) (cP : Nat) (P : List Int), v = .agg #[.slice aP P.length cP, .int .i64 N] ∧ Row W W.heap.size aP P := by
  obtain ⟨v0, v1, y0, y1, m, rfl, _, _, h0, h1⟩ := Go.Joins.open_agg2 Tryd.underlying47 (by kernel_rfl) cells47 hv h
  obtain ⟨N, e1, _, _⟩ := DataW.trod_int Tryd.underlying3 h1
  obtain rfl : v1 = .int .i64 N := by simpa using e1
  obtain ⟨aP, nP, cP, P, rfl, rfl, hP⟩ := row_of h0
  exact ⟨N, aP, cP, P, rfl, hP⟩
end

set_option maxRecDepth 100000 in
set_option maxHeartbeats 8000000 in
theorem walk (W H : Int) (aL aS aO aP : Option Addr) (cL cS cO cP : Nat) (L : List Bool) (n : Nat) (S : List Int) (K : Int) (O : List Int) (aw : Int) (P : List Int) (N : Int) (w : World) (h : BayIn w w.heap.size aL L aS n S) (hO : Row w w.heap.size aO O) (hP : Row w w.heap.size aP P) (hd : Dirs w) :
    Calls Tryd.prog 5 #[.agg #[.int .i64 W, .int .i64 H, .slice aL L.length cL, .slice aS n cS], .agg #[.int .i64 K, .slice aO O.length cO, .int .i64 aw], .agg #[.slice aP P.length cP, .int .i64 N]] w fun e w' => e = .returned (.bool true) ∧ Below w.heap.size w w' := by
  have hst := lawC_start w (.int .i64 W) (.int .i64 H) (.slice aL L.length cL) (.slice aS n cS) (.int .i64 K) (.slice aO O.length cO) (.int .i64 aw) (.slice aP P.length cP) (.int .i64 N)
  have hs1 : 1 ≤ w.heap.size := hd.1
  have hp63 := hP.1
  have sane : ∀ X, LawC w (.int .i64 W) (.int .i64 H) (.slice aL L.length cL) (.slice aS n cS) (.int .i64 K) (.slice aO O.length cO) (.int .i64 aw) (.slice aP P.length cP) (.int .i64 N) X → Calls Tryd.prog 17 #[] X fun e w' => e = .returned (.bool true) ∧ Below w.heap.size w w' := fun X hX =>
    (Sane_any X (hd.below hX.below hs1)).mono fun e w' ⟨he, hb⟩ => ⟨he, hX.below.trans (hb.mono hX.below.size)⟩
  have c15 : ∀ X, Calls Tryd.prog 15 #[.agg #[.int .i64 W, .int .i64 H, .slice aL L.length cL, .slice aS n cS]] X fun e w' => e = .returned (.bool (decide (100 < L.length) || decide (100 < n))) ∧ Below X.heap.size X w' := fun X => Long_any W H aL aS cL n cS L.length X h.land.1 h.share.1
  have c16 : ∀ X, Calls Tryd.prog 16 #[.agg #[.int .i64 K, .slice aO O.length cO, .int .i64 aw]] X fun e w' => e = .returned (.bool (decide (100 < O.length))) ∧ Below X.heap.size X w' := fun X => long_any K aw aO cO O.length X hO.1
  have c34 : ∀ X, LawC w (.int .i64 W) (.int .i64 H) (.slice aL L.length cL) (.slice aS n cS) (.int .i64 K) (.slice aO O.length cO) (.int .i64 aw) (.slice aP P.length cP) (.int .i64 N) X → Calls Tryd.prog 34 #[.agg #[.int .i64 W, .int .i64 H, .slice aL L.length cL, .slice aS n cS], .agg #[.int .i64 K, .slice aO O.length cO, .int .i64 aw], .slice aP P.length cP] X fun e w' => e = .returned (.tuple #[.int .i64 (cosR W H L n S K O aw P).1, .int .i64 (cosR W H L n S K O aw P).2]) ∧ Below X.heap.size X w' := fun X hX =>
    Cost_any w.heap.size W H aL aS aO aP cL cS cO cP L n S K O aw P X (h.below hX.below) (hO.below hX.below) (hP.below hX.below) hX.below.size
  have c35 : O.length ≤ 100 → ∀ X, LawC w (.int .i64 W) (.int .i64 H) (.slice aL L.length cL) (.slice aS n cS) (.int .i64 K) (.slice aO O.length cO) (.int .i64 aw) (.slice aP P.length cP) (.int .i64 N) X → Calls Tryd.prog 35 #[.agg #[.int .i64 W, .int .i64 H, .slice aL L.length cL, .slice aS n cS], .agg #[.int .i64 K, .slice aO O.length cO, .int .i64 aw], .slice aP P.length cP] X fun e w' => e = .returned (.tuple #[.int .i64 (cosR W H L n S K O aw P).1, .int .i64 (cosR W H L n S K O aw P).2]) ∧ Below X.heap.size X w' := fun m1 X hX =>
    CostR_any w.heap.size W H aL aS aO aP cL cS cO cP L n S K O aw P X (h.below hX.below) (hO.below hX.below) (hP.below hX.below) hX.below.size m1
  have c36 : ∀ X, LawC w (.int .i64 W) (.int .i64 H) (.slice aL L.length cL) (.slice aS n cS) (.int .i64 K) (.slice aO O.length cO) (.int .i64 aw) (.slice aP P.length cP) (.int .i64 N) X → Calls Tryd.prog 36 #[.agg #[.int .i64 W, .int .i64 H, .slice aL L.length cL, .slice aS n cS], .slice aP P.length cP, .int .i64 N] X (LstRes X (befR W H L n S P N)) := fun X hX =>
    Before_any w.heap.size W H aL aS aP cL cS cP L n S P N X (h.below hX.below) (hP.below hX.below) hX.below.size hs1 (hd.below hX.below hs1)
  have c37 : ∀ X, LawC w (.int .i64 W) (.int .i64 H) (.slice aL L.length cL) (.slice aS n cS) (.int .i64 K) (.slice aO O.length cO) (.int .i64 aw) (.slice aP P.length cP) (.int .i64 N) X → Calls Tryd.prog 37 #[.agg #[.int .i64 W, .int .i64 H, .slice aL L.length cL, .slice aS n cS], .slice aP P.length cP, .int .i64 N] X (LstRes X (befR W H L n S P N)) := fun X hX =>
    BeforeR_any w.heap.size W H aL aS aP cL cS cP L n S P N X (h.below hX.below) (hP.below hX.below) hX.below.size
  generalize cosR W H L n S K O aw P = R1 at c34 c35
  obtain ⟨x1, e1⟩ := R1
  generalize befR W H L n S P N = R2 at c36 c37
  obtain ⟨q2, e2⟩ := R2
  unfold LstRes at c36 c37
  dsimp only at c34 c35 c36 c37
  have c28 : ∀ X A A' c c', Row X X.heap.size A q2 → Row X X.heap.size A' q2 → Calls Tryd.prog 28 #[.slice A q2.length c, .slice A' q2.length c'] X fun e X' => e = .returned (.bool true) ∧ Below X.heap.size X X' := fun X A A' c c' r1 r2 => by
    refine (SameInts_ref _ A A' c c' _ _ X r1 r2).mono ?_
    rintro e X' ⟨rfl, n, rfl⟩
    exact ⟨by simp, below_drewN (Below.refl _ _) n⟩
  have hl1 : decide (100 < O.length) = false → O.length ≤ 100 := fun e => by have := of_decide_eq_false e; omega
  have dr := drew_below
  generalize hg0 : (decide (100 < L.length) || decide (100 < n)) = l0 at c15
  generalize hg1 : decide (100 < O.length) = l1 at c16 hl1
  clear hg0 hg1
  clear h hO hP hd hs1
  replace c34 := Lib.hid c34
  replace c35 := Lib.hid c35
  replace c36 := Lib.hid c36
  replace c37 := Lib.hid c37
  replace c28 := Lib.hid c28
  replace c15 := Lib.hid c15
  replace c16 := Lib.hid c16
  replace sane := Lib.hid sane
  replace hst := Lib.hid hst
  replace hl1 := Lib.hid hl1
  replace dr := Lib.hid dr
  have h0 := hst.out
  have p0 := h0.two.c0
  have p1 := h0.two.c1
  go_enter Tryd.func5, Tryd.ntmps5
  go_upto_region 1 with fail
  go_quiet (fail)
  have h00 := h0.call (dr.out _ nq)
  clear h0 p0 p1
  have g0 := h00.bay.c0
  have g1 := h00.bay.c1
  have g2 := h00.bay.c2
  have g3 := h00.bay.c3
  go_wp2_with fail
  refine (c15.out _).mono ?_
  rintro e w1 ⟨rfl, hb1⟩
  have h1 := h00.call hb1
  clear hb1 h00 g0 g1 g2 g3
  cases l0 with
  | true =>
    go_wp2_with fail
    refine (sane.out _ h1).mono ?_
    rintro e w9 ⟨rfl, h9⟩
    go_wp2
    go_ret
    exact ⟨rfl, h9⟩
  | false =>
  have p0 := h1.slk.c0
  have p1 := h1.slk.c1
  have p2 := h1.slk.c2
  go_wp2_with fail
  refine (c16.out _).mono ?_
  rintro e w2 ⟨rfl, hb2⟩
  have h3 := h1.call hb2
  clear hb2 h1 p0 p1 p2
  cases l1 with
  | true =>
    go_wp2_with fail
    refine (sane.out _ h3).mono ?_
    rintro e w9 ⟨rfl, h9⟩
    go_wp2
    go_ret
    exact ⟨rfl, h9⟩
  | false =>
  have m1 : O.length ≤ 100 := by first | exact hl1.out trivial | exact hl1.out rfl
  have d35 := c35.out m1
  clear hl1 c35 m1
  replace d35 := Lib.hid d35
  by_cases hpl : 100 < P.length
  · have hplI : (100 : Int) < (P.length : Nat) := by omega
    go_wp2_with fail
    refine (sane.out _ h3).mono ?_
    rintro e w9 ⟨rfl, h9⟩
    go_wp2
    go_ret
    exact ⟨rfl, h9⟩
  have hplI : ¬ (100 : Int) < (P.length : Nat) := by omega
  have g0 := h3.bay.c0
  have g1 := h3.bay.c1
  have g2 := h3.bay.c2
  have g3 := h3.bay.c3
  have p0 := h3.slk.c0
  have p1 := h3.slk.c1
  have p2 := h3.slk.c2
  go_wp2_with fail
  refine (c34.out _ h3).mono ?_
  rintro e w4 ⟨rfl, hb4⟩
  have h5 := h3.call hb4
  clear hb4 h3 g0 g1 g2 g3 p0 p1 p2 hplI hpl
  have g0 := h5.bay.c0
  have g1 := h5.bay.c1
  have g2 := h5.bay.c2
  have g3 := h5.bay.c3
  have p0 := h5.slk.c0
  have p1 := h5.slk.c1
  have p2 := h5.slk.c2
  go_wp2_with fail
  refine (d35.out _ h5).mono ?_
  rintro e w6 ⟨rfl, hb6⟩
  have h7 := h5.call hb6
  clear hb6 h5 g0 g1 g2 g3 p0 p1 p2
  have g0 := h7.bay.c0
  have g1 := h7.bay.c1
  have g2 := h7.bay.c2
  have g3 := h7.bay.c3
  go_wp2_with fail
  refine (c36.out _ h7).mono ?_
  rintro e w8 ⟨A8, c8, rfl, hb8, r8⟩
  have h9 := h7.call hb8
  clear hb8 h7 g0 g1 g2 g3
  have g0 := h9.bay.c0
  have g1 := h9.bay.c1
  have g2 := h9.bay.c2
  have g3 := h9.bay.c3
  go_wp2_with fail
  refine (c37.out _ h9).mono ?_
  rintro e w10 ⟨A10, c10, rfl, hb10, r10⟩
  have h11 := h9.call hb10
  have s10 := r8.up hb10
  clear hb10 h9 r8 g0 g1 g2 g3
  go_wp2_with fail
  refine (c28.out _ A8 A10 c8 c10 s10 r10).mono ?_
  rintro e w12 ⟨rfl, hb12⟩
  have h13 := h11.call hb12
  clear hb12 h11 s10 r10
  go_wp2_with fail
  refine (sane.out _ h13).mono ?_
  rintro e w14 ⟨rfl, h14⟩
  go_wp2
  go_ret
  exact ⟨rfl, h14⟩

/-! ### the row's step -/
set_option maxRecDepth 100000 in
/-- The door's own heap meets the condition. -/
theorem door_met (os : Os) (args : Array Value) : laidMetH Tryd.prog laidV ((World.doorLaid Tryd.prog 400 os).forCall (fun _ _ => 0) ⟨#[], args, []⟩).memory :=
  laidMetH_of_parts3 (fuel := 8) (laidMet_of_run' 8 (by kernel_rfl) (by kernel_rfl)) (by kernel_rfl) (by kernel_rfl)

set_option maxRecDepth 100000 in
theorem lifted (os : Os) (started : os.Started) (H : Type) (enc : TypeId × Value → H) :
    ReturnsInHanded {} Tryd.checked os 5 .any (fun w args => (Rows.slickCostsSpec.pre enc Tryd.prog Tryd.f5 [] false w args ∧ laidMetH Tryd.prog laidV w) ∧ sizedMet enc Tryd.prog Tryd.f5 (OpenSpec.ofChange Rows.slickCostsSpec) false w args)
      (Rows.slickCostsSpec.post enc Tryd.prog Tryd.f5 false true false false) := by
  refine returnsInHanded_of_change_and (C := Tryd.checked) (X := fun w _ => laidMetH Tryd.prog laidV w) (fun _ _ _ hh h => h.of_heap hh) own started (by kernel_rfl) Tryd.func5
    (ChangeSpec.witness_shaped (enc := enc) (C := Tryd.checked) (os := os) (X := fun w _ => laidMetH Tryd.prog laidV w) false (World.doorLaid Tryd.prog 400 os) #[.agg #[.int .i64 0, .int .i64 0, .slice none 0 0, .slice none 0 0], .agg #[.int .i64 0, .slice none 0 0, .int .i64 0], .agg #[.slice none 0 0, .int .i64 0]] 8 rfl (World.shaped_of_RefB (by kernel_rfl) (by kernel_rfl)) (by kernel_rfl) (by kernel_rfl) (by kernel_rfl) (door_met os _)) ?_
  intro W base args ds gs before hval0 hW _ _ hL _
  have hval : ∀ (j : Nat) t v, Tryd.f5.params[j]? = some t → args[j]? = some v → Value.okWide Tryd.prog W .any base t v := hval0
  have hW' := hW
  obtain ⟨p, q, hA0, hV, rfl, hfz, hnd⟩ := hW
  have hA : DataW.TrodAll enc Tryd.prog W 0 (fun _ => true) true Tryd.f5.params.toList args.toList ds p := hA0
  rw [Tryd.params5] at hA hval
  obtain ⟨v0, vs0, d0, ds0, p0, q0, hargs, rfl, rfl, h0, r0⟩ := trodAll_cons hA
  obtain ⟨v1, vs1, d1, ds1, p1, q1, rfl, rfl, rfl, h1, r1⟩ := trodAll_cons r0
  obtain ⟨v2, vs2, d2, ds2, p2, q2, rfl, rfl, rfl, h2, r2⟩ := trodAll_cons r1
  obtain ⟨rfl, rfl, rfl⟩ := trodAll_nil r2
  obtain rfl : args = #[v0, v1, v2] := by cases args; simp_all
  obtain ⟨rfl, rfl⟩ := trodVars_none hV
  have hdirs := dirs_of hL
  have k0 := h0
  have lt0 : ∀ x ∈ p0, x.block < W.heap.size := by obtain ⟨m, hm⟩ := k0; exact DataW.trod_lt m _ _ _ hm
  obtain ⟨Wd, Hd, aL, aS, cL, cS, n, L, S, rfl, hb0⟩ := bay_in (hval 0 25 v0 rfl rfl) h0
  have k1 := h1
  have lt1 : ∀ x ∈ p1, x.block < W.heap.size := by obtain ⟨m, hm⟩ := k1; exact DataW.trod_lt m _ _ _ hm
  obtain ⟨K, aw, aO, cO, O, rfl, hb1⟩ := slick_in (hval 1 28 v1 rfl rfl) h1
  have k2 := h2
  have lt2 : ∀ x ∈ p2, x.block < W.heap.size := by obtain ⟨m, hm⟩ := k2; exact DataW.trod_lt m _ _ _ hm
  obtain ⟨N, aP, cP, P, rfl, hb2⟩ := two_in (hval 2 47 v2 rfl rfl) h2
  clear hA0 hval0
  refine (walk Wd Hd aL aS aO aP cL cS cO cP L n S K O aw P N W hb0 hb1 hb2 hdirs).mono fun e W' ⟨he, bel⟩ => ?_
  subst he
  exact ⟨_, rfl, _, _, _, [], _, [], hW', trodAll_mk1 (shut_bool Tryd.underlying4 _), (trodAll_cons_mk (Below.trod laidOut (by kernel_rfl) (of_decide_eq_true (by kernel_rfl)) k0 bel lt0) (trodAll_cons_mk (Below.trod laidOut (by kernel_rfl) (of_decide_eq_true (by kernel_rfl)) k1 bel lt1) (trodAll_cons_mk (Below.trod laidOut (by kernel_rfl) (of_decide_eq_true (by kernel_rfl)) k2 bel lt2) trodAll_mk0))), rfl, bel.frame _, fun h => by cases h⟩

theorem over : Rows.SlickCostsSaid :=
  OpenClaim.holds_of_wide 5 Tryd.f5 rfl rfl rfl rfl rfl rfl rfl ⟨rfl, rfl, rfl, rfl, rfl⟩ rfl rfl rfl rfl rfl (by kernel_rfl) Tryd.func5 (by kernel_rfl)
    (of_decide_eq_true (by kernel_rfl)) (by unfold Func.isWrapper; first | (rw [if_pos (by decide +kernel)]; kernel_rfl) | (rw [if_neg (by decide +kernel)]; exact ⟨rfl, rfl⟩))
    (fun os started H enc _ => lifted os started H enc)

/-- The statement: the tied card. -/
theorem proved : Rows.SlickCostsCardSaid :=
  Claim7.holds_tied_plain_at .later [] [.data] true (true, "38a074445a3967dedbdfb9374eda118d846433fb573c587a55d7c5edfad1e3dd") false
    over (fun _ h => by cases h) (by kernel_rfl) (fun _ h => by cases h) slickCosts_row_tie rfl ⟨rfl, rfl⟩ (by kernel_rfl) rfl
    (fun f fn hf hfn => by
      obtain rfl : f = 5 := Option.some.inj ((show Tryd.prog.funcNamed "skimmer/skimmerlaw02.SlickCosts" = some 5 by kernel_rfl).symm.trans hf) |>.symm
      obtain rfl : fn = Tryd.f5 := (Option.some.inj (Tryd.func5.symm.trans hfn)).symm
      exact ⟨by kernel_rfl, fun j t ht => by
        rw [Tryd.params5] at ht
        have hm : t ∈ [25, 28, 47] := by simpa using Array.mem_of_getElem? ht
        have hall : ([25, 28, 47].all fun u => !Tryd.prog.wantsStandIn u) = true := by kernel_rfl
        exact (show Tryd.prog.wantsStandIn t = false by simpa using List.all_eq_true.1 hall t hm)⟩)
    (by kernel_rfl)
end Go.Proofs.YtnbgjgiknfcdkaaDoor.lawSlickCosts
