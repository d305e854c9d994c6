/-
  For any bay, any two slicks and any number of moves, the law SlickAdds returns true: what is added and then moved is what is moved and then added.
  Conditions: the table of directions starts as the program's text lays it.
-/
import Derived.Test.YtnbgjgiknfcdkaaDoorX
import Derived.Test.YtnbgjgiknfcdkaaDoorCards
import Derived.Test.YtnbgjgiknfcdkaaDoorTie
import Derived.SevenTiedAt
import Derived.Deep.DeepCutAuto
namespace Go.Proofs.YtnbgjgiknfcdkaaDoor.lawSlickAdds
open Go.ChangeShapes Go.WideShapes Go.ChangeAt Go.RowKit Go.Deep Go.Proofs.YtnbgjgiknfcdkaaDoor M
set_option linter.unusedVariables false
set_option linter.unusedSimpArgs false

theorem tri_drew {w : World} {b : Nat} {x y z : Value} (h : Tri w b x y z) : Tri w.drew b x y z := h
theorem quad_drew {w : World} {b : Nat} {x y z u : Value} (h : Quad w b x y z u) : Quad w.drew b x y z u := h
theorem tri_other {w : World} {b d : Nat} {x y z : Value} (h : Tri w d x y z) (hd : d ≠ b) (x' y' z' : Value) : Tri (((w.setCell ⟨b, 0, none⟩ x').setCell ⟨b, 1, none⟩ y').setCell ⟨b, 2, none⟩ z') d x y z := by
  show (((w.setCell ⟨b, 0, none⟩ x').setCell ⟨b, 1, none⟩ y').setCell ⟨b, 2, none⟩ z').heap[d]? = _
  rw [setCell_block _ _ _ _ _ hd, setCell_block _ _ _ _ _ hd, setCell_block _ _ _ _ _ hd]
  exact h

/-- The law's world: the boxes of the bay and of both slicks. -/
structure AddW (w : World) (W H l s K o aw K' o' aw' : Value) (b7 b8 : Nat) (X : World) : Prop where
  below : Below w.heap.size w X
  bay : Quad X w.heap.size W H l s
  fst : Tri X b7 K o aw
  snd : Tri X b8 K' o' aw'
theorem AddW.call {w : World} {W H l s K o aw K' o' aw' : Value} {b7 b8 : Nat} {X Y : World} (h : AddW w W H l s K o aw K' o' aw' b7 b8 X) (hb : Below X.heap.size X Y) : AddW w W H l s K o aw K' o' aw' b7 b8 Y :=
  ⟨h.below.trans (hb.mono h.below.size), h.bay.up hb, h.fst.up hb, h.snd.up hb⟩
theorem AddW.alloc {w : World} {W H l s K o aw K' o' aw' : Value} {b7 b8 : Nat} {X : World} (h : AddW w W H l s K o aw K' o' aw' b7 b8 X) (ob : Obj) : AddW w W H l s K o aw K' o' aw' b7 b8 (X.alloc ob) := h.call (ba1 X ob)
theorem addW_a (w : World) (W H l s K o aw K' o' aw' : Value) : AddW w W H l s K o aw K' o' aw' (w.heap.size + 1 + 1) (w.heap.size + 1 + 1 + 1)
    ((((w.alloc (.cells #[W, H, l, s] 25)).alloc (.cells #[K, o, aw, K', o', aw'] 62)).alloc (.cells #[K, o, aw] 28)).alloc (.cells #[K', o', aw'] 28)).drew := by
  refine ⟨below_drewN (ba4 w _ _ _ _) 1, quad_drew ((((Quad.new w W H l s).up (ba1 _ _)).up (ba1 _ _)).up (ba1 _ _)), ?_, ?_⟩
  · have := tri_drew <| (Tri.new ((w.alloc (.cells #[W, H, l, s] 25)).alloc (.cells #[K, o, aw, K', o', aw'] 62)) K o aw).up (ba1 _ (.cells #[K', o', aw'] 28))
    simpa using this
  · have := tri_drew <| Tri.new (((w.alloc (.cells #[W, H, l, s] 25)).alloc (.cells #[K, o, aw, K', o', aw'] 62)).alloc (.cells #[K, o, aw] 28)) K' o' aw'
    simpa using this
theorem addW_b (w : World) (W H l s K o aw K' o' aw' : Value) : AddW w W H l s K o aw K' o' aw' (w.heap.size + 1 + 1 + 1) (w.heap.size + 1 + 1)
    ((((w.alloc (.cells #[W, H, l, s] 25)).alloc (.cells #[K, o, aw, K', o', aw'] 62)).alloc (.cells #[K', o', aw'] 28)).alloc (.cells #[K, o, aw] 28)).drew := by
  refine ⟨below_drewN (ba4 w _ _ _ _) 1, quad_drew ((((Quad.new w W H l s).up (ba1 _ _)).up (ba1 _ _)).up (ba1 _ _)), ?_, ?_⟩
  · have := tri_drew <| Tri.new (((w.alloc (.cells #[W, H, l, s] 25)).alloc (.cells #[K, o, aw, K', o', aw'] 62)).alloc (.cells #[K', o', aw'] 28)) K o aw
    simpa using this
  · have := tri_drew <| (Tri.new ((w.alloc (.cells #[W, H, l, s] 25)).alloc (.cells #[K, o, aw, K', o', aw'] 62)) K' o' aw').up (ba1 _ (.cells #[K, o, aw] 28))
    simpa using this

/-- What Sum answers: one or the other. -/
theorem sum_cases (W H : Int) (L : List Bool) (n : Nat) (S : List Int) (K : Int) (O : List Int) (aw K' : Int) (O' : List Int) (aw' : Int) :
    (∃ E : Int, (E = 20 ∨ E = 21) ∧ sumR W H L n S K O aw K' O' aw' = (0, [], 0, E)) ∨
    (validB W H L n S = true ∧ slkB L.length K O aw = true ∧ slkB L.length K' O' aw' = true ∧ K = K' ∧
      slkB L.length K (pre L.length (ad (L.length + 1) (amt O aw) (amt O' aw'))) (el (ad (L.length + 1) (amt O aw) (amt O' aw')) L.length) = true ∧
      sumR W H L n S K O aw K' O' aw' = (K, pre L.length (ad (L.length + 1) (amt O aw) (amt O' aw')), el (ad (L.length + 1) (amt O aw) (amt O' aw')) L.length, 0)) := by
  unfold sumR
  cases h1 : validB W H L n S with
  | false => exact .inl ⟨20, .inl rfl, by simp⟩
  | true =>
    cases h2 : slkB L.length K O aw with
    | false => exact .inl ⟨21, .inr rfl, by simp⟩
    | true =>
      cases h3 : slkB L.length K' O' aw' with
      | false => exact .inl ⟨21, .inr rfl, by simp⟩
      | true =>
        by_cases h4 : K = K'
        · cases h5 : slkB L.length K (pre L.length (ad (L.length + 1) (amt O aw) (amt O' aw'))) (el (ad (L.length + 1) (amt O aw) (amt O' aw')) L.length) with
          | false => exact .inl ⟨21, .inr rfl, by simp [h4]⟩
          | true => exact .inr ⟨rfl, rfl, rfl, h4, rfl, by simp [h4]⟩
        · exact .inl ⟨21, .inr rfl, by simp [h4]⟩

set_option maxRecDepth 100000 in
set_option maxHeartbeats 8000000 in
theorem err (W H : Int) (aL aS aO aO' : Option Addr) (cL cS cO cO' : Nat) (L : List Bool) (n : Nat) (S : List Int) (K K' : Int) (O O' : List Int) (aw aw' : Int) (n0 : Nat) (w : World) (h : BayIn w w.heap.size aL L aS n S) (hO : Row w w.heap.size aO O) (hO' : Row w w.heap.size aO' O') (hd : Dirs w) (hn0 : n0 ≤ 255) (E : Int) (hE : (E == 0) = false) (hsum : sumR W H L n S K O aw K' O' aw' = (0, [], 0, E)) :
    Calls Tryd.prog 10 #[.agg #[.int .i64 W, .int .i64 H, .slice aL L.length cL, .slice aS n cS], .agg #[.int .i64 K, .slice aO O.length cO, .int .i64 aw, .int .i64 K', .slice aO' O'.length cO', .int .i64 aw'], .int .u8 n0] w fun e w' => e = .returned (.bool true) ∧ Below w.heap.size w w' := by
  have ha := addW_a w (.int .i64 W) (.int .i64 H) (.slice aL L.length cL) (.slice aS n cS) (.int .i64 K) (.slice aO O.length cO) (.int .i64 aw) (.int .i64 K') (.slice aO' O'.length cO') (.int .i64 aw')
  have hb := addW_b w (.int .i64 W) (.int .i64 H) (.slice aL L.length cL) (.slice aS n cS) (.int .i64 K) (.slice aO O.length cO) (.int .i64 aw) (.int .i64 K') (.slice aO' O'.length cO') (.int .i64 aw')
  have hs1 : 1 ≤ w.heap.size := hd.1
  have sane : ∀ X, Below w.heap.size w X → Calls Tryd.prog 17 #[] X fun e w' => e = .returned (.bool true) ∧ Below w.heap.size w w' := fun X hX =>
    (Sane_any X (hd.below hX hs1)).mono fun e w' ⟨he, hb⟩ => ⟨he, hX.trans (hb.mono hX.size)⟩
  have c15 : ∀ X, Calls Tryd.prog 15 #[.agg #[.int .i64 W, .int .i64 H, .slice aL L.length cL, .slice aS n cS]] X fun e w' => e = .returned (.bool (decide (100 < L.length) || decide (100 < n))) ∧ Below X.heap.size X w' := fun X => Long_any W H aL aS cL n cS L.length X h.land.1 h.share.1
  have c16 : ∀ X, Calls Tryd.prog 16 #[.agg #[.int .i64 K, .slice aO O.length cO, .int .i64 aw]] X fun e w' => e = .returned (.bool (decide (100 < O.length))) ∧ Below X.heap.size X w' := fun X => long_any K aw aO cO O.length X hO.1
  have c16' : ∀ X, Calls Tryd.prog 16 #[(.agg #[.int .i64 K', .slice aO' O'.length cO', .int .i64 aw'])] X fun e w' => e = .returned (.bool (decide (100 < O'.length))) ∧ Below X.heap.size X w' := fun X => long_any K' aw' aO' cO' O'.length X hO'.1
  have c38 : ∀ X, Below w.heap.size w X → Calls Tryd.prog 38 #[.agg #[.int .i64 W, .int .i64 H, .slice aL L.length cL, .slice aS n cS], .agg #[.int .i64 K, .slice aO O.length cO, .int .i64 aw], (.agg #[.int .i64 K', .slice aO' O'.length cO', .int .i64 aw'])] X (SlkRes X (sumR W H L n S K O aw K' O' aw')) := fun X hX =>
    Sum_any w.heap.size W H aL aS aO aO' cL cS cO cO' L n S K K' O O' aw aw' X (h.below hX) (hO.below hX) (hO'.below hX) hX.size
  generalize (decide (100 < L.length) || decide (100 < n)) = l0 at c15
  generalize decide (100 < O.length) = l1 at c16
  generalize decide (100 < O'.length) = l2 at c16'
  rw [hsum] at c38
  clear hsum
  replace ha := Lib.hid ha
  replace hb := Lib.hid hb
  replace sane := Lib.hid sane
  replace c15 := Lib.hid c15
  replace c16 := Lib.hid c16
  replace c16' := Lib.hid c16'
  replace c38 := Lib.hid c38
  have t2 : Tri ((((w.alloc (.cells #[.int .i64 W, .int .i64 H, .slice aL L.length cL, .slice aS n cS] 25)).alloc (.cells #[.int .i64 K, .slice aO O.length cO, .int .i64 aw, .int .i64 K', .slice aO' O'.length cO', .int .i64 aw'] 62)).alloc (.cells #[.int .i64 0, .slice none 0 0, .int .i64 0] 28)).alloc (.cells #[.int .i64 0, .slice none 0 0, .int .i64 0] 28)).drew (w.heap.size + 1 + 1) (.int .i64 0) (.slice none 0 0) (.int .i64 0) := by
    have := tri_drew <| (Tri.new ((w.alloc (.cells #[.int .i64 W, .int .i64 H, .slice aL L.length cL, .slice aS n cS] 25)).alloc (.cells #[.int .i64 K, .slice aO O.length cO, .int .i64 aw, .int .i64 K', .slice aO' O'.length cO', .int .i64 aw'] 62)) (.int .i64 0) (.slice none 0 0) (.int .i64 0)).up (ba1 _ (.cells #[.int .i64 0, .slice none 0 0, .int .i64 0] 28))
    simpa using this
  have t3 : Tri ((((w.alloc (.cells #[.int .i64 W, .int .i64 H, .slice aL L.length cL, .slice aS n cS] 25)).alloc (.cells #[.int .i64 K, .slice aO O.length cO, .int .i64 aw, .int .i64 K', .slice aO' O'.length cO', .int .i64 aw'] 62)).alloc (.cells #[.int .i64 0, .slice none 0 0, .int .i64 0] 28)).alloc (.cells #[.int .i64 0, .slice none 0 0, .int .i64 0] 28)).drew (w.heap.size + 1 + 1 + 1) (.int .i64 0) (.slice none 0 0) (.int .i64 0) := by
    have := tri_drew <| (Tri.new (((w.alloc (.cells #[.int .i64 W, .int .i64 H, .slice aL L.length cL, .slice aS n cS] 25)).alloc (.cells #[.int .i64 K, .slice aO O.length cO, .int .i64 aw, .int .i64 K', .slice aO' O'.length cO', .int .i64 aw'] 62)).alloc (.cells #[.int .i64 0, .slice none 0 0, .int .i64 0] 28)) (.int .i64 0) (.slice none 0 0) (.int .i64 0))
    simpa using this
  have k3 : ((((w.alloc (.cells #[.int .i64 W, .int .i64 H, .slice aL L.length cL, .slice aS n cS] 25)).alloc (.cells #[.int .i64 K, .slice aO O.length cO, .int .i64 aw, .int .i64 K', .slice aO' O'.length cO', .int .i64 aw'] 62)).alloc (.cells #[.int .i64 0, .slice none 0 0, .int .i64 0] 28)).alloc (.cells #[.int .i64 0, .slice none 0 0, .int .i64 0] 28)).drew.cell? ⟨w.heap.size + 1, 3, none⟩ = some (.int .i64 K') := by simp [go_sem]
  have k4 : ((((w.alloc (.cells #[.int .i64 W, .int .i64 H, .slice aL L.length cL, .slice aS n cS] 25)).alloc (.cells #[.int .i64 K, .slice aO O.length cO, .int .i64 aw, .int .i64 K', .slice aO' O'.length cO', .int .i64 aw'] 62)).alloc (.cells #[.int .i64 0, .slice none 0 0, .int .i64 0] 28)).alloc (.cells #[.int .i64 0, .slice none 0 0, .int .i64 0] 28)).drew.cell? ⟨w.heap.size + 1, 4, none⟩ = some (.slice aO' O'.length cO') := by simp [go_sem]
  have k5 : ((((w.alloc (.cells #[.int .i64 W, .int .i64 H, .slice aL L.length cL, .slice aS n cS] 25)).alloc (.cells #[.int .i64 K, .slice aO O.length cO, .int .i64 aw, .int .i64 K', .slice aO' O'.length cO', .int .i64 aw'] 62)).alloc (.cells #[.int .i64 0, .slice none 0 0, .int .i64 0] 28)).alloc (.cells #[.int .i64 0, .slice none 0 0, .int .i64 0] 28)).drew.cell? ⟨w.heap.size + 1, 5, none⟩ = some (.int .i64 aw') := by simp [go_sem]
  have t3' := tri_other t3 (b := w.heap.size + 1 + 1) (by omega) (.int .i64 K) (.slice aO O.length cO) (.int .i64 aw)
  have t2' := tri_other t2 (b := w.heap.size + 1 + 1 + 1) (by omega) (.int .i64 K) (.slice aO O.length cO) (.int .i64 aw)
  have c20 := t2.c0
  have f20 := t2.fz 0
  have c21 := t2.c1
  have f21 := t2.fz 1
  have c22 := t2.c2
  have f22 := t2.fz 2
  have c30 := t3.c0
  have f30 := t3.fz 0
  have c31 := t3.c1
  have f31 := t3.fz 1
  have c32 := t3.c2
  have f32 := t3.fz 2
  have c20' := t2'.c0
  have f20' := t2'.fz 0
  have c21' := t2'.c1
  have f21' := t2'.fz 1
  have c22' := t2'.c2
  have f22' := t2'.fz 2
  have c30' := t3'.c0
  have f30' := t3'.fz 0
  have c31' := t3'.c1
  have f31' := t3'.fz 1
  have c32' := t3'.c2
  have f32' := t3'.fz 2
  have k3' := (set3_cell (b := w.heap.size + 1 + 1) (d := w.heap.size + 1) (by omega) (.int .i64 K) (.slice aO O.length cO) (.int .i64 aw) 3).trans k3
  have m3' := (set3_cell (b := w.heap.size + 1 + 1 + 1) (d := w.heap.size + 1) (by omega) (.int .i64 K) (.slice aO O.length cO) (.int .i64 aw) 3).trans k3
  have k4' := (set3_cell (b := w.heap.size + 1 + 1) (d := w.heap.size + 1) (by omega) (.int .i64 K) (.slice aO O.length cO) (.int .i64 aw) 4).trans k4
  have m4' := (set3_cell (b := w.heap.size + 1 + 1 + 1) (d := w.heap.size + 1) (by omega) (.int .i64 K) (.slice aO O.length cO) (.int .i64 aw) 4).trans k4
  have k5' := (set3_cell (b := w.heap.size + 1 + 1) (d := w.heap.size + 1) (by omega) (.int .i64 K) (.slice aO O.length cO) (.int .i64 aw) 5).trans k5
  have m5' := (set3_cell (b := w.heap.size + 1 + 1 + 1) (d := w.heap.size + 1) (by omega) (.int .i64 K) (.slice aO O.length cO) (.int .i64 aw) 5).trans k5
  clear t2 t3 t2' t3'
  go_enter Tryd.func10, Tryd.ntmps10
  go_upto_region 1 with fail
  go_cut [7, 8] from 19 to 22 (fun p q wx => ∃ b7 b8 : Nat, p = .pointer (some ⟨b7, 0, none⟩) ∧ q = .pointer (some ⟨b8, 0, none⟩) ∧ AddW w (.int .i64 W) (.int .i64 H) (.slice aL L.length cL) (.slice aS n cS) (.int .i64 K) (.slice aO O.length cO) (.int .i64 aw) (.int .i64 K') (.slice aO' O'.length cO') (.int .i64 aw') b7 b8 wx)
  case first =>
    go_region
    · go_wp2_with fail
      go_meet
      exact ⟨_, _, rfl, rfl, ha.out⟩
    · go_wp2_with fail
      go_meet
      exact ⟨_, _, rfl, rfl, hb.out⟩
  case rest =>
  obtain ⟨b7, b8, rfl, rfl, h0⟩ := hcut
  clear ha hb c20 f20 c21 f21 c22 f22 c30 f30 c31 f31 c32 f32 c20' f20' c21' f21' c22' f22' c30' f30' c31' f31' c32' f32' k3 k3' m3' k4 k4' m4' k5 k5' m5'
  have q0 := h0.bay.c0
  have q1 := h0.bay.c1
  have q2 := h0.bay.c2
  have q3 := h0.bay.c3
  go_wp2_with fail
  refine (c15.out _).mono ?_
  rintro e w1 ⟨rfl, hb1⟩
  have h1 := h0.call hb1
  clear hb1 h0 q0 q1 q2 q3
  cases l0 with
  | true =>
    go_wp2_with fail
    refine (sane.out _ h1.below).mono ?_
    rintro e w9 ⟨rfl, h9⟩
    go_wp2
    go_ret
    exact ⟨rfl, h9⟩
  | false =>
  have p0 := h1.fst.c0
  have p1 := h1.fst.c1
  have p2 := h1.fst.c2
  go_wp2_with fail
  refine (c16.out _).mono ?_
  rintro e w2 ⟨rfl, hb2⟩
  have h2 := h1.call hb2
  clear hb2 h1 p0 p1 p2
  cases l1 with
  | true =>
    go_wp2_with fail
    refine (sane.out _ h2.below).mono ?_
    rintro e w9 ⟨rfl, h9⟩
    go_wp2
    go_ret
    exact ⟨rfl, h9⟩
  | false =>
  have p0 := h2.snd.c0
  have p1 := h2.snd.c1
  have p2 := h2.snd.c2
  go_wp2_with fail
  refine (c16'.out _).mono ?_
  rintro e w3 ⟨rfl, hb3⟩
  have h3 := h2.call hb3
  clear hb3 h2 p0 p1 p2
  cases l2 with
  | true =>
    go_wp2_with fail
    refine (sane.out _ h3.below).mono ?_
    rintro e w9 ⟨rfl, h9⟩
    go_wp2
    go_ret
    exact ⟨rfl, h9⟩
  | false =>
  have q0 := h3.bay.c0
  have q1 := h3.bay.c1
  have q2 := h3.bay.c2
  have q3 := h3.bay.c3
  have p0 := h3.fst.c0
  have p1 := h3.fst.c1
  have p2 := h3.fst.c2
  have r0 := h3.snd.c0
  have r1 := h3.snd.c1
  have r2 := h3.snd.c2
  go_wp2_with fail
  refine (c38.out _ h3.below).mono ?_
  rintro e w4 ⟨A, c, rfl, hb4, r4, fr4⟩
  have h4 := h3.call hb4
  clear hb4 h3 q0 q1 q2 q3 p0 p1 p2 r0 r1 r2 fr4
  dsimp only at r4
  have h5 := h4.alloc (.cells #[.int .i64 0, .slice A 0 c, .int .i64 0] 28)
  have t5 := Tri.new w4 (.int .i64 0) (.slice A 0 c) (.int .i64 0)
  have g1 := t5.c1
  go_wp2_with fail
  refine (sane.out _ h5.below).mono ?_
  rintro e w9 ⟨rfl, h9⟩
  go_wp2
  go_ret
  exact ⟨rfl, h9⟩

set_option maxRecDepth 100000 in
set_option maxHeartbeats 8000000 in
theorem ok (wn hn : Nat) (aL aS aO aO' : Option Addr) (cL cS cO cO' : Nat) (L : List Bool) (S : List Int) (k0 : Nat) (O O' : List Int) (aw aw' : Int) (n0 : Nat) (w : World) (h : BayIn w w.heap.size aL L aS (wn * hn) S) (hO : Row w w.heap.size aO O) (hO' : Row w w.heap.size aO' O') (hd : Dirs w) (hn0 : n0 ≤ 255)
    (hv : validB wn hn L (wn * hn) S = true) (hs : slkB L.length k0 O aw = true) (hs' : slkB L.length k0 O' aw' = true) (hBay : Bay wn hn L S) (hLN : L.length = wn * hn)
    (hss : slkB L.length k0 (pre (wn * hn) (ad (wn * hn + 1) (amt O aw) (amt O' aw'))) (el (ad (wn * hn + 1) (amt O aw) (amt O' aw')) (wn * hn)) = true) (hsum : sumR wn hn L (wn * hn) S k0 O aw k0 O' aw' = ((k0 : Int), pre (wn * hn) (ad (wn * hn + 1) (amt O aw) (amt O' aw')), el (ad (wn * hn + 1) (amt O aw) (amt O' aw')) (wn * hn), 0)) :
    Calls Tryd.prog 10 #[.agg #[.int .i64 (wn : Nat), .int .i64 (hn : Nat), .slice aL L.length cL, .slice aS (wn * hn) cS], .agg #[.int .i64 (k0 : Nat), .slice aO O.length cO, .int .i64 aw, .int .i64 (k0 : Nat), .slice aO' O'.length cO', .int .i64 aw'], .int .u8 n0] w fun e w' => e = .returned (.bool true) ∧ Below w.heap.size w w' := by
  have ha := addW_a w (.int .i64 (wn : Nat)) (.int .i64 (hn : Nat)) (.slice aL L.length cL) (.slice aS (wn * hn) cS) (.int .i64 (k0 : Nat)) (.slice aO O.length cO) (.int .i64 aw) (.int .i64 (k0 : Nat)) (.slice aO' O'.length cO') (.int .i64 aw')
  have hb := addW_b w (.int .i64 (wn : Nat)) (.int .i64 (hn : Nat)) (.slice aL L.length cL) (.slice aS (wn * hn) cS) (.int .i64 (k0 : Nat)) (.slice aO O.length cO) (.int .i64 aw) (.int .i64 (k0 : Nat)) (.slice aO' O'.length cO') (.int .i64 aw')
  have hs1 : 1 ≤ w.heap.size := hd.1
  have sane : ∀ X, Below w.heap.size w X → Calls Tryd.prog 17 #[] X fun e w' => e = .returned (.bool true) ∧ Below w.heap.size w w' := fun X hX =>
    (Sane_any X (hd.below hX hs1)).mono fun e w' ⟨he, hb⟩ => ⟨he, hX.trans (hb.mono hX.size)⟩
  have c15 : ∀ X, Calls Tryd.prog 15 #[.agg #[.int .i64 (wn : Nat), .int .i64 (hn : Nat), .slice aL L.length cL, .slice aS (wn * hn) cS]] X fun e w' => e = .returned (.bool (decide (100 < L.length) || decide (100 < (wn * hn)))) ∧ Below X.heap.size X w' := fun X => Long_any (wn : Nat) (hn : Nat) aL aS cL (wn * hn) cS L.length X h.land.1 h.share.1
  have c16 : ∀ X, Calls Tryd.prog 16 #[.agg #[.int .i64 (k0 : Nat), .slice aO O.length cO, .int .i64 aw]] X fun e w' => e = .returned (.bool (decide (100 < O.length))) ∧ Below X.heap.size X w' := fun X => long_any (k0 : Nat) aw aO cO O.length X hO.1
  have c16' : ∀ X, Calls Tryd.prog 16 #[(.agg #[.int .i64 (k0 : Nat), .slice aO' O'.length cO', .int .i64 aw'])] X fun e w' => e = .returned (.bool (decide (100 < O'.length))) ∧ Below X.heap.size X w' := fun X => long_any (k0 : Nat) aw' aO' cO' O'.length X hO'.1
  have c38 : ∀ X, Below w.heap.size w X → Calls Tryd.prog 38 #[.agg #[.int .i64 (wn : Nat), .int .i64 (hn : Nat), .slice aL L.length cL, .slice aS (wn * hn) cS], .agg #[.int .i64 (k0 : Nat), .slice aO O.length cO, .int .i64 aw], (.agg #[.int .i64 (k0 : Nat), .slice aO' O'.length cO', .int .i64 aw'])] X (SlkRes X (sumR (wn : Nat) (hn : Nat) L (wn * hn) S (k0 : Nat) O aw (k0 : Nat) O' aw')) := fun X hX =>
    Sum_any w.heap.size (wn : Nat) (hn : Nat) aL aS aO aO' cL cS cO cO' L (wn * hn) S (k0 : Nat) (k0 : Nat) O O' aw aw' X (h.below hX) (hO.below hX) (hO'.below hX) hX.size
  generalize (decide (100 < L.length) || decide (100 < (wn * hn))) = l0 at c15
  generalize decide (100 < O.length) = l1 at c16
  generalize decide (100 < O'.length) = l2 at c16'
  rw [hsum] at c38
  clear hsum
  have hk0 : k0 ≤ 5 := by have := (slk_of hs).2.1; omega
  have hN36 := hBay.cells
  obtain ⟨i, hi⟩ : ∃ i, i = n0 % (6 - k0) := ⟨_, rfl⟩
  have hil : i < 6 - k0 := by rw [hi]; exact Nat.mod_lt _ (by omega)
  have hi1 : (n0 : Int).tmod (5 - (k0 : Int) + 1) = i := by
    rw [Int.tmod_eq_emod_of_nonneg (by omega), hi, Int.natCast_emod]
    congr 1
    omega
  have hi2 : (n0 : Int) % ((6 - k0 : Nat) : Int) = i := by rw [hi, Int.natCast_emod]
  have e4 : amt (pre (wn * hn) (ad (wn * hn + 1) (amt O aw) (amt O' aw'))) (el (ad (wn * hn + 1) (amt O aw) (amt O' aw')) (wn * hn)) = (ad (wn * hn + 1) (amt O aw) (amt O' aw')) := amt_pre (ad_len _ _ _)
  have hx := aftR_ok (n := i) hv hss (by omega)
  rw [e4] at hx
  have hy := aftR_ok (n := i) hv hs (by omega)
  have hz := aftR_ok (n := i) hv hs' (by omega)
  have hsa := sum_after (n := i) hBay hv hLN hs hs' hss (by omega)
  have hP : SlkP ((k0 + i : Nat) : Int) (pre (wn * hn) (af wn hn L S i (ad (wn * hn + 1) (amt O aw) (amt O' aw')))) (el (af wn hn L S i (ad (wn * hn + 1) (amt O aw) (amt O' aw'))) (wn * hn)) := by
    have := (slk_after (n := i) hBay (slk_of hss).2 (pre_len _ _) (by omega)).2
    rw [e4, ← Int.natCast_add] at this
    exact this
  have cx : ∀ X A c, Below w.heap.size w X → Row X X.heap.size A (pre (wn * hn) (ad (wn * hn + 1) (amt O aw) (amt O' aw'))) → Calls Tryd.prog 31 #[.agg #[.int .i64 (wn : Nat), .int .i64 (hn : Nat), .slice aL L.length cL, .slice aS (wn * hn) cS], .agg #[.int .i64 (k0 : Nat), .slice A (wn * hn) c, .int .i64 (el (ad (wn * hn + 1) (amt O aw) (amt O' aw')) (wn * hn))], .int .i64 (i : Nat)] X fun e X' => ∃ A' c', e = .returned (.tuple #[.agg #[.int .i64 ((k0 + i : Nat) : Int), .slice A' (wn * hn) c', .int .i64 (el (af wn hn L S i (ad (wn * hn + 1) (amt O aw) (amt O' aw'))) (wn * hn))], .int .i64 0]) ∧ Below X.heap.size X X' ∧ Row X' X'.heap.size A' (pre (wn * hn) (af wn hn L S i (ad (wn * hn + 1) (amt O aw) (amt O' aw')))) := fun X A c hX hr => by
    have h1 := After_any X.heap.size wn hn aL aS A cL cS c L (wn * hn) S k0 (pre (wn * hn) (ad (wn * hn + 1) (amt O aw) (amt O' aw'))) (el (ad (wn * hn + 1) (amt O aw) (amt O' aw')) (wn * hn)) i X ((h.below hX).more hX.size) hr (Nat.le_refl _) (Nat.le_trans hs1 hX.size) (hd.below hX hs1) (by omega)
    rw [hx, pre_len] at h1
    refine h1.mono ?_
    rintro e X' ⟨A', c', he, hb, hr, _⟩
    dsimp only at he hr
    rw [pre_len] at he
    exact ⟨A', c', he, hb, hr⟩
  have cy : ∀ X, Below w.heap.size w X → Calls Tryd.prog 31 #[.agg #[.int .i64 (wn : Nat), .int .i64 (hn : Nat), .slice aL L.length cL, .slice aS (wn * hn) cS], .agg #[.int .i64 (k0 : Nat), .slice aO O.length cO, .int .i64 aw], .int .i64 (i : Nat)] X fun e X' => ∃ A' c', e = .returned (.tuple #[.agg #[.int .i64 ((k0 + i : Nat) : Int), .slice A' (wn * hn) c', .int .i64 (el (af wn hn L S i (amt O aw)) (wn * hn))], .int .i64 0]) ∧ Below X.heap.size X X' ∧ Row X' X'.heap.size A' (pre (wn * hn) (af wn hn L S i (amt O aw))) := fun X hX => by
    have h1 := After_any w.heap.size wn hn aL aS aO cL cS cO L (wn * hn) S k0 O aw i X (h.below hX) (hO.below hX) hX.size hs1 (hd.below hX hs1) (by omega)
    rw [hy] at h1
    refine h1.mono ?_
    rintro e X' ⟨A', c', he, hb, hr, _⟩
    dsimp only at he hr
    rw [pre_len] at he
    exact ⟨A', c', he, hb, hr⟩
  have cz : ∀ X, Below w.heap.size w X → Calls Tryd.prog 31 #[.agg #[.int .i64 (wn : Nat), .int .i64 (hn : Nat), .slice aL L.length cL, .slice aS (wn * hn) cS], (.agg #[.int .i64 (k0 : Nat), .slice aO' O'.length cO', .int .i64 aw']), .int .i64 (i : Nat)] X fun e X' => ∃ A' c', e = .returned (.tuple #[.agg #[.int .i64 ((k0 + i : Nat) : Int), .slice A' (wn * hn) c', .int .i64 (el (af wn hn L S i (amt O' aw')) (wn * hn))], .int .i64 0]) ∧ Below X.heap.size X X' ∧ Row X' X'.heap.size A' (pre (wn * hn) (af wn hn L S i (amt O' aw'))) := fun X hX => by
    have h1 := After_any w.heap.size wn hn aL aS aO' cL cS cO' L (wn * hn) S k0 O' aw' i X (h.below hX) (hO'.below hX) hX.size hs1 (hd.below hX hs1) (by omega)
    rw [hz] at h1
    refine h1.mono ?_
    rintro e X' ⟨A', c', he, hb, hr, _⟩
    dsimp only at he hr
    rw [pre_len] at he
    exact ⟨A', c', he, hb, hr⟩
  have c38b : ∀ X A2 A3 c2 c3, Below w.heap.size w X → Row X X.heap.size A2 (pre (wn * hn) (af wn hn L S i (amt O aw))) → Row X X.heap.size A3 (pre (wn * hn) (af wn hn L S i (amt O' aw'))) → Calls Tryd.prog 38 #[.agg #[.int .i64 (wn : Nat), .int .i64 (hn : Nat), .slice aL L.length cL, .slice aS (wn * hn) cS], .agg #[.int .i64 ((k0 + i : Nat) : Int), .slice A2 (wn * hn) c2, .int .i64 (el (af wn hn L S i (amt O aw)) (wn * hn))], .agg #[.int .i64 ((k0 + i : Nat) : Int), .slice A3 (wn * hn) c3, .int .i64 (el (af wn hn L S i (amt O' aw')) (wn * hn))]] X fun e X' => ∃ A' c', e = .returned (.tuple #[.agg #[.int .i64 ((k0 + i : Nat) : Int), .slice A' (wn * hn) c', .int .i64 (el (af wn hn L S i (ad (wn * hn + 1) (amt O aw) (amt O' aw'))) (wn * hn))], .int .i64 0]) ∧ Below X.heap.size X X' ∧ Row X' X'.heap.size A' (pre (wn * hn) (af wn hn L S i (ad (wn * hn + 1) (amt O aw) (amt O' aw')))) := fun X A2 A3 c2 c3 hX r2 r3 => by
    have h1 := Sum_any X.heap.size wn hn aL aS A2 A3 cL cS c2 c3 L (wn * hn) S ((k0 + i : Nat) : Int) ((k0 + i : Nat) : Int) (pre (wn * hn) (af wn hn L S i (amt O aw))) (pre (wn * hn) (af wn hn L S i (amt O' aw'))) (el (af wn hn L S i (amt O aw)) (wn * hn)) (el (af wn hn L S i (amt O' aw')) (wn * hn)) X ((h.below hX).more hX.size) r2 r3 (Nat.le_refl _)
    rw [hsa, pre_len, pre_len] at h1
    refine h1.mono ?_
    rintro e X' ⟨A', c', he, hb, hr, _⟩
    dsimp only at he hr
    rw [pre_len] at he
    exact ⟨A', c', he, hb, hr⟩
  have c33 : ∀ X A1 A4 c1 c4, Row X X.heap.size A1 (pre (wn * hn) (af wn hn L S i (ad (wn * hn + 1) (amt O aw) (amt O' aw')))) → Row X X.heap.size A4 (pre (wn * hn) (af wn hn L S i (ad (wn * hn + 1) (amt O aw) (amt O' aw')))) → Calls Tryd.prog 33 #[.agg #[.int .i64 ((k0 + i : Nat) : Int), .slice A1 (wn * hn) c1, .int .i64 (el (af wn hn L S i (ad (wn * hn + 1) (amt O aw) (amt O' aw'))) (wn * hn))], .agg #[.int .i64 ((k0 + i : Nat) : Int), .slice A4 (wn * hn) c4, .int .i64 (el (af wn hn L S i (ad (wn * hn + 1) (amt O aw) (amt O' aw'))) (wn * hn))]] X fun e X' => e = .returned (.bool true) ∧ Below X.heap.size X X' := fun X A1 A4 c1 c4 r1 r4 => by
    have h1 := Equal_ref X.heap.size A1 A4 c1 c4 ((k0 + i : Nat) : Int) ((k0 + i : Nat) : Int) _ _ (el (af wn hn L S i (ad (wn * hn + 1) (amt O aw) (amt O' aw'))) (wn * hn)) _ X r1 r4 (Nat.le_refl _) rfl rfl rfl
    rw [pre_len] at h1
    exact h1
  have c40 : ∀ X A1 A4 c1 c4, Row X X.heap.size A1 (pre (wn * hn) (af wn hn L S i (ad (wn * hn + 1) (amt O aw) (amt O' aw')))) → Row X X.heap.size A4 (pre (wn * hn) (af wn hn L S i (ad (wn * hn + 1) (amt O aw) (amt O' aw')))) → Calls Tryd.prog 40 #[.agg #[.int .i64 ((k0 + i : Nat) : Int), .slice A1 (wn * hn) c1, .int .i64 (el (af wn hn L S i (ad (wn * hn + 1) (amt O aw) (amt O' aw'))) (wn * hn))], .agg #[.int .i64 ((k0 + i : Nat) : Int), .slice A4 (wn * hn) c4, .int .i64 (el (af wn hn L S i (ad (wn * hn + 1) (amt O aw) (amt O' aw'))) (wn * hn))]] X fun e X' => e = .returned (.bool true) ∧ Below X.heap.size X X' := fun X A1 A4 c1 c4 r1 r4 => by
    have h1 := Same_ok X.heap.size (k0 + i) A1 A4 c1 c4 (pre (wn * hn) (af wn hn L S i (ad (wn * hn + 1) (amt O aw) (amt O' aw')))) (el (af wn hn L S i (ad (wn * hn + 1) (amt O aw) (amt O' aw'))) (wn * hn)) X hP r1 r4 (Nat.le_refl _) (by rw [pre_len]; omega)
    rw [pre_len] at h1
    exact h1
  clear hx hy hz hsa hP e4
  generalize ((k0 + i : Nat) : Int) = ki at *
  generalize pre (wn * hn) (af wn hn L S i (ad (wn * hn + 1) (amt O aw) (amt O' aw'))) = os at *
  generalize el (af wn hn L S i (ad (wn * hn + 1) (amt O aw) (amt O' aw'))) (wn * hn) = xs at *
  generalize pre (wn * hn) (af wn hn L S i (amt O aw)) = oy at *
  generalize el (af wn hn L S i (amt O aw)) (wn * hn) = xy at *
  generalize pre (wn * hn) (af wn hn L S i (amt O' aw')) = oz at *
  generalize el (af wn hn L S i (amt O' aw')) (wn * hn) = xz at *
  generalize hq1 : pre (wn * hn) (ad (wn * hn + 1) (amt O aw) (amt O' aw')) = o0 at *
  generalize hq2 : el (ad (wn * hn + 1) (amt O aw) (amt O' aw')) (wn * hn) = x0 at *
  have l0' : o0.length = (wn * hn) := by rw [← hq1, pre_len]
  clear hq1 hq2 hss hv hs hs' hBay h hO hO' hd hs1
  replace ha := Lib.hid ha
  replace hb := Lib.hid hb
  replace sane := Lib.hid sane
  replace c15 := Lib.hid c15
  replace c16 := Lib.hid c16
  replace c16' := Lib.hid c16'
  replace c38 := Lib.hid c38
  replace cx := Lib.hid cx
  replace cy := Lib.hid cy
  replace cz := Lib.hid cz
  replace c38b := Lib.hid c38b
  replace c33 := Lib.hid c33
  replace c40 := Lib.hid c40
  replace hLN := Lib.hid hLN
  replace hi2 := Lib.hid hi2
  replace l0' := Lib.hid l0'
  have t2 : Tri ((((w.alloc (.cells #[.int .i64 (wn : Nat), .int .i64 (hn : Nat), .slice aL L.length cL, .slice aS (wn * hn) cS] 25)).alloc (.cells #[.int .i64 (k0 : Nat), .slice aO O.length cO, .int .i64 aw, .int .i64 (k0 : Nat), .slice aO' O'.length cO', .int .i64 aw'] 62)).alloc (.cells #[.int .i64 0, .slice none 0 0, .int .i64 0] 28)).alloc (.cells #[.int .i64 0, .slice none 0 0, .int .i64 0] 28)).drew (w.heap.size + 1 + 1) (.int .i64 0) (.slice none 0 0) (.int .i64 0) := by
    have := tri_drew <| (Tri.new ((w.alloc (.cells #[.int .i64 (wn : Nat), .int .i64 (hn : Nat), .slice aL L.length cL, .slice aS (wn * hn) cS] 25)).alloc (.cells #[.int .i64 (k0 : Nat), .slice aO O.length cO, .int .i64 aw, .int .i64 (k0 : Nat), .slice aO' O'.length cO', .int .i64 aw'] 62)) (.int .i64 0) (.slice none 0 0) (.int .i64 0)).up (ba1 _ (.cells #[.int .i64 0, .slice none 0 0, .int .i64 0] 28))
    simpa using this
  have t3 : Tri ((((w.alloc (.cells #[.int .i64 (wn : Nat), .int .i64 (hn : Nat), .slice aL L.length cL, .slice aS (wn * hn) cS] 25)).alloc (.cells #[.int .i64 (k0 : Nat), .slice aO O.length cO, .int .i64 aw, .int .i64 (k0 : Nat), .slice aO' O'.length cO', .int .i64 aw'] 62)).alloc (.cells #[.int .i64 0, .slice none 0 0, .int .i64 0] 28)).alloc (.cells #[.int .i64 0, .slice none 0 0, .int .i64 0] 28)).drew (w.heap.size + 1 + 1 + 1) (.int .i64 0) (.slice none 0 0) (.int .i64 0) := by
    have := tri_drew <| (Tri.new (((w.alloc (.cells #[.int .i64 (wn : Nat), .int .i64 (hn : Nat), .slice aL L.length cL, .slice aS (wn * hn) cS] 25)).alloc (.cells #[.int .i64 (k0 : Nat), .slice aO O.length cO, .int .i64 aw, .int .i64 (k0 : Nat), .slice aO' O'.length cO', .int .i64 aw'] 62)).alloc (.cells #[.int .i64 0, .slice none 0 0, .int .i64 0] 28)) (.int .i64 0) (.slice none 0 0) (.int .i64 0))
    simpa using this
  have k3 : ((((w.alloc (.cells #[.int .i64 (wn : Nat), .int .i64 (hn : Nat), .slice aL L.length cL, .slice aS (wn * hn) cS] 25)).alloc (.cells #[.int .i64 (k0 : Nat), .slice aO O.length cO, .int .i64 aw, .int .i64 (k0 : Nat), .slice aO' O'.length cO', .int .i64 aw'] 62)).alloc (.cells #[.int .i64 0, .slice none 0 0, .int .i64 0] 28)).alloc (.cells #[.int .i64 0, .slice none 0 0, .int .i64 0] 28)).drew.cell? ⟨w.heap.size + 1, 3, none⟩ = some (.int .i64 (k0 : Nat)) := by simp [go_sem]
  have k4 : ((((w.alloc (.cells #[.int .i64 (wn : Nat), .int .i64 (hn : Nat), .slice aL L.length cL, .slice aS (wn * hn) cS] 25)).alloc (.cells #[.int .i64 (k0 : Nat), .slice aO O.length cO, .int .i64 aw, .int .i64 (k0 : Nat), .slice aO' O'.length cO', .int .i64 aw'] 62)).alloc (.cells #[.int .i64 0, .slice none 0 0, .int .i64 0] 28)).alloc (.cells #[.int .i64 0, .slice none 0 0, .int .i64 0] 28)).drew.cell? ⟨w.heap.size + 1, 4, none⟩ = some (.slice aO' O'.length cO') := by simp [go_sem]
  have k5 : ((((w.alloc (.cells #[.int .i64 (wn : Nat), .int .i64 (hn : Nat), .slice aL L.length cL, .slice aS (wn * hn) cS] 25)).alloc (.cells #[.int .i64 (k0 : Nat), .slice aO O.length cO, .int .i64 aw, .int .i64 (k0 : Nat), .slice aO' O'.length cO', .int .i64 aw'] 62)).alloc (.cells #[.int .i64 0, .slice none 0 0, .int .i64 0] 28)).alloc (.cells #[.int .i64 0, .slice none 0 0, .int .i64 0] 28)).drew.cell? ⟨w.heap.size + 1, 5, none⟩ = some (.int .i64 aw') := by simp [go_sem]
  have t3' := tri_other t3 (b := w.heap.size + 1 + 1) (by omega) (.int .i64 (k0 : Nat)) (.slice aO O.length cO) (.int .i64 aw)
  have t2' := tri_other t2 (b := w.heap.size + 1 + 1 + 1) (by omega) (.int .i64 (k0 : Nat)) (.slice aO O.length cO) (.int .i64 aw)
  have c20 := t2.c0
  have f20 := t2.fz 0
  have c21 := t2.c1
  have f21 := t2.fz 1
  have c22 := t2.c2
  have f22 := t2.fz 2
  have c30 := t3.c0
  have f30 := t3.fz 0
  have c31 := t3.c1
  have f31 := t3.fz 1
  have c32 := t3.c2
  have f32 := t3.fz 2
  have c20' := t2'.c0
  have f20' := t2'.fz 0
  have c21' := t2'.c1
  have f21' := t2'.fz 1
  have c22' := t2'.c2
  have f22' := t2'.fz 2
  have c30' := t3'.c0
  have f30' := t3'.fz 0
  have c31' := t3'.c1
  have f31' := t3'.fz 1
  have c32' := t3'.c2
  have f32' := t3'.fz 2
  have k3' := (set3_cell (b := w.heap.size + 1 + 1) (d := w.heap.size + 1) (by omega) (.int .i64 (k0 : Nat)) (.slice aO O.length cO) (.int .i64 aw) 3).trans k3
  have m3' := (set3_cell (b := w.heap.size + 1 + 1 + 1) (d := w.heap.size + 1) (by omega) (.int .i64 (k0 : Nat)) (.slice aO O.length cO) (.int .i64 aw) 3).trans k3
  have k4' := (set3_cell (b := w.heap.size + 1 + 1) (d := w.heap.size + 1) (by omega) (.int .i64 (k0 : Nat)) (.slice aO O.length cO) (.int .i64 aw) 4).trans k4
  have m4' := (set3_cell (b := w.heap.size + 1 + 1 + 1) (d := w.heap.size + 1) (by omega) (.int .i64 (k0 : Nat)) (.slice aO O.length cO) (.int .i64 aw) 4).trans k4
  have k5' := (set3_cell (b := w.heap.size + 1 + 1) (d := w.heap.size + 1) (by omega) (.int .i64 (k0 : Nat)) (.slice aO O.length cO) (.int .i64 aw) 5).trans k5
  have m5' := (set3_cell (b := w.heap.size + 1 + 1 + 1) (d := w.heap.size + 1) (by omega) (.int .i64 (k0 : Nat)) (.slice aO O.length cO) (.int .i64 aw) 5).trans k5
  clear t2 t3 t2' t3'
  go_enter Tryd.func10, Tryd.ntmps10
  go_upto_region 1 with fail
  go_cut [7, 8] from 19 to 22 (fun p q wx => ∃ b7 b8 : Nat, p = .pointer (some ⟨b7, 0, none⟩) ∧ q = .pointer (some ⟨b8, 0, none⟩) ∧ AddW w (.int .i64 (wn : Nat)) (.int .i64 (hn : Nat)) (.slice aL L.length cL) (.slice aS (wn * hn) cS) (.int .i64 (k0 : Nat)) (.slice aO O.length cO) (.int .i64 aw) (.int .i64 (k0 : Nat)) (.slice aO' O'.length cO') (.int .i64 aw') b7 b8 wx)
  case first =>
    go_region
    · go_wp2_with fail
      go_meet
      exact ⟨_, _, rfl, rfl, ha.out⟩
    · go_wp2_with fail
      go_meet
      exact ⟨_, _, rfl, rfl, hb.out⟩
  case rest =>
  obtain ⟨b7, b8, rfl, rfl, h0⟩ := hcut
  clear ha hb c20 f20 c21 f21 c22 f22 c30 f30 c31 f31 c32 f32 c20' f20' c21' f21' c22' f22' c30' f30' c31' f31' c32' f32' k3 k3' m3' k4 k4' m4' k5 k5' m5'
  have q0 := h0.bay.c0
  have q1 := h0.bay.c1
  have q2 := h0.bay.c2
  have q3 := h0.bay.c3
  go_wp2_with fail
  refine (c15.out _).mono ?_
  rintro e w1 ⟨rfl, hb1⟩
  have h1 := h0.call hb1
  clear hb1 h0 q0 q1 q2 q3
  cases l0 with
  | true =>
    go_wp2_with fail
    refine (sane.out _ h1.below).mono ?_
    rintro e w9 ⟨rfl, h9⟩
    go_wp2
    go_ret
    exact ⟨rfl, h9⟩
  | false =>
  have p0 := h1.fst.c0
  have p1 := h1.fst.c1
  have p2 := h1.fst.c2
  go_wp2_with fail
  refine (c16.out _).mono ?_
  rintro e w2 ⟨rfl, hb2⟩
  have h2 := h1.call hb2
  clear hb2 h1 p0 p1 p2
  cases l1 with
  | true =>
    go_wp2_with fail
    refine (sane.out _ h2.below).mono ?_
    rintro e w9 ⟨rfl, h9⟩
    go_wp2
    go_ret
    exact ⟨rfl, h9⟩
  | false =>
  have p0 := h2.snd.c0
  have p1 := h2.snd.c1
  have p2 := h2.snd.c2
  go_wp2_with fail
  refine (c16'.out _).mono ?_
  rintro e w3 ⟨rfl, hb3⟩
  have h3 := h2.call hb3
  clear hb3 h2 p0 p1 p2
  cases l2 with
  | true =>
    go_wp2_with fail
    refine (sane.out _ h3.below).mono ?_
    rintro e w9 ⟨rfl, h9⟩
    go_wp2
    go_ret
    exact ⟨rfl, h9⟩
  | false =>
  have q0 := h3.bay.c0
  have q1 := h3.bay.c1
  have q2 := h3.bay.c2
  have q3 := h3.bay.c3
  have p0 := h3.fst.c0
  have p1 := h3.fst.c1
  have p2 := h3.fst.c2
  have r0 := h3.snd.c0
  have r1 := h3.snd.c1
  have r2 := h3.snd.c2
  go_wp2_with fail
  refine (c38.out _ h3.below).mono ?_
  rintro e w4 ⟨A, c, rfl, hb4, r4, fr4⟩
  have h4 := h3.call hb4
  clear hb4 h3 q0 q1 q2 q3 p0 p1 p2 r0 r1 r2 fr4
  dsimp only at r4
  rw [l0'.out]
  have h5 := h4.alloc (.cells #[.int .i64 (k0 : Nat), .slice A (wn * hn) c, .int .i64 x0] 28)
  have t5 := Tri.new w4 (.int .i64 (k0 : Nat)) (.slice A (wn * hn) c) (.int .i64 x0)
  have r5 := r4.up (ba1 w4 (.cells #[.int .i64 (k0 : Nat), .slice A (wn * hn) c, .int .i64 x0] 28))
  have p0 := t5.c0
  have p1 := t5.c1
  have p2 := t5.c2
  have s0 := h5.fst.c0
  have q0 := h5.bay.c0
  have q1 := h5.bay.c1
  have q2 := h5.bay.c2
  have q3 := h5.bay.c3
  go_wp2_with fail
  rw [hi2.out]
  clear hi hi1 hi2
  refine (cx.out _ A c h5.below r5).mono ?_
  rintro e w6 ⟨A1, c1, rfl, hb6, r6⟩
  have h7 := (h5.call hb6).alloc (.cells #[.int .i64 ki, .slice A1 (wn * hn) c1, .int .i64 xs] 28)
  have t7 := Tri.new w6 (.int .i64 ki) (.slice A1 (wn * hn) c1) (.int .i64 xs)
  have r7 := r6.up (ba1 w6 (.cells #[.int .i64 ki, .slice A1 (wn * hn) c1, .int .i64 xs] 28))
  clear p0 p1 p2 s0 q0 q1 q2 q3 r6 r5 r4 t5 hb6 h5 h4
  have q0 := h7.bay.c0
  have q1 := h7.bay.c1
  have q2 := h7.bay.c2
  have q3 := h7.bay.c3
  have p0 := h7.fst.c0
  have p1 := h7.fst.c1
  have p2 := h7.fst.c2
  go_wp2_with fail
  refine (cy.out _ h7.below).mono ?_
  rintro e w8 ⟨A2, c2, rfl, hb8, r8⟩
  have h9 := (h7.call hb8).alloc (.cells #[.int .i64 ki, .slice A2 (wn * hn) c2, .int .i64 xy] 28)
  have t9 := (t7.up hb8).up (ba1 w8 (.cells #[.int .i64 ki, .slice A2 (wn * hn) c2, .int .i64 xy] 28))
  have r9 := (r7.up hb8).up (ba1 w8 (.cells #[.int .i64 ki, .slice A2 (wn * hn) c2, .int .i64 xy] 28))
  have t9' := Tri.new w8 (.int .i64 ki) (.slice A2 (wn * hn) c2) (.int .i64 xy)
  have r9' := r8.up (ba1 w8 (.cells #[.int .i64 ki, .slice A2 (wn * hn) c2, .int .i64 xy] 28))
  clear p0 p1 p2 q0 q1 q2 q3 r8 r7 t7 hb8 h7
  have q0 := h9.bay.c0
  have q1 := h9.bay.c1
  have q2 := h9.bay.c2
  have q3 := h9.bay.c3
  have p0 := h9.snd.c0
  have p1 := h9.snd.c1
  have p2 := h9.snd.c2
  go_wp2_with fail
  refine (cz.out _ h9.below).mono ?_
  rintro e w10 ⟨A3, c3, rfl, hb10, r10⟩
  have h11 := (h9.call hb10).alloc (.cells #[.int .i64 ki, .slice A3 (wn * hn) c3, .int .i64 xz] 28)
  have t11 := (t9.up hb10).up (ba1 w10 (.cells #[.int .i64 ki, .slice A3 (wn * hn) c3, .int .i64 xz] 28))
  have r11 := (r9.up hb10).up (ba1 w10 (.cells #[.int .i64 ki, .slice A3 (wn * hn) c3, .int .i64 xz] 28))
  have t11' := (t9'.up hb10).up (ba1 w10 (.cells #[.int .i64 ki, .slice A3 (wn * hn) c3, .int .i64 xz] 28))
  have r11' := (r9'.up hb10).up (ba1 w10 (.cells #[.int .i64 ki, .slice A3 (wn * hn) c3, .int .i64 xz] 28))
  have t11'' := Tri.new w10 (.int .i64 ki) (.slice A3 (wn * hn) c3) (.int .i64 xz)
  have r11'' := r10.up (ba1 w10 (.cells #[.int .i64 ki, .slice A3 (wn * hn) c3, .int .i64 xz] 28))
  clear p0 p1 p2 q0 q1 q2 q3 r10 r9 t9 r9' t9' hb10 h9
  have p0 := t11'.c0
  have p1 := t11'.c1
  have p2 := t11'.c2
  have s0 := t11''.c0
  have s1 := t11''.c1
  have s2 := t11''.c2
  have q0 := h11.bay.c0
  have q1 := h11.bay.c1
  have q2 := h11.bay.c2
  have q3 := h11.bay.c3
  go_wp2_with fail
  refine (c38b.out _ A2 A3 c2 c3 h11.below r11' r11'').mono ?_
  rintro e w12 ⟨A4, c4, rfl, hb12, r12⟩
  have h13 := (h11.call hb12).alloc (.cells #[.int .i64 ki, .slice A4 (wn * hn) c4, .int .i64 xs] 28)
  have t13 := (t11.up hb12).up (ba1 w12 (.cells #[.int .i64 ki, .slice A4 (wn * hn) c4, .int .i64 xs] 28))
  have r13 := (r11.up hb12).up (ba1 w12 (.cells #[.int .i64 ki, .slice A4 (wn * hn) c4, .int .i64 xs] 28))
  have t13' := Tri.new w12 (.int .i64 ki) (.slice A4 (wn * hn) c4) (.int .i64 xs)
  have r13' := r12.up (ba1 w12 (.cells #[.int .i64 ki, .slice A4 (wn * hn) c4, .int .i64 xs] 28))
  clear p0 p1 p2 s0 s1 s2 q0 q1 q2 q3 r12 r11 t11 r11' t11' r11'' t11'' hb12 h11
  have p0 := t13.c0
  have p1 := t13.c1
  have p2 := t13.c2
  have s0 := t13'.c0
  have s1 := t13'.c1
  have s2 := t13'.c2
  go_wp2_with fail
  refine (c33.out _ A1 A4 c1 c4 r13 r13').mono ?_
  rintro e w14 ⟨rfl, hb14⟩
  have h15 := h13.call hb14
  have t15 := t13.up hb14
  have r15 := r13.up hb14
  have t15' := t13'.up hb14
  have r15' := r13'.up hb14
  clear p0 p1 p2 s0 s1 s2 t13 r13 t13' r13' hb14 h13
  have p0 := t15.c0
  have p1 := t15.c1
  have p2 := t15.c2
  have s0 := t15'.c0
  have s1 := t15'.c1
  have s2 := t15'.c2
  go_wp2_with fail
  refine (c40.out _ A1 A4 c1 c4 r15 r15').mono ?_
  rintro e w16 ⟨rfl, hb16⟩
  have h17 := h15.call hb16
  clear p0 p1 p2 s0 s1 s2 t15 r15 t15' r15' hb16 h15
  go_wp2_with fail
  refine (sane.out _ h17.below).mono ?_
  rintro e w18 ⟨rfl, h18⟩
  go_wp2
  go_ret
  exact ⟨rfl, h18⟩

theorem walk (W H : Int) (aL aS aO aO' : Option Addr) (cL cS cO cO' : Nat) (L : List Bool) (n : Nat) (S : List Int) (K K' : Int) (O O' : List Int) (aw aw' : Int) (n0 : Nat) (w : World) (h : BayIn w w.heap.size aL L aS n S) (hO : Row w w.heap.size aO O) (hO' : Row w w.heap.size aO' O') (hd : Dirs w) (hn0 : n0 ≤ 255) :
    Calls Tryd.prog 10 #[.agg #[.int .i64 W, .int .i64 H, .slice aL L.length cL, .slice aS n cS], .agg #[.int .i64 K, .slice aO O.length cO, .int .i64 aw, .int .i64 K', .slice aO' O'.length cO', .int .i64 aw'], .int .u8 n0] w fun e w' => e = .returned (.bool true) ∧ Below w.heap.size w w' := by
  rcases sum_cases W H L n S K O aw K' O' aw' with ⟨E, hE, hsum⟩ | ⟨hv, hs, hs', rfl, hss, hsum⟩
  · exact err W H aL aS aO aO' cL cS cO cO' L n S K K' O O' aw aw' n0 w h hO hO' hd hn0 E (by rcases hE with rfl | rfl <;> rfl) hsum
  · obtain ⟨wn, hn, rfl, rfl, rfl, hL, hBay⟩ := bay_of (val_of hv) h.share.2.1
    obtain ⟨k0, rfl⟩ : ∃ k0 : Nat, K = k0 := ⟨K.toNat, by have := (slk_of hs).2.1; omega⟩
    refine ok wn hn aL aS aO aO' cL cS cO cO' L S k0 O O' aw aw' n0 w h hO hO' hd hn0 hv hs hs' hBay hL ?_ ?_
    · rw [hL] at hss
      rw [hL]
      exact hss
    · rw [hL] at hsum
      exact hsum

set_option maxRecDepth 100000 in
theorem byte_in {H : Type} {enc : TypeId × Value → H} {W : World} {v : Value} {d : DataW H} {p : List MemPlace} {b0 : Nat} (hv : Value.okWide Tryd.prog W .any b0 5 v) (h : DataW.Trod enc Tryd.prog W 0 (fun _ => true) true 5 v d p) : ∃ n : Nat, v = .int .u8 n ∧ n ≤ 255 := by
  obtain ⟨z, rfl⟩ := okWide_int und5 hv
  obtain ⟨fuel, hf⟩ := h
  obtain ⟨z', e, _, hw⟩ := DataW.trod_int und5 hf
  obtain rfl : z = z' := by simpa [Value.cells] using e
  obtain ⟨n, rfl, hn⟩ := byte_of hw
  exact ⟨n, rfl, hn⟩

/-! ### the row's step -/
set_option maxRecDepth 100000 in
/-- The door's own heap meets the condition. -/
theorem door_met (os : Os) (args : Array Value) : laidMetH Tryd.prog laidV ((World.doorLaid Tryd.prog 400 os).forCall (fun _ _ => 0) ⟨#[], args, []⟩).memory :=
  laidMetH_of_parts3 (fuel := 8) (laidMet_of_run' 8 (by kernel_rfl) (by kernel_rfl)) (by kernel_rfl) (by kernel_rfl)

set_option maxRecDepth 100000 in
theorem lifted (os : Os) (started : os.Started) (H : Type) (enc : TypeId × Value → H) :
    ReturnsInHanded {} Tryd.checked os 10 .any (fun w args => (Rows.slickAddsSpec.pre enc Tryd.prog Tryd.f10 [] false w args ∧ laidMetH Tryd.prog laidV w) ∧ sizedMet enc Tryd.prog Tryd.f10 (OpenSpec.ofChange Rows.slickAddsSpec) false w args)
      (Rows.slickAddsSpec.post enc Tryd.prog Tryd.f10 false true false false) := by
  refine returnsInHanded_of_change_and (C := Tryd.checked) (X := fun w _ => laidMetH Tryd.prog laidV w) (fun _ _ _ hh h => h.of_heap hh) own started (by kernel_rfl) Tryd.func10
    (ChangeSpec.witness_shaped (enc := enc) (C := Tryd.checked) (os := os) (X := fun w _ => laidMetH Tryd.prog laidV w) false (World.doorLaid Tryd.prog 400 os) #[.agg #[.int .i64 0, .int .i64 0, .slice none 0 0, .slice none 0 0], .agg #[.int .i64 0, .slice none 0 0, .int .i64 0, .int .i64 0, .slice none 0 0, .int .i64 0], .int .u8 0] 8 rfl (World.shaped_of_RefB (by kernel_rfl) (by kernel_rfl)) (by kernel_rfl) (by kernel_rfl) (by kernel_rfl) (door_met os _)) ?_
  intro W base args ds gs before hval0 hW _ _ hL _
  have hval : ∀ (j : Nat) t v, Tryd.f10.params[j]? = some t → args[j]? = some v → Value.okWide Tryd.prog W .any base t v := hval0
  have hW' := hW
  obtain ⟨p, q, hA0, hV, rfl, hfz, hnd⟩ := hW
  have hA : DataW.TrodAll enc Tryd.prog W 0 (fun _ => true) true Tryd.f10.params.toList args.toList ds p := hA0
  rw [Tryd.params10] at hA hval
  obtain ⟨v0, vs0, d0, ds0, p0, q0, hargs, rfl, rfl, h0, r0⟩ := trodAll_cons hA
  obtain ⟨v1, vs1, d1, ds1, p1, q1, rfl, rfl, rfl, h1, r1⟩ := trodAll_cons r0
  obtain ⟨v2, vs2, d2, ds2, p2, q2, rfl, rfl, rfl, h2, r2⟩ := trodAll_cons r1
  obtain ⟨rfl, rfl, rfl⟩ := trodAll_nil r2
  obtain rfl : args = #[v0, v1, v2] := by cases args; simp_all
  obtain ⟨rfl, rfl⟩ := trodVars_none hV
  have hdirs := dirs_of hL
  have k0 := h0
  have lt0 : ∀ x ∈ p0, x.block < W.heap.size := by obtain ⟨m, hm⟩ := k0; exact DataW.trod_lt m _ _ _ hm
  obtain ⟨Wd, Hd, aL, aS, cL, cS, n, L, S, rfl, hb0⟩ := bay_in (hval 0 25 v0 rfl rfl) h0
  have k1 := h1
  have lt1 : ∀ x ∈ p1, x.block < W.heap.size := by obtain ⟨m, hm⟩ := k1; exact DataW.trod_lt m _ _ _ hm
  obtain ⟨K, aw, aO, cO, O, K', aw', aO', cO', O', rfl, hb1, hb1'⟩ := slicks_in (hval 1 62 v1 rfl rfl) h1
  have k2 := h2
  have lt2 : ∀ x ∈ p2, x.block < W.heap.size := by obtain ⟨m, hm⟩ := k2; exact DataW.trod_lt m _ _ _ hm
  obtain ⟨n0, rfl, hn0⟩ := byte_in (hval 2 5 v2 rfl rfl) h2
  clear hA0 hval0
  refine (walk Wd Hd aL aS aO aO' cL cS cO cO' L n S K K' O O' aw aw' n0 W hb0 hb1 hb1' hdirs hn0).mono fun e W' ⟨he, bel⟩ => ?_
  subst he
  exact ⟨_, rfl, _, _, _, [], _, [], hW', trodAll_mk1 (shut_bool Tryd.underlying4 _), (trodAll_cons_mk (Below.trod laidOut (by kernel_rfl) (of_decide_eq_true (by kernel_rfl)) k0 bel lt0) (trodAll_cons_mk (Below.trod laidOut (by kernel_rfl) (of_decide_eq_true (by kernel_rfl)) k1 bel lt1) (trodAll_cons_mk (Below.trod laidOut (by kernel_rfl) (of_decide_eq_true (by kernel_rfl)) k2 bel lt2) trodAll_mk0))), rfl, bel.frame _, fun h => by cases h⟩

theorem over : Rows.SlickAddsSaid :=
  OpenClaim.holds_of_wide 10 Tryd.f10 rfl rfl rfl rfl rfl rfl rfl ⟨rfl, rfl, rfl, rfl, rfl⟩ rfl rfl rfl rfl rfl (by kernel_rfl) Tryd.func10 (by kernel_rfl)
    (of_decide_eq_true (by kernel_rfl)) (by unfold Func.isWrapper; first | (rw [if_pos (by decide +kernel)]; kernel_rfl) | (rw [if_neg (by decide +kernel)]; exact ⟨rfl, rfl⟩))
    (fun os started H enc _ => lifted os started H enc)

/-- The statement: the tied card. -/
theorem proved : Rows.SlickAddsCardSaid :=
  Claim7.holds_tied_plain_at .later [] [.data] true (true, "38a074445a3967dedbdfb9374eda118d846433fb573c587a55d7c5edfad1e3dd") false
    over (fun _ h => by cases h) (by kernel_rfl) (fun _ h => by cases h) slickAdds_row_tie rfl ⟨rfl, rfl⟩ (by kernel_rfl) rfl
    (fun f fn hf hfn => by
      obtain rfl : f = 10 := Option.some.inj ((show Tryd.prog.funcNamed "skimmer/skimmerlaw02.SlickAdds" = some 10 by kernel_rfl).symm.trans hf) |>.symm
      obtain rfl : fn = Tryd.f10 := (Option.some.inj (Tryd.func10.symm.trans hfn)).symm
      exact ⟨by kernel_rfl, fun j t ht => by
        rw [Tryd.params10] at ht
        have hm : t ∈ [25, 62, 5] := by simpa using Array.mem_of_getElem? ht
        have hall : ([25, 62, 5].all fun u => !Tryd.prog.wantsStandIn u) = true := by kernel_rfl
        exact (show Tryd.prog.wantsStandIn t = false by simpa using List.all_eq_true.1 hall t hm)⟩)
    (by kernel_rfl)
end Go.Proofs.YtnbgjgiknfcdkaaDoor.lawSlickAdds
