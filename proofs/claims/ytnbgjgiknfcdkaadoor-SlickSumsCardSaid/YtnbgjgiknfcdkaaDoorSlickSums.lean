/-
  For any bay and any two slicks, the law SlickSums returns true: Sum and Same answer as the specification.
  Conditions: the table of directions starts as the program's text lays it.
-/
import Derived.Test.YtnbgjgiknfcdkaaDoorX
import Derived.Test.YtnbgjgiknfcdkaaDoorZa
import Derived.Test.YtnbgjgiknfcdkaaDoorZg
import Derived.Test.YtnbgjgiknfcdkaaDoorCards
import Derived.Test.YtnbgjgiknfcdkaaDoorTie
import Derived.SevenTiedAt
namespace Go.Proofs.YtnbgjgiknfcdkaaDoor.lawSlickSums
open Go.ChangeShapes Go.WideShapes Go.ChangeAt Go.RowKit Go.Deep Go.Proofs.YtnbgjgiknfcdkaaDoor M
set_option linter.unusedVariables false
set_option linter.unusedSimpArgs false

/-- The law's world: the boxes of the bay and of both slicks. -/
structure Law3 (w : World) (W H l s K o aw K' o' aw' : Value) (X : World) : Prop where
  below : Below w.heap.size w X
  bay : Quad X w.heap.size W H l s
  fst : Tri X (w.heap.size + 1) K o aw
  snd : Tri X (w.heap.size + 1 + 1) K' o' aw'
theorem Law3.call {w : World} {W H l s K o aw K' o' aw' : Value} {X Y : World} (h : Law3 w W H l s K o aw K' o' aw' X) (hb : Below X.heap.size X Y) : Law3 w W H l s K o aw K' o' aw' Y :=
  ⟨h.below.trans (hb.mono h.below.size), h.bay.up hb, h.fst.up hb, h.snd.up hb⟩
theorem law3_start (w : World) (W H l s K o aw K' o' aw' : Value) : Law3 w W H l s K o aw K' o' aw' (((w.alloc (.cells #[W, H, l, s] 25)).alloc (.cells #[K, o, aw] 28)).alloc (.cells #[K', o', aw'] 28)) := by
  refine ⟨ba3 w _ _ _, ((Quad.new w W H l s).up (ba1 _ _)).up (ba1 _ _), ?_, ?_⟩
  · have := (Tri.new (w.alloc (.cells #[W, H, l, s] 25)) K o aw).up (ba1 _ (.cells #[K', o', aw'] 28))
    simpa using this
  · have := Tri.new ((w.alloc (.cells #[W, H, l, s] 25)).alloc (.cells #[K, o, aw] 28)) K' o' aw'
    simpa using this
theorem drew_below (w : World) : Below w.heap.size w w.drew := below_drewN (Below.refl _ _) 1

theorem SumRef_any (B : Nat) (W H : Int) (aL aS aO aO' : Option Addr) (cL cS cO cO' : Nat) (L : List Bool) (n : Nat) (S : List Int) (K K' : Int) (O O' : List Int) (aw aw' : Int) (w : World) (h : BayIn w B aL L aS n S) (hO : Row w B aO O) (hO' : Row w B aO' O') (hB : B ≤ w.heap.size) :
    Calls Tryd.prog 39 #[.agg #[.int .i64 W, .int .i64 H, .slice aL L.length cL, .slice aS n cS], .agg #[.int .i64 K, .slice aO O.length cO, .int .i64 aw], (.agg #[.int .i64 K', .slice aO' O'.length cO', .int .i64 aw'])] w (SlkRes w (sumR W H L n S K O aw K' O' aw')) := by
  cases hv : validB W H L n S with
  | false =>
    have hr : sumR W H L n S K O aw K' O' aw' = (0, [], 0, 20) := by unfold sumR; rw [hv]; rfl
    rw [hr]
    exact SumRef_bad B W H aL aS aO aO' cL cS cO cO' L n S K K' O O' aw aw' w h hO hO' hB hv
  | true =>
  by_cases hno : slkB L.length K O aw = false ∨ slkB L.length K' O' aw' = false ∨ K ≠ K'
  · have hr : sumR W H L n S K O aw K' O' aw' = (0, [], 0, 21) := by
      unfold sumR
      rw [if_pos hv]
      by_cases h1 : slkB L.length K O aw = true
      · rw [if_pos h1]
        by_cases h2 : slkB L.length K' O' aw' = true
        · rw [if_pos h2]
          by_cases h3 : K = K'
          · rcases hno with e | e | e
            · rw [h1] at e; cases e
            · rw [h2] at e; cases e
            · exact absurd h3 e
          · rw [if_neg h3]
        · rw [if_neg h2]
      · rw [if_neg h1]
    rw [hr]
    exact SumRef_no B W H aL aS aO aO' cL cS cO cO' L n S K K' O O' aw aw' w h hO hO' hB hv hno
  · have hs : slkB L.length K O aw = true := by
      cases e : slkB L.length K O aw with
      | true => rfl
      | false => exact absurd (.inl e) hno
    have hs' : slkB L.length K' O' aw' = true := by
      cases e : slkB L.length K' O' aw' with
      | true => rfl
      | false => exact absurd (.inr (.inl e)) hno
    obtain rfl : K = K' := Classical.byContradiction fun e => hno (.inr (.inr e))
    have lO : O.length = L.length := (slk_of hs).1
    have lO' : O'.length = L.length := (slk_of hs').1
    have e1 := pre_ad (m := L.length) (aw := aw) (aw' := aw') lO lO'
    have e2 := el_ad (m := L.length) (aw := aw) (aw' := aw') lO lO'
    refine SumRef_ok B W H aL aS aO aO' cL cS cO cO' L n S K O O' aw aw' w h hO hO' hB hv hs hs' _ ?_
    unfold sumR
    rw [if_pos hv, if_pos hs, if_pos hs', if_pos rfl, e1, e2, lO]

set_option maxRecDepth 100000 in
set_option maxHeartbeats 8000000 in
theorem walk (W H : Int) (aL aS aO aO' : Option Addr) (cL cS cO cO' : Nat) (L : List Bool) (n : Nat) (S : List Int) (K K' : Int) (O O' : List Int) (aw aw' : Int) (w : World) (h : BayIn w w.heap.size aL L aS n S) (hO : Row w w.heap.size aO O) (hO' : Row w w.heap.size aO' O') (hd : Dirs w) :
    Calls Tryd.prog 6 #[.agg #[.int .i64 W, .int .i64 H, .slice aL L.length cL, .slice aS n cS], .agg #[.int .i64 K, .slice aO O.length cO, .int .i64 aw], (.agg #[.int .i64 K', .slice aO' O'.length cO', .int .i64 aw'])] w fun e w' => e = .returned (.bool true) ∧ Below w.heap.size w w' := by
  have hst := law3_start w (.int .i64 W) (.int .i64 H) (.slice aL L.length cL) (.slice aS n cS) (.int .i64 K) (.slice aO O.length cO) (.int .i64 aw) (.int .i64 K') (.slice aO' O'.length cO') (.int .i64 aw')
  have hs1 : 1 ≤ w.heap.size := hd.1
  have sane : ∀ X, Law3 w (.int .i64 W) (.int .i64 H) (.slice aL L.length cL) (.slice aS n cS) (.int .i64 K) (.slice aO O.length cO) (.int .i64 aw) (.int .i64 K') (.slice aO' O'.length cO') (.int .i64 aw') X → Calls Tryd.prog 17 #[] X fun e w' => e = .returned (.bool true) ∧ Below w.heap.size w w' := fun X hX =>
    (Sane_any X (hd.below hX.below hs1)).mono fun e w' ⟨he, hb⟩ => ⟨he, hX.below.trans (hb.mono hX.below.size)⟩
  have sanQ : ∀ X, Law3 w (.int .i64 W) (.int .i64 H) (.slice aL L.length cL) (.slice aS n cS) (.int .i64 K) (.slice aO O.length cO) (.int .i64 aw) (.int .i64 K') (.slice aO' O'.length cO') (.int .i64 aw') X → Calls Tryd.prog 17 #[] X fun e w' => e = .returned (.bool true) ∧ Below X.heap.size X w' := fun X hX => Sane_any X (hd.below hX.below hs1)
  have c15 : ∀ X, Calls Tryd.prog 15 #[.agg #[.int .i64 W, .int .i64 H, .slice aL L.length cL, .slice aS n cS]] X fun e w' => e = .returned (.bool (decide (100 < L.length) || decide (100 < n))) ∧ Below X.heap.size X w' := fun X => Long_any W H aL aS cL n cS L.length X h.land.1 h.share.1
  have c16 : ∀ X, Calls Tryd.prog 16 #[.agg #[.int .i64 K, .slice aO O.length cO, .int .i64 aw]] X fun e w' => e = .returned (.bool (decide (100 < O.length))) ∧ Below X.heap.size X w' := fun X => long_any K aw aO cO O.length X hO.1
  have c16' : ∀ X, Calls Tryd.prog 16 #[(.agg #[.int .i64 K', .slice aO' O'.length cO', .int .i64 aw'])] X fun e w' => e = .returned (.bool (decide (100 < O'.length))) ∧ Below X.heap.size X w' := fun X => long_any K' aw' aO' cO' O'.length X hO'.1
  have c38 : ∀ X, Law3 w (.int .i64 W) (.int .i64 H) (.slice aL L.length cL) (.slice aS n cS) (.int .i64 K) (.slice aO O.length cO) (.int .i64 aw) (.int .i64 K') (.slice aO' O'.length cO') (.int .i64 aw') X → Calls Tryd.prog 38 #[.agg #[.int .i64 W, .int .i64 H, .slice aL L.length cL, .slice aS n cS], .agg #[.int .i64 K, .slice aO O.length cO, .int .i64 aw], (.agg #[.int .i64 K', .slice aO' O'.length cO', .int .i64 aw'])] X (SlkRes X (sumR W H L n S K O aw K' O' aw')) := fun X hX =>
    Sum_any w.heap.size W H aL aS aO aO' cL cS cO cO' L n S K K' O O' aw aw' X (h.below hX.below) (hO.below hX.below) (hO'.below hX.below) hX.below.size
  have c39 : ∀ X, Law3 w (.int .i64 W) (.int .i64 H) (.slice aL L.length cL) (.slice aS n cS) (.int .i64 K) (.slice aO O.length cO) (.int .i64 aw) (.int .i64 K') (.slice aO' O'.length cO') (.int .i64 aw') X → Calls Tryd.prog 39 #[.agg #[.int .i64 W, .int .i64 H, .slice aL L.length cL, .slice aS n cS], .agg #[.int .i64 K, .slice aO O.length cO, .int .i64 aw], (.agg #[.int .i64 K', .slice aO' O'.length cO', .int .i64 aw'])] X (SlkRes X (sumR W H L n S K O aw K' O' aw')) := fun X hX =>
    SumRef_any w.heap.size W H aL aS aO aO' cL cS cO cO' L n S K K' O O' aw aw' X (h.below hX.below) (hO.below hX.below) (hO'.below hX.below) hX.below.size
  have c40 : O.length ≤ 900 → O'.length ≤ 900 → ∀ X, Law3 w (.int .i64 W) (.int .i64 H) (.slice aL L.length cL) (.slice aS n cS) (.int .i64 K) (.slice aO O.length cO) (.int .i64 aw) (.int .i64 K') (.slice aO' O'.length cO') (.int .i64 aw') X → Calls Tryd.prog 40 #[.agg #[.int .i64 K, .slice aO O.length cO, .int .i64 aw], (.agg #[.int .i64 K', .slice aO' O'.length cO', .int .i64 aw'])] X fun e w' => e = .returned (.bool (samB K O aw K' O' aw')) ∧ Below X.heap.size X w' := fun m1 m2 X hX =>
    Same_any w.heap.size K K' aO aO' cO cO' O O' aw aw' X (hO.below hX.below) (hO'.below hX.below) hX.below.size m1 m2
  have c41 : O.length ≤ 900 → O'.length ≤ 900 → ∀ X, Law3 w (.int .i64 W) (.int .i64 H) (.slice aL L.length cL) (.slice aS n cS) (.int .i64 K) (.slice aO O.length cO) (.int .i64 aw) (.int .i64 K') (.slice aO' O'.length cO') (.int .i64 aw') X → Calls Tryd.prog 41 #[.agg #[.int .i64 K, .slice aO O.length cO, .int .i64 aw], (.agg #[.int .i64 K', .slice aO' O'.length cO', .int .i64 aw'])] X fun e w' => e = .returned (.bool (samB K O aw K' O' aw')) ∧ Below X.heap.size X w' := fun m1 m2 X hX =>
    Same_ref w.heap.size K K' aO aO' cO cO' O O' aw aw' X (hO.below hX.below) (hO'.below hX.below) hX.below.size m1 m2
  have dr := drew_below
  generalize samB K O aw K' O' aw' = sb at c40 c41
  generalize sumR W H L n S K O aw K' O' aw' = R at c38 c39
  obtain ⟨k1, o1, a1, e1⟩ := R
  unfold SlkRes at c38 c39
  dsimp only at c38 c39
  have hl1 : decide (100 < O.length) = false → O.length ≤ 900 := fun e => by have := of_decide_eq_false e; omega
  have hl2 : decide (100 < O'.length) = false → O'.length ≤ 900 := fun e => by have := of_decide_eq_false e; omega
  generalize hg0 : (decide (100 < L.length) || decide (100 < n)) = l0 at c15
  generalize hg1 : decide (100 < O.length) = l1 at c16 hl1
  generalize hg2 : decide (100 < O'.length) = l2 at c16' hl2
  clear hg0 hg1 hg2
  clear h hO hO' hd hs1
  replace c38 := Lib.hid c38
  replace c39 := Lib.hid c39
  replace c40 := Lib.hid c40
  replace c41 := Lib.hid c41
  replace c15 := Lib.hid c15
  replace c16 := Lib.hid c16
  replace c16' := Lib.hid c16'
  replace sane := Lib.hid sane
  replace sanQ := Lib.hid sanQ
  replace hst := Lib.hid hst
  replace hl1 := Lib.hid hl1
  replace hl2 := Lib.hid hl2
  replace dr := Lib.hid dr
  have h0 := hst.out
  have q0 := h0.bay.c0
  have q1 := h0.bay.c1
  have q2 := h0.bay.c2
  have q3 := h0.bay.c3
  go_enter Tryd.func6, Tryd.ntmps6
  go_wp2_with fail
  refine (c15.out _).mono ?_
  rintro e w1 ⟨rfl, hb1⟩
  have h1 := h0.call hb1
  clear hb1 h0 q0 q1 q2 q3
  cases l0 with
  | true =>
    go_wp2_with fail
    refine (sane.out _ h1).mono ?_
    rintro e w9 ⟨rfl, h9⟩
    go_wp2
    go_ret
    exact ⟨rfl, h9⟩
  | false =>
  have p0 := h1.fst.c0
  have p1 := h1.fst.c1
  have p2 := h1.fst.c2
  go_wp2_with fail
  refine (c16.out _).mono ?_
  rintro e w2 ⟨rfl, hb2⟩
  have h2 := h1.call hb2
  clear hb2 h1 p0 p1 p2
  cases l1 with
  | true =>
    go_wp2_with fail
    refine (sane.out _ h2).mono ?_
    rintro e w9 ⟨rfl, h9⟩
    go_wp2
    go_ret
    exact ⟨rfl, h9⟩
  | false =>
  have p0 := h2.snd.c0
  have p1 := h2.snd.c1
  have p2 := h2.snd.c2
  go_wp2_with fail
  refine (c16'.out _).mono ?_
  rintro e w3 ⟨rfl, hb3⟩
  have h3 := h2.call hb3
  clear hb3 h2 p0 p1 p2
  cases l2 with
  | true =>
    go_wp2_with fail
    refine (sane.out _ h3).mono ?_
    rintro e w9 ⟨rfl, h9⟩
    go_wp2
    go_ret
    exact ⟨rfl, h9⟩
  | false =>
  have m1 : O.length ≤ 900 := by first | exact hl1.out trivial | exact hl1.out rfl
  have m2 : O'.length ≤ 900 := by first | exact hl2.out trivial | exact hl2.out rfl
  have d40 := c40.out m1 m2
  have d41 := c41.out m1 m2
  clear hl1 hl2 c40 c41 m1 m2
  replace d40 := Lib.hid d40
  replace d41 := Lib.hid d41
  have q0 := h3.bay.c0
  have q1 := h3.bay.c1
  have q2 := h3.bay.c2
  have q3 := h3.bay.c3
  have p0 := h3.fst.c0
  have p1 := h3.fst.c1
  have p2 := h3.fst.c2
  have r0 := h3.snd.c0
  have r1 := h3.snd.c1
  have r2 := h3.snd.c2
  go_wp2_with fail
  refine (c38.out _ h3).mono ?_
  rintro e w4 ⟨Ax, cx, rfl, hb4, rx4, fx4⟩
  have h5 := (h3.call hb4).call (ba1 w4 (.cells #[.int .i64 k1, .slice Ax o1.length cx, .int .i64 a1] 28))
  have t5 := Tri.new w4 (.int .i64 k1) (.slice Ax o1.length cx) (.int .i64 a1)
  have s5 := rx4.up (ba1 w4 (.cells #[.int .i64 k1, .slice Ax o1.length cx, .int .i64 a1] 28))
  clear hb4 h3 q0 q1 q2 q3 p0 p1 p2 r0 r1 r2 fx4 rx4
  have q0 := h5.bay.c0
  have q1 := h5.bay.c1
  have q2 := h5.bay.c2
  have q3 := h5.bay.c3
  have p0 := h5.fst.c0
  have p1 := h5.fst.c1
  have p2 := h5.fst.c2
  have r0 := h5.snd.c0
  have r1 := h5.snd.c1
  have r2 := h5.snd.c2
  go_wp2_with fail
  refine (c39.out _ h5).mono ?_
  rintro e w6 ⟨Ay, cy, rfl, hb6, ry6, fy6⟩
  have h7 := (h5.call hb6).call (ba1 w6 (.cells #[.int .i64 k1, .slice Ay o1.length cy, .int .i64 a1] 28))
  have t7 := (t5.up hb6).up (ba1 w6 (.cells #[.int .i64 k1, .slice Ay o1.length cy, .int .i64 a1] 28))
  have s7 := (s5.up hb6).up (ba1 w6 (.cells #[.int .i64 k1, .slice Ay o1.length cy, .int .i64 a1] 28))
  have u7 := Tri.new w6 (.int .i64 k1) (.slice Ay o1.length cy) (.int .i64 a1)
  have v7 := ry6.up (ba1 w6 (.cells #[.int .i64 k1, .slice Ay o1.length cy, .int .i64 a1] 28))
  clear hb6 h5 q0 q1 q2 q3 p0 p1 p2 r0 r1 r2 fy6 ry6 t5 s5 c38 c39 c15 c16 c16'
  obtain ⟨P, hP⟩ : ∃ P : World → Prop, ∀ X, P X ↔ (Law3 w (.int .i64 W) (.int .i64 H) (.slice aL L.length cL) (.slice aS n cS) (.int .i64 K) (.slice aO O.length cO) (.int .i64 aw) (.int .i64 K') (.slice aO' O'.length cO') (.int .i64 aw') X ∧ (Tri X w4.heap.size (.int .i64 k1) (.slice Ax o1.length cx) (.int .i64 a1) ∧ Row X X.heap.size Ax o1) ∧ Tri X w6.heap.size (.int .i64 k1) (.slice Ay o1.length cy) (.int .i64 a1) ∧ Row X X.heap.size Ay o1) := ⟨_, fun _ => Iff.rfl⟩
  have pup : ∀ X Y, P X → Below X.heap.size X Y → P Y := fun X Y hX hb => by
    obtain ⟨x1, ⟨x2, x3⟩, x4, x5⟩ := (hP X).1 hX
    exact (hP Y).2 ⟨x1.call hb, ⟨x2.up hb, x3.up hb⟩, x4.up hb, x5.up hb⟩
  have hS : ∀ X, P X → (((X.cell? ⟨w.heap.size + 1, 0, none⟩ = some (.int .i64 K) ∧ X.cell? ⟨w.heap.size + 1, 1, none⟩ = some (.slice aO O.length cO) ∧ X.cell? ⟨w.heap.size + 1, 2, none⟩ = some (.int .i64 aw)) ∧ X.cell? ⟨w.heap.size + 1 + 1, 0, none⟩ = some (.int .i64 K') ∧ X.cell? ⟨w.heap.size + 1 + 1, 1, none⟩ = some (.slice aO' O'.length cO') ∧ X.cell? ⟨w.heap.size + 1 + 1, 2, none⟩ = some (.int .i64 aw')) ∧ (X.cell? ⟨w4.heap.size, 0, none⟩ = some (.int .i64 k1) ∧ X.cell? ⟨w4.heap.size, 1, none⟩ = some (.slice Ax o1.length cx) ∧ X.cell? ⟨w4.heap.size, 2, none⟩ = some (.int .i64 a1)) ∧ X.cell? ⟨w6.heap.size, 0, none⟩ = some (.int .i64 k1) ∧ X.cell? ⟨w6.heap.size, 1, none⟩ = some (.slice Ay o1.length cy) ∧ X.cell? ⟨w6.heap.size, 2, none⟩ = some (.int .i64 a1)) := fun X hX => by
    obtain ⟨x1, ⟨x2, x3⟩, x4, x5⟩ := (hP X).1 hX
    exact ⟨⟨⟨x1.fst.c0, x1.fst.c1, x1.fst.c2⟩, x1.snd.c0, x1.snd.c1, x1.snd.c2⟩, ⟨x2.c0, x2.c1, x2.c2⟩, x4.c0, x4.c1, x4.c2⟩
  have c33 : ∀ X, P X → Calls Tryd.prog 33 #[.agg #[.int .i64 k1, .slice Ax o1.length cx, .int .i64 a1], .agg #[.int .i64 k1, .slice Ay o1.length cy, .int .i64 a1]] X fun e w' => e = .returned (.bool true) ∧ Below X.heap.size X w' := fun X hX => by
    obtain ⟨x1, ⟨x2, x3⟩, x4, x5⟩ := (hP X).1 hX
    exact Equal_ref X.heap.size Ax Ay cx cy k1 k1 o1 o1 a1 a1 X x3 x5 (Nat.le_refl _) rfl rfl rfl
  have d40P : ∀ X, P X → _ := fun X hX => d40.out X ((hP X).1 hX).1
  have d41P : ∀ X, P X → _ := fun X hX => d41.out X ((hP X).1 hX).1
  have sanP : ∀ X, P X → _ := fun X hX => sanQ.out X ((hP X).1 hX).1
  have endP : ∀ X, P X → Below w.heap.size w X := fun X hX => ((hP X).1 hX).1.below
  have h8 : P (World.drew _) := pup _ _ ((hP _).2 ⟨h7, ⟨t7, s7⟩, u7, v7⟩) (dr.out _)
  have k8 := hS _ h8
  clear h7 t7 s7 u7 v7 d40 d41 sane dr hst
  replace hS := Lib.hid hS
  replace pup := Lib.hid pup
  replace c33 := Lib.hid c33
  replace d40P := Lib.hid d40P
  replace d41P := Lib.hid d41P
  replace sanP := Lib.hid sanP
  replace endP := Lib.hid endP
  replace hP := Lib.hid hP
  go_wp2_with fail
  go_region_held3 (fun X => (((X.cell? ⟨w.heap.size + 1, 0, none⟩ = some (.int .i64 K) ∧ X.cell? ⟨w.heap.size + 1, 1, none⟩ = some (.slice aO O.length cO) ∧ X.cell? ⟨w.heap.size + 1, 2, none⟩ = some (.int .i64 aw)) ∧ X.cell? ⟨w.heap.size + 1 + 1, 0, none⟩ = some (.int .i64 K') ∧ X.cell? ⟨w.heap.size + 1 + 1, 1, none⟩ = some (.slice aO' O'.length cO') ∧ X.cell? ⟨w.heap.size + 1 + 1, 2, none⟩ = some (.int .i64 aw')) ∧ (X.cell? ⟨w4.heap.size, 0, none⟩ = some (.int .i64 k1) ∧ X.cell? ⟨w4.heap.size, 1, none⟩ = some (.slice Ax o1.length cx) ∧ X.cell? ⟨w4.heap.size, 2, none⟩ = some (.int .i64 a1)) ∧ X.cell? ⟨w6.heap.size, 0, none⟩ = some (.int .i64 k1) ∧ X.cell? ⟨w6.heap.size, 1, none⟩ = some (.slice Ay o1.length cy) ∧ X.cell? ⟨w6.heap.size, 2, none⟩ = some (.int .i64 a1)))
    (first | with_reducible exact k8 | with_reducible exact k9 | with_reducible exact k10 | with_reducible exact k11 | with_reducible exact k12)
    (first
      | (go_at_call 33; refine (c33.out _ h8).mono ?_; rintro e X1 ⟨rfl, hb1⟩; have h9 := pup.out _ _ h8 hb1; have k9 := hS.out _ h9)
      | (go_at_call 40; refine (d40P.out _ h9).mono ?_; rintro e X2 ⟨rfl, hb2⟩; have h10 := pup.out _ _ h9 hb2; have k10 := hS.out _ h10)
      | (go_at_call 41; refine (d41P.out _ h10).mono ?_; rintro e X3 ⟨rfl, hb3⟩; have h11 := pup.out _ _ h10 hb3; have k11 := hS.out _ h11)
      | (go_at_call 17; refine (sanP.out _ h11).mono ?_; rintro e X4 ⟨rfl, hb4⟩; have h12 := pup.out _ _ h11 hb4; have k12 := hS.out _ h12))
  have h13 := endP.out _ h12
  go_wp2
  go_ret
  exact ⟨rfl, h13⟩

/-! ### the row's step -/
set_option maxRecDepth 100000 in
/-- The door's own heap meets the condition. -/
theorem door_met (os : Os) (args : Array Value) : laidMetH Tryd.prog laidV ((World.doorLaid Tryd.prog 400 os).forCall (fun _ _ => 0) ⟨#[], args, []⟩).memory :=
  laidMetH_of_parts3 (fuel := 8) (laidMet_of_run' 8 (by kernel_rfl) (by kernel_rfl)) (by kernel_rfl) (by kernel_rfl)

set_option maxRecDepth 100000 in
theorem lifted (os : Os) (started : os.Started) (H : Type) (enc : TypeId × Value → H) :
    ReturnsInHanded {} Tryd.checked os 6 .any (fun w args => (Rows.slickSumsSpec.pre enc Tryd.prog Tryd.f6 [] false w args ∧ laidMetH Tryd.prog laidV w) ∧ sizedMet enc Tryd.prog Tryd.f6 (OpenSpec.ofChange Rows.slickSumsSpec) false w args)
      (Rows.slickSumsSpec.post enc Tryd.prog Tryd.f6 false true false false) := by
  refine returnsInHanded_of_change_and (C := Tryd.checked) (X := fun w _ => laidMetH Tryd.prog laidV w) (fun _ _ _ hh h => h.of_heap hh) own started (by kernel_rfl) Tryd.func6
    (ChangeSpec.witness_shaped (enc := enc) (C := Tryd.checked) (os := os) (X := fun w _ => laidMetH Tryd.prog laidV w) false (World.doorLaid Tryd.prog 400 os) #[.agg #[.int .i64 0, .int .i64 0, .slice none 0 0, .slice none 0 0], .agg #[.int .i64 0, .slice none 0 0, .int .i64 0], .agg #[.int .i64 0, .slice none 0 0, .int .i64 0]] 8 rfl (World.shaped_of_RefB (by kernel_rfl) (by kernel_rfl)) (by kernel_rfl) (by kernel_rfl) (by kernel_rfl) (door_met os _)) ?_
  intro W base args ds gs before hval0 hW _ _ hL _
  have hval : ∀ (j : Nat) t v, Tryd.f6.params[j]? = some t → args[j]? = some v → Value.okWide Tryd.prog W .any base t v := hval0
  have hW' := hW
  obtain ⟨p, q, hA0, hV, rfl, hfz, hnd⟩ := hW
  have hA : DataW.TrodAll enc Tryd.prog W 0 (fun _ => true) true Tryd.f6.params.toList args.toList ds p := hA0
  rw [Tryd.params6] at hA hval
  obtain ⟨v0, vs0, d0, ds0, p0, q0, hargs, rfl, rfl, h0, r0⟩ := trodAll_cons hA
  obtain ⟨v1, vs1, d1, ds1, p1, q1, rfl, rfl, rfl, h1, r1⟩ := trodAll_cons r0
  obtain ⟨v2, vs2, d2, ds2, p2, q2, rfl, rfl, rfl, h2, r2⟩ := trodAll_cons r1
  obtain ⟨rfl, rfl, rfl⟩ := trodAll_nil r2
  obtain rfl : args = #[v0, v1, v2] := by cases args; simp_all
  obtain ⟨rfl, rfl⟩ := trodVars_none hV
  have hdirs := dirs_of hL
  have k0 := h0
  have lt0 : ∀ x ∈ p0, x.block < W.heap.size := by obtain ⟨m, hm⟩ := k0; exact DataW.trod_lt m _ _ _ hm
  obtain ⟨Wd, Hd, aL, aS, cL, cS, n, L, S, rfl, hb0⟩ := bay_in (hval 0 25 v0 rfl rfl) h0
  have k1 := h1
  have lt1 : ∀ x ∈ p1, x.block < W.heap.size := by obtain ⟨m, hm⟩ := k1; exact DataW.trod_lt m _ _ _ hm
  obtain ⟨K, aw, aO, cO, O, rfl, hb1⟩ := slick_in (hval 1 28 v1 rfl rfl) h1
  have k2 := h2
  have lt2 : ∀ x ∈ p2, x.block < W.heap.size := by obtain ⟨m, hm⟩ := k2; exact DataW.trod_lt m _ _ _ hm
  obtain ⟨K', aw', aO', cO', O', rfl, hb2⟩ := slick_in (hval 2 28 v2 rfl rfl) h2
  clear hA0 hval0
  refine (walk Wd Hd aL aS aO aO' cL cS cO cO' L n S K K' O O' aw aw' W hb0 hb1 hb2 hdirs).mono fun e W' ⟨he, bel⟩ => ?_
  subst he
  exact ⟨_, rfl, _, _, _, [], _, [], hW', trodAll_mk1 (shut_bool Tryd.underlying4 _), (trodAll_cons_mk (Below.trod laidOut (by kernel_rfl) (of_decide_eq_true (by kernel_rfl)) k0 bel lt0) (trodAll_cons_mk (Below.trod laidOut (by kernel_rfl) (of_decide_eq_true (by kernel_rfl)) k1 bel lt1) (trodAll_cons_mk (Below.trod laidOut (by kernel_rfl) (of_decide_eq_true (by kernel_rfl)) k2 bel lt2) trodAll_mk0))), rfl, bel.frame _, fun h => by cases h⟩

theorem over : Rows.SlickSumsSaid :=
  OpenClaim.holds_of_wide 6 Tryd.f6 rfl rfl rfl rfl rfl rfl rfl ⟨rfl, rfl, rfl, rfl, rfl⟩ rfl rfl rfl rfl rfl (by kernel_rfl) Tryd.func6 (by kernel_rfl)
    (of_decide_eq_true (by kernel_rfl)) (by unfold Func.isWrapper; first | (rw [if_pos (by decide +kernel)]; kernel_rfl) | (rw [if_neg (by decide +kernel)]; exact ⟨rfl, rfl⟩))
    (fun os started H enc _ => lifted os started H enc)

/-- The statement: the tied card. -/
theorem proved : Rows.SlickSumsCardSaid :=
  Claim7.holds_tied_plain_at .later [] [.data] true (true, "38a074445a3967dedbdfb9374eda118d846433fb573c587a55d7c5edfad1e3dd") false
    over (fun _ h => by cases h) (by kernel_rfl) (fun _ h => by cases h) slickSums_row_tie rfl ⟨rfl, rfl⟩ (by kernel_rfl) rfl
    (fun f fn hf hfn => by
      obtain rfl : f = 6 := Option.some.inj ((show Tryd.prog.funcNamed "skimmer/skimmerlaw02.SlickSums" = some 6 by kernel_rfl).symm.trans hf) |>.symm
      obtain rfl : fn = Tryd.f6 := (Option.some.inj (Tryd.func6.symm.trans hfn)).symm
      exact ⟨by kernel_rfl, fun j t ht => by
        rw [Tryd.params6] at ht
        have hm : t ∈ [25, 28, 28] := by simpa using Array.mem_of_getElem? ht
        have hall : ([25, 28, 28].all fun u => !Tryd.prog.wantsStandIn u) = true := by kernel_rfl
        exact (show Tryd.prog.wantsStandIn t = false by simpa using List.all_eq_true.1 hall t hm)⟩)
    (by kernel_rfl)
end Go.Proofs.YtnbgjgiknfcdkaaDoor.lawSlickSums
