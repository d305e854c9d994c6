/-
  For any bay and any slick, the law SlickBays returns true: the program says as the specification which bays and slicks are valid, and what a slick has in all, on water and on land.
  Conditions: the table of directions starts as the program's text lays it.
-/
import Derived.Test.YtnbgjgiknfcdkaaDoorQ
import Derived.Test.YtnbgjgiknfcdkaaDoorP
import Derived.Test.YtnbgjgiknfcdkaaDoorCards
import Derived.Test.YtnbgjgiknfcdkaaDoorTie
import Derived.SevenTiedAt
namespace Go.Proofs.YtnbgjgiknfcdkaaDoor.lawSlickBays
open Go.ChangeShapes Go.WideShapes Go.ChangeAt Go.RowKit Go.Deep Go.Proofs.YtnbgjgiknfcdkaaDoor M
set_option linter.unusedVariables false
set_option linter.unusedSimpArgs false

/-- The law's world: both boxes. -/
def LawS (w : World) (W H l s K o aw : Value) (X : World) : Prop := Bx2 w.heap.size W H l s K o aw X ∧ Below w.heap.size w X ∧ w.heap.size + 2 ≤ X.heap.size
theorem LawS.call {w : World} {W H l s K o aw : Value} {X Y : World} (h : LawS w W H l s K o aw X) (hb : Below X.heap.size X Y) : LawS w W H l s K o aw Y := ⟨bx2_to h.1 hb h.2.2, h.2.1.trans (hb.mono h.2.1.size), Nat.le_trans h.2.2 hb.size⟩
theorem lawS_start (w : World) (W H l s K o aw : Value) : LawS w W H l s K o aw ((w.alloc (.cells #[W, H, l, s] 25)).alloc (.cells #[K, o, aw] 28)) := ⟨bx2 w _ _ _ _ _ _ _, ba2 w _ _, by simp⟩
theorem LawS.drew {w : World} {W H l s K o aw : Value} {X : World} (h : LawS w W H l s K o aw X) : LawS w W H l s K o aw X.drew := ⟨h.1, below_drewN h.2.1 1, h.2.2⟩
theorem LawS.drewN {w : World} {W H l s K o aw : Value} {X : World} (h : LawS w W H l s K o aw X) (n : Nat) : LawS w W H l s K o aw (X.drewN n) := ⟨h.1, below_drewN h.2.1 n, h.2.2⟩

set_option maxRecDepth 100000 in
set_option maxHeartbeats 8000000 in
theorem walk (W H : Int) (aL aS aO : Option Addr) (cL cS cO : Nat) (L : List Bool) (n : Nat) (S : List Int) (K : Int) (O : List Int) (aw : Int) (w : World) (h : BayIn w w.heap.size aL L aS n S) (hO : Row w w.heap.size aO O) (hd : Dirs w) :
    Calls Tryd.prog 3 #[.agg #[.int .i64 W, .int .i64 H, .slice aL L.length cL, .slice aS n cS], .agg #[.int .i64 K, .slice aO O.length cO, .int .i64 aw]] w fun e w' => e = .returned (.bool true) ∧ Below w.heap.size w w' := by
  have hst := lawS_start w (.int .i64 W) (.int .i64 H) (.slice aL L.length cL) (.slice aS n cS) (.int .i64 K) (.slice aO O.length cO) (.int .i64 aw)
  have hs1 : 1 ≤ w.heap.size := hd.1
  have sane : ∀ X, LawS w (.int .i64 W) (.int .i64 H) (.slice aL L.length cL) (.slice aS n cS) (.int .i64 K) (.slice aO O.length cO) (.int .i64 aw) X → Calls Tryd.prog 17 #[] X fun e w' => e = .returned (.bool true) ∧ Below w.heap.size w w' := fun X hX =>
    (Sane_any X (hd.below hX.2.1 hs1)).mono fun e w' ⟨he, hb⟩ => ⟨he, hX.2.1.trans (hb.mono hX.2.1.size)⟩
  have c15 : ∀ X, LawS w (.int .i64 W) (.int .i64 H) (.slice aL L.length cL) (.slice aS n cS) (.int .i64 K) (.slice aO O.length cO) (.int .i64 aw) X → Calls Tryd.prog 15 #[.agg #[.int .i64 W, .int .i64 H, .slice aL L.length cL, .slice aS n cS]] X fun e w' => e = .returned (.bool (decide (100 < L.length) || decide (100 < n))) ∧ LawS w (.int .i64 W) (.int .i64 H) (.slice aL L.length cL) (.slice aS n cS) (.int .i64 K) (.slice aO O.length cO) (.int .i64 aw) w' := fun X hX =>
    (Long_any W H aL aS cL n cS L.length X h.land.1 h.share.1).mono fun e w' ⟨he, hb⟩ => ⟨he, hX.call hb⟩
  have c16 : ∀ X, LawS w (.int .i64 W) (.int .i64 H) (.slice aL L.length cL) (.slice aS n cS) (.int .i64 K) (.slice aO O.length cO) (.int .i64 aw) X → Calls Tryd.prog 16 #[.agg #[.int .i64 K, .slice aO O.length cO, .int .i64 aw]] X fun e w' => e = .returned (.bool (decide (100 < O.length))) ∧ LawS w (.int .i64 W) (.int .i64 H) (.slice aL L.length cL) (.slice aS n cS) (.int .i64 K) (.slice aO O.length cO) (.int .i64 aw) w' := fun X hX =>
    (long_any K aw aO cO O.length X hO.1).mono fun e w' ⟨he, hb⟩ => ⟨he, hX.call hb⟩
  replace sane := Lib.hid sane
  replace hst := Lib.hid hst
  cases hlb : (decide (100 < L.length) || decide (100 < n)) with
  | true =>
    rw [hlb] at c15
    replace c15 := Lib.hid c15
    clear c16 hlb
    go_enter Tryd.func3, Tryd.ntmps3
    go_wp2_with fail
    refine (c15.out _ hst.out).mono ?_
    rintro e w1 ⟨rfl, h1⟩
    go_wp2_with fail
    refine (sane.out _ h1).mono ?_
    rintro e w2 ⟨rfl, h2⟩
    go_wp2
    go_ret
    exact ⟨rfl, h2⟩
  | false =>
  rw [hlb] at c15
  cases hlo : decide (100 < O.length) with
  | true =>
    rw [hlo] at c16
    replace c15 := Lib.hid c15
    replace c16 := Lib.hid c16
    clear hlb hlo
    go_enter Tryd.func3, Tryd.ntmps3
    go_wp2_with fail
    refine (c15.out _ hst.out).mono ?_
    rintro e w1 ⟨rfl, h1⟩
    obtain ⟨⟨⟨g0, g1, g2, g3⟩, g4, g5, g6⟩, _, _⟩ := id h1
    go_wp2_with fail
    refine (c16.out _ h1).mono ?_
    rintro e w2 ⟨rfl, h2⟩
    go_wp2_with fail
    refine (sane.out _ h2).mono ?_
    rintro e w3 ⟨rfl, h3⟩
    go_wp2
    go_ret
    exact ⟨rfl, h3⟩
  | false =>
  rw [hlo] at c16
  have h100 : O.length ≤ 100 := by simpa using hlo
  have hB : ∀ X, LawS w (.int .i64 W) (.int .i64 H) (.slice aL L.length cL) (.slice aS n cS) (.int .i64 K) (.slice aO O.length cO) (.int .i64 aw) X → BayIn X w.heap.size aL L aS n S ∧ Row X w.heap.size aO O ∧ w.heap.size ≤ X.heap.size := fun X hX => ⟨h.below hX.2.1, hO.below hX.2.1, hX.2.1.size⟩
  have c18 : ∀ X, LawS w (.int .i64 W) (.int .i64 H) (.slice aL L.length cL) (.slice aS n cS) (.int .i64 K) (.slice aO O.length cO) (.int .i64 aw) X → Calls Tryd.prog 18 #[.agg #[.int .i64 W, .int .i64 H, .slice aL L.length cL, .slice aS n cS], .agg #[.int .i64 K, .slice aO O.length cO, .int .i64 aw]] X fun e w' => e = .returned (.tuple #[.bool (fitV W H L n S K O aw), .int .i64 (fitE W H L n S)]) ∧ LawS w (.int .i64 W) (.int .i64 H) (.slice aL L.length cL) (.slice aS n cS) (.int .i64 K) (.slice aO O.length cO) (.int .i64 aw) w' := fun X hX => by
    obtain ⟨b1, b2, b3⟩ := hB X hX
    refine (Fits_any _ W H aL aS aO cL cS cO L n S K O aw X b1 b2 b3).mono ?_
    rintro e w' ⟨he, hb⟩
    exact ⟨he, hX.call hb⟩
  have c19 : ∀ X, LawS w (.int .i64 W) (.int .i64 H) (.slice aL L.length cL) (.slice aS n cS) (.int .i64 K) (.slice aO O.length cO) (.int .i64 aw) X → Calls Tryd.prog 19 #[.agg #[.int .i64 W, .int .i64 H, .slice aL L.length cL, .slice aS n cS], .agg #[.int .i64 K, .slice aO O.length cO, .int .i64 aw]] X fun e w' => e = .returned (.tuple #[.bool (fitV W H L n S K O aw), .int .i64 (fitE W H L n S)]) ∧ LawS w (.int .i64 W) (.int .i64 H) (.slice aL L.length cL) (.slice aS n cS) (.int .i64 K) (.slice aO O.length cO) (.int .i64 aw) w' := fun X hX => by
    obtain ⟨b1, b2, b3⟩ := hB X hX
    refine (Fits_ref _ W H aL aS aO cL cS cO L n S K O aw X b1 b2 b3 h100).mono ?_
    rintro e w' ⟨he, hb⟩
    exact ⟨he, hX.call hb⟩
  have c20 : ∀ X, LawS w (.int .i64 W) (.int .i64 H) (.slice aL L.length cL) (.slice aS n cS) (.int .i64 K) (.slice aO O.length cO) (.int .i64 aw) X → Calls Tryd.prog 20 #[.agg #[.int .i64 W, .int .i64 H, .slice aL L.length cL, .slice aS n cS]] X fun e w' => e = .returned (.bool (validB W H L n S)) ∧ LawS w (.int .i64 W) (.int .i64 H) (.slice aL L.length cL) (.slice aS n cS) (.int .i64 K) (.slice aO O.length cO) (.int .i64 aw) w' := fun X hX => by
    obtain ⟨b1, b2, b3⟩ := hB X hX
    refine (Valid_any _ W H aL aS cL cS L n S X b1 b3).mono ?_
    rintro e w' ⟨he, hb⟩
    exact ⟨he, hX.call hb⟩
  have c21 : ∀ X, LawS w (.int .i64 W) (.int .i64 H) (.slice aL L.length cL) (.slice aS n cS) (.int .i64 K) (.slice aO O.length cO) (.int .i64 aw) X → Calls Tryd.prog 21 #[.agg #[.int .i64 W, .int .i64 H, .slice aL L.length cL, .slice aS n cS]] X fun e w' => e = .returned (.bool (validB W H L n S)) ∧ LawS w (.int .i64 W) (.int .i64 H) (.slice aL L.length cL) (.slice aS n cS) (.int .i64 K) (.slice aO O.length cO) (.int .i64 aw) w' := fun X hX => by
    obtain ⟨b1, b2, b3⟩ := hB X hX
    refine (Valid_ref _ W H aL aS cL cS L n S X b1 b3).mono ?_
    rintro e w' ⟨he, hb⟩
    exact ⟨he, hX.call hb⟩
  have c22 : ∀ X, LawS w (.int .i64 W) (.int .i64 H) (.slice aL L.length cL) (.slice aS n cS) (.int .i64 K) (.slice aO O.length cO) (.int .i64 aw) X → Calls Tryd.prog 22 #[.agg #[.int .i64 W, .int .i64 H, .slice aL L.length cL, .slice aS n cS], .agg #[.int .i64 K, .slice aO O.length cO, .int .i64 aw]] X fun e w' => e = .returned (.tuple #[.int .i64 (totV W H L n S K O aw), .int .i64 (askE W H L n S K O aw)]) ∧ LawS w (.int .i64 W) (.int .i64 H) (.slice aL L.length cL) (.slice aS n cS) (.int .i64 K) (.slice aO O.length cO) (.int .i64 aw) w' := fun X hX => by
    obtain ⟨b1, b2, b3⟩ := hB X hX
    refine (Total_any _ W H aL aS aO cL cS cO L n S K O aw X b1 b2 b3).mono ?_
    rintro e w' ⟨he, hb⟩
    exact ⟨he, hX.call hb⟩
  have c23 : ∀ X, LawS w (.int .i64 W) (.int .i64 H) (.slice aL L.length cL) (.slice aS n cS) (.int .i64 K) (.slice aO O.length cO) (.int .i64 aw) X → Calls Tryd.prog 23 #[.agg #[.int .i64 W, .int .i64 H, .slice aL L.length cL, .slice aS n cS], .agg #[.int .i64 K, .slice aO O.length cO, .int .i64 aw]] X fun e w' => e = .returned (.tuple #[.int .i64 (totV W H L n S K O aw), .int .i64 (askE W H L n S K O aw)]) ∧ LawS w (.int .i64 W) (.int .i64 H) (.slice aL L.length cL) (.slice aS n cS) (.int .i64 K) (.slice aO O.length cO) (.int .i64 aw) w' := fun X hX => by
    obtain ⟨b1, b2, b3⟩ := hB X hX
    refine (Total_ref _ W H aL aS aO cL cS cO L n S K O aw X b1 b2 b3 h100).mono ?_
    rintro e w' ⟨he, hb⟩
    exact ⟨he, hX.call hb⟩
  have c24 : ∀ X, LawS w (.int .i64 W) (.int .i64 H) (.slice aL L.length cL) (.slice aS n cS) (.int .i64 K) (.slice aO O.length cO) (.int .i64 aw) X → Calls Tryd.prog 24 #[.agg #[.int .i64 W, .int .i64 H, .slice aL L.length cL, .slice aS n cS], .agg #[.int .i64 K, .slice aO O.length cO, .int .i64 aw]] X fun e w' => e = .returned (.tuple #[.int .i64 (aflV W H L n S K O aw), .int .i64 (askE W H L n S K O aw)]) ∧ LawS w (.int .i64 W) (.int .i64 H) (.slice aL L.length cL) (.slice aS n cS) (.int .i64 K) (.slice aO O.length cO) (.int .i64 aw) w' := fun X hX => by
    obtain ⟨b1, b2, b3⟩ := hB X hX
    refine (Afloat_any _ W H aL aS aO cL cS cO L n S K O aw X b1 b2 b3).mono ?_
    rintro e w' ⟨he, hb⟩
    exact ⟨he, hX.call hb⟩
  have c25 : ∀ X, LawS w (.int .i64 W) (.int .i64 H) (.slice aL L.length cL) (.slice aS n cS) (.int .i64 K) (.slice aO O.length cO) (.int .i64 aw) X → Calls Tryd.prog 25 #[.agg #[.int .i64 W, .int .i64 H, .slice aL L.length cL, .slice aS n cS], .agg #[.int .i64 K, .slice aO O.length cO, .int .i64 aw]] X fun e w' => e = .returned (.tuple #[.int .i64 (aflV W H L n S K O aw), .int .i64 (askE W H L n S K O aw)]) ∧ LawS w (.int .i64 W) (.int .i64 H) (.slice aL L.length cL) (.slice aS n cS) (.int .i64 K) (.slice aO O.length cO) (.int .i64 aw) w' := fun X hX => by
    obtain ⟨b1, b2, b3⟩ := hB X hX
    refine (Afloat_ref _ W H aL aS aO cL cS cO L n S K O aw X b1 b2 b3 h100).mono ?_
    rintro e w' ⟨he, hb⟩
    exact ⟨he, hX.call hb⟩
  have c26 : ∀ X, LawS w (.int .i64 W) (.int .i64 H) (.slice aL L.length cL) (.slice aS n cS) (.int .i64 K) (.slice aO O.length cO) (.int .i64 aw) X → Calls Tryd.prog 26 #[.agg #[.int .i64 W, .int .i64 H, .slice aL L.length cL, .slice aS n cS], .agg #[.int .i64 K, .slice aO O.length cO, .int .i64 aw]] X fun e w' => ∃ A c, e = .returned (.tuple #[.slice A (beaV W H L n S K O aw).length c, .int .i64 (askE W H L n S K O aw)]) ∧ LawS w (.int .i64 W) (.int .i64 H) (.slice aL L.length cL) (.slice aS n cS) (.int .i64 K) (.slice aO O.length cO) (.int .i64 aw) w' ∧ Row w' w'.heap.size A (beaV W H L n S K O aw) ∧ Below X.heap.size X w' := fun X hX => by
    obtain ⟨b1, b2, b3⟩ := hB X hX
    refine (Beached_any _ W H aL aS aO cL cS cO L n S K O aw X b1 b2 b3).mono ?_
    rintro e w' ⟨A, c, he, hb, hr⟩
    exact ⟨A, c, he, hX.call hb, hr, hb⟩
  have c27 : ∀ X, LawS w (.int .i64 W) (.int .i64 H) (.slice aL L.length cL) (.slice aS n cS) (.int .i64 K) (.slice aO O.length cO) (.int .i64 aw) X → Calls Tryd.prog 27 #[.agg #[.int .i64 W, .int .i64 H, .slice aL L.length cL, .slice aS n cS], .agg #[.int .i64 K, .slice aO O.length cO, .int .i64 aw]] X fun e w' => ∃ A c, e = .returned (.tuple #[.slice A (beaV W H L n S K O aw).length c, .int .i64 (askE W H L n S K O aw)]) ∧ LawS w (.int .i64 W) (.int .i64 H) (.slice aL L.length cL) (.slice aS n cS) (.int .i64 K) (.slice aO O.length cO) (.int .i64 aw) w' ∧ Row w' w'.heap.size A (beaV W H L n S K O aw) ∧ Below X.heap.size X w' := fun X hX => by
    obtain ⟨b1, b2, b3⟩ := hB X hX
    refine (Beached_ref _ W H aL aS aO cL cS cO L n S K O aw X b1 b2 b3 h100).mono ?_
    rintro e w' ⟨A, c, he, hb, hr⟩
    exact ⟨A, c, he, hX.call hb, hr, hb⟩
  have c28 : ∀ X A A' c c', LawS w (.int .i64 W) (.int .i64 H) (.slice aL L.length cL) (.slice aS n cS) (.int .i64 K) (.slice aO O.length cO) (.int .i64 aw) X → Row X X.heap.size A (beaV W H L n S K O aw) → Row X X.heap.size A' (beaV W H L n S K O aw) → Calls Tryd.prog 28 #[.slice A (beaV W H L n S K O aw).length c, .slice A' (beaV W H L n S K O aw).length c'] X fun e w' => e = .returned (.bool true) ∧ LawS w (.int .i64 W) (.int .i64 H) (.slice aL L.length cL) (.slice aS n cS) (.int .i64 K) (.slice aO O.length cO) (.int .i64 aw) w' := fun X A A' c c' hX r1 r2 => by
    refine (SameInts_ref _ A A' c c' _ _ X r1 r2).mono ?_
    rintro e w' ⟨rfl, m, rfl⟩
    exact ⟨ret_bool (by simp), hX.drewN m⟩
  generalize fitV W H L n S K O aw = fv at *
  generalize fitE W H L n S = fe at *
  generalize validB W H L n S = vb at *
  generalize totV W H L n S K O aw = tv at *
  generalize aflV W H L n S K O aw = av at *
  generalize beaV W H L n S K O aw = bv at *
  generalize askE W H L n S K O aw = ae at *
  replace c15 := Lib.hid c15
  replace c16 := Lib.hid c16
  replace c18 := Lib.hid c18
  replace c19 := Lib.hid c19
  replace c20 := Lib.hid c20
  replace c21 := Lib.hid c21
  replace c22 := Lib.hid c22
  replace c23 := Lib.hid c23
  replace c24 := Lib.hid c24
  replace c25 := Lib.hid c25
  replace c26 := Lib.hid c26
  replace c27 := Lib.hid c27
  replace c28 := Lib.hid c28
  clear hlb hlo hB h100 hs1
  go_enter Tryd.func3, Tryd.ntmps3
  go_wp2_with fail
  refine (c15.out _ hst.out).mono ?_
  rintro e w1 ⟨rfl, h1⟩
  obtain ⟨⟨⟨g0, g1, g2, g3⟩, g4, g5, g6⟩, _, _⟩ := id h1
  go_wp2_with fail
  refine (c16.out _ h1).mono ?_
  rintro e w2 ⟨rfl, h2⟩
  clear g0 g1 g2 g3 g4 g5 g6
  obtain ⟨⟨⟨g0, g1, g2, g3⟩, g4, g5, g6⟩, _, _⟩ := id h2
  go_wp2_with fail
  refine (c18.out _ h2).mono ?_
  rintro e w3 ⟨rfl, h3⟩
  clear g0 g1 g2 g3 g4 g5 g6
  obtain ⟨⟨⟨g0, g1, g2, g3⟩, g4, g5, g6⟩, _, _⟩ := id h3
  go_wp2_with fail
  refine (c19.out _ h3).mono ?_
  rintro e w4 ⟨rfl, h4⟩
  clear g0 g1 g2 g3 g4 g5 g6
  obtain ⟨⟨⟨g0, g1, g2, g3⟩, g4, g5, g6⟩, _, _⟩ := id h4
  have h4d := h4.drew
  have k4 := h4d.1
  unfold Bx2 at k4
  clear g0 g1 g2 g3 g4 g5 g6
  go_wp2
  go_region_held3 (fun X => (X.cell? ⟨w.heap.size, 0, none⟩ = some (.int .i64 W) ∧ X.cell? ⟨w.heap.size, 1, none⟩ = some (.int .i64 H) ∧ X.cell? ⟨w.heap.size, 2, none⟩ = some (.slice aL L.length cL) ∧ X.cell? ⟨w.heap.size, 3, none⟩ = some (.slice aS n cS)) ∧
      (X.cell? ⟨w.heap.size + 1, 0, none⟩ = some (.int .i64 K) ∧ X.cell? ⟨w.heap.size + 1, 1, none⟩ = some (.slice aO O.length cO) ∧ X.cell? ⟨w.heap.size + 1, 2, none⟩ = some (.int .i64 aw)))
    (first | with_reducible exact k4 | with_reducible exact k5 | with_reducible exact k6)
    (first | (go_at_call 20; refine (c20.out _ (by first | with_reducible exact h4d | with_reducible exact h5)).mono ?_; rintro e X6 ⟨rfl, h6⟩; have k6 := h6.1; unfold Bx2 at k6) | (go_at_call 21; refine (c21.out _ (by first | with_reducible exact h6 | with_reducible exact h4d)).mono ?_; rintro e X5 ⟨rfl, h5⟩; have k5 := h5.1; unfold Bx2 at k5))
  all_goals
    obtain ⟨⟨g0, g1, g2, g3⟩, g4, g5, g6⟩ := k5
    obtain ⟨⟨i0, i1, i2, i3⟩, i4, i5, i6⟩ := k6
    clear k4
    go_wp2_with fail
    refine (c22.out _ (by first | with_reducible exact h5 | with_reducible exact h6)).mono ?_
    rintro e w7 ⟨rfl, h7⟩
    clear g0 g1 g2 g3 g4 g5 g6 i0 i1 i2 i3 i4 i5 i6
    obtain ⟨⟨⟨g0, g1, g2, g3⟩, g4, g5, g6⟩, _, _⟩ := id h7
    go_wp2_with fail
    refine (c23.out _ h7).mono ?_
    rintro e w8 ⟨rfl, h8⟩
    clear g0 g1 g2 g3 g4 g5 g6
    obtain ⟨⟨⟨g0, g1, g2, g3⟩, g4, g5, g6⟩, _, _⟩ := id h8
    go_wp2_with fail
    refine (c24.out _ h8).mono ?_
    rintro e w9 ⟨rfl, h9⟩
    clear g0 g1 g2 g3 g4 g5 g6
    obtain ⟨⟨⟨g0, g1, g2, g3⟩, g4, g5, g6⟩, _, _⟩ := id h9
    go_wp2_with fail
    refine (c25.out _ h9).mono ?_
    rintro e w10 ⟨rfl, h10⟩
    clear g0 g1 g2 g3 g4 g5 g6
    obtain ⟨⟨⟨g0, g1, g2, g3⟩, g4, g5, g6⟩, _, _⟩ := id h10
    go_wp2_with fail
    refine (c26.out _ h10).mono ?_
    rintro e w11 ⟨A1, k1, rfl, h11, r11, _⟩
    clear g0 g1 g2 g3 g4 g5 g6
    obtain ⟨⟨⟨g0, g1, g2, g3⟩, g4, g5, g6⟩, _, _⟩ := id h11
    go_wp2_with fail
    refine (c27.out _ h11).mono ?_
    rintro e w12 ⟨A2, k2, rfl, h12, r12, hb12⟩
    clear g0 g1 g2 g3 g4 g5 g6
    obtain ⟨⟨⟨g0, g1, g2, g3⟩, g4, g5, g6⟩, _, _⟩ := id h12
    have r11' := (r11.below hb12).more hb12.size
    clear r11 hb12
    go_wp2_with fail
    refine (c28.out _ _ _ _ _ h12 r11' r12).mono ?_
    rintro e w13 ⟨rfl, h13⟩
    clear g0 g1 g2 g3 g4 g5 g6
    go_wp2_with fail
    refine (sane.out _ h13).mono ?_
    rintro e w14 ⟨rfl, h14⟩
    go_wp2
    go_ret
    exact ⟨rfl, h14⟩

/-! ### the row's step -/
set_option maxRecDepth 100000 in
/-- The door's own heap meets the condition. -/
theorem door_met (os : Os) (args : Array Value) : laidMetH Tryd.prog laidV ((World.doorLaid Tryd.prog 400 os).forCall (fun _ _ => 0) ⟨#[], args, []⟩).memory :=
  laidMetH_of_parts3 (fuel := 8) (laidMet_of_run' 8 (by kernel_rfl) (by kernel_rfl)) (by kernel_rfl) (by kernel_rfl)

set_option maxRecDepth 100000 in
theorem lifted (os : Os) (started : os.Started) (H : Type) (enc : TypeId × Value → H) :
    ReturnsInHanded {} Tryd.checked os 3 .any (fun w args => (Rows.slickBaysSpec.pre enc Tryd.prog Tryd.f3 [] false w args ∧ laidMetH Tryd.prog laidV w) ∧ sizedMet enc Tryd.prog Tryd.f3 (OpenSpec.ofChange Rows.slickBaysSpec) false w args)
      (Rows.slickBaysSpec.post enc Tryd.prog Tryd.f3 false true false false) := by
  refine returnsInHanded_of_change_and (C := Tryd.checked) (X := fun w _ => laidMetH Tryd.prog laidV w) (fun _ _ _ hh h => h.of_heap hh) own started (by kernel_rfl) Tryd.func3
    (ChangeSpec.witness_shaped (enc := enc) (C := Tryd.checked) (os := os) (X := fun w _ => laidMetH Tryd.prog laidV w) false (World.doorLaid Tryd.prog 400 os) #[.agg #[.int .i64 0, .int .i64 0, .slice none 0 0, .slice none 0 0], .agg #[.int .i64 0, .slice none 0 0, .int .i64 0]] 8 rfl (World.shaped_of_RefB (by kernel_rfl) (by kernel_rfl)) (by kernel_rfl) (by kernel_rfl) (by kernel_rfl) (door_met os _)) ?_
  intro W base args ds gs before hval0 hW _ _ hL _
  have hval : ∀ (j : Nat) t v, Tryd.f3.params[j]? = some t → args[j]? = some v → Value.okWide Tryd.prog W .any base t v := hval0
  have hW' := hW
  obtain ⟨p, q, hA0, hV, rfl, hfz, hnd⟩ := hW
  have hA : DataW.TrodAll enc Tryd.prog W 0 (fun _ => true) true Tryd.f3.params.toList args.toList ds p := hA0
  rw [Tryd.params3] at hA hval
  obtain ⟨v0, vs0, d0, ds0, p0, q0, hargs, rfl, rfl, h0, r0⟩ := trodAll_cons hA
  obtain ⟨v1, vs1, d1, ds1, p1, q1, rfl, rfl, rfl, h1, r1⟩ := trodAll_cons r0
  obtain ⟨rfl, rfl, rfl⟩ := trodAll_nil r1
  obtain rfl : args = #[v0, v1] := by cases args; simp_all
  obtain ⟨rfl, rfl⟩ := trodVars_none hV
  have hdirs := dirs_of hL
  have k0 := h0
  have lt0 : ∀ x ∈ p0, x.block < W.heap.size := by obtain ⟨m, hm⟩ := k0; exact DataW.trod_lt m _ _ _ hm
  obtain ⟨Wd, Hd, aL, aS, cL, cS, n, L, S, rfl, hb0⟩ := bay_in (hval 0 25 v0 rfl rfl) h0
  have k1 := h1
  have lt1 : ∀ x ∈ p1, x.block < W.heap.size := by obtain ⟨m, hm⟩ := k1; exact DataW.trod_lt m _ _ _ hm
  obtain ⟨K, aw, aO, cO, O, rfl, hb1⟩ := slick_in (hval 1 28 v1 rfl rfl) h1
  clear hA0 hval0
  refine (walk Wd Hd aL aS aO cL cS cO L n S K O aw W hb0 hb1 hdirs).mono fun e W' ⟨he, bel⟩ => ?_
  subst he
  exact ⟨_, rfl, _, _, _, [], _, [], hW', trodAll_mk1 (shut_bool Tryd.underlying4 _), (trodAll_cons_mk (Below.trod laidOut (by kernel_rfl) (of_decide_eq_true (by kernel_rfl)) k0 bel lt0) (trodAll_cons_mk (Below.trod laidOut (by kernel_rfl) (of_decide_eq_true (by kernel_rfl)) k1 bel lt1) trodAll_mk0)), rfl, bel.frame _, fun h => by cases h⟩

theorem over : Rows.SlickBaysSaid :=
  OpenClaim.holds_of_wide 3 Tryd.f3 rfl rfl rfl rfl rfl rfl rfl ⟨rfl, rfl, rfl, rfl, rfl⟩ rfl rfl rfl rfl rfl (by kernel_rfl) Tryd.func3 (by kernel_rfl)
    (of_decide_eq_true (by kernel_rfl)) (by unfold Func.isWrapper; first | (rw [if_pos (by decide +kernel)]; kernel_rfl) | (rw [if_neg (by decide +kernel)]; exact ⟨rfl, rfl⟩))
    (fun os started H enc _ => lifted os started H enc)

/-- The statement: the tied card. -/
theorem proved : Rows.SlickBaysCardSaid :=
  Claim7.holds_tied_plain_at .later [] [.data] true (true, "38a074445a3967dedbdfb9374eda118d846433fb573c587a55d7c5edfad1e3dd") false
    over (fun _ h => by cases h) (by kernel_rfl) (fun _ h => by cases h) slickBays_row_tie rfl ⟨rfl, rfl⟩ (by kernel_rfl) rfl
    (fun f fn hf hfn => by
      obtain rfl : f = 3 := Option.some.inj ((show Tryd.prog.funcNamed "skimmer/skimmerlaw02.SlickBays" = some 3 by kernel_rfl).symm.trans hf) |>.symm
      obtain rfl : fn = Tryd.f3 := (Option.some.inj (Tryd.func3.symm.trans hfn)).symm
      exact ⟨by kernel_rfl, fun j t ht => by
        rw [Tryd.params3] at ht
        have hm : t ∈ [25, 28] := by simpa using Array.mem_of_getElem? ht
        have hall : ([25, 28].all fun u => !Tryd.prog.wantsStandIn u) = true := by kernel_rfl
        exact (show Tryd.prog.wantsStandIn t = false by simpa using List.all_eq_true.1 hall t hm)⟩)
    (by kernel_rfl)
end Go.Proofs.YtnbgjgiknfcdkaaDoor.lawSlickBays
