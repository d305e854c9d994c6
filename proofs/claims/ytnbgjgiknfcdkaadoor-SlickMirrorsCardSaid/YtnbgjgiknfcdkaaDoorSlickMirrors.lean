/-
  For any bay, the law SlickMirrors returns true: the mirrored bay is as the specification says, and mirrored again it is the bay.
  Conditions: the table of directions starts as the program's text lays it.
-/
import Derived.Test.YtnbgjgiknfcdkaaDoorQ
import Derived.Test.YtnbgjgiknfcdkaaDoorS
import Derived.Test.YtnbgjgiknfcdkaaDoorZf
import Derived.Test.YtnbgjgiknfcdkaaDoorCards
import Derived.Test.YtnbgjgiknfcdkaaDoorTie
import Derived.SevenTiedAt
namespace Go.Proofs.YtnbgjgiknfcdkaaDoor.lawSlickMirrors
open Go.ChangeShapes Go.WideShapes Go.ChangeAt Go.RowKit Go.Deep Go.Proofs.YtnbgjgiknfcdkaaDoor M
set_option linter.unusedVariables false
set_option linter.unusedSimpArgs false

theorem bayIn_up {w w' : World} {A A' : Option Addr} {L : List Bool} {n : Nat} {S : List Int} (h : BayIn w w.heap.size A L A' n S) (hb : Below w.heap.size w w') : BayIn w' w'.heap.size A L A' n S := (h.below hb).more hb.size
theorem validB_of_bay {w h : Nat} {L : List Bool} {S : List Int} (hB : Bay w h L S) : validB w h L (w * h) S = true := by
  obtain ⟨⟨⟨a, b⟩, c, d⟩, ⟨e, f⟩, g⟩ := hB
  exact validB_true ⟨⟨⟨by omega, by omega⟩, by omega, by omega⟩, ⟨by rw [e]; simp, by simp⟩, g⟩
theorem bay_nil (w : World) (B : Nat) : BayIn w B none [] none 0 [] := ⟨⟨by simp, fun h => absurd h (by simp)⟩, ⟨by simp, by simp, fun h => absurd h (by simp)⟩⟩
/-- The law's world: the box of the bay. -/
def LW (w : World) (W H l s : Value) (X : World) : Prop := Below w.heap.size w X ∧ Quad X w.heap.size W H l s
theorem LW.call {w : World} {W H l s : Value} {X Y : World} (h : LW w W H l s X) (hb : Below X.heap.size X Y) : LW w W H l s Y := ⟨h.1.trans (hb.mono h.1.size), h.2.up hb⟩

set_option maxRecDepth 100000 in
set_option maxHeartbeats 8000000 in
theorem bad (W H : Int) (aL aS : Option Addr) (cL cS : Nat) (L : List Bool) (n : Nat) (S : List Int) (w : World) (h : BayIn w w.heap.size aL L aS n S) (hd : Dirs w)
    (hout : (decide (100 < L.length) || decide (100 < n)) = true ∨ validB W H L n S = false) :
    Calls Tryd.prog 8 #[.agg #[.int .i64 W, .int .i64 H, .slice aL L.length cL, .slice aS n cS]] w fun e w' => e = .returned (.bool true) ∧ Below w.heap.size w w' := by
  have hst : LW w (.int .i64 W) (.int .i64 H) (.slice aL L.length cL) (.slice aS n cS) (w.alloc (.cells #[.int .i64 W, .int .i64 H, .slice aL L.length cL, .slice aS n cS] 25)) := ⟨ba1 _ _, Quad.new _ _ _ _ _⟩
  have hs1 : 1 ≤ w.heap.size := hd.1
  have sane : ∀ X, LW w (.int .i64 W) (.int .i64 H) (.slice aL L.length cL) (.slice aS n cS) X → Calls Tryd.prog 17 #[] X fun e w' => e = .returned (.bool true) ∧ Below w.heap.size w w' := fun X hX =>
    (Sane_any X (hd.below hX.1 hs1)).mono fun e w' ⟨he, hb⟩ => ⟨he, hX.1.trans (hb.mono hX.1.size)⟩
  have c15 : ∀ X, LW w (.int .i64 W) (.int .i64 H) (.slice aL L.length cL) (.slice aS n cS) X → Calls Tryd.prog 15 #[.agg #[.int .i64 W, .int .i64 H, .slice aL L.length cL, .slice aS n cS]] X fun e w' => e = .returned (.bool (decide (100 < L.length) || decide (100 < n))) ∧ LW w (.int .i64 W) (.int .i64 H) (.slice aL L.length cL) (.slice aS n cS) w' := fun X hX =>
    (Long_any W H aL aS cL n cS L.length X h.land.1 h.share.1).mono fun e w' ⟨he, hb⟩ => ⟨he, hX.call hb⟩
  replace sane := Lib.hid sane
  replace hst := Lib.hid hst
  cases hlb : (decide (100 < L.length) || decide (100 < n)) with
  | true =>
    rw [hlb] at c15
    replace c15 := Lib.hid c15
    clear hlb hout
    have h0 := hst.out
    have g0 := h0.2.c0
    have g1 := h0.2.c1
    have g2 := h0.2.c2
    have g3 := h0.2.c3
    go_enter Tryd.func8, Tryd.ntmps8
    go_wp2_with fail
    refine (c15.out _ h0).mono ?_
    rintro e w1 ⟨rfl, h1⟩
    clear g0 g1 g2 g3
    go_wp2_with fail
    refine (sane.out _ h1).mono ?_
    rintro e w2 ⟨rfl, h2⟩
    go_wp2
    go_ret
    exact ⟨rfl, h2⟩
  | false =>
  have hv : validB W H L n S = false := by
    rcases hout with h | h
    · rw [hlb] at h; cases h
    · exact h
  have c48 : ∀ X, LW w (.int .i64 W) (.int .i64 H) (.slice aL L.length cL) (.slice aS n cS) X → Calls Tryd.prog 48 #[.agg #[.int .i64 W, .int .i64 H, .slice aL L.length cL, .slice aS n cS]] X fun e w' => e = .returned (.tuple #[.agg #[.int .i64 0, .int .i64 0, .slice none 0 0, .slice none 0 0], .int .i64 20]) ∧ Below X.heap.size X w' := fun X hX => Mirror_bad _ W H aL aS cL cS L n S X (h.below hX.1) hX.1.size hv
  have c49 : ∀ X, LW w (.int .i64 W) (.int .i64 H) (.slice aL L.length cL) (.slice aS n cS) X → Calls Tryd.prog 49 #[.agg #[.int .i64 W, .int .i64 H, .slice aL L.length cL, .slice aS n cS]] X fun e w' => e = .returned (.tuple #[.agg #[.int .i64 0, .int .i64 0, .slice none 0 0, .slice none 0 0], .int .i64 20]) ∧ Below X.heap.size X w' := fun X hX => MirrorRef_bad _ W H aL aS cL cS L n S X (h.below hX.1) hX.1.size hv
  have c50 : ∀ X, Calls Tryd.prog 50 #[.agg #[.int .i64 0, .int .i64 0, .slice none 0 0, .slice none 0 0], .agg #[.int .i64 0, .int .i64 0, .slice none 0 0, .slice none 0 0]] X fun e w' => e = .returned (.bool true) ∧ Below X.heap.size X w' := fun X => EqualBays_eq X.heap.size 0 0 none none none none 0 0 0 0 [] 0 [] X (bay_nil _ _) (bay_nil _ _) (Nat.le_refl _)
  rw [hlb] at c15
  replace c15 := Lib.hid c15
  replace c48 := Lib.hid c48
  replace c49 := Lib.hid c49
  replace c50 := Lib.hid c50
  clear hlb hout hv
  have h0 := hst.out
  have g0 := h0.2.c0
  have g1 := h0.2.c1
  have g2 := h0.2.c2
  have g3 := h0.2.c3
  go_enter Tryd.func8, Tryd.ntmps8
  go_wp2_with fail
  refine (c15.out _ h0).mono ?_
  rintro e w1 ⟨rfl, h1⟩
  clear g0 g1 g2 g3
  have g0 := h1.2.c0
  have g1 := h1.2.c1
  have g2 := h1.2.c2
  have g3 := h1.2.c3
  go_wp2_with fail
  refine (c48.out _ h1).mono ?_
  rintro e w2 ⟨rfl, hb2⟩
  have h3 := (h1.call hb2).call (ba1 w2 (.cells #[.int .i64 0, .int .i64 0, .slice none 0 0, .slice none 0 0] 25))
  have t3 := Quad.new w2 (.int .i64 0) (.int .i64 0) (.slice none 0 0) (.slice none 0 0)
  clear g0 g1 g2 g3 hb2 h1
  have g0 := h3.2.c0
  have g1 := h3.2.c1
  have g2 := h3.2.c2
  have g3 := h3.2.c3
  go_wp2_with fail
  refine (c49.out _ h3).mono ?_
  rintro e w4 ⟨rfl, hb4⟩
  have h5 := (h3.call hb4).call (ba1 w4 (.cells #[.int .i64 0, .int .i64 0, .slice none 0 0, .slice none 0 0] 25))
  have t5 := (t3.up hb4).up (ba1 w4 (.cells #[.int .i64 0, .int .i64 0, .slice none 0 0, .slice none 0 0] 25))
  have u5 := Quad.new w4 (.int .i64 0) (.int .i64 0) (.slice none 0 0) (.slice none 0 0)
  clear g0 g1 g2 g3 hb4 h3 t3
  have g0 := t5.c0
  have g1 := t5.c1
  have g2 := t5.c2
  have g3 := t5.c3
  have k0 := u5.c0
  have k1 := u5.c1
  have k2 := u5.c2
  have k3 := u5.c3
  go_wp2_with fail
  refine (c50.out _).mono ?_
  rintro e w6 ⟨rfl, hb6⟩
  have h7 := h5.call hb6
  clear g0 g1 g2 g3 k0 k1 k2 k3 hb6 h5 t5 u5
  go_wp2_with fail
  refine (sane.out _ h7).mono ?_
  rintro e w8 ⟨rfl, h8⟩
  go_wp2
  go_ret
  exact ⟨rfl, h8⟩

set_option maxRecDepth 100000 in
set_option maxHeartbeats 8000000 in
theorem inn (wn hn : Nat) (aL aS : Option Addr) (cL cS : Nat) (L : List Bool) (S : List Int) (w : World) (h : BayIn w w.heap.size aL L aS (wn * hn) S) (hd : Dirs w)
    (hlb : (decide (100 < L.length) || decide (100 < wn * hn)) = false) (hv : validB wn hn L (wn * hn) S = true) (hBay : Bay wn hn L S) :
    Calls Tryd.prog 8 #[.agg #[.int .i64 (wn : Nat), .int .i64 (hn : Nat), .slice aL (wn * hn) cL, .slice aS (wn * hn) cS]] w fun e w' => e = .returned (.bool true) ∧ Below w.heap.size w w' := by
  have hst : LW w (.int .i64 (wn : Nat)) (.int .i64 (hn : Nat)) (.slice aL (wn * hn) cL) (.slice aS (wn * hn) cS) (w.alloc (.cells #[.int .i64 (wn : Nat), .int .i64 (hn : Nat), .slice aL (wn * hn) cL, .slice aS (wn * hn) cS] 25)) := ⟨ba1 _ _, Quad.new _ _ _ _ _⟩
  have hs1 : 1 ≤ w.heap.size := hd.1
  have hLN := hBay.2.1.1
  have hw1 := hBay.1.1.1
  have hBM := hBay.mirror
  have hvM := validB_of_bay hBM
  have eL := mL_mL (w := wn) (h := hn) (L := L) hw1 hLN
  have eS := mS_mS (w := wn) (h := hn) (S := S) hw1 hBay.2.1.2
  have sane : ∀ X, LW w (.int .i64 (wn : Nat)) (.int .i64 (hn : Nat)) (.slice aL (wn * hn) cL) (.slice aS (wn * hn) cS) X → Calls Tryd.prog 17 #[] X fun e w' => e = .returned (.bool true) ∧ Below w.heap.size w w' := fun X hX =>
    (Sane_any X (hd.below hX.1 hs1)).mono fun e w' ⟨he, hb⟩ => ⟨he, hX.1.trans (hb.mono hX.1.size)⟩
  have c15 : ∀ X, LW w (.int .i64 (wn : Nat)) (.int .i64 (hn : Nat)) (.slice aL (wn * hn) cL) (.slice aS (wn * hn) cS) X → Calls Tryd.prog 15 #[.agg #[.int .i64 (wn : Nat), .int .i64 (hn : Nat), .slice aL (wn * hn) cL, .slice aS (wn * hn) cS]] X fun e w' => e = .returned (.bool false) ∧ LW w (.int .i64 (wn : Nat)) (.int .i64 (hn : Nat)) (.slice aL (wn * hn) cL) (.slice aS (wn * hn) cS) w' := fun X hX => by
    have h1 := Long_any wn hn aL aS cL (wn * hn) cS L.length X h.land.1 h.share.1
    rw [hlb, hLN] at h1
    exact h1.mono fun e w' ⟨he, hb⟩ => ⟨he, hX.call hb⟩
  have c48 : ∀ X, LW w (.int .i64 (wn : Nat)) (.int .i64 (hn : Nat)) (.slice aL (wn * hn) cL) (.slice aS (wn * hn) cS) X → Calls Tryd.prog 48 #[.agg #[.int .i64 (wn : Nat), .int .i64 (hn : Nat), .slice aL (wn * hn) cL, .slice aS (wn * hn) cS]] X fun e X' => ∃ A A' c c', e = .returned (.tuple #[.agg #[.int .i64 (wn : Nat), .int .i64 (hn : Nat), .slice A (wn * hn) c, .slice A' (wn * hn) c'], .int .i64 0]) ∧ Below X.heap.size X X' ∧ BayIn X' X'.heap.size A (mL wn (wn * hn) L) A' (wn * hn) (mS wn (wn * hn) S) := fun X hX => by
    have h1 := Mirror_ok _ wn hn aL aS cL cS L S X (h.below hX.1) hX.1.size hv hBay
    rw [hLN] at h1
    exact h1
  have c49 : ∀ X, LW w (.int .i64 (wn : Nat)) (.int .i64 (hn : Nat)) (.slice aL (wn * hn) cL) (.slice aS (wn * hn) cS) X → Calls Tryd.prog 49 #[.agg #[.int .i64 (wn : Nat), .int .i64 (hn : Nat), .slice aL (wn * hn) cL, .slice aS (wn * hn) cS]] X fun e X' => ∃ A A' c c', e = .returned (.tuple #[.agg #[.int .i64 (wn : Nat), .int .i64 (hn : Nat), .slice A (wn * hn) c, .slice A' (wn * hn) c'], .int .i64 0]) ∧ Below X.heap.size X X' ∧ BayIn X' X'.heap.size A (mL wn (wn * hn) L) A' (wn * hn) (mS wn (wn * hn) S) := fun X hX => by
    have h1 := MirrorRef_ok _ wn hn aL aS cL cS L S X (h.below hX.1) hX.1.size hv hBay
    rw [hLN] at h1
    exact h1
  have c50 : ∀ X A A' c c' D D' d d', BayIn X X.heap.size A (mL wn (wn * hn) L) A' (wn * hn) (mS wn (wn * hn) S) → BayIn X X.heap.size D (mL wn (wn * hn) L) D' (wn * hn) (mS wn (wn * hn) S) → Calls Tryd.prog 50 #[.agg #[.int .i64 (wn : Nat), .int .i64 (hn : Nat), .slice A (wn * hn) c, .slice A' (wn * hn) c'], .agg #[.int .i64 (wn : Nat), .int .i64 (hn : Nat), .slice D (wn * hn) d, .slice D' (wn * hn) d']] X fun e w' => e = .returned (.bool true) ∧ Below X.heap.size X w' := fun X A A' c c' D D' d d' m m' => by
    have h1 := EqualBays_eq X.heap.size wn hn A A' D D' c c' d d' _ (wn * hn) _ X m m' (Nat.le_refl _)
    rw [mL_len] at h1
    exact h1
  have c48b : ∀ X A A' c c', BayIn X X.heap.size A (mL wn (wn * hn) L) A' (wn * hn) (mS wn (wn * hn) S) → Calls Tryd.prog 48 #[.agg #[.int .i64 (wn : Nat), .int .i64 (hn : Nat), .slice A (wn * hn) c, .slice A' (wn * hn) c']] X fun e X' => ∃ E E' f f', e = .returned (.tuple #[.agg #[.int .i64 (wn : Nat), .int .i64 (hn : Nat), .slice E (wn * hn) f, .slice E' (wn * hn) f'], .int .i64 0]) ∧ Below X.heap.size X X' ∧ BayIn X' X'.heap.size E L E' (wn * hn) S := fun X A A' c c' m => by
    have h1 := Mirror_ok X.heap.size wn hn A A' c c' _ _ X m (Nat.le_refl _) hvM hBM
    unfold MirRes at h1
    rw [mL_len, eL, eS] at h1
    exact h1
  have c50b : ∀ X E E' f f', LW w (.int .i64 (wn : Nat)) (.int .i64 (hn : Nat)) (.slice aL (wn * hn) cL) (.slice aS (wn * hn) cS) X → BayIn X X.heap.size E L E' (wn * hn) S → Calls Tryd.prog 50 #[.agg #[.int .i64 (wn : Nat), .int .i64 (hn : Nat), .slice E (wn * hn) f, .slice E' (wn * hn) f'], .agg #[.int .i64 (wn : Nat), .int .i64 (hn : Nat), .slice aL (wn * hn) cL, .slice aS (wn * hn) cS]] X fun e w' => e = .returned (.bool true) ∧ Below X.heap.size X w' := fun X E E' f f' hX m => by
    have h1 := EqualBays_eq X.heap.size wn hn E E' aL aS f f' cL cS L (wn * hn) S X m ((h.below hX.1).more hX.1.size) (Nat.le_refl _)
    rw [hLN] at h1
    exact h1
  clear hBM hvM eL eS hlb hv
  replace sane := Lib.hid sane
  replace hst := Lib.hid hst
  replace c15 := Lib.hid c15
  replace c48 := Lib.hid c48
  replace c49 := Lib.hid c49
  replace c50 := Lib.hid c50
  replace c48b := Lib.hid c48b
  replace c50b := Lib.hid c50b
  replace hLN := Lib.hid hLN
  have h0 := hst.out
  have g0 := h0.2.c0
  have g1 := h0.2.c1
  have g2 := h0.2.c2
  have g3 := h0.2.c3
  go_enter Tryd.func8, Tryd.ntmps8
  go_wp2_with fail
  refine (c15.out _ h0).mono ?_
  rintro e w1 ⟨rfl, h1⟩
  clear g0 g1 g2 g3
  have g0 := h1.2.c0
  have g1 := h1.2.c1
  have g2 := h1.2.c2
  have g3 := h1.2.c3
  go_wp2_with fail
  refine (c48.out _ h1).mono ?_
  rintro e w2 ⟨A, A', c, c', rfl, hb2, m2⟩
  have h3 := (h1.call hb2).call (ba1 w2 (.cells #[.int .i64 (wn : Nat), .int .i64 (hn : Nat), .slice A (wn * hn) c, .slice A' (wn * hn) c'] 25))
  have t3 := Quad.new w2 (.int .i64 (wn : Nat)) (.int .i64 (hn : Nat)) (.slice A (wn * hn) c) (.slice A' (wn * hn) c')
  have m3 := bayIn_up m2 (ba1 w2 (.cells #[.int .i64 (wn : Nat), .int .i64 (hn : Nat), .slice A (wn * hn) c, .slice A' (wn * hn) c'] 25))
  clear g0 g1 g2 g3 hb2 h1 m2
  have g0 := h3.2.c0
  have g1 := h3.2.c1
  have g2 := h3.2.c2
  have g3 := h3.2.c3
  go_wp2_with fail
  refine (c49.out _ h3).mono ?_
  rintro e w4 ⟨D, D', d, d', rfl, hb4, n4⟩
  have h5 := (h3.call hb4).call (ba1 w4 (.cells #[.int .i64 (wn : Nat), .int .i64 (hn : Nat), .slice D (wn * hn) d, .slice D' (wn * hn) d'] 25))
  have t5 := (t3.up hb4).up (ba1 w4 (.cells #[.int .i64 (wn : Nat), .int .i64 (hn : Nat), .slice D (wn * hn) d, .slice D' (wn * hn) d'] 25))
  have m5 := bayIn_up (bayIn_up m3 hb4) (ba1 w4 (.cells #[.int .i64 (wn : Nat), .int .i64 (hn : Nat), .slice D (wn * hn) d, .slice D' (wn * hn) d'] 25))
  have u5 := Quad.new w4 (.int .i64 (wn : Nat)) (.int .i64 (hn : Nat)) (.slice D (wn * hn) d) (.slice D' (wn * hn) d')
  have n5 := bayIn_up n4 (ba1 w4 (.cells #[.int .i64 (wn : Nat), .int .i64 (hn : Nat), .slice D (wn * hn) d, .slice D' (wn * hn) d'] 25))
  clear g0 g1 g2 g3 hb4 h3 t3 m3 n4
  have g0 := t5.c0
  have g1 := t5.c1
  have g2 := t5.c2
  have g3 := t5.c3
  have k0 := u5.c0
  have k1 := u5.c1
  have k2 := u5.c2
  have k3 := u5.c3
  go_wp2_with fail
  refine (c50.out _ A A' c c' D D' d d' m5 n5).mono ?_
  rintro e w6 ⟨rfl, hb6⟩
  have h7 := h5.call hb6
  have t7 := t5.up hb6
  have m7 := bayIn_up m5 hb6
  clear g0 g1 g2 g3 k0 k1 k2 k3 hb6 h5 t5 u5 m5 n5
  have g0 := t7.c0
  have g1 := t7.c1
  have g2 := t7.c2
  have g3 := t7.c3
  go_wp2_with fail
  refine (c48b.out _ A A' c c' m7).mono ?_
  rintro e w8 ⟨E, E', f, f', rfl, hb8, n8⟩
  have h9 := (h7.call hb8).call (ba1 w8 (.cells #[.int .i64 (wn : Nat), .int .i64 (hn : Nat), .slice E (wn * hn) f, .slice E' (wn * hn) f'] 25))
  have t9 := Quad.new w8 (.int .i64 (wn : Nat)) (.int .i64 (hn : Nat)) (.slice E (wn * hn) f) (.slice E' (wn * hn) f')
  have n9 := bayIn_up n8 (ba1 w8 (.cells #[.int .i64 (wn : Nat), .int .i64 (hn : Nat), .slice E (wn * hn) f, .slice E' (wn * hn) f'] 25))
  clear g0 g1 g2 g3 hb8 h7 t7 m7 n8
  have g0 := t9.c0
  have g1 := t9.c1
  have g2 := t9.c2
  have g3 := t9.c3
  have k0 := h9.2.c0
  have k1 := h9.2.c1
  have k2 := h9.2.c2
  have k3 := h9.2.c3
  go_wp2_with fail
  refine (c50b.out _ E E' f f' h9 n9).mono ?_
  rintro e w10 ⟨rfl, hb10⟩
  have h11 := h9.call hb10
  clear g0 g1 g2 g3 k0 k1 k2 k3 hb10 h9 t9 n9
  go_wp2_with fail
  refine (sane.out _ h11).mono ?_
  rintro e w12 ⟨rfl, h12⟩
  go_wp2
  go_ret
  exact ⟨rfl, h12⟩

theorem walk (W H : Int) (aL aS : Option Addr) (cL cS : Nat) (L : List Bool) (n : Nat) (S : List Int) (w : World) (h : BayIn w w.heap.size aL L aS n S) (hd : Dirs w) :
    Calls Tryd.prog 8 #[.agg #[.int .i64 W, .int .i64 H, .slice aL L.length cL, .slice aS n cS]] w fun e w' => e = .returned (.bool true) ∧ Below w.heap.size w w' := by
  cases hlb : (decide (100 < L.length) || decide (100 < n)) with
  | true => exact bad W H aL aS cL cS L n S w h hd (.inl hlb)
  | false =>
  cases hv : validB W H L n S with
  | false => exact bad W H aL aS cL cS L n S w h hd (.inr hv)
  | true =>
  obtain ⟨wn, hn, rfl, rfl, rfl, hL, hBay⟩ := bay_of (val_of hv) h.share.2.1
  have h1 := inn wn hn aL aS cL cS L S w h hd hlb hv hBay
  rw [hL]
  exact h1

/-! ### the row's step -/
set_option maxRecDepth 100000 in
/-- The door's own heap meets the condition. -/
theorem door_met (os : Os) (args : Array Value) : laidMetH Tryd.prog laidV ((World.doorLaid Tryd.prog 400 os).forCall (fun _ _ => 0) ⟨#[], args, []⟩).memory :=
  laidMetH_of_parts3 (fuel := 8) (laidMet_of_run' 8 (by kernel_rfl) (by kernel_rfl)) (by kernel_rfl) (by kernel_rfl)

set_option maxRecDepth 100000 in
theorem lifted (os : Os) (started : os.Started) (H : Type) (enc : TypeId × Value → H) :
    ReturnsInHanded {} Tryd.checked os 8 .any (fun w args => (Rows.slickMirrorsSpec.pre enc Tryd.prog Tryd.f8 [] false w args ∧ laidMetH Tryd.prog laidV w) ∧ sizedMet enc Tryd.prog Tryd.f8 (OpenSpec.ofChange Rows.slickMirrorsSpec) false w args)
      (Rows.slickMirrorsSpec.post enc Tryd.prog Tryd.f8 false true false false) := by
  refine returnsInHanded_of_change_and (C := Tryd.checked) (X := fun w _ => laidMetH Tryd.prog laidV w) (fun _ _ _ hh h => h.of_heap hh) own started (by kernel_rfl) Tryd.func8
    (ChangeSpec.witness_shaped (enc := enc) (C := Tryd.checked) (os := os) (X := fun w _ => laidMetH Tryd.prog laidV w) false (World.doorLaid Tryd.prog 400 os) #[.agg #[.int .i64 0, .int .i64 0, .slice none 0 0, .slice none 0 0]] 8 rfl (World.shaped_of_RefB (by kernel_rfl) (by kernel_rfl)) (by kernel_rfl) (by kernel_rfl) (by kernel_rfl) (door_met os _)) ?_
  intro W base args ds gs before hval0 hW _ _ hL _
  have hval : ∀ (j : Nat) t v, Tryd.f8.params[j]? = some t → args[j]? = some v → Value.okWide Tryd.prog W .any base t v := hval0
  have hW' := hW
  obtain ⟨p, q, hA0, hV, rfl, hfz, hnd⟩ := hW
  have hA : DataW.TrodAll enc Tryd.prog W 0 (fun _ => true) true Tryd.f8.params.toList args.toList ds p := hA0
  rw [Tryd.params8] at hA hval
  obtain ⟨v0, vs0, d0, ds0, p0, q0, hargs, rfl, rfl, h0, r0⟩ := trodAll_cons hA
  obtain ⟨rfl, rfl, rfl⟩ := trodAll_nil r0
  obtain rfl : args = #[v0] := by cases args; simp_all
  obtain ⟨rfl, rfl⟩ := trodVars_none hV
  have hdirs := dirs_of hL
  have k0 := h0
  have lt0 : ∀ x ∈ p0, x.block < W.heap.size := by obtain ⟨m, hm⟩ := k0; exact DataW.trod_lt m _ _ _ hm
  obtain ⟨Wd, Hd, aL, aS, cL, cS, n, L, S, rfl, hb0⟩ := bay_in (hval 0 25 v0 rfl rfl) h0
  clear hA0 hval0
  refine (walk Wd Hd aL aS cL cS L n S W hb0 hdirs).mono fun e W' ⟨he, bel⟩ => ?_
  subst he
  exact ⟨_, rfl, _, _, _, [], _, [], hW', trodAll_mk1 (shut_bool Tryd.underlying4 _), (trodAll_cons_mk (Below.trod laidOut (by kernel_rfl) (of_decide_eq_true (by kernel_rfl)) k0 bel lt0) trodAll_mk0), rfl, bel.frame _, fun h => by cases h⟩

theorem over : Rows.SlickMirrorsSaid :=
  OpenClaim.holds_of_wide 8 Tryd.f8 rfl rfl rfl rfl rfl rfl rfl ⟨rfl, rfl, rfl, rfl, rfl⟩ rfl rfl rfl rfl rfl (by kernel_rfl) Tryd.func8 (by kernel_rfl)
    (of_decide_eq_true (by kernel_rfl)) (by unfold Func.isWrapper; first | (rw [if_pos (by decide +kernel)]; kernel_rfl) | (rw [if_neg (by decide +kernel)]; exact ⟨rfl, rfl⟩))
    (fun os started H enc _ => lifted os started H enc)

/-- The statement: the tied card. -/
theorem proved : Rows.SlickMirrorsCardSaid :=
  Claim7.holds_tied_plain_at .later [] [.data] true (true, "38a074445a3967dedbdfb9374eda118d846433fb573c587a55d7c5edfad1e3dd") false
    over (fun _ h => by cases h) (by kernel_rfl) (fun _ h => by cases h) slickMirrors_row_tie rfl ⟨rfl, rfl⟩ (by kernel_rfl) rfl
    (fun f fn hf hfn => by
      obtain rfl : f = 8 := Option.some.inj ((show Tryd.prog.funcNamed "skimmer/skimmerlaw02.SlickMirrors" = some 8 by kernel_rfl).symm.trans hf) |>.symm
      obtain rfl : fn = Tryd.f8 := (Option.some.inj (Tryd.func8.symm.trans hfn)).symm
      exact ⟨by kernel_rfl, fun j t ht => by
        rw [Tryd.params8] at ht
        have hm : t ∈ [25] := by simpa using Array.mem_of_getElem? ht
        have hall : ([25].all fun u => !Tryd.prog.wantsStandIn u) = true := by kernel_rfl
        exact (show Tryd.prog.wantsStandIn t = false by simpa using List.all_eq_true.1 hall t hm)⟩)
    (by kernel_rfl)
end Go.Proofs.YtnbgjgiknfcdkaaDoor.lawSlickMirrors
