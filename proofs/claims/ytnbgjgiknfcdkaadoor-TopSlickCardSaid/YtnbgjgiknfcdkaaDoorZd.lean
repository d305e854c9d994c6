/-
  'Mirror': the bay mirrored, or the error of a bay.
-/
import Derived.Test.YtnbgjgiknfcdkaaDoorZc
namespace Go.Proofs.YtnbgjgiknfcdkaaDoor
open Go.RowKit Go.Deep M
set_option linter.unusedVariables false
set_option linter.unusedSimpArgs false

/-- The box of the bay and the cells of the result. -/
structure MiW (w : World) (W H l s : Value) (X : World) : Prop where
  below : Below w.heap.size w X
  bay : Quad X w.heap.size W H l s
  res : Quad X (w.heap.size + 1) (.int .i64 0) (.int .i64 0) (.slice none 0 0) (.slice none 0 0)
theorem MiW.call {w : World} {W H l s : Value} {X Y : World} (h : MiW w W H l s X) (hb : Below X.heap.size X Y) : MiW w W H l s Y := ⟨h.below.trans (hb.mono h.below.size), h.bay.up hb, h.res.up hb⟩
theorem miW_start (w : World) (W H l s : Value) : MiW w W H l s ((w.alloc (.cells #[W, H, l, s] 25)).alloc (.cells #[.int .i64 0, .int .i64 0, .slice none 0 0, .slice none 0 0] 25)) := by
  refine ⟨ba2 w _ _, (Quad.new w W H l s).up (ba1 _ _), ?_⟩
  have := Quad.new (w.alloc (.cells #[W, H, l, s] 25)) (.int .i64 0) (.int .i64 0) (.slice none 0 0) (.slice none 0 0)
  simpa using this
theorem quad_set_below {w : World} {B b : Nat} {x y z u : Value} {a : World} (h : Below B a w) (hB : B ≤ b) : Below B a ((((w.setCell ⟨b, 0, none⟩ x).setCell ⟨b, 1, none⟩ y).setCell ⟨b, 2, none⟩ z).setCell ⟨b, 3, none⟩ u) :=
  (((h.setCell (p := ⟨b, 0, none⟩) hB _).setCell (p := ⟨b, 1, none⟩) hB _).setCell (p := ⟨b, 2, none⟩) hB _).setCell (p := ⟨b, 3, none⟩) hB _

set_option maxRecDepth 100000 in
set_option maxHeartbeats 4000000 in
theorem Mirror_bad (B : Nat) (W H : Int) (aL aS : Option Addr) (cL cS : Nat) (L : List Bool) (n : Nat) (S : List Int) (w : World) (h : BayIn w B aL L aS n S) (hB : B ≤ w.heap.size) (hv : validB W H L n S = false) :
    Calls Tryd.prog 48 #[.agg #[.int .i64 W, .int .i64 H, .slice aL L.length cL, .slice aS n cS]] w fun e w' => e = .returned (.tuple #[.agg #[.int .i64 0, .int .i64 0, .slice none 0 0, .slice none 0 0], .int .i64 20]) ∧ Below w.heap.size w w' := by
  have hst := miW_start w (.int .i64 W) (.int .i64 H) (.slice aL L.length cL) (.slice aS n cS)
  have c59 := checked0_any B W H aL aS cL cS L n S _ (h.below (hst.below.mono hB)) (Nat.le_trans hB hst.below.size)
  rw [hv] at c59
  replace c59 := Lib.hid c59
  replace hst := Lib.hid hst
  go_enter Tryd.func48, Tryd.ntmps48
  go_wp2_with fail
  refine c59.out.mono ?_
  rintro e w1 ⟨rfl, hb1⟩
  have hw1 := hst.out.call hb1
  have t := hw1.res
  have j0 := t.c0
  have j1 := t.c1
  have j2 := t.c2
  have j3 := t.c3
  have f0 := t.fz 0
  have f1 := t.fz 1
  have f2 := t.fz 2
  have f3 := t.fz 3
  have ts := t.set (.int .i64 0) (.int .i64 0) (.slice none 0 0) (.slice none 0 0)
  have j4 := ts.c0
  have j5 := ts.c1
  have j6 := ts.c2
  have j7 := ts.c3
  have hbs := quad_set_below (x := .int .i64 0) (y := .int .i64 0) (z := .slice none 0 0) (u := .slice none 0 0) hw1.below (show w.heap.size ≤ w.heap.size + 1 by omega)
  clear hb1 hw1
  go_wp2
  exact bodyPost_ret (v := .tuple #[.agg #[.int .i64 0, .int .i64 0, .slice none 0 0, .slice none 0 0], .int .i64 20]) (by simp [results, Tryd.results48, go_sem, j4, j5, j6, j7]) rfl ⟨rfl, hbs⟩

theorem BayIn.other {w Y : World} {B b : Nat} {A A' : Option Addr} {L : List Bool} {n : Nat} {S : List Int} (h : BayIn w B A L A' n S) (hk : ∀ d : Nat, d ≠ b → Y.heap[d]? = w.heap[d]?) (hA : ∀ a, A = some a → a.block ≠ b) (hA' : ∀ a, A' = some a → a.block ≠ b) : BayIn Y B A L A' n S := by
  refine ⟨⟨h.land.1, fun hn => ?_⟩, ⟨h.share.1, h.share.2.1, fun hn => ?_⟩⟩
  · obtain ⟨b', o, e, hb, hc⟩ := h.land.2 hn
    exact ⟨b', o, e, hb, fun i hi => (World.cell?_of_block (hk b' (hA _ e))).trans (hc i hi)⟩
  · obtain ⟨b', o, e, hb, hc⟩ := h.share.2.2 hn
    exact ⟨b', o, e, hb, fun i k hi hk' => (World.cell?_of_block (hk b' (hA' _ e))).trans (hc i k hi hk')⟩
theorem set4_block (w : World) (b : Nat) (x y z u : Value) (d : Nat) (hd : d ≠ b) : ((((w.setCell ⟨b, 0, none⟩ x).setCell ⟨b, 1, none⟩ y).setCell ⟨b, 2, none⟩ z).setCell ⟨b, 3, none⟩ u).heap[d]? = w.heap[d]? := by
  rw [setCell_block _ _ _ _ _ hd, setCell_block _ _ _ _ _ hd, setCell_block _ _ _ _ _ hd, setCell_block _ _ _ _ _ hd]
theorem BayIn.set4 {w : World} {A A' : Option Addr} {L : List Bool} {n : Nat} {S : List Int} (h : BayIn w w.heap.size A L A' n S) (b : Nat) (hA : ∀ a, A = some a → a.block ≠ b) (hA' : ∀ a, A' = some a → a.block ≠ b) (x y z u : Value) :
    BayIn ((((w.setCell ⟨b, 0, none⟩ x).setCell ⟨b, 1, none⟩ y).setCell ⟨b, 2, none⟩ z).setCell ⟨b, 3, none⟩ u) ((((w.setCell ⟨b, 0, none⟩ x).setCell ⟨b, 1, none⟩ y).setCell ⟨b, 2, none⟩ z).setCell ⟨b, 3, none⟩ u).heap.size A L A' n S :=
  (BayIn.other h (set4_block w b x y z u) hA hA').more (by simp [World.setCell])
/-- What Mirror answers for a valid bay. -/
def MirRes (w : World) (wn hn : Nat) (L : List Bool) (S : List Int) (e : Ending) (w' : World) : Prop :=
  ∃ A A' c c', e = .returned (.tuple #[.agg #[.int .i64 (wn : Nat), .int .i64 (hn : Nat), .slice A (wn * hn) c, .slice A' (wn * hn) c'], .int .i64 0]) ∧ Below w.heap.size w w' ∧ BayIn w' w'.heap.size A (mL wn (wn * hn) L) A' (wn * hn) (mS wn (wn * hn) S)
set_option maxRecDepth 100000 in
set_option maxHeartbeats 4000000 in
theorem Mirror_ok (B : Nat) (wn hn : Nat) (aL aS : Option Addr) (cL cS : Nat) (L : List Bool) (S : List Int) (w : World) (h : BayIn w B aL L aS (wn * hn) S) (hB : B ≤ w.heap.size) (hv : validB wn hn L (wn * hn) S = true) (hBay : Bay wn hn L S) :
    Calls Tryd.prog 48 #[.agg #[.int .i64 (wn : Nat), .int .i64 (hn : Nat), .slice aL L.length cL, .slice aS (wn * hn) cS]] w (MirRes w wn hn L S) := by
  have hst := miW_start w (.int .i64 (wn : Nat)) (.int .i64 (hn : Nat)) (.slice aL L.length cL) (.slice aS (wn * hn) cS)
  have c59 := checked0_any B wn hn aL aS cL cS L (wn * hn) S _ (h.below (hst.below.mono hB)) (Nat.le_trans hB hst.below.size)
  have c82 : ∀ X, Below w.heap.size w X → _ := fun X hX => mirrored_any B wn hn aL aS cL cS L S X (h.below (hX.mono hB)) (Nat.le_trans hB hX.size) hBay
  rw [hv] at c59
  replace c59 := Lib.hid c59
  replace c82 := Lib.hid c82
  replace hst := Lib.hid hst
  go_enter Tryd.func48, Tryd.ntmps48
  go_wp2_with fail
  refine c59.out.mono ?_
  rintro e w1 ⟨rfl, hb1⟩
  have hw1 := hst.out.call hb1
  have q0 := hw1.bay.c0
  have q1 := hw1.bay.c1
  have q2 := hw1.bay.c2
  have q3 := hw1.bay.c3
  clear hb1
  go_wp2_with fail
  refine (c82.out _ hw1.below).mono ?_
  rintro e w2 ⟨A, A', c, c', rfl, hb2, hbay, hf, hf'⟩
  have hw2 := hw1.call hb2
  have t := hw2.res
  have j0 := t.c0
  have j1 := t.c1
  have j2 := t.c2
  have j3 := t.c3
  have f0 := t.fz 0
  have f1 := t.fz 1
  have f2 := t.fz 2
  have f3 := t.fz 3
  have ts := t.set (.int .i64 (wn : Nat)) (.int .i64 (hn : Nat)) (.slice A (wn * hn) c) (.slice A' (wn * hn) c')
  have j4 := ts.c0
  have j5 := ts.c1
  have j6 := ts.c2
  have j7 := ts.c3
  have hbs := quad_set_below (x := .int .i64 (wn : Nat)) (y := .int .i64 (hn : Nat)) (z := .slice A (wn * hn) c) (u := .slice A' (wn * hn) c') hw2.below (show w.heap.size ≤ w.heap.size + 1 by omega)
  have hz : w.heap.size + 1 < w1.heap.size := hw1.res.lt
  have hbs2 := BayIn.set4 hbay (w.heap.size + 1) (fun a ha => by have := hf a ha; omega) (fun a ha => by have := hf' a ha; omega) (.int .i64 (wn : Nat)) (.int .i64 (hn : Nat)) (.slice A (wn * hn) c) (.slice A' (wn * hn) c')
  replace hbs2 := Lib.hid hbs2
  clear hb2 hw2 hw1 hbay hf hf' hz q0 q1 q2 q3 ts t
  go_wp2
  exact bodyPost_ret (v := .tuple #[.agg #[.int .i64 (wn : Nat), .int .i64 (hn : Nat), .slice A (wn * hn) c, .slice A' (wn * hn) c'], .int .i64 0]) (by simp [results, Tryd.results48, go_sem, j4, j5, j6, j7]) rfl ⟨A, A', c, c', rfl, hbs, hbs2.out⟩
end Go.Proofs.YtnbgjgiknfcdkaaDoor
