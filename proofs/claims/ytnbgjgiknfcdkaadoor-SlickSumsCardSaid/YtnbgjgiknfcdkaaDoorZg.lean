/-
  'Sum' of the specification.
-/
import Derived.Test.YtnbgjgiknfcdkaaDoorX
import Derived.Test.YtnbgjgiknfcdkaaDoorZf
namespace Go.Proofs.YtnbgjgiknfcdkaaDoor
open Go.RowKit Go.Deep M
set_option linter.unusedVariables false
set_option linter.unusedSimpArgs false

theorem SumW.keep {w : World} {W H l s K o aw K' o' aw' : Value} {X Y : World} (h : SumW w W H l s K o aw K' o' aw' X) (hb : Below w.heap.size w Y) (hs : X.heap.size ≤ Y.heap.size) (ho : ∀ d, d < w.heap.size + 4 → Y.heap[d]? = X.heap[d]?) : SumW w W H l s K o aw K' o' aw' Y :=
  ⟨hb, Nat.le_trans h.size hs, (ho _ (by omega)).trans h.bay, (ho _ (by omega)).trans h.fst, (ho _ (by omega)).trans h.snd, (ho _ (by omega)).trans h.res⟩
/-- .. and the new slick, whose list grows. -/
structure RSW (w : World) (W H l s K o aw K' o' aw' : Value) (bo : Nat) (a vl b : Value) (q : List Int) (X : World) : Prop where
  sw : SumW w W H l s K o aw K' o' aw' X
  out : Tri X bo a vl b
  own : X.ownsRow (w.heap.size + 4) 3 1 vl q.length (vals q)
  lies : w.heap.size + 4 ≤ bo
  far : vl.ownBlock ≠ some bo
theorem RSW.call {w : World} {W H l s K o aw K' o' aw' : Value} {bo : Nat} {a vl b : Value} {q : List Int} {X Y : World} (h : RSW w W H l s K o aw K' o' aw' bo a vl b q X) (hb : Below X.heap.size X Y) : RSW w W H l s K o aw K' o' aw' bo a vl b q Y :=
  ⟨h.sw.call hb, h.out.up hb, own_keep h.own fun g hg => hb.block g (h.own.lt g hg).2, h.lies, h.far⟩
theorem tri_grown {w w' : World} {b : Nat} {x y z : Value} {row : Option Nat} (h : Tri w b x y z) (hg : w.grownBy w' row) (hr : row ≠ some b) : Tri w' b x y z := (hg.block b h.lt (fun e => hr e.symm)).trans h
theorem RSW.step {w : World} {W H l s K o aw K' o' aw' : Value} {bo : Nat} {a vl b : Value} {q q' : List Int} {X w1 : World} {g n cap : Nat} (h : RSW w W H l s K o aw K' o' aw' bo a vl b q X) (hn : q'.length = n)
    (ho : w1.ownsRow (w.heap.size + 4) 3 1 (.slice (some ⟨g, 0, none⟩) n cap) n (vals q')) (hg : X.grownBy w1 vl.ownBlock) (hat : vl.ownBlock = some g ∨ g = X.heap.size) :
    RSW w W H l s K o aw K' o' aw' bo a (.slice (some ⟨g, 0, none⟩) n cap) b q' (w1.setCell ⟨bo, 1, none⟩ (.slice (some ⟨g, 0, none⟩) n cap)) := by
  have hlo : ∀ x, vl.ownBlock = some x → w.heap.size + 4 ≤ x := fun x hx => (h.own.lt x hx).1
  have hbo := h.out.lt
  have hgo : g ≠ bo := by
    rcases hat with e | e
    · intro e2; exact h.far (by rw [e, e2])
    · omega
  have hs := h.lies
  have hx4 := h.sw.size
  have hk : ∀ d, d < w.heap.size + 4 → (w1.setCell ⟨bo, 1, none⟩ (.slice (some ⟨g, 0, none⟩) n cap)).heap[d]? = X.heap[d]? := fun d h1 =>
    (setCell_block _ _ _ _ _ (by omega)).trans (hg.block d (by omega) (fun e => by have := hlo d e.symm; omega))
  have q := tri_grown h.out hg h.far
  refine ⟨h.sw.keep ((h.sw.below.grown hg h.sw.below.size (fun x hx => by have := hlo x hx; omega)).setCell (p := ⟨bo, 1, none⟩) (by show w.heap.size ≤ bo; omega) _) (by have := hg.size; simpa [World.setCell] using this) hk, ?_, ?_, hs, ?_⟩
  · unfold Tri at *
    simp [World.setCell, Array.getElem?_modify, q]
  · rw [hn]
    exact own_keep ho fun x hx => setCell_block _ _ _ _ _ (by cases hx; exact hgo)
  · intro e; injection e with e; exact hgo e
theorem row_other' {w Y : World} {B B' b : Nat} {A : Option Addr} {l : List Int} (h : Row w B A l) (hk : ∀ d : Nat, d ≠ b → Y.heap[d]? = w.heap[d]?) (hA : ∀ a, A = some a → a.block ≠ b) (hB : B ≤ B') : Row Y B' A l :=
  ⟨h.1, fun hn => by
    obtain ⟨b', o, e, hb, hc⟩ := h.2 hn
    exact ⟨b', o, e, by omega, fun i hi => (World.cell?_of_block (hk b' (hA _ e))).trans (hc i hi)⟩⟩
theorem set3_block' (w : World) (b : Nat) (x y z : Value) (d : Nat) (hd : d ≠ b) : (((w.setCell ⟨b, 0, none⟩ x).setCell ⟨b, 1, none⟩ y).setCell ⟨b, 2, none⟩ z).heap[d]? = w.heap[d]? := by
  rw [setCell_block _ _ _ _ _ hd, setCell_block _ _ _ _ _ hd, setCell_block _ _ _ _ _ hd]
theorem vals_snoc' (F : Nat → Int) (n : Nat) : vals (mk F (n + 1)) = vals (mk F n) ++ [.int .i64 (F n)] := vals_snoc F n
theorem pre_ad {m : Nat} {O O' : List Int} {aw aw' : Int} (h : O.length = m) (h' : O'.length = m) : pre m (ad (m + 1) (amt O aw) (amt O' aw')) = ad m O O' := by
  refine ints_ext (by rw [pre_len, ad_len]) (fun i hi => ?_)
  rw [pre_len] at hi
  have e1 : el (pre m (ad (m + 1) (amt O aw) (amt O' aw'))) i = el (ad (m + 1) (amt O aw) (amt O' aw')) i := mk_el _ _ _ hi
  rw [e1, ad_el _ _ (by omega), ad_el _ _ hi, amt_el _ _ _ (by omega), amt_el _ _ _ (by omega)]
theorem el_ad {m : Nat} {O O' : List Int} {aw aw' : Int} (h : O.length = m) (h' : O'.length = m) : el (ad (m + 1) (amt O aw) (amt O' aw')) m = aw + aw' := by
  rw [ad_el _ _ (by omega)]
  have e1 := amt_away O aw
  have e2 := amt_away O' aw'
  rw [h] at e1
  rw [h'] at e2
  rw [e1, e2]

set_option maxRecDepth 100000 in
set_option maxHeartbeats 4000000 in
theorem SumRef_bad (B : Nat) (W H : Int) (aL aS aO aO' : Option Addr) (cL cS cO cO' : Nat) (L : List Bool) (n : Nat) (S : List Int) (K K' : Int) (O O' : List Int) (aw aw' : Int) (w : World) (h : BayIn w B aL L aS n S) (hO : Row w B aO O) (hO' : Row w B aO' O') (hB : B ≤ w.heap.size) (hv : validB W H L n S = false) :
    Calls Tryd.prog 39 #[.agg #[.int .i64 W, .int .i64 H, .slice aL L.length cL, .slice aS n cS], .agg #[.int .i64 K, .slice aO O.length cO, .int .i64 aw], .agg #[.int .i64 K', .slice aO' O'.length cO', .int .i64 aw']] w (SlkRes w (0, [], 0, 20)) := by
  have hst := sumW_start w (.int .i64 W) (.int .i64 H) (.slice aL L.length cL) (.slice aS n cS) (.int .i64 K) (.slice aO O.length cO) (.int .i64 aw) (.int .i64 K') (.slice aO' O'.length cO') (.int .i64 aw')
  have c21 : ∀ X, SumW w (.int .i64 W) (.int .i64 H) (.slice aL L.length cL) (.slice aS n cS) (.int .i64 K) (.slice aO O.length cO) (.int .i64 aw) (.int .i64 K') (.slice aO' O'.length cO') (.int .i64 aw') X → Calls Tryd.prog 21 #[.agg #[.int .i64 W, .int .i64 H, .slice aL L.length cL, .slice aS n cS]] X fun e X' => e = .returned (.bool false) ∧ Below X.heap.size X X' := fun X hX => by
    rw [← hv]
    exact Valid_ref B W H aL aS cL cS L n S X (h.below (hX.below.mono hB)) (Nat.le_trans hB hX.below.size)
  replace c21 := Lib.hid c21
  replace hst := Lib.hid hst
  go_enter Tryd.func39, Tryd.ntmps39
  go_wp2_with fail
  refine (c21.out _ hst.out).mono ?_
  rintro e w1 ⟨rfl, hb1⟩
  have hw1 := hst.out.call hb1
  clear hb1
  have t := hw1.res
  have j1 := t.c0
  have j2 := t.c1
  have j3 := t.c2
  have f1 := t.fz 0
  have f2 := t.fz 1
  have f3 := t.fz 2
  have ts := t.set (.int .i64 0) (.slice none 0 0) (.int .i64 0)
  have j4 := ts.c0
  have j5 := ts.c1
  have j6 := ts.c2
  have hbs := tri_below (x := .int .i64 0) (y := .slice none 0 0) (z := .int .i64 0) hw1.below (show w.heap.size ≤ w.heap.size + 1 + 1 + 1 by omega)
  clear hw1
  go_wp2
  exact bodyPost_ret (v := .tuple #[.agg #[.int .i64 0, .slice none 0 0, .int .i64 0], .int .i64 20]) (by simp [results, Tryd.results39, go_sem, j4, j5, j6]) rfl ⟨none, 0, rfl, hbs, row_nil _ _ _, fun a ha => by cases ha⟩

set_option maxRecDepth 100000 in
set_option maxHeartbeats 4000000 in
theorem SumRef_no (B : Nat) (W H : Int) (aL aS aO aO' : Option Addr) (cL cS cO cO' : Nat) (L : List Bool) (n : Nat) (S : List Int) (K K' : Int) (O O' : List Int) (aw aw' : Int) (w : World) (h : BayIn w B aL L aS n S) (hO : Row w B aO O) (hO' : Row w B aO' O') (hB : B ≤ w.heap.size) (hv : validB W H L n S = true) (hno : slkB L.length K O aw = false ∨ slkB L.length K' O' aw' = false ∨ K ≠ K') :
    Calls Tryd.prog 39 #[.agg #[.int .i64 W, .int .i64 H, .slice aL L.length cL, .slice aS n cS], .agg #[.int .i64 K, .slice aO O.length cO, .int .i64 aw], .agg #[.int .i64 K', .slice aO' O'.length cO', .int .i64 aw']] w (SlkRes w (0, [], 0, 21)) := by
  have hst := sumW_start w (.int .i64 W) (.int .i64 H) (.slice aL L.length cL) (.slice aS n cS) (.int .i64 K) (.slice aO O.length cO) (.int .i64 aw) (.int .i64 K') (.slice aO' O'.length cO') (.int .i64 aw')
  have hV := val_of hv
  have h36 : L.length ≤ 36 := by
    have := hV.2.1.1
    have := Int.mul_le_mul hV.1.1.2 hV.1.2.2 (by have := hV.1.2.1; omega) (by omega)
    omega
  have c21 : ∀ X, SumW w (.int .i64 W) (.int .i64 H) (.slice aL L.length cL) (.slice aS n cS) (.int .i64 K) (.slice aO O.length cO) (.int .i64 aw) (.int .i64 K') (.slice aO' O'.length cO') (.int .i64 aw') X → Calls Tryd.prog 21 #[.agg #[.int .i64 W, .int .i64 H, .slice aL L.length cL, .slice aS n cS]] X fun e X' => e = .returned (.bool true) ∧ Below X.heap.size X X' := fun X hX => by
    rw [← hv]
    exact Valid_ref B W H aL aS cL cS L n S X (h.below (hX.below.mono hB)) (Nat.le_trans hB hX.below.size)
  have c51 : ∀ X, SumW w (.int .i64 W) (.int .i64 H) (.slice aL L.length cL) (.slice aS n cS) (.int .i64 K) (.slice aO O.length cO) (.int .i64 aw) (.int .i64 K') (.slice aO' O'.length cO') (.int .i64 aw') X → Calls Tryd.prog 51 #[.agg #[.int .i64 W, .int .i64 H, .slice aL L.length cL, .slice aS n cS], .agg #[.int .i64 K, .slice aO O.length cO, .int .i64 aw]] X fun e X' => e = .returned (.bool (slkB L.length K O aw)) ∧ Below X.heap.size X X' := fun X hX =>
    Is_any B W H aL aS aO cL cS cO L.length n K O aw X (hO.below (hX.below.mono hB)) (Nat.le_trans hB hX.below.size) hV.2.1.1 h36
  have c51' : ∀ X, SumW w (.int .i64 W) (.int .i64 H) (.slice aL L.length cL) (.slice aS n cS) (.int .i64 K) (.slice aO O.length cO) (.int .i64 aw) (.int .i64 K') (.slice aO' O'.length cO') (.int .i64 aw') X → Calls Tryd.prog 51 #[.agg #[.int .i64 W, .int .i64 H, .slice aL L.length cL, .slice aS n cS], (.agg #[.int .i64 K', .slice aO' O'.length cO', .int .i64 aw'])] X fun e X' => e = .returned (.bool (slkB L.length K' O' aw')) ∧ Below X.heap.size X X' := fun X hX =>
    Is_any B W H aL aS aO' cL cS cO' L.length n K' O' aw' X (hO'.below (hX.below.mono hB)) (Nat.le_trans hB hX.below.size) hV.2.1.1 h36
  replace c21 := Lib.hid c21
  replace hst := Lib.hid hst
  cases hs : slkB L.length K O aw with
  | false =>
  rw [hs] at c51
  replace c51 := Lib.hid c51
  clear hs hV hno hv
  go_enter Tryd.func39, Tryd.ntmps39
  go_wp2_with fail
  refine (c21.out _ hst.out).mono ?_
  rintro e w1 ⟨rfl, hb1⟩
  have hw1 := hst.out.call hb1
  clear hb1
  have q0 := hw1.bay.c0
  have q1 := hw1.bay.c1
  have q2 := hw1.bay.c2
  have q3 := hw1.bay.c3
  have p0 := hw1.fst.c0
  have p1 := hw1.fst.c1
  have p2 := hw1.fst.c2
  go_wp2_with fail
  refine (c51.out _ hw1).mono ?_
  rintro e w2 ⟨rfl, hb2⟩
  have hw2 := hw1.call hb2
  clear hb2 hw1 q0 q1 q2 q3 p0 p1 p2
  have t := hw2.res
  have j1 := t.c0
  have j2 := t.c1
  have j3 := t.c2
  have f1 := t.fz 0
  have f2 := t.fz 1
  have f3 := t.fz 2
  have ts := t.set (.int .i64 0) (.slice none 0 0) (.int .i64 0)
  have j4 := ts.c0
  have j5 := ts.c1
  have j6 := ts.c2
  have hbs := tri_below (x := .int .i64 0) (y := .slice none 0 0) (z := .int .i64 0) hw2.below (show w.heap.size ≤ w.heap.size + 1 + 1 + 1 by omega)
  clear hw2
  go_wp2
  exact bodyPost_ret (v := .tuple #[.agg #[.int .i64 0, .slice none 0 0, .int .i64 0], .int .i64 21]) (by simp [results, Tryd.results39, go_sem, j4, j5, j6]) rfl ⟨none, 0, rfl, hbs, row_nil _ _ _, fun a ha => by cases ha⟩
  | true =>
  cases hs' : slkB L.length K' O' aw' with
  | false =>
  rw [hs] at c51
  rw [hs'] at c51'
  replace c51 := Lib.hid c51
  replace c51' := Lib.hid c51'
  clear hs hs' hV hno hv
  go_enter Tryd.func39, Tryd.ntmps39
  go_wp2_with fail
  refine (c21.out _ hst.out).mono ?_
  rintro e w1 ⟨rfl, hb1⟩
  have hw1 := hst.out.call hb1
  clear hb1
  have q0 := hw1.bay.c0
  have q1 := hw1.bay.c1
  have q2 := hw1.bay.c2
  have q3 := hw1.bay.c3
  have p0 := hw1.fst.c0
  have p1 := hw1.fst.c1
  have p2 := hw1.fst.c2
  go_wp2_with fail
  refine (c51.out _ hw1).mono ?_
  rintro e w2 ⟨rfl, hb2⟩
  have hw2 := hw1.call hb2
  clear hb2 hw1 q0 q1 q2 q3 p0 p1 p2
  have q0 := hw2.bay.c0
  have q1 := hw2.bay.c1
  have q2 := hw2.bay.c2
  have q3 := hw2.bay.c3
  have p0 := hw2.snd.c0
  have p1 := hw2.snd.c1
  have p2 := hw2.snd.c2
  go_wp2_with fail
  refine (c51'.out _ hw2).mono ?_
  rintro e w3 ⟨rfl, hb3⟩
  have hw3 := hw2.call hb3
  clear hb3 hw2 q0 q1 q2 q3 p0 p1 p2
  have t := hw3.res
  have j1 := t.c0
  have j2 := t.c1
  have j3 := t.c2
  have f1 := t.fz 0
  have f2 := t.fz 1
  have f3 := t.fz 2
  have ts := t.set (.int .i64 0) (.slice none 0 0) (.int .i64 0)
  have j4 := ts.c0
  have j5 := ts.c1
  have j6 := ts.c2
  have hbs := tri_below (x := .int .i64 0) (y := .slice none 0 0) (z := .int .i64 0) hw3.below (show w.heap.size ≤ w.heap.size + 1 + 1 + 1 by omega)
  clear hw3
  go_wp2
  exact bodyPost_ret (v := .tuple #[.agg #[.int .i64 0, .slice none 0 0, .int .i64 0], .int .i64 21]) (by simp [results, Tryd.results39, go_sem, j4, j5, j6]) rfl ⟨none, 0, rfl, hbs, row_nil _ _ _, fun a ha => by cases ha⟩
  | true =>
  have hK : K ≠ K' := by
    rcases hno with e | e | e
    · rw [hs] at e; cases e
    · rw [hs'] at e; cases e
    · exact e
  have hKb : (K != K') = true := by simpa using hK
  rw [hs] at c51
  rw [hs'] at c51'
  replace c51 := Lib.hid c51
  replace c51' := Lib.hid c51'
  replace hK := Lib.hid hK
  clear hs hs' hV hno hv
  go_enter Tryd.func39, Tryd.ntmps39
  go_wp2_with fail
  refine (c21.out _ hst.out).mono ?_
  rintro e w1 ⟨rfl, hb1⟩
  have hw1 := hst.out.call hb1
  clear hb1
  have q0 := hw1.bay.c0
  have q1 := hw1.bay.c1
  have q2 := hw1.bay.c2
  have q3 := hw1.bay.c3
  have p0 := hw1.fst.c0
  have p1 := hw1.fst.c1
  have p2 := hw1.fst.c2
  go_wp2_with fail
  refine (c51.out _ hw1).mono ?_
  rintro e w2 ⟨rfl, hb2⟩
  have hw2 := hw1.call hb2
  clear hb2 hw1 q0 q1 q2 q3 p0 p1 p2
  have q0 := hw2.bay.c0
  have q1 := hw2.bay.c1
  have q2 := hw2.bay.c2
  have q3 := hw2.bay.c3
  have p0 := hw2.snd.c0
  have p1 := hw2.snd.c1
  have p2 := hw2.snd.c2
  go_wp2_with fail
  refine (c51'.out _ hw2).mono ?_
  rintro e w3 ⟨rfl, hb3⟩
  have hw3 := hw2.call hb3
  clear hb3 hw2 q0 q1 q2 q3 p0 p1 p2
  have p0 := hw3.fst.c0
  have q0 := hw3.snd.c0
  have t := hw3.res
  have j1 := t.c0
  have j2 := t.c1
  have j3 := t.c2
  have f1 := t.fz 0
  have f2 := t.fz 1
  have f3 := t.fz 2
  have ts := t.set (.int .i64 0) (.slice none 0 0) (.int .i64 0)
  have j4 := ts.c0
  have j5 := ts.c1
  have j6 := ts.c2
  have hbs := tri_below (x := .int .i64 0) (y := .slice none 0 0) (z := .int .i64 0) hw3.below (show w.heap.size ≤ w.heap.size + 1 + 1 + 1 by omega)
  clear hw3
  go_wp2
  exact bodyPost_ret (v := .tuple #[.agg #[.int .i64 0, .slice none 0 0, .int .i64 0], .int .i64 21]) (by simp [results, Tryd.results39, go_sem, j4, j5, j6]) rfl ⟨none, 0, rfl, hbs, row_nil _ _ _, fun a ha => by cases ha⟩

set_option maxRecDepth 100000 in
set_option maxHeartbeats 8000000 in
theorem SumRef_ok (B : Nat) (W H : Int) (aL aS aO aO' : Option Addr) (cL cS cO cO' : Nat) (L : List Bool) (n : Nat) (S : List Int) (K : Int) (O O' : List Int) (aw aw' : Int) (w : World) (h : BayIn w B aL L aS n S) (hO : Row w B aO O) (hO' : Row w B aO' O') (hB : B ≤ w.heap.size) (hv : validB W H L n S = true) (hs : slkB L.length K O aw = true) (hs' : slkB L.length K O' aw' = true) (R : Int × List Int × Int × Int) (hR : R = if slkB L.length K (ad O.length O O') (aw + aw') = true then (K, ad O.length O O', aw + aw', 0) else (0, [], 0, 21)) :
    Calls Tryd.prog 39 #[.agg #[.int .i64 W, .int .i64 H, .slice aL L.length cL, .slice aS n cS], .agg #[.int .i64 K, .slice aO O.length cO, .int .i64 aw], .agg #[.int .i64 K, .slice aO' O'.length cO', .int .i64 aw']] w (SlkRes w R) := by
  obtain ⟨i3, ji, jz0, jz1, jz2⟩ := info_parts info3
  replace ji := Lib.hid ji
  replace jz0 := Lib.hid jz0
  replace jz1 := Lib.hid jz1
  replace jz2 := Lib.hid jz2
  have hst := sumW_start w (.int .i64 W) (.int .i64 H) (.slice aL L.length cL) (.slice aS n cS) (.int .i64 K) (.slice aO O.length cO) (.int .i64 aw) (.int .i64 K) (.slice aO' O'.length cO') (.int .i64 aw')
  have hV := val_of hv
  have h36 : L.length ≤ 36 := by
    have := hV.2.1.1
    have := Int.mul_le_mul hV.1.1.2 hV.1.2.2 (by have := hV.1.2.1; omega) (by omega)
    omega
  have c21 : ∀ X, SumW w (.int .i64 W) (.int .i64 H) (.slice aL L.length cL) (.slice aS n cS) (.int .i64 K) (.slice aO O.length cO) (.int .i64 aw) (.int .i64 K) (.slice aO' O'.length cO') (.int .i64 aw') X → Calls Tryd.prog 21 #[.agg #[.int .i64 W, .int .i64 H, .slice aL L.length cL, .slice aS n cS]] X fun e X' => e = .returned (.bool true) ∧ Below X.heap.size X X' := fun X hX => by
    rw [← hv]
    exact Valid_ref B W H aL aS cL cS L n S X (h.below (hX.below.mono hB)) (Nat.le_trans hB hX.below.size)
  have c51 : ∀ X, SumW w (.int .i64 W) (.int .i64 H) (.slice aL L.length cL) (.slice aS n cS) (.int .i64 K) (.slice aO O.length cO) (.int .i64 aw) (.int .i64 K) (.slice aO' O'.length cO') (.int .i64 aw') X → Calls Tryd.prog 51 #[.agg #[.int .i64 W, .int .i64 H, .slice aL L.length cL, .slice aS n cS], .agg #[.int .i64 K, .slice aO O.length cO, .int .i64 aw]] X fun e X' => e = .returned (.bool true) ∧ Below X.heap.size X X' := fun X hX => by
    rw [← hs]
    exact Is_any B W H aL aS aO cL cS cO L.length n K O aw X (hO.below (hX.below.mono hB)) (Nat.le_trans hB hX.below.size) hV.2.1.1 h36
  have c51' : ∀ X, SumW w (.int .i64 W) (.int .i64 H) (.slice aL L.length cL) (.slice aS n cS) (.int .i64 K) (.slice aO O.length cO) (.int .i64 aw) (.int .i64 K) (.slice aO' O'.length cO') (.int .i64 aw') X → Calls Tryd.prog 51 #[.agg #[.int .i64 W, .int .i64 H, .slice aL L.length cL, .slice aS n cS], (.agg #[.int .i64 K, .slice aO' O'.length cO', .int .i64 aw'])] X fun e X' => e = .returned (.bool true) ∧ Below X.heap.size X X' := fun X hX => by
    rw [← hs']
    exact Is_any B W H aL aS aO' cL cS cO' L.length n K O' aw' X (hO'.below (hX.below.mono hB)) (Nat.le_trans hB hX.below.size) hV.2.1.1 h36
  have lO : O.length = L.length := (slk_of hs).1
  have lO' : O'.length = O.length := by rw [(slk_of hs').1, lO]
  have hP := (slk_of hs).2
  have hP' := (slk_of hs').2
  have rT := slk_tot hP
  have rT' := slk_tot hP'
  have hb1 : ∀ i, i < O.length → (0 ≤ el O i ∧ el O i ≤ 1000000000000) ∧ 0 ≤ el O' i ∧ el O' i ≤ 1000000000000 := fun i hi => by
    have p1 := hP.2.1 i (by rw [amt_len]; omega)
    have p2 := hP'.2.1 i (by rw [amt_len]; omega)
    have q1 := el_le_tot hP.2.1 i (by rw [amt_len]; omega)
    have q2 := el_le_tot hP'.2.1 i (by rw [amt_len]; omega)
    rw [amt_el _ _ _ (by omega)] at p1 q1 p2 q2
    omega
  have hb2 : (0 ≤ aw ∧ aw ≤ 1000000000000) ∧ 0 ≤ aw' ∧ aw' ≤ 1000000000000 := by
    have p1 := hP.2.1 O.length (by rw [amt_len]; omega)
    have p2 := hP'.2.1 O'.length (by rw [amt_len]; omega)
    have q1 := el_le_tot hP.2.1 O.length (by rw [amt_len]; omega)
    have q2 := el_le_tot hP'.2.1 O'.length (by rw [amt_len]; omega)
    rw [amt_away] at p1 q1 p2 q2
    omega
  have hal : (ad O.length O O').length = O.length := ad_len _ _ _
  have c51o : ∀ X A c, SumW w (.int .i64 W) (.int .i64 H) (.slice aL L.length cL) (.slice aS n cS) (.int .i64 K) (.slice aO O.length cO) (.int .i64 aw) (.int .i64 K) (.slice aO' O'.length cO') (.int .i64 aw') X → Row X X.heap.size A (ad O.length O O') → Calls Tryd.prog 51 #[.agg #[.int .i64 W, .int .i64 H, .slice aL L.length cL, .slice aS n cS], .agg #[.int .i64 K, .slice A O.length c, .int .i64 (aw + aw')]] X fun e X' => e = .returned (.bool (slkB L.length K (ad O.length O O') (aw + aw'))) ∧ Below X.heap.size X X' := fun X A c hX hr => by
    have h1 := Is_any X.heap.size W H aL aS A cL cS c L.length n K (ad O.length O O') (aw + aw') X hr (Nat.le_refl _) hV.2.1.1 h36
    rw [hal] at h1
    exact h1
  have hO36 : O.length ≤ 36 := by omega
  generalize slkB L.length K (ad O.length O O') (aw + aw') = sb at c51o hR
  replace c21 := Lib.hid c21
  replace hst := Lib.hid hst
  replace c51 := Lib.hid c51
  replace c51' := Lib.hid c51'
  replace c51o := Lib.hid c51o
  replace hb1 := Lib.hid hb1
  replace hR := Lib.hid hR
  have hlI : (O.length : Int) ≤ (O'.length : Nat) := by omega
  replace lO := Lib.hid lO
  replace lO' := Lib.hid lO'
  replace hal := Lib.hid hal
  clear hP hP' rT rT' hs hs' hV hv
  go_enter Tryd.func39, Tryd.ntmps39
  go_wp2_with fail
  refine (c21.out _ hst.out).mono ?_
  rintro e w1 ⟨rfl, hb1'⟩
  have hw1 := hst.out.call hb1'
  clear hb1'
  have q0 := hw1.bay.c0
  have q1 := hw1.bay.c1
  have q2 := hw1.bay.c2
  have q3 := hw1.bay.c3
  have p0 := hw1.fst.c0
  have p1 := hw1.fst.c1
  have p2 := hw1.fst.c2
  go_wp2_with fail
  refine (c51.out _ hw1).mono ?_
  rintro e w2 ⟨rfl, hb2'⟩
  have hw2 := hw1.call hb2'
  clear hb2' hw1 q0 q1 q2 q3 p0 p1 p2
  have q0 := hw2.bay.c0
  have q1 := hw2.bay.c1
  have q2 := hw2.bay.c2
  have q3 := hw2.bay.c3
  have p0 := hw2.snd.c0
  have p1 := hw2.snd.c1
  have p2 := hw2.snd.c2
  go_wp2_with fail
  refine (c51'.out _ hw2).mono ?_
  rintro e w3 ⟨rfl, hb3⟩
  have hw3 := hw2.call hb3
  clear hb3 hw2 q0 q1 q2 q3 p0 p1 p2
  have p0 := hw3.fst.c0
  have p1 := hw3.fst.c1
  have p2 := hw3.fst.c2
  have q0 := hw3.snd.c0
  have q1 := hw3.snd.c1
  have q2 := hw3.snd.c2
  have hstart : RSW w (.int .i64 W) (.int .i64 H) (.slice aL L.length cL) (.slice aS n cS) (.int .i64 K) (.slice aO O.length cO) (.int .i64 aw) (.int .i64 K) (.slice aO' O'.length cO') (.int .i64 aw') w3.heap.size (.int .i64 K) (.slice none 0 0) (.int .i64 (aw + aw')) (ad 0 O O') (w3.alloc (.cells #[.int .i64 K, .slice none 0 0, .int .i64 (aw + aw')] 28)) :=
    ⟨hw3.alloc _, Tri.new _ _ _ _, World.ownsRow_nil _ _ _ _, hw3.size, (by intro e; cases e)⟩
  replace hstart := Lib.hid hstart
  replace hw3 := Lib.hid hw3
  go_wp2
  go_loopw [9] (fun i X => ∃ (k : Nat) (vl : Value), k ≤ O.length ∧ i = .int .i64 k ∧ RSW w (.int .i64 W) (.int .i64 H) (.slice aL L.length cL) (.slice aS n cS) (.int .i64 K) (.slice aO O.length cO) (.int .i64 aw) (.int .i64 K) (.slice aO' O'.length cO') (.int .i64 aw') w3.heap.size (.int .i64 K) vl (.int .i64 (aw + aw')) (ad k O O') X) (fun i _ => O.length - (intOf i).toNat)
  case atStart => exact ⟨0, _, Nat.zero_le _, rfl, hstart.out⟩
  case round =>
    clear hstart p0 p1 p2 q0 q1 q2
    obtain ⟨k, vl, hk, rfl, hX⟩ := hrel
    have p1 := hX.sw.fst.c1
    by_cases hlt : k < O.length
    · have hkI : (k : Int) < (O.length : Nat) := by omega
      have hkI' : (k : Int) < (O'.length : Nat) := by omega
      obtain ⟨b, o, rfl, hbl, hc⟩ := (hO.below (hX.sw.below.mono hB)).at_ k hlt
      obtain ⟨b', o', rfl, hbl', hc'⟩ := (hO'.below (hX.sw.below.mono hB)).at_ k (by omega)
      have q1 := hX.sw.snd.c1
      have o1 := hX.out.c1
      have bo := hX.out.lt
      have hbd := hb1.out k hlt
      have hwr : IntKind.i64.wrap (el O k + el O' k) = el O k + el O' k := IntWalk.i64_in _ (by omega)
      have hsn : vals (ad (k + 1) O O') = vals (ad k O O') ++ [.int .i64 (el O k + el O' k)] := vals_snoc _ _
      have hlk : (ad k O O').length = k := ad_len _ _ _
      have hlk1 : (ad (k + 1) O O').length = k + 1 := ad_len _ _ _
      generalize hx : el O k = x at *
      generalize hy : el O' k = y at *
      obtain ⟨v, hv⟩ : ∃ v, v = x + y := ⟨_, rfl⟩
      rw [← hv] at hwr hsn
      have hW0 : RSW w (.int .i64 W) (.int .i64 H) (.slice aL L.length cL) (.slice aS n cS) (.int .i64 K) (.slice (some ⟨b, o, none⟩) O.length cO) (.int .i64 aw) (.int .i64 K) (.slice (some ⟨b', o', none⟩) O'.length cO') (.int .i64 aw') w3.heap.size (.int .i64 K) vl (.int .i64 (aw + aw')) (ad k O O') wr.drew := hX.call (below_drewN (Below.refl _ wr) 1)
      have hW1 : RSW w (.int .i64 W) (.int .i64 H) (.slice aL L.length cL) (.slice aS n cS) (.int .i64 K) (.slice (some ⟨b, o, none⟩) O.length cO) (.int .i64 aw) (.int .i64 K) (.slice (some ⟨b', o', none⟩) O'.length cO') (.int .i64 aw') w3.heap.size (.int .i64 K) vl (.int .i64 (aw + aw')) (ad k O O') ((wr.alloc (.cells #[.int .i64 v] 3)).drew) := hX.call (below_drewN (ba1 wr (.cells #[.int .i64 v] 3)) 1)
      have own1 : ((wr.alloc (.cells #[.int .i64 v] 3)).drew).ownsRow (w.heap.size + 4) 3 1 vl k (vals (ad k O O')) := by have := hW1.own; rw [hlk] at this; exact this
      have news1 : ∀ j u, [Value.int .i64 v][j]? = some u → ((wr.alloc (.cells #[.int .i64 v] 3)).drew).cell? ((⟨wr.heap.size, 0, none⟩ : Addr).add j) = some u :=
        World.news_of_block (w := (wr.alloc (.cells #[.int .i64 v] 3)).drew) (World.alloc_heap_new wr (.cells #[.int .i64 v] 3))
      have hz : w.heap.size + 4 ≤ wr.heap.size := hX.sw.size
      have hcw : w.cell? ⟨b, o + k, none⟩ = some (.int .i64 x) := by obtain ⟨b0, o0, e0, _, hcw⟩ := hO.at_ k hlt; cases e0; rw [hx] at hcw; exact hcw
      have hcw' : w.cell? ⟨b', o' + k, none⟩ = some (.int .i64 y) := by obtain ⟨b0, o0, e0, _, hcw⟩ := hO'.at_ k (by omega); cases e0; rw [hy] at hcw; exact hcw
      have hS : ∀ X, SumW w (.int .i64 W) (.int .i64 H) (.slice aL L.length cL) (.slice aS n cS) (.int .i64 K) (.slice (some ⟨b, o, none⟩) O.length cO) (.int .i64 aw) (.int .i64 K) (.slice (some ⟨b', o', none⟩) O'.length cO') (.int .i64 aw') X → (X.cell? ⟨w.heap.size + 1, 1, none⟩ = some (.slice (some ⟨b, o, none⟩) O.length cO) ∧ X.cell? ⟨w.heap.size + 1 + 1, 1, none⟩ = some (.slice (some ⟨b', o', none⟩) O'.length cO') ∧ X.cell? ⟨b, o + k, none⟩ = some (.int .i64 x) ∧ X.cell? ⟨b', o' + k, none⟩ = some (.int .i64 y)) := fun X hX => ⟨hX.fst.c1, hX.snd.c1, (hX.below.cell (p := ⟨b, o + k, none⟩) (show b < w.heap.size by omega)).trans hcw, (hX.below.cell (p := ⟨b', o' + k, none⟩) (show b' < w.heap.size by omega)).trans hcw'⟩
      have rest : ∀ g cap w4, w4.ownsRow (w.heap.size + 4) 3 1 (.slice (some ⟨g, 0, none⟩) (k + 1) cap) (k + 1) (vals (ad k O O') ++ [.int .i64 v]) → ((wr.alloc (.cells #[.int .i64 v] 3)).drew).grownBy w4 vl.ownBlock → (vl.ownBlock = some g ∨ g = ((wr.alloc (.cells #[.int .i64 v] 3)).drew).heap.size) →
          w4.cell? ⟨w3.heap.size, 1, none⟩ = some vl ∧ w4.frozen? ⟨w3.heap.size, 1, none⟩ = false ∧ SumW w (.int .i64 W) (.int .i64 H) (.slice aL L.length cL) (.slice aS n cS) (.int .i64 K) (.slice (some ⟨b, o, none⟩) O.length cO) (.int .i64 aw) (.int .i64 K) (.slice (some ⟨b', o', none⟩) O'.length cO') (.int .i64 aw') w4 ∧ RSW w (.int .i64 W) (.int .i64 H) (.slice aL L.length cL) (.slice aS n cS) (.int .i64 K) (.slice (some ⟨b, o, none⟩) O.length cO) (.int .i64 aw) (.int .i64 K) (.slice (some ⟨b', o', none⟩) O'.length cO') (.int .i64 aw') w3.heap.size (.int .i64 K) (.slice (some ⟨g, 0, none⟩) (k + 1) cap) (.int .i64 (aw + aw')) (ad (k + 1) O O') (w4.setCell ⟨w3.heap.size, 1, none⟩ (.slice (some ⟨g, 0, none⟩) (k + 1) cap)) := fun g cap w4 ho hg hat => by
        have hlo : ∀ x, vl.ownBlock = some x → w.heap.size + 4 ≤ x := fun x hx => (hW1.own.lt x hx).1
        have t := tri_grown hW1.out hg hW1.far
        exact ⟨t.c1, t.fz 1, hW1.sw.keep (hW1.sw.below.grown hg hW1.sw.below.size (fun x hx => by have := hlo x hx; omega)) hg.size (fun d hd => hg.block d (Nat.lt_of_lt_of_le hd hW1.sw.size) (fun e => by have := hlo d e.symm; omega)), hW1.step hlk1 (by rw [hsn]; exact ho) hg hat⟩
      have k0 := hS _ hW0.sw
      have k1 := hS _ hW1.sw
      have hwr' : IntKind.i64.wrap (x + y) = v := by rw [← hv]; exact hwr
      have hbo' : w3.heap.size ≠ wr.heap.size := by omega
      replace hwr := Lib.hid hwr
      replace hv := Lib.hid hv
      replace hsn := Lib.hid hsn
      replace hlk := Lib.hid hlk
      replace hlk1 := Lib.hid hlk1
      replace hx := Lib.hid hx
      replace hy := Lib.hid hy
      replace own1 := Lib.hid own1
      replace news1 := Lib.hid news1
      replace rest := Lib.hid rest
      replace hS := Lib.hid hS
      clear hW0 hW1 hX hcw hcw' hc hc'
      go_wp2
      go_region_law
        (first | (refine step_append_lies _ rfl (.tmp 48) (.tmp 60) 26 rfl (w.heap.size + 4) 3 i3 (.int .i64 0) 1 8 Tryd.underlying26 ji.out jz0.out jz1.out jz2.out rfl (by decide) _ k _ rfl own1.out ⟨wr.heap.size, 0, none⟩ 1 1 [.int .i64 v] rfl rfl news1.out (fun u hu => by cases List.mem_singleton.1 hu; rfl) (by omega) (by unfold maxLen; omega) (by omega) (by simp; omega) _ rfl ?_; intro g cap w4 hown4 hgrow4 hat4 hlt4; obtain ⟨c4, f4, s4, m4⟩ := rest.out g cap w4 hown4 hgrow4 hat4; have k2 := hS.out _ s4; have k3 := hS.out _ m4.sw; clear hown4 hgrow4 hat4 hlt4))
      all_goals
        go_wp2
        go_roundw
        case rel => exact ⟨k + 1, _, by omega, by go_num, m4⟩
        case measure => simp [intOf]; omega
    · have hk' : k = O.length := by omega
      subst hk'
      have hkI : ¬ (O.length : Int) < (O.length : Nat) := by omega
      obtain ⟨A, c, hvl, hr⟩ := own_row hX.own (by rw [hal.out]; omega)
      rw [hal.out] at hvl
      subst hvl
      have hfr4 : ∀ a, A = some a → w.heap.size + 4 ≤ a.block := fun a ha => (hX.own.lt a.block (by rw [ha]; rfl)).1
      have hfr : Fresh w.heap.size A := fun a ha => by
        have := (hX.own.lt a.block (by rw [ha]; rfl)).1
        omega
      have q0 := hX.sw.bay.c0
      have q1 := hX.sw.bay.c1
      have q2 := hX.sw.bay.c2
      have q3 := hX.sw.bay.c3
      have o0 := hX.out.c0
      have o1 := hX.out.c1
      have o2 := hX.out.c2
      go_wp2_with fail
      refine (c51o.out _ A c hX.sw hr).mono ?_
      rintro e w5 ⟨rfl, hb5⟩
      have hw5 := hX.sw.call hb5
      have t5 := hX.out.up hb5
      have r5 := hr.up hb5
      clear q0 q1 q2 q3 o0 o1 o2 hX hr hb5
      cases sb with
      | false =>
        have hR0 : R = (0, [], 0, 21) := by rw [hR.out]; rfl
        subst hR0
        have t := hw5.res
        have j1 := t.c0
        have j2 := t.c1
        have j3 := t.c2
        have f1 := t.fz 0
        have f2 := t.fz 1
        have f3 := t.fz 2
        have ts := t.set (.int .i64 0) (.slice none 0 0) (.int .i64 0)
        have j4 := ts.c0
        have j5 := ts.c1
        have j6 := ts.c2
        have hbs := tri_below (x := .int .i64 0) (y := .slice none 0 0) (z := .int .i64 0) hw5.below (show w.heap.size ≤ w.heap.size + 1 + 1 + 1 by omega)
        clear hw5
        go_wp2
        exact bodyPost_ret (v := .tuple #[.agg #[.int .i64 0, .slice none 0 0, .int .i64 0], .int .i64 21]) (by simp [results, Tryd.results39, go_sem, j4, j5, j6]) rfl ⟨none, 0, rfl, hbs, row_nil _ _ _, fun a ha => by cases ha⟩
      | true =>
        have hR0 : R = (K, ad O.length O O', aw + aw', 0) := by rw [hR.out]; rfl
        subst hR0
        have t := hw5.res
        have j1 := t.c0
        have j2 := t.c1
        have j3 := t.c2
        have f1 := t.fz 0
        have f2 := t.fz 1
        have f3 := t.fz 2
        have o0 := t5.c0
        have o1 := t5.c1
        have o2 := t5.c2
        have ts := t.set (.int .i64 K) (.slice A O.length c) (.int .i64 (aw + aw'))
        have j4 := ts.c0
        have j5 := ts.c1
        have j6 := ts.c2
        have hbs := tri_below (x := .int .i64 K) (y := .slice A O.length c) (z := .int .i64 (aw + aw')) hw5.below (show w.heap.size ≤ w.heap.size + 1 + 1 + 1 by omega)
        have hz4 := hw5.size
        have rr : Row (((w5.setCell ⟨w.heap.size + 1 + 1 + 1, 0, none⟩ (.int .i64 K)).setCell ⟨w.heap.size + 1 + 1 + 1, 1, none⟩ (.slice A O.length c)).setCell ⟨w.heap.size + 1 + 1 + 1, 2, none⟩ (.int .i64 (aw + aw'))) (((w5.setCell ⟨w.heap.size + 1 + 1 + 1, 0, none⟩ (.int .i64 K)).setCell ⟨w.heap.size + 1 + 1 + 1, 1, none⟩ (.slice A O.length c)).setCell ⟨w.heap.size + 1 + 1 + 1, 2, none⟩ (.int .i64 (aw + aw'))).heap.size A (ad O.length O O') :=
          row_other' r5 (set3_block' w5 _ _ _ _) (fun a ha => by have := hfr4 a ha; omega) (by simp [World.setCell])
        replace rr := Lib.hid rr
        clear hw5 t5 t ts r5
        go_wp2
        exact bodyPost_ret (v := .tuple #[.agg #[.int .i64 K, .slice A O.length c, .int .i64 (aw + aw')], .int .i64 0]) (by simp [results, Tryd.results39, go_sem, j4, j5, j6]) rfl ⟨A, c, by dsimp only; rw [hal.out], hbs, rr.out, hfr⟩

end Go.Proofs.YtnbgjgiknfcdkaaDoor
