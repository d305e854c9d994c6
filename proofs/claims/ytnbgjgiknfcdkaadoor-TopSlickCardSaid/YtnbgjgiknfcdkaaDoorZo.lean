/-
  The specification's 'Cost', 'One' and 'Before'.
-/
import Derived.Test.YtnbgjgiknfcdkaaDoorZn
import Derived.Test.YtnbgjgiknfcdkaaDoorZk
import Derived.Test.YtnbgjgiknfcdkaaDoorZf
namespace Go.Proofs.YtnbgjgiknfcdkaaDoor
open Go.RowKit Go.Deep M
set_option linter.unusedVariables false
set_option linter.unusedSimpArgs false

set_option maxRecDepth 100000 in
set_option maxHeartbeats 4000000 in
theorem CostR_any (B : Nat) (W H : Int) (aL aS aO aP : Option Addr) (cL cS cO cP : Nat) (L : List Bool) (n : Nat) (S : List Int) (K : Int) (O : List Int) (aw : Int) (P : List Int) (w : World) (h : BayIn w B aL L aS n S) (hO : Row w B aO O) (hP : Row w B aP P) (hB : B ≤ w.heap.size) (h100 : O.length ≤ 100) :
    Calls Tryd.prog 35 #[.agg #[.int .i64 W, .int .i64 H, .slice aL L.length cL, .slice aS n cS], .agg #[.int .i64 K, .slice aO O.length cO, .int .i64 aw], .slice aP P.length cP] w fun e w' => e = .returned (.tuple #[.int .i64 (cosR W H L n S K O aw P).1, .int .i64 (cosR W H L n S K O aw P).2]) ∧ Below w.heap.size w w' := by
  have hst := coW_start w (.int .i64 W) (.int .i64 H) (.slice aL L.length cL) (.slice aS n cS) (.int .i64 K) (.slice aO O.length cO) (.int .i64 aw)
  have c65 := fun X (hX : CoW w (.int .i64 W) (.int .i64 H) (.slice aL L.length cL) (.slice aS n cS) (.int .i64 K) (.slice aO O.length cO) (.int .i64 aw) X) => asked_ref B W H aL aS aO cL cS cO L n S K O aw X (h.below (hX.below.mono hB)) (hO.below (hX.below.mono hB)) (Nat.le_trans hB hX.below.size) h100
  have g := hst
  cases hv : validB W H L n S with
  | false =>
    have hr : cosR W H L n S K O aw P = (0, 20) := by unfold cosR; rw [hv]; rfl
    rw [hr]
    rw [askE_20 hv] at c65
    clear g hv
    replace c65 := Lib.hid c65
    replace hst := Lib.hid hst
    have hs0 := hst.out
    have g0 := hs0.bay.c0
    have g1 := hs0.bay.c1
    have g2 := hs0.bay.c2
    have g3 := hs0.bay.c3
    have t0 := hs0.slk.c0
    have t1 := hs0.slk.c1
    have t2 := hs0.slk.c2
    go_enter Tryd.func35, Tryd.ntmps35
    go_wp2_with fail
    refine (c65.out _ hs0).mono ?_
    rintro e w1 ⟨rfl, hb1⟩
    have hbb := (hs0.call hb1).below
    clear hb1 hs0 g0 g1 g2 g3 t0 t1 t2
    go_wp2
    go_ret2
    exact ⟨rfl, hbb⟩
  | true =>
  cases hs : slkB L.length K O aw with
  | false =>
    have hr : cosR W H L n S K O aw P = (0, 21) := by unfold cosR; rw [hv, hs]; rfl
    rw [hr]
    rw [askE_21 hv hs] at c65
    clear g hv hs
    replace c65 := Lib.hid c65
    replace hst := Lib.hid hst
    have hs0 := hst.out
    have g0 := hs0.bay.c0
    have g1 := hs0.bay.c1
    have g2 := hs0.bay.c2
    have g3 := hs0.bay.c3
    have t0 := hs0.slk.c0
    have t1 := hs0.slk.c1
    have t2 := hs0.slk.c2
    go_enter Tryd.func35, Tryd.ntmps35
    go_wp2_with fail
    refine (c65.out _ hs0).mono ?_
    rintro e w1 ⟨rfl, hb1⟩
    have hbb := (hs0.call hb1).below
    clear hb1 hs0 g0 g1 g2 g3 t0 t1 t2
    go_wp2
    go_ret2
    exact ⟨rfl, hbb⟩
  | true =>
  rw [askE_0 hv hs] at c65
  have hV := val_of hv
  have h36 : L.length ≤ 36 := by
    have := hV.2.1.1
    have := Int.mul_le_mul hV.1.1.2 hV.1.2.2 (by have := hV.1.2.1; omega) (by omega)
    omega
  have c53 := fun X (hX : CoW w (.int .i64 W) (.int .i64 H) (.slice aL L.length cL) (.slice aS n cS) (.int .i64 K) (.slice aO O.length cO) (.int .i64 aw) X) => ArePrices_ref B W H aL aS aP cL cS cP L.length n L.length P X (hP.below (hX.below.mono hB)) (Nat.le_trans hB hX.below.size) hV.2.1.1 h36
  cases hp : pricesB L.length P with
  | false =>
    have hr : cosR W H L n S K O aw P = (0, 2) := by unfold cosR; rw [hv, hs, hp]; rfl
    rw [hr]
    rw [hp] at c53
    clear g hv hs hp hV
    replace c65 := Lib.hid c65
    replace c53 := Lib.hid c53
    replace hst := Lib.hid hst
    have hs0 := hst.out
    have g0 := hs0.bay.c0
    have g1 := hs0.bay.c1
    have g2 := hs0.bay.c2
    have g3 := hs0.bay.c3
    have t0 := hs0.slk.c0
    have t1 := hs0.slk.c1
    have t2 := hs0.slk.c2
    go_enter Tryd.func35, Tryd.ntmps35
    go_wp2_with fail
    refine (c65.out _ hs0).mono ?_
    rintro e w1 ⟨rfl, hb1⟩
    have hs1 := hs0.call hb1
    clear hb1 hs0 g0 g1 g2 g3 t0 t1 t2
    have g0 := hs1.bay.c0
    have g1 := hs1.bay.c1
    have g2 := hs1.bay.c2
    have g3 := hs1.bay.c3
    go_wp2_with fail
    refine (c53.out _ hs1).mono ?_
    rintro e w2 ⟨rfl, hb2⟩
    have hbb := (hs1.call hb2).below
    clear hb2 hs1 g0 g1 g2 g3
    go_wp2
    go_ret2
    exact ⟨rfl, hbb⟩
  | true =>
    have hr : cosR W H L n S K O aw P = (cst (amt O aw) P, 0) := by unfold cosR; rw [hv, hs, hp]; rfl
    rw [hr]
    rw [hp] at c53
    have hOl : O.length = L.length := (slk_of hs).1
    have hpo := prices_of hp
    have hsp := (slk_of hs).2
    have htt := slk_tot hsp
    have hal : (amt O aw).length = L.length + 1 := by rw [amt_len, hOl]
    have hmul : ∀ i, i < L.length + 1 → 0 ≤ el (amt O aw) i * el P i ∧ el (amt O aw) i * el P i ≤ 1000000000000000 := fun i hi => by
      have e1 := hsp.2.1 i (by omega)
      have e2 := el_le_tot hsp.2.1 i (by omega)
      have e3 := hpo.2 i (by omega)
      refine ⟨Int.mul_nonneg e1 e3.1, ?_⟩
      have := Int.mul_le_mul (show el (amt O aw) i ≤ 1000000000000 by omega) e3.2 e3.1 (by omega)
      omega
    have c54 : ∀ X, CoW w (.int .i64 W) (.int .i64 H) (.slice aL L.length cL) (.slice aS n cS) (.int .i64 K) (.slice aO O.length cO) (.int .i64 aw) X → Calls Tryd.prog 54 #[.agg #[.int .i64 K, .slice aO O.length cO, .int .i64 aw], .slice aP P.length cP] X fun e w' => e = .returned (.int .i64 (cst (amt O aw) P)) ∧ Below X.heap.size X w' := fun X hX => by
      have h1 := Priced_ref B aO aP cO cP L.length K O aw P X (hO.below (hX.below.mono hB)) (hP.below (hX.below.mono hB)) (Nat.le_trans hB hX.below.size) hOl hpo.1 h36 hmul
      rw [← hpo.1, ← hOl] at h1
      exact h1
    generalize cst (amt O aw) P = cc at *
    clear g hv hs hp hV hOl hpo hsp htt hal hmul hr
    replace c65 := Lib.hid c65
    replace c53 := Lib.hid c53
    replace c54 := Lib.hid c54
    replace hst := Lib.hid hst
    have hs0 := hst.out
    have g0 := hs0.bay.c0
    have g1 := hs0.bay.c1
    have g2 := hs0.bay.c2
    have g3 := hs0.bay.c3
    have t0 := hs0.slk.c0
    have t1 := hs0.slk.c1
    have t2 := hs0.slk.c2
    go_enter Tryd.func35, Tryd.ntmps35
    go_wp2_with fail
    refine (c65.out _ hs0).mono ?_
    rintro e w1 ⟨rfl, hb1⟩
    have hs1 := hs0.call hb1
    clear hb1 hs0 g0 g1 g2 g3 t0 t1 t2
    have g0 := hs1.bay.c0
    have g1 := hs1.bay.c1
    have g2 := hs1.bay.c2
    have g3 := hs1.bay.c3
    go_wp2_with fail
    refine (c53.out _ hs1).mono ?_
    rintro e w2 ⟨rfl, hb2⟩
    have hs2 := hs1.call hb2
    clear hb2 hs1 g0 g1 g2 g3
    have t0 := hs2.slk.c0
    have t1 := hs2.slk.c1
    have t2 := hs2.slk.c2
    go_wp2_with fail
    refine (c54.out _ hs2).mono ?_
    rintro e w3 ⟨rfl, hb3⟩
    have hbb := (hs2.call hb3).below
    clear hb3 hs2 t0 t1 t2
    go_wp2
    go_ret2
    exact ⟨rfl, hbb⟩

/-! ### one part of oil in a place -/
def oneF (i j : Nat) : Int := if j = i then 1 else 0
def one (m i : Nat) : List Int := mk (oneF i) (m + 1)
theorem one_len (m i : Nat) : (one m i).length = m + 1 := mk_len _ _
theorem one_el {m i j : Nat} (h : j ≤ m) : el (one m i) j = oneF i j := mk_el _ _ _ (by omega)
theorem one_tot {m i : Nat} (h : i ≤ m) : tot (one m i) = 1 := by
  unfold tot
  rw [one_len, sm_one (m + 1) i (by omega) (fun j hj hne => by rw [one_el (by omega)]; unfold oneF; rw [if_neg hne]), one_el h]
  unfold oneF
  rw [if_pos rfl]
theorem one_nonneg (m i : Nat) : NonNeg (one m i) := fun j hj => by
  rw [one_len] at hj
  rw [one_el (by omega)]
  unfold oneF
  split <;> omega
theorem one_cst {m i : Nat} (c : List Int) (h : i ≤ m) : M.cst (one m i) c (m + 1) = el c i := by
  unfold M.cst
  rw [sm_one (m + 1) i (by omega) (fun j hj hne => by rw [one_el (by omega)]; unfold oneF; rw [if_neg hne, Int.zero_mul]), one_el h]
  unfold oneF
  rw [if_pos rfl, Int.one_mul]
theorem cst_one {w h : Nat} {L : List Bool} {S : List Int} {i n : Nat} (c : List Int) (hi : i ≤ w * h) : cst (af w h L S n (one (w * h) i)) c = el (bf w h L S n c) i := by
  have e1 : cst (af w h L S n (one (w * h) i)) c = M.cst (af w h L S n (one (w * h) i)) c (w * h + 1) := by
    show sm _ _ = sm _ _
    rw [af_len (one_len _ _)]
  rw [e1, cst_af, one_cst _ hi]

structure OnW (w : World) (m : Nat) (x : Int) (f : Nat → Int) (W H l s : Value) (X : World) : Prop where
  below : Below w.heap.size w X
  bay : Quad X w.heap.size W H l s
  res : Tri X (w.heap.size + 1) (.int .i64 0) (.slice none 0 0) (.int .i64 0)
  row : X.rowIs (w.heap.size + 1 + 1) 3 m (fun j => .int .i64 (f j))
  box : Tri X (w.heap.size + 1 + 1 + 1) (.int .i64 0) (.slice (some ⟨w.heap.size + 1 + 1, 0, none⟩) m m) (.int .i64 x)

set_option maxRecDepth 100000 in
set_option maxHeartbeats 4000000 in
theorem One_ref (wn hn : Nat) (aL aS : Option Addr) (cL cS nL n m i : Nat) (w : World) (hm : m = wn * hn) (hw : wn ≤ 6) (hh : hn ≤ 6) (h36 : 1 ≤ m ∧ m ≤ 36) (hi : i ≤ m) :
    Calls Tryd.prog 57 #[.agg #[.int .i64 (wn : Nat), .int .i64 (hn : Nat), .slice aL nL cL, .slice aS n cS], .int .i64 (i : Nat)] w fun e w' => ∃ A c, e = .returned (.agg #[.int .i64 0, .slice A m c, .int .i64 (el (one m i) m)]) ∧ Below w.heap.size w w' ∧ Row w' w'.heap.size A (pre m (one m i)) := by
  have wm : IntKind.i64.wrap ((wn : Int) * hn) = (m : Int) := by rw [hm, ← Int.natCast_mul]; exact IntWalk.i64_in _ (by omega)
  have hmk := run_make_row' (P := Tryd.prog) 26 3 (.int .i64 0) 8 Tryd.underlying26 info3 rfl .i64 .i64 m (by omega) (by omega)
  have hst : OnW w m 0 (fun _ => 0) (.int .i64 (wn : Nat)) (.int .i64 (hn : Nat)) (.slice aL nL cL) (.slice aS n cS) ((((w.alloc (.cells #[.int .i64 (wn : Nat), .int .i64 (hn : Nat), .slice aL nL cL, .slice aS n cS] 25)).alloc (.cells #[.int .i64 0, .slice none 0 0, .int .i64 0] 28)).alloc (.cells (madeCells #[.int .i64 0] m) 3)).alloc (.cells #[.int .i64 0, .slice (some ⟨w.heap.size + 1 + 1, 0, none⟩) m m, .int .i64 0] 28)) := by
    obtain ⟨e0, e1, e2, e3, e4⟩ := h5 w (.cells #[.int .i64 (wn : Nat), .int .i64 (hn : Nat), .slice aL nL cL, .slice aS n cS] 25) (.cells #[.int .i64 0, .slice none 0 0, .int .i64 0] 28) (.cells (madeCells #[.int .i64 0] m) 3) (.cells #[.int .i64 0, .slice (some ⟨w.heap.size + 1 + 1, 0, none⟩) m m, .int .i64 0] 28) (.cells #[] 3)
    have t : ∀ b, b < w.heap.size + 4 → (((((w.alloc (.cells #[.int .i64 (wn : Nat), .int .i64 (hn : Nat), .slice aL nL cL, .slice aS n cS] 25)).alloc (.cells #[.int .i64 0, .slice none 0 0, .int .i64 0] 28)).alloc (.cells (madeCells #[.int .i64 0] m) 3)).alloc (.cells #[.int .i64 0, .slice (some ⟨w.heap.size + 1 + 1, 0, none⟩) m m, .int .i64 0] 28)).alloc (.cells #[] 3)).drew.heap[b]? = ((((w.alloc (.cells #[.int .i64 (wn : Nat), .int .i64 (hn : Nat), .slice aL nL cL, .slice aS n cS] 25)).alloc (.cells #[.int .i64 0, .slice none 0 0, .int .i64 0] 28)).alloc (.cells (madeCells #[.int .i64 0] m) 3)).alloc (.cells #[.int .i64 0, .slice (some ⟨w.heap.size + 1 + 1, 0, none⟩) m m, .int .i64 0] 28)).heap[b]? := fun b hb => by
      show (((((w.alloc (.cells #[.int .i64 (wn : Nat), .int .i64 (hn : Nat), .slice aL nL cL, .slice aS n cS] 25)).alloc (.cells #[.int .i64 0, .slice none 0 0, .int .i64 0] 28)).alloc (.cells (madeCells #[.int .i64 0] m) 3)).alloc (.cells #[.int .i64 0, .slice (some ⟨w.heap.size + 1 + 1, 0, none⟩) m m, .int .i64 0] 28)).alloc (.cells #[] 3)).heap[b]? = _
      simp only [World.alloc, Array.getElem?_push, Array.size_push]
      rw [if_neg (by omega)]
    rw [t _ (by omega)] at e0 e1 e2 e3
    exact ⟨ba4 _ _ _ _ _, e0, e1, rowIs_heap3 e2, e3⟩
  have hends : ∀ X x, OnW w m x (fun j => if j < m then oneF i j else 0) (.int .i64 (wn : Nat)) (.int .i64 (hn : Nat)) (.slice aL nL cL) (.slice aS n cS) X → x = el (one m i) m →
      ∃ A c, Ending.returned (.agg #[.int .i64 0, .slice (some ⟨w.heap.size + 1 + 1, 0, none⟩) m m, .int .i64 x]) = .returned (.agg #[.int .i64 0, .slice A m c, .int .i64 (el (one m i) m)]) ∧
        Below w.heap.size w (((X.setCell ⟨w.heap.size + 1, 0, none⟩ (.int .i64 0)).setCell ⟨w.heap.size + 1, 1, none⟩ (.slice (some ⟨w.heap.size + 1 + 1, 0, none⟩) m m)).setCell ⟨w.heap.size + 1, 2, none⟩ (.int .i64 x)) ∧
        Row (((X.setCell ⟨w.heap.size + 1, 0, none⟩ (.int .i64 0)).setCell ⟨w.heap.size + 1, 1, none⟩ (.slice (some ⟨w.heap.size + 1 + 1, 0, none⟩) m m)).setCell ⟨w.heap.size + 1, 2, none⟩ (.int .i64 x)) (((X.setCell ⟨w.heap.size + 1, 0, none⟩ (.int .i64 0)).setCell ⟨w.heap.size + 1, 1, none⟩ (.slice (some ⟨w.heap.size + 1 + 1, 0, none⟩) m m)).setCell ⟨w.heap.size + 1, 2, none⟩ (.int .i64 x)).heap.size A (pre m (one m i)) := fun X x hX hx => by
    subst hx
    have hr := hX.row.of_block (set3_but X (w.heap.size + 1) (.int .i64 0) (.slice (some ⟨w.heap.size + 1 + 1, 0, none⟩) m m) (.int .i64 (el (one m i) m)) (w.heap.size + 1 + 1) (by omega))
    refine ⟨_, _, rfl, tri_below hX.below (by omega), ⟨by rw [pre_len]; omega, fun _ => ⟨w.heap.size + 1 + 1, 0, rfl, hr.lt, fun j hj => ?_⟩⟩⟩
    rw [pre_len] at hj
    have e1 : el (pre m (one m i)) j = el (one m i) j := mk_el _ _ _ hj
    rw [Nat.zero_add, hr.cell hj, e1, one_el (by omega), if_pos hj]
  replace hends := Lib.hid hends
  replace hst := Lib.hid hst
  replace hm := Lib.hid hm
  go_enter Tryd.func57, Tryd.ntmps57
  go_upto_region 2 with fail
  have hX := hst.out
  clear hst hmk
  generalize ((((w.alloc (.cells #[.int .i64 (wn : Nat), .int .i64 (hn : Nat), .slice aL nL cL, .slice aS n cS] 25)).alloc (.cells #[.int .i64 0, .slice none 0 0, .int .i64 0] 28)).alloc (.cells (madeCells #[.int .i64 0] m) 3)).alloc (.cells #[.int .i64 0, .slice (some ⟨w.heap.size + 1 + 1, 0, none⟩) m m, .int .i64 0] 28)) = X at hX ⊢
  have g0 := hX.bay.c0
  have g1 := hX.bay.c1
  by_cases e : i = m
  · subst e
    have bf := hX.box.fz 2
    have b2 := hX.box.c2
    have hX2 : OnW w i 1 (fun j => if j < i then oneF i j else 0) (.int .i64 (wn : Nat)) (.int .i64 (hn : Nat)) (.slice aL nL cL) (.slice aS n cS) (X.setCell ⟨w.heap.size + 1 + 1 + 1, 2, none⟩ (.int .i64 1)) :=
      ⟨hX.below.setCell (p := ⟨w.heap.size + 1 + 1 + 1, 2, none⟩) (by show w.heap.size ≤ w.heap.size + 1 + 1 + 1; omega) _, (setCell_block _ _ _ _ _ (by omega)).trans hX.bay, (setCell_block _ _ _ _ _ (by omega)).trans hX.res,
        (hX.row.of_block (setCell_block _ _ _ _ _ (by omega))).congr (fun j hj => by rw [if_pos hj]; unfold oneF; rw [if_neg (by omega)]), hX.box.set2 _⟩
    have hone : (1 : Int) = el (one i i) i := by rw [one_el (Nat.le_refl _)]; unfold oneF; rw [if_pos rfl]
    have x0 := hX.box.c0
    have x1 := hX.box.c1
    have y0 := hX.res.c0
    have y1 := hX.res.c1
    have y2 := hX.res.c2
    have z0 := hX.res.fz 0
    have z1 := hX.res.fz 1
    have z2 := hX.res.fz 2
    have ts := hX2.res.set (.int .i64 0) (.slice (some ⟨w.heap.size + 1 + 1, 0, none⟩) i i) (.int .i64 1)
    have e0 := ts.c0
    have e1 := ts.c1
    have e2 := ts.c2
    have fin := hends.out _ _ hX2 hone
    clear ts hX2 hone hX
    replace fin := Lib.hid fin
    go_wp2
    exact bodyPost_ret (v := .agg #[.int .i64 0, .slice (some ⟨w.heap.size + 1 + 1, 0, none⟩) i i, .int .i64 1]) (by simp [results, Tryd.results57, go_sem, e0, e1, e2]) rfl fin.out
  · have hlt : i < m := by omega
    have hiI : (i : Int) < (m : Nat) := by omega
    have eB : ((i : Int) == (m : Int)) = false := by simp; omega
    have rf := hX.row.frozen i
    have rc := hX.row.cell hlt
    have hX2 : OnW w m 0 (fun j => if j < m then oneF i j else 0) (.int .i64 (wn : Nat)) (.int .i64 (hn : Nat)) (.slice aL nL cL) (.slice aS n cS) (X.setCell ⟨w.heap.size + 1 + 1, i, none⟩ (.int .i64 1)) :=
      ⟨hX.below.setCell (p := ⟨w.heap.size + 1 + 1, i, none⟩) (by show w.heap.size ≤ w.heap.size + 1 + 1; omega) _, (setCell_block _ _ _ _ _ (by omega)).trans hX.bay, (setCell_block _ _ _ _ _ (by omega)).trans hX.res,
        (hX.row.set i (.int .i64 1)).congr (fun j hj => by rw [if_pos hj]; unfold oneF; split <;> rfl), (setCell_block _ _ _ _ _ (by omega)).trans hX.box⟩
    have hone : (0 : Int) = el (one m i) m := by rw [one_el (Nat.le_refl _)]; unfold oneF; rw [if_neg (fun h => e h.symm)]
    have x0 := hX.box.c0
    have x1 := hX.box.c1
    have x2 := hX.box.c2
    have y0 := hX.res.c0
    have y1 := hX.res.c1
    have y2 := hX.res.c2
    have z0 := hX.res.fz 0
    have z1 := hX.res.fz 1
    have z2 := hX.res.fz 2
    have v0 := hX2.box.c0
    have v1 := hX2.box.c1
    have v2 := hX2.box.c2
    have ts := hX2.res.set (.int .i64 0) (.slice (some ⟨w.heap.size + 1 + 1, 0, none⟩) m m) (.int .i64 0)
    have e0 := ts.c0
    have e1 := ts.c1
    have e2 := ts.c2
    have fin := hends.out _ _ hX2 hone
    clear ts hX2 hone hX e
    replace fin := Lib.hid fin
    go_wp2
    exact bodyPost_ret (v := .agg #[.int .i64 0, .slice (some ⟨w.heap.size + 1 + 1, 0, none⟩) m m, .int .i64 0]) (by simp [results, Tryd.results57, go_sem, e0, e1, e2]) rfl fin.out
end Go.Proofs.YtnbgjgiknfcdkaaDoor
