/-
  'Sum': what it answers.
-/
import Derived.Test.YtnbgjgiknfcdkaaDoorT
namespace Go.Proofs.YtnbgjgiknfcdkaaDoor
open Go.RowKit Go.Deep M
set_option linter.unusedVariables false
set_option linter.unusedSimpArgs false

/-! ### a list of integers in a block of its own that is written to -/
def Blk (w : World) (g m : Nat) (F : Nat → Int) : Prop := ∃ cs : Array Value, w.heap[g]? = some (.cells cs 3 (0, 0)) ∧ ∀ i, i < m → cs[i]? = some (.int .i64 (F i))
theorem Blk.lt {w : World} {g m : Nat} {F : Nat → Int} (h : Blk w g m F) : g < w.heap.size := by obtain ⟨cs, h1, _⟩ := h; exact blk_lt h1
theorem Blk.to {w w' : World} {g m : Nat} {F : Nat → Int} (h : Blk w g m F) (hb : w'.heap[g]? = w.heap[g]?) : Blk w' g m F := by obtain ⟨cs, h1, h2⟩ := h; exact ⟨cs, hb.trans h1, h2⟩
theorem Blk.up {w w' : World} {g m : Nat} {F : Nat → Int} (h : Blk w g m F) (hb : Below w.heap.size w w') : Blk w' g m F := h.to (hb.block g h.lt)
theorem Blk.cell {w : World} {g m i : Nat} {F : Nat → Int} (h : Blk w g m F) (hi : i < m) : w.cell? ⟨g, i, none⟩ = some (.int .i64 (F i)) := by obtain ⟨cs, h1, h2⟩ := h; simp [World.cell?, h1, h2 i hi]
theorem Blk.fz {w : World} {g m : Nat} {F : Nat → Int} (h : Blk w g m F) (i : Nat) : w.frozen? ⟨g, i, none⟩ = false := by obtain ⟨cs, h1, _⟩ := h; simp [World.frozen?, h1]
theorem Blk.congr {w : World} {g m : Nat} {F G : Nat → Int} (h : Blk w g m F) (e : ∀ i, i < m → F i = G i) : Blk w g m G := by obtain ⟨cs, h1, h2⟩ := h; exact ⟨cs, h1, fun i hi => by rw [← e i hi]; exact h2 i hi⟩
theorem Blk.set {w : World} {g m j : Nat} {F : Nat → Int} (h : Blk w g m F) (hj : j < m) (x : Int) : Blk (w.setCell ⟨g, j, none⟩ (.int .i64 x)) g m (fun i => if i = j then x else F i) := by
  obtain ⟨cs, h1, h2⟩ := h
  have hjs : j < cs.size := by have := h2 j hj; exact (Array.getElem?_eq_some_iff.1 this).1
  refine ⟨cs.setIfInBounds j (.int .i64 x), by simp [World.setCell, Array.getElem?_modify, h1], fun i hi => ?_⟩
  rw [Array.getElem?_setIfInBounds]
  by_cases e : i = j
  · subst e
    simp [hjs]
  · have e2 : ¬ j = i := fun h => e h.symm
    simp [e, e2, h2 i hi]
theorem Blk.row {w : World} {g : Nat} {l : List Int} (h : Blk w g l.length (el l)) (hm : l.length ≤ 9223372036854775807) : Row w w.heap.size (some ⟨g, 0, none⟩) l :=
  ⟨hm, fun _ => ⟨g, 0, rfl, h.lt, fun i hi => by rw [Nat.zero_add]; exact h.cell hi⟩⟩
theorem NewOwn.blk {w : World} {l : List Int} {e : Ending} {w' : World} (h : NewOwn w l e w') (hp : 0 < l.length) : ∃ g c, e = .returned (.slice (some ⟨g, 0, none⟩) l.length c) ∧ (l.length ≤ c ∧ c ≤ 9223372036854775807) ∧ Below w.heap.size w w' ∧ w.heap.size ≤ g ∧ Blk w' g l.length (el l) := by
  obtain ⟨v, he, hb, ho⟩ := h
  rcases ho.2 with ⟨hv, h0⟩ | ⟨g, cap, cur, rfl, hge, hh, hcap, hmax, hsz, htake⟩
  · omega
  · unfold maxLen at hmax
    refine ⟨g, cap, he, ⟨hcap, by omega⟩, hb, hge, cur, hh, fun i hi => ?_⟩
    have h1 := vals_get l i hi
    rw [← htake, Nat.mul_one, List.getElem?_take_of_lt hi] at h1
    rw [← h1]; simp

/-! ### the world of 'Sum' -/
structure SumW (w : World) (W H l s K o aw K' o' aw' : Value) (X : World) : Prop where
  below : Below w.heap.size w X
  size : w.heap.size + 4 ≤ X.heap.size
  bay : Quad X w.heap.size W H l s
  fst : Tri X (w.heap.size + 1) K o aw
  snd : Tri X (w.heap.size + 1 + 1) K' o' aw'
  res : Tri X (w.heap.size + 1 + 1 + 1) (.int .i64 0) (.slice none 0 0) (.int .i64 0)
theorem SumW.call {w : World} {W H l s K o aw K' o' aw' : Value} {X Y : World} (h : SumW w W H l s K o aw K' o' aw' X) (hb : Below X.heap.size X Y) : SumW w W H l s K o aw K' o' aw' Y :=
  ⟨h.below.trans (hb.mono h.below.size), Nat.le_trans h.size hb.size, h.bay.up hb, h.fst.up hb, h.snd.up hb, h.res.up hb⟩
theorem SumW.alloc {w : World} {W H l s K o aw K' o' aw' : Value} {X : World} (h : SumW w W H l s K o aw K' o' aw' X) (ob : Obj) : SumW w W H l s K o aw K' o' aw' (X.alloc ob) := h.call (ba1 X ob)
theorem SumW.other {w : World} {W H l s K o aw K' o' aw' : Value} {X Y : World} {g : Nat} (h : SumW w W H l s K o aw K' o' aw' X) (hb : Below w.heap.size w Y) (hs : Y.heap.size = X.heap.size) (hg : w.heap.size + 4 ≤ g) (ho : ∀ d, d ≠ g → Y.heap[d]? = X.heap[d]?) : SumW w W H l s K o aw K' o' aw' Y :=
  ⟨hb, by rw [hs]; exact h.size, (ho _ (by omega)).trans h.bay, (ho _ (by omega)).trans h.fst, (ho _ (by omega)).trans h.snd, (ho _ (by omega)).trans h.res⟩
theorem sumW_start (w : World) (W H l s K o aw K' o' aw' : Value) : SumW w W H l s K o aw K' o' aw' ((((w.alloc (.cells #[W, H, l, s] 25)).alloc (.cells #[K, o, aw] 28)).alloc (.cells #[K', o', aw'] 28)).alloc (.cells #[.int .i64 0, .slice none 0 0, .int .i64 0] 28)) := by
  refine ⟨ba4 w _ _ _ _, by simp, ?_, ?_, ?_, ?_⟩
  · exact (((Quad.new w W H l s).up (ba1 _ _)).up (ba1 _ _)).up (ba1 _ _)
  · have := ((Tri.new (w.alloc (.cells #[W, H, l, s] 25)) K o aw).up (ba1 _ (.cells #[K', o', aw'] 28))).up (ba1 _ (.cells #[.int .i64 0, .slice none 0 0, .int .i64 0] 28))
    simpa using this
  · have := (Tri.new ((w.alloc (.cells #[W, H, l, s] 25)).alloc (.cells #[K, o, aw] 28)) K' o' aw').up (ba1 _ (.cells #[.int .i64 0, .slice none 0 0, .int .i64 0] 28))
    simpa using this
  · have := Tri.new (((w.alloc (.cells #[W, H, l, s] 25)).alloc (.cells #[K, o, aw] 28)).alloc (.cells #[K', o', aw'] 28)) (.int .i64 0) (.slice none 0 0) (.int .i64 0)
    simpa using this

/-- The sums of two lists. -/
def ad (m : Nat) (a b : List Int) : List Int := mk (fun i => el a i + el b i) m
/-- What Sum answers. -/
noncomputable def sumR (W H : Int) (L : List Bool) (n : Nat) (S : List Int) (K : Int) (O : List Int) (aw K' : Int) (O' : List Int) (aw' : Int) : Int × List Int × Int × Int :=
  if validB W H L n S = true then
    if slkB L.length K O aw = true then
      if slkB L.length K' O' aw' = true then
        if K = K' then
          if slkB L.length K (pre L.length (ad (L.length + 1) (amt O aw) (amt O' aw'))) (el (ad (L.length + 1) (amt O aw) (amt O' aw')) L.length) = true then
            (K, pre L.length (ad (L.length + 1) (amt O aw) (amt O' aw')), el (ad (L.length + 1) (amt O aw) (amt O' aw')) L.length, 0)
          else (0, [], 0, 21)
        else (0, [], 0, 21)
      else (0, [], 0, 21)
    else (0, [], 0, 21)
  else (0, [], 0, 20)

set_option maxRecDepth 100000 in
set_option maxHeartbeats 4000000 in
theorem Sum_any (B : Nat) (W H : Int) (aL aS aO aO' : Option Addr) (cL cS cO cO' : Nat) (L : List Bool) (n : Nat) (S : List Int) (K K' : Int) (O O' : List Int) (aw aw' : Int) (w : World) (h : BayIn w B aL L aS n S) (hO : Row w B aO O) (hO' : Row w B aO' O') (hB : B ≤ w.heap.size) :
    Calls Tryd.prog 38 #[.agg #[.int .i64 W, .int .i64 H, .slice aL L.length cL, .slice aS n cS], .agg #[.int .i64 K, .slice aO O.length cO, .int .i64 aw], .agg #[.int .i64 K', .slice aO' O'.length cO', .int .i64 aw']] w (SlkRes w (sumR W H L n S K O aw K' O' aw')) := by
  have hst := (sumW_start w (.int .i64 W) (.int .i64 H) (.slice aL L.length cL) (.slice aS n cS) (.int .i64 K) (.slice aO O.length cO) (.int .i64 aw) (.int .i64 K') (.slice aO' O'.length cO') (.int .i64 aw')).alloc (.cells #[.int .i64 K, .slice aO O.length cO, .int .i64 aw, .int .i64 K', .slice aO' O'.length cO', .int .i64 aw'] 28)
  have c59 := checked2_any B W H aL aS aO aO' cL cS cO cO' L n S K K' O O' aw aw' (w.heap.size + 4) 2 _ (h.below (hst.below.mono hB)) (hO.below (hst.below.mono hB)) (hO'.below (hst.below.mono hB)) (Nat.le_trans hB hst.below.size) (by simp) ⟨by simp [go_sem], by simp [go_sem], by simp [go_sem]⟩ ⟨by simp [go_sem], by simp [go_sem], by simp [go_sem]⟩
  cases hv : validB W H L n S with
  | false =>
    rw [hv] at c59
    have hr : sumR W H L n S K O aw K' O' aw' = (0, [], 0, 20) := by unfold sumR; rw [hv]; rfl
    rw [hr]
    replace c59 := Lib.hid c59
    replace hst := Lib.hid hst
    go_enter Tryd.func38, Tryd.ntmps38
    go_wp2_with fail
    refine c59.out.mono ?_
    rintro e w1 ⟨rfl, hb1⟩
    have hw1 := hst.out.call hb1
    have t := hw1.res
    have j1 := t.c0
    have j2 := t.c1
    have j3 := t.c2
    have f1 := t.fz 0
    have f2 := t.fz 1
    have f3 := t.fz 2
    have hbb := hw1.below
    clear hb1 hw1
    have ts := t.set (.int .i64 0) (.slice none 0 0) (.int .i64 0)
    have j4 := ts.c0
    have j5 := ts.c1
    have j6 := ts.c2
    have hbs := tri_below (x := .int .i64 0) (y := .slice none 0 0) (z := .int .i64 0) hbb (show w.heap.size ≤ w.heap.size + 1 + 1 + 1 by omega)
    go_wp2
    exact bodyPost_ret (v := .tuple #[.agg #[.int .i64 0, .slice none 0 0, .int .i64 0], .int .i64 20]) (by simp [results, Tryd.results38, go_sem, j4, j5, j6]) rfl ⟨none, 0, rfl, hbs, row_nil _ _ _, fun a ha => by cases ha⟩
  | true =>
  cases hs : slkB L.length K O aw with
  | false =>
    rw [hv, hs] at c59
    have hr : sumR W H L n S K O aw K' O' aw' = (0, [], 0, 21) := by unfold sumR; rw [hv, hs]; rfl
    rw [hr]
    replace c59 := Lib.hid c59
    replace hst := Lib.hid hst
    go_enter Tryd.func38, Tryd.ntmps38
    go_wp2_with fail
    refine c59.out.mono ?_
    rintro e w1 ⟨rfl, hb1⟩
    have hw1 := hst.out.call hb1
    have t := hw1.res
    have j1 := t.c0
    have j2 := t.c1
    have j3 := t.c2
    have f1 := t.fz 0
    have f2 := t.fz 1
    have f3 := t.fz 2
    have hbb := hw1.below
    clear hb1 hw1
    have ts := t.set (.int .i64 0) (.slice none 0 0) (.int .i64 0)
    have j4 := ts.c0
    have j5 := ts.c1
    have j6 := ts.c2
    have hbs := tri_below (x := .int .i64 0) (y := .slice none 0 0) (z := .int .i64 0) hbb (show w.heap.size ≤ w.heap.size + 1 + 1 + 1 by omega)
    go_wp2
    exact bodyPost_ret (v := .tuple #[.agg #[.int .i64 0, .slice none 0 0, .int .i64 0], .int .i64 21]) (by simp [results, Tryd.results38, go_sem, j4, j5, j6]) rfl ⟨none, 0, rfl, hbs, row_nil _ _ _, fun a ha => by cases ha⟩
  | true =>
  cases hs' : slkB L.length K' O' aw' with
  | false =>
    rw [hv, hs, hs'] at c59
    have hr : sumR W H L n S K O aw K' O' aw' = (0, [], 0, 21) := by unfold sumR; rw [hv, hs, hs']; rfl
    rw [hr]
    replace c59 := Lib.hid c59
    replace hst := Lib.hid hst
    go_enter Tryd.func38, Tryd.ntmps38
    go_wp2_with fail
    refine c59.out.mono ?_
    rintro e w1 ⟨rfl, hb1⟩
    have hw1 := hst.out.call hb1
    have t := hw1.res
    have j1 := t.c0
    have j2 := t.c1
    have j3 := t.c2
    have f1 := t.fz 0
    have f2 := t.fz 1
    have f3 := t.fz 2
    have hbb := hw1.below
    clear hb1 hw1
    have ts := t.set (.int .i64 0) (.slice none 0 0) (.int .i64 0)
    have j4 := ts.c0
    have j5 := ts.c1
    have j6 := ts.c2
    have hbs := tri_below (x := .int .i64 0) (y := .slice none 0 0) (z := .int .i64 0) hbb (show w.heap.size ≤ w.heap.size + 1 + 1 + 1 by omega)
    go_wp2
    exact bodyPost_ret (v := .tuple #[.agg #[.int .i64 0, .slice none 0 0, .int .i64 0], .int .i64 21]) (by simp [results, Tryd.results38, go_sem, j4, j5, j6]) rfl ⟨none, 0, rfl, hbs, row_nil _ _ _, fun a ha => by cases ha⟩
  | true =>
  rw [hv, hs, hs'] at c59
  have hSl := slk_of hs
  have hSl' := slk_of hs'
  have hb5 := hSl.2.1
  have hb5' := hSl'.2.1
  replace hSl := Lib.hid hSl
  replace hSl' := Lib.hid hSl'
  by_cases hK : K = K'
  · subst hK
    obtain ⟨m, hm⟩ : ∃ m, L.length = m := ⟨_, rfl⟩
    have hV := val_of hv
    have h36 : m ≤ 36 := by
      have := hV.2.1.1
      have := Int.mul_le_mul hV.1.1.2 hV.1.2.2 (by have := hV.1.2.1; omega) (by omega)
      omega
    have lO : O.length = m := by rw [hSl.out.1, hm]
    have lO' : O'.length = m := by rw [hSl'.out.1, hm]
    have la : (amt O aw).length = m + 1 := by rw [amt_len, lO]
    have la' : (amt O' aw').length = m + 1 := by rw [amt_len, lO']
    have hbnd : ∀ i, i < m + 1 → -9223372036854775808 ≤ el (amt O aw) i + el (amt O' aw') i ∧ el (amt O aw) i + el (amt O' aw') i ≤ 9223372036854775807 := fun i hi => by
      have p1 := hSl.out.2.2.1 i (by omega)
      have p2 := hSl'.out.2.2.1 i (by omega)
      have q1 := el_le_tot hSl.out.2.2.1 i (by omega)
      have q2 := el_le_tot hSl'.out.2.2.1 i (by omega)
      have r1 := slk_tot hSl.out.2
      have r2 := slk_tot hSl'.out.2
      omega
    have hr : sumR W H L n S K O aw K O' aw' = if slkB L.length K (pre m (ad (m + 1) (amt O aw) (amt O' aw'))) (el (ad (m + 1) (amt O aw) (amt O' aw')) m) = true then (K, pre m (ad (m + 1) (amt O aw) (amt O' aw')), el (ad (m + 1) (amt O aw) (amt O' aw')) m, 0) else (0, [], 0, 21) := by
      unfold sumR; rw [hv, hs, hs', hm]; simp
    rw [hr]
    have es : ∀ i, i < m + 1 → el (ad (m + 1) (amt O aw) (amt O' aw')) i = el (amt O aw) i + el (amt O' aw') i := fun i hi => mk_el _ _ _ hi
    have ls : (ad (m + 1) (amt O aw) (amt O' aw')).length = m + 1 := mk_len _ _
    generalize ad (m + 1) (amt O aw) (amt O' aw') = s at *
    have c64 : ∀ X, SumW w (.int .i64 W) (.int .i64 H) (.slice aL L.length cL) (.slice aS n cS) (.int .i64 K) (.slice aO O.length cO) (.int .i64 aw) (.int .i64 K) (.slice aO' O'.length cO') (.int .i64 aw') X → Calls Tryd.prog 64 #[.agg #[.int .i64 K, .slice aO O.length cO, .int .i64 aw]] X fun e X' => ∃ g c, e = .returned (.slice (some ⟨g, 0, none⟩) (m + 1) c) ∧ (m + 1 ≤ c ∧ c ≤ 9223372036854775807) ∧ Below X.heap.size X X' ∧ X.heap.size ≤ g ∧ Blk X' g (m + 1) (el (amt O aw)) := fun X hX => by
      refine (amounts_any B K aO cO O aw X (hO.below (hX.below.mono hB)) (Nat.le_trans hB hX.below.size) (by omega)).mono ?_
      intro e X' hn'
      have e2 : (O ++ [aw]).length = m + 1 := la
      have := hn'.blk (by omega)
      rw [e2] at this
      exact this
    have c64' : ∀ X, SumW w (.int .i64 W) (.int .i64 H) (.slice aL L.length cL) (.slice aS n cS) (.int .i64 K) (.slice aO O.length cO) (.int .i64 aw) (.int .i64 K) (.slice aO' O'.length cO') (.int .i64 aw') X → Calls Tryd.prog 64 #[.agg #[.int .i64 K, .slice aO' O'.length cO', .int .i64 aw']] X fun e X' => ∃ g c, e = .returned (.slice (some ⟨g, 0, none⟩) (m + 1) c) ∧ (m + 1 ≤ c ∧ c ≤ 9223372036854775807) ∧ Below X.heap.size X X' ∧ X.heap.size ≤ g ∧ Blk X' g (m + 1) (el (amt O' aw')) := fun X hX => by
      refine (amounts_any B K aO' cO' O' aw' X (hO'.below (hX.below.mono hB)) (Nat.le_trans hB hX.below.size) (by omega)).mono ?_
      intro e X' hn'
      have e2 : (O' ++ [aw']).length = m + 1 := la'
      have := hn'.blk (by omega)
      rw [e2] at this
      exact this
    have c69 : ∀ X g c, (m + 1 ≤ c ∧ c ≤ 9223372036854775807) → Blk X g (m + 1) (el s) → Calls Tryd.prog 69 #[.int .i64 K, .slice (some ⟨g, 0, none⟩) (m + 1) c] X fun e X' => ∃ A' c', e = .returned (.agg #[.int .i64 K, .slice A' m c', .int .i64 (el s m)]) ∧ Below X.heap.size X X' ∧ Row X' X'.heap.size A' (pre m s) ∧ Fresh X.heap.size A' := fun X g c hc hb =>
      slickOf_any X.heap.size K _ c m s X (Blk.row (by rw [ls]; exact hb) (by omega)) (Nat.le_refl _) ls (by omega) hc
    have c59b : ∀ X b A c, SumW w (.int .i64 W) (.int .i64 H) (.slice aL L.length cL) (.slice aS n cS) (.int .i64 K) (.slice aO O.length cO) (.int .i64 aw) (.int .i64 K) (.slice aO' O'.length cO') (.int .i64 aw') X → Row X X.heap.size A (pre m s) → b < X.heap.size → SlkAt X b 0 K A m c (el s m) → Calls Tryd.prog 59 #[.agg #[.int .i64 W, .int .i64 H, .slice aL L.length cL, .slice aS n cS], .slice (some ⟨b, 0, none⟩) 1 1] X fun e X' => e = .returned (.int .i64 (if slkB L.length K (pre m s) (el s m) = true then 0 else 21)) ∧ Below X.heap.size X X' := fun X b A c hX hr hb hat => by
      have h1 := checked1_any X.heap.size W H aL aS A cL cS c L n S K (pre m s) (el s m) b 1 X ((h.below (hX.below.mono hB)).more (Nat.le_trans hB hX.below.size)) hr (Nat.le_refl _) hb (by rw [pre_len]; exact hat)
      rw [hv, if_pos rfl] at h1
      exact h1
    have lps : (pre m s).length = m := pre_len _ _
    generalize hx : el s m = x at *
    generalize pre m s = o at *
    have hes : ∀ i, i < m + 1 → el (amt O aw) i + el (amt O' aw') i = el s i := fun i hi => (es i hi).symm
    generalize hA : el (amt O aw) = fa at *
    generalize hA' : el (amt O' aw') = fb at *
    generalize slkB L.length K o x = sb at *
    obtain ⟨R, hR⟩ : ∃ R : Int × List Int × Int × Int, R = if sb = true then (K, o, x, 0) else (0, [], 0, 21) := ⟨_, rfl⟩
    rw [← hR]
    replace hR := Lib.hid hR
    replace c59 := Lib.hid c59
    replace c59b := Lib.hid c59b
    replace c64 := Lib.hid c64
    replace c64' := Lib.hid c64'
    replace c69 := Lib.hid c69
    replace hst := Lib.hid hst
    replace hes := Lib.hid hes
    replace hbnd := Lib.hid hbnd
    replace lps := Lib.hid lps
    clear hr es ls la la' lO lO' hV hm hv hs hs' hSl hSl' hx hA hA' h hO hO'
    go_enter Tryd.func38, Tryd.ntmps38
    go_wp2_with fail
    refine c59.out.mono ?_
    rintro e w1 ⟨rfl, hb1⟩
    have hw1 := hst.out.call hb1
    have g4 := hw1.fst.c0
    have g5 := hw1.fst.c1
    have g6 := hw1.fst.c2
    have g7 := hw1.snd.c0
    go_wp2_with fail
    refine (c64.out _ hw1).mono ?_
    rintro e w2 ⟨g, c, rfl, hc, hb2, hg, hk⟩
    have hw2 := hw1.call hb2
    have hgn : w.heap.size + 4 ≤ g := Nat.le_trans hw1.size hg
    clear hb1 hb2 g4 g5 g6 g7
    have g4 := hw2.snd.c0
    have g5 := hw2.snd.c1
    have g6 := hw2.snd.c2
    go_wp2_with fail
    refine (c64'.out _ hw2).mono ?_
    rintro e w3 ⟨g', c', rfl, hc', hb3, hg', hk'⟩
    have hw3 := hw2.call hb3
    have hne : g' ≠ g := by have := hk.lt; omega
    have hk3 := hk.up hb3
    clear hb3 g4 g5 g6 hk hw1
    go_wp2
    go_loopw [34] (fun i wr => ∃ k : Nat, k ≤ m + 1 ∧ i = .int .i64 k ∧ Below w.heap.size w wr ∧ wr.heap.size = w3.heap.size ∧ (∀ d, d ≠ g → wr.heap[d]? = w3.heap[d]?) ∧ Blk wr g (m + 1) (fun i => if i < k then fa i + fb i else fa i)) (fun i _ => m + 1 - (intOf i).toNat)
    case atStart => exact ⟨0, Nat.zero_le _, rfl, hw3.below, rfl, fun d _ => rfl, hk3.congr (fun i _ => by simp)⟩
    case round =>
      obtain ⟨k, hkm, rfl, hbw, hsz, hoth, hbk⟩ := hrel
      by_cases hlt : k < m + 1
      · have k1 := hbk.cell hlt
        have k2 := hbk.fz k
        simp only [Nat.lt_irrefl, if_false] at k1
        have k3 := (hk'.to (hoth g' hne)).cell hlt
        have hwr : IntKind.i64.wrap (fa k + fb k) = fa k + fb k := IntWalk.i64_in _ (hbnd.out k hlt)
        have hb9 := hbw.setCell (p := ⟨g, k, none⟩) (show w.heap.size ≤ g by omega) (.int .i64 (fa k + fb k))
        have hs9 : (wr.setCell ⟨g, k, none⟩ (.int .i64 (fa k + fb k))).heap.size = w3.heap.size := by rw [← hsz]; simp [World.setCell]
        have ho9 : ∀ d, d ≠ g → (wr.setCell ⟨g, k, none⟩ (.int .i64 (fa k + fb k))).heap[d]? = w3.heap[d]? := fun d hd => (setCell_block _ _ _ _ _ hd).trans (hoth d hd)
        have hk9 : Blk (wr.setCell ⟨g, k, none⟩ (.int .i64 (fa k + fb k))) g (m + 1) (fun i => if i < k + 1 then fa i + fb i else fa i) := (hbk.set hlt (fa k + fb k)).congr (fun i hi => by
          by_cases e : i = k
          · subst e; simp
          · rw [if_neg e]
            by_cases e2 : i < k
            · rw [if_pos e2, if_pos (by omega)]
            · rw [if_neg e2, if_neg (by omega)])
        replace hb9 := Lib.hid hb9
        replace hs9 := Lib.hid hs9
        replace ho9 := Lib.hid ho9
        replace hk9 := Lib.hid hk9
        have hkk : (k : Int) < ((m + 1 : Nat) : Int) := by omega
        clear hbw hoth hbk
        go_wp2
        go_roundw
        case rel => exact ⟨k + 1, by omega, by go_num, hb9.out, hs9.out, ho9.out, hk9.out⟩
        case measure => simp [intOf]; omega
      · have hkk : ¬ (k : Int) < ((m + 1 : Nat) : Int) := by omega
        have hks : Blk wr g (m + 1) (el s) := hbk.congr (fun i hi => by rw [if_pos (by omega)]; exact hes.out i hi)
        have hw4 := hw3.other hbw hsz hgn hoth
        have g4 := hw4.fst.c0
        clear hbk hoth hw2 hw3
        go_wp2_with fail
        refine (c69.out wr g c hc hks).mono ?_
        rintro e w5 ⟨A, cA, rfl, hbb5, hrA, hfr⟩
        have hw5 := hw4.call hbb5
        have hw6 := hw5.alloc (.cells #[.int .i64 K, .slice A m cA, .int .i64 x] 28)
        have t6 := Tri.new w5 (.int .i64 K) (.slice A m cA) (.int .i64 x)
        have hw7 := hw6.alloc (.cells #[.int .i64 K, .slice A m cA, .int .i64 x] 28)
        have r7 := (hrA.up (ba1 w5 (.cells #[.int .i64 K, .slice A m cA, .int .i64 x] 28))).up (ba1 (w5.alloc (.cells #[.int .i64 K, .slice A m cA, .int .i64 x] 28)) (.cells #[.int .i64 K, .slice A m cA, .int .i64 x] 28))
        have t7 := t6.up (ba1 (w5.alloc (.cells #[.int .i64 K, .slice A m cA, .int .i64 x] 28)) (.cells #[.int .i64 K, .slice A m cA, .int .i64 x] 28))
        have n4 := hw4.size
        have g5 := t6.c0
        have g6 := t6.c1
        have g7 := t6.c2
        have p0 := hw6.bay.c0
        have p1 := hw6.bay.c1
        have p2 := hw6.bay.c2
        have p3 := hw6.bay.c3
        clear hks g4 hbb5 hrA t6
        go_wp2_with fail
        refine (c59b.out _ (w5.heap.size + 1) A cA hw7 r7 (by simp) ⟨by simp [go_sem], by simp [go_sem], by simp [go_sem]⟩).mono ?_
        rintro e w8 ⟨rfl, hb8⟩
        have hw8 := hw7.call hb8
        have t8 := t7.up hb8
        have r8 := r7.up hb8
        clear g5 g6 g7 p0 p1 p2 p3 t7 r7 hb8 hw7 hw6 hw5 hw4
        have t := hw8.res
        have j1 := t.c0
        have j2 := t.c1
        have j3 := t.c2
        have f1 := t.fz 0
        have f2 := t.fz 1
        have f3 := t.fz 2
        have hbb := hw8.below
        have g5 := t8.c0
        have g6 := t8.c1
        have g7 := t8.c2
        clear t8
        cases sb with
        | false =>
          obtain rfl : R = (0, [], 0, 21) := hR.out.trans (by simp)
          clear r8 hw8 hfr
          have ts := t.set (.int .i64 0) (.slice none 0 0) (.int .i64 0)
          have j4 := ts.c0
          have j5 := ts.c1
          have j6 := ts.c2
          have hbs := tri_below (x := .int .i64 0) (y := .slice none 0 0) (z := .int .i64 0) hbb (show w.heap.size ≤ w.heap.size + 1 + 1 + 1 by omega)
          go_wp2
          exact bodyPost_ret (v := .tuple #[.agg #[.int .i64 0, .slice none 0 0, .int .i64 0], .int .i64 21]) (by simp [results, Tryd.results38, go_sem, j4, j5, j6]) rfl ⟨none, 0, rfl, hbs, row_nil _ _ _, fun a ha => by cases ha⟩
        | true =>
          obtain rfl : R = (K, o, x, 0) := hR.out.trans (by simp)
          have r9 := (r8.tri (b := w.heap.size + 1 + 1 + 1) hfr (by omega) (.int .i64 K) (.slice A m cA) (.int .i64 x)).more (B' := (((w8.setCell ⟨w.heap.size + 1 + 1 + 1, 0, none⟩ (.int .i64 K)).setCell ⟨w.heap.size + 1 + 1 + 1, 1, none⟩ (.slice A m cA)).setCell ⟨w.heap.size + 1 + 1 + 1, 2, none⟩ (.int .i64 x)).heap.size) (by simp [World.setCell])
          have fr9 : Fresh w.heap.size A := fun a ha => Nat.le_trans (by omega) (hfr a ha)
          replace r9 := Lib.hid r9
          replace fr9 := Lib.hid fr9
          clear r8 hw8 hfr
          have ts := t.set (.int .i64 K) (.slice A m cA) (.int .i64 x)
          have j4 := ts.c0
          have j5 := ts.c1
          have j6 := ts.c2
          have hbs := tri_below (x := .int .i64 K) (y := .slice A m cA) (z := .int .i64 x) hbb (show w.heap.size ≤ w.heap.size + 1 + 1 + 1 by omega)
          go_wp2
          exact bodyPost_ret (v := .tuple #[.agg #[.int .i64 K, .slice A m cA, .int .i64 x], .int .i64 0]) (by simp [results, Tryd.results38, go_sem, j4, j5, j6]) rfl ⟨A, cA, by dsimp only; rw [lps.out], hbs, r9.out, fr9.out⟩
  · have hr : sumR W H L n S K O aw K' O' aw' = (0, [], 0, 21) := by unfold sumR; rw [hv, hs, hs']; simp [hK]
    rw [hr]
    replace c59 := Lib.hid c59
    replace hst := Lib.hid hst
    have hKb : (K == K') = false := by simp [hK]
    go_enter Tryd.func38, Tryd.ntmps38
    go_wp2_with fail
    refine c59.out.mono ?_
    rintro e w1 ⟨rfl, hb1⟩
    have hw1 := hst.out.call hb1
    have t := hw1.res
    have j1 := t.c0
    have j2 := t.c1
    have j3 := t.c2
    have f1 := t.fz 0
    have f2 := t.fz 1
    have f3 := t.fz 2
    have hbb := hw1.below
    have g4 := hw1.fst.c0
    have g5 := hw1.snd.c0
    clear hb1 hw1
    have ts := t.set (.int .i64 0) (.slice none 0 0) (.int .i64 0)
    have j4 := ts.c0
    have j5 := ts.c1
    have j6 := ts.c2
    have hbs := tri_below (x := .int .i64 0) (y := .slice none 0 0) (z := .int .i64 0) hbb (show w.heap.size ≤ w.heap.size + 1 + 1 + 1 by omega)
    go_wp2
    exact bodyPost_ret (v := .tuple #[.agg #[.int .i64 0, .slice none 0 0, .int .i64 0], .int .i64 21]) (by simp [results, Tryd.results38, go_sem, j4, j5, j6]) rfl ⟨none, 0, rfl, hbs, row_nil _ _ _, fun a ha => by cases ha⟩
end Go.Proofs.YtnbgjgiknfcdkaaDoor
