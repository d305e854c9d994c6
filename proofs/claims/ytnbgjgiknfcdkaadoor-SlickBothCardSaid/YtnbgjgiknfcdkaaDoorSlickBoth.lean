/-
  For any bay, any slick, any prices and any number of moves, the law SlickBoth returns true: what comes about costs what the slick costs by the prices before the moves, which are shares of those one move later.
  Conditions: the table of directions starts as the program's text lays it.
-/
import Derived.Test.YtnbgjgiknfcdkaaDoorR
import Derived.Test.YtnbgjgiknfcdkaaDoorZq
import Derived.Test.YtnbgjgiknfcdkaaDoorCards
import Derived.Test.YtnbgjgiknfcdkaaDoorTie
import Derived.SevenTiedAt
import Derived.Lib.SmallJoins
namespace Go.Proofs.YtnbgjgiknfcdkaaDoor.lawSlickBoth
open Go.ChangeShapes Go.WideShapes Go.ChangeAt Go.RowKit Go.Deep Go.Proofs.YtnbgjgiknfcdkaaDoor M
set_option linter.unusedVariables false
set_option linter.unusedSimpArgs false

theorem cst_dual {w h : Nat} {L : List Bool} {S a : List Int} (n : Nat) (c : List Int) (ha : a.length = w * h + 1) : Go.Proofs.YtnbgjgiknfcdkaaDoor.cst (af w h L S n a) c = Go.Proofs.YtnbgjgiknfcdkaaDoor.cst a (bf w h L S n c) := by
  have h1 := cst_af (w := w) (h := h) (L := L) (S := S) n a c
  unfold M.cst at h1
  unfold Go.Proofs.YtnbgjgiknfcdkaaDoor.cst
  rw [af_len ha, ha]
  exact h1
theorem prF_keep {w h p : Nat} {L : List Bool} {S c : List Int} (hk : keeps w h L p = true) (hp : p ≤ w * h) : prF w h L S c p = 16 * el c p := by
  unfold prF
  rw [sm_one (w * h + 1) p (by omega) (fun j _ hne => by unfold G; rw [if_pos hk, if_neg (fun e => hne e.symm), Int.zero_mul])]
  unfold G
  rw [if_pos hk, if_pos rfl]
theorem prF_water {w h p : Nat} {L : List Bool} {S c : List Int} (hw : 1 ≤ w) (hp : p < w * h) (hl : bl L p = false) : prF w h L S c p = sm (fun k => sh S p k * el c (dst w h p k)) 5 := by
  have hk : ¬ keeps w h L p = true := by unfold keeps; rw [hl]; simp; omega
  unfold prF
  have e1 : sm (fun j => G w h L S p j * el c j) (w * h + 1) = sm (fun j => sm (fun k => if dst w h p k = j then sh S p k * el c j else 0) 5) (w * h + 1) := sm_congr _ (fun j _ => by
    unfold G
    rw [if_neg hk, ← sm_mul_right]
    exact sm_congr _ (fun k _ => by split <;> simp))
  rw [e1, ← sm_swap (fun j k => if dst w h p k = j then sh S p k * el c j else 0)]
  exact sm_congr _ (fun k _ => by
    have hd := dst_le (k := k) hw hp
    rw [sm_one (w * h + 1) (dst w h p k) (by omega) (fun j _ hne => by rw [if_neg (fun e => hne e.symm)]), if_pos rfl])

/-- Prices and a number, in their box. -/
def Duo (w : World) (b : Nat) (x y : Value) : Prop := w.heap[b]? = some (.cells #[x, y] 47 (0, 0))
theorem Duo.new (w : World) (x y : Value) : Duo (w.alloc (.cells #[x, y] 47)) w.heap.size x y := World.alloc_heap_new w _
theorem Duo.lt {w : World} {b : Nat} {x y : Value} (h : Duo w b x y) : b < w.heap.size := blk_lt h
theorem Duo.c0 {w : World} {b : Nat} {x y : Value} (h : Duo w b x y) : w.cell? ⟨b, 0, none⟩ = some x := by simp [World.cell?, show w.heap[b]? = _ from h]
theorem Duo.c1 {w : World} {b : Nat} {x y : Value} (h : Duo w b x y) : w.cell? ⟨b, 1, none⟩ = some y := by simp [World.cell?, show w.heap[b]? = _ from h]
theorem Duo.up {w w' : World} {b : Nat} {x y : Value} (h : Duo w b x y) (hb : Below w.heap.size w w') : Duo w' b x y := (hb.block b h.lt).trans h
/-- The law's world: the boxes of the bay, of the slick, and of the prices. -/
structure LawC (w : World) (W H l s K o aw p N : Value) (X : World) : Prop where
  below : Below w.heap.size w X
  bay : Quad X w.heap.size W H l s
  slk : Tri X (w.heap.size + 1) K o aw
  two : Duo X (w.heap.size + 1 + 1) p N
theorem LawC.call {w : World} {W H l s K o aw p N : Value} {X Y : World} (h : LawC w W H l s K o aw p N X) (hb : Below X.heap.size X Y) : LawC w W H l s K o aw p N Y :=
  ⟨h.below.trans (hb.mono h.below.size), h.bay.up hb, h.slk.up hb, h.two.up hb⟩
theorem lawC_start (w : World) (W H l s K o aw p N : Value) : LawC w W H l s K o aw p N (((w.alloc (.cells #[W, H, l, s] 25)).alloc (.cells #[K, o, aw] 28)).alloc (.cells #[p, N] 47)) := by
  refine ⟨ba3 w _ _ _, ((Quad.new w W H l s).up (ba1 _ _)).up (ba1 _ _), ?_, ?_⟩
  · have := (Tri.new (w.alloc (.cells #[W, H, l, s] 25)) K o aw).up (ba1 _ (.cells #[p, N] 47))
    simpa using this
  · have := Duo.new ((w.alloc (.cells #[W, H, l, s] 25)).alloc (.cells #[K, o, aw] 28)) p N
    simpa using this
theorem drew_below (w : World) (n : Nat) : Below w.heap.size w (w.drewN n) := below_drewN (Below.refl _ _) n
theorem int_of {z : Int} (h : (Lit.int IntKind.i64 z).wf = true) : -9223372036854775808 ≤ z ∧ z ≤ 9223372036854775807 := by
  simp [Lit.wf] at h
  exact ⟨h.1, h.2⟩
theorem cells47 : Tryd.prog.cellsOf 47 = 2 := by kernel_rfl
section
variable {H : Type} {enc : TypeId × Value → H} {W : World} {v : Value}
set_option maxRecDepth 100000 in
theorem two_in {d : DataW H} {p : List MemPlace} {b0 : Nat} (hv : Value.okWide Tryd.prog W .any b0 47 v) (h : DataW.Trod enc Tryd.prog W 0 (fun _ => true) true 47 v d p) :
    ∃ (N : Int) (aP : Option Addr) (cP : Nat) (P : List Int), v = .agg #[.slice aP P.length cP, .int .i64 N] ∧ Row W W.heap.size aP P := by
  obtain ⟨v0, v1, y0, y1, m, rfl, _, _, h0, h1⟩ := Go.Joins.open_agg2 Tryd.underlying47 (by kernel_rfl) cells47 hv h
  obtain ⟨N, e1, _, _⟩ := DataW.trod_int Tryd.underlying3 h1
  obtain rfl : v1 = .int .i64 N := by simpa using e1
  obtain ⟨aP, nP, cP, P, rfl, rfl, hP⟩ := row_of h0
  exact ⟨N, aP, cP, P, rfl, hP⟩
end

set_option maxRecDepth 100000 in
set_option maxHeartbeats 8000000 in
theorem out (W H : Int) (aL aS aO aP : Option Addr) (cL cS cO cP : Nat) (L : List Bool) (n : Nat) (S : List Int) (K : Int) (O : List Int) (aw : Int) (P : List Int) (N : Int) (w : World) (h : BayIn w w.heap.size aL L aS n S) (hO : Row w w.heap.size aO O) (hP : Row w w.heap.size aP P) (hd : Dirs w)
    (hout : (decide (100 < L.length) || decide (100 < n)) = true ∨ validB W H L n S = false ∨ slkB L.length K O aw = false ∨ pricesB L.length P = false) :
    Calls Tryd.prog 11 #[.agg #[.int .i64 W, .int .i64 H, .slice aL L.length cL, .slice aS n cS], .agg #[.int .i64 K, .slice aO O.length cO, .int .i64 aw], .agg #[.slice aP P.length cP, .int .i64 N]] w fun e w' => e = .returned (.bool true) ∧ Below w.heap.size w w' := by
  have hst := lawC_start w (.int .i64 W) (.int .i64 H) (.slice aL L.length cL) (.slice aS n cS) (.int .i64 K) (.slice aO O.length cO) (.int .i64 aw) (.slice aP P.length cP) (.int .i64 N)
  have hs1 : 1 ≤ w.heap.size := hd.1
  have sane : ∀ X, LawC w (.int .i64 W) (.int .i64 H) (.slice aL L.length cL) (.slice aS n cS) (.int .i64 K) (.slice aO O.length cO) (.int .i64 aw) (.slice aP P.length cP) (.int .i64 N) X → Calls Tryd.prog 17 #[] X fun e w' => e = .returned (.bool true) ∧ Below w.heap.size w w' := fun X hX =>
    (Sane_any X (hd.below hX.below hs1)).mono fun e w' ⟨he, hb⟩ => ⟨he, hX.below.trans (hb.mono hX.below.size)⟩
  have c15 : ∀ X, LawC w (.int .i64 W) (.int .i64 H) (.slice aL L.length cL) (.slice aS n cS) (.int .i64 K) (.slice aO O.length cO) (.int .i64 aw) (.slice aP P.length cP) (.int .i64 N) X → Calls Tryd.prog 15 #[.agg #[.int .i64 W, .int .i64 H, .slice aL L.length cL, .slice aS n cS]] X fun e w' => e = .returned (.bool (decide (100 < L.length) || decide (100 < n))) ∧ Below X.heap.size X w' := fun X _ => Long_any W H aL aS cL n cS L.length X h.land.1 h.share.1
  have c21 : ∀ X, LawC w (.int .i64 W) (.int .i64 H) (.slice aL L.length cL) (.slice aS n cS) (.int .i64 K) (.slice aO O.length cO) (.int .i64 aw) (.slice aP P.length cP) (.int .i64 N) X → Calls Tryd.prog 21 #[.agg #[.int .i64 W, .int .i64 H, .slice aL L.length cL, .slice aS n cS]] X fun e w' => e = .returned (.bool (validB W H L n S)) ∧ Below X.heap.size X w' := fun X hX =>
    Valid_ref w.heap.size W H aL aS cL cS L n S X (h.below hX.below) hX.below.size
  replace sane := Lib.hid sane
  replace hst := Lib.hid hst
  cases hlb : (decide (100 < L.length) || decide (100 < n)) with
  | true =>
    rw [hlb] at c15
    replace c15 := Lib.hid c15
    clear hlb hout c21
    have h0 := hst.out
    have p0 := h0.two.c0
    have g0 := h0.bay.c0
    have g1 := h0.bay.c1
    have g2 := h0.bay.c2
    have g3 := h0.bay.c3
    go_enter Tryd.func11, Tryd.ntmps11
    go_wp2_with fail
    refine (c15.out _ h0).mono ?_
    rintro e w1 ⟨rfl, hb1⟩
    have h1 := h0.call hb1
    clear hb1 h0 g0 g1 g2 g3 p0
    go_wp2_with fail
    refine (sane.out _ h1).mono ?_
    rintro e w9 ⟨rfl, h9⟩
    go_wp2
    go_ret
    exact ⟨rfl, h9⟩
  | false =>
  cases hv : validB W H L n S with
  | false =>
    rw [hlb] at c15
    rw [hv] at c21
    replace c15 := Lib.hid c15
    replace c21 := Lib.hid c21
    clear hlb hv hout
    have h0 := hst.out
    have p0 := h0.two.c0
    have g0 := h0.bay.c0
    have g1 := h0.bay.c1
    have g2 := h0.bay.c2
    have g3 := h0.bay.c3
    go_enter Tryd.func11, Tryd.ntmps11
    go_wp2_with fail
    refine (c15.out _ h0).mono ?_
    rintro e w1 ⟨rfl, hb1⟩
    have h1 := h0.call hb1
    clear hb1 h0 g0 g1 g2 g3 p0
    have g0 := h1.bay.c0
    have g1 := h1.bay.c1
    have g2 := h1.bay.c2
    have g3 := h1.bay.c3
    go_wp2_with fail
    refine (c21.out _ h1).mono ?_
    rintro e w2 ⟨rfl, hb2⟩
    have h3 := h1.call hb2
    clear hb2 h1 g0 g1 g2 g3
    go_wp2_with fail
    refine (sane.out _ h3).mono ?_
    rintro e w9 ⟨rfl, h9⟩
    go_wp2
    go_ret
    exact ⟨rfl, h9⟩
  | true =>
  have hV := val_of hv
  have h36 : L.length ≤ 36 := by
    have := hV.2.1.1
    have := Int.mul_le_mul hV.1.1.2 hV.1.2.2 (by have := hV.1.2.1; omega) (by omega)
    omega
  have c51 : ∀ X, LawC w (.int .i64 W) (.int .i64 H) (.slice aL L.length cL) (.slice aS n cS) (.int .i64 K) (.slice aO O.length cO) (.int .i64 aw) (.slice aP P.length cP) (.int .i64 N) X → Calls Tryd.prog 51 #[.agg #[.int .i64 W, .int .i64 H, .slice aL L.length cL, .slice aS n cS], .agg #[.int .i64 K, .slice aO O.length cO, .int .i64 aw]] X fun e w' => e = .returned (.bool (slkB L.length K O aw)) ∧ Below X.heap.size X w' := fun X hX =>
    Is_any w.heap.size W H aL aS aO cL cS cO L.length n K O aw X (hO.below hX.below) hX.below.size hV.2.1.1 h36
  have c53 : ∀ X, LawC w (.int .i64 W) (.int .i64 H) (.slice aL L.length cL) (.slice aS n cS) (.int .i64 K) (.slice aO O.length cO) (.int .i64 aw) (.slice aP P.length cP) (.int .i64 N) X → Calls Tryd.prog 53 #[.agg #[.int .i64 W, .int .i64 H, .slice aL L.length cL, .slice aS n cS], .slice aP P.length cP] X fun e w' => e = .returned (.bool (pricesB L.length P)) ∧ Below X.heap.size X w' := fun X hX =>
    ArePrices_ref w.heap.size W H aL aS aP cL cS cP L.length n L.length P X (hP.below hX.below) hX.below.size hV.2.1.1 h36
  cases hs : slkB L.length K O aw with
  | false =>
    rw [hlb] at c15
    rw [hv] at c21
    rw [hs] at c51
    replace c15 := Lib.hid c15
    replace c21 := Lib.hid c21
    replace c51 := Lib.hid c51
    clear hlb hv hs hV hout c53
    have h0 := hst.out
    have p0 := h0.two.c0
    have g0 := h0.bay.c0
    have g1 := h0.bay.c1
    have g2 := h0.bay.c2
    have g3 := h0.bay.c3
    go_enter Tryd.func11, Tryd.ntmps11
    go_wp2_with fail
    refine (c15.out _ h0).mono ?_
    rintro e w1 ⟨rfl, hb1⟩
    have h1 := h0.call hb1
    clear hb1 h0 g0 g1 g2 g3 p0
    have g0 := h1.bay.c0
    have g1 := h1.bay.c1
    have g2 := h1.bay.c2
    have g3 := h1.bay.c3
    go_wp2_with fail
    refine (c21.out _ h1).mono ?_
    rintro e w2 ⟨rfl, hb2⟩
    have h3 := h1.call hb2
    clear hb2 h1 g0 g1 g2 g3
    have g0 := h3.bay.c0
    have g1 := h3.bay.c1
    have g2 := h3.bay.c2
    have g3 := h3.bay.c3
    have t0 := h3.slk.c0
    have t1 := h3.slk.c1
    have t2 := h3.slk.c2
    go_wp2_with fail
    refine (c51.out _ h3).mono ?_
    rintro e w4 ⟨rfl, hb4⟩
    have h5 := h3.call hb4
    clear hb4 h3 g0 g1 g2 g3 t0 t1 t2
    go_wp2_with fail
    refine (sane.out _ h5).mono ?_
    rintro e w9 ⟨rfl, h9⟩
    go_wp2
    go_ret
    exact ⟨rfl, h9⟩
  | true =>
    have hp : pricesB L.length P = false := by
      rcases hout with e | e | e | e
      · rw [hlb] at e; cases e
      · rw [hv] at e; cases e
      · rw [hs] at e; cases e
      · exact e
    rw [hlb] at c15
    rw [hv] at c21
    rw [hs] at c51
    rw [hp] at c53
    replace c15 := Lib.hid c15
    replace c21 := Lib.hid c21
    replace c51 := Lib.hid c51
    replace c53 := Lib.hid c53
    clear hlb hv hs hV hout hp
    have h0 := hst.out
    have p0 := h0.two.c0
    have g0 := h0.bay.c0
    have g1 := h0.bay.c1
    have g2 := h0.bay.c2
    have g3 := h0.bay.c3
    go_enter Tryd.func11, Tryd.ntmps11
    go_wp2_with fail
    refine (c15.out _ h0).mono ?_
    rintro e w1 ⟨rfl, hb1⟩
    have h1 := h0.call hb1
    clear hb1 h0 g0 g1 g2 g3 p0
    have g0 := h1.bay.c0
    have g1 := h1.bay.c1
    have g2 := h1.bay.c2
    have g3 := h1.bay.c3
    go_wp2_with fail
    refine (c21.out _ h1).mono ?_
    rintro e w2 ⟨rfl, hb2⟩
    have h3 := h1.call hb2
    clear hb2 h1 g0 g1 g2 g3
    have g0 := h3.bay.c0
    have g1 := h3.bay.c1
    have g2 := h3.bay.c2
    have g3 := h3.bay.c3
    have t0 := h3.slk.c0
    have t1 := h3.slk.c1
    have t2 := h3.slk.c2
    go_wp2_with fail
    refine (c51.out _ h3).mono ?_
    rintro e w4 ⟨rfl, hb4⟩
    have h5 := h3.call hb4
    clear hb4 h3 g0 g1 g2 g3 t0 t1 t2
    have g0 := h5.bay.c0
    have g1 := h5.bay.c1
    have g2 := h5.bay.c2
    have g3 := h5.bay.c3
    go_wp2_with fail
    refine (c53.out _ h5).mono ?_
    rintro e w6 ⟨rfl, hb6⟩
    have h7 := h5.call hb6
    clear hb6 h5 g0 g1 g2 g3
    go_wp2_with fail
    refine (sane.out _ h7).mono ?_
    rintro e w9 ⟨rfl, h9⟩
    go_wp2
    go_ret
    exact ⟨rfl, h9⟩

set_option maxRecDepth 100000 in
set_option maxHeartbeats 4000000 in
theorem inn (wn hn : Nat) (aL aS aO aP : Option Addr) (cL cS cO cP : Nat) (L : List Bool) (S : List Int) (k0 : Nat) (O : List Int) (aw : Int) (P : List Int) (N : Int) (m : Nat) (w : World) (h : BayIn w w.heap.size aL L aS m S) (hO : Row w w.heap.size aO O) (hP : Row w w.heap.size aP P) (hd : Dirs w)
    (hm : m = wn * hn) (hlb : (decide (100 < L.length) || decide (100 < m)) = false) (hv : validB wn hn L m S = true) (hs : slkB L.length k0 O aw = true) (hp : pricesB L.length P = true) (hBay : Bay wn hn L S) :
    Calls Tryd.prog 11 #[.agg #[.int .i64 (wn : Nat), .int .i64 (hn : Nat), .slice aL m cL, .slice aS m cS], .agg #[.int .i64 (k0 : Nat), .slice aO m cO, .int .i64 aw], .agg #[.slice aP (m + 1) cP, .int .i64 N]] w fun e w' => e = .returned (.bool true) ∧ Below w.heap.size w w' := by
  have hst := lawC_start w (.int .i64 (wn : Nat)) (.int .i64 (hn : Nat)) (.slice aL m cL) (.slice aS m cS) (.int .i64 (k0 : Nat)) (.slice aO m cO) (.int .i64 aw) (.slice aP (m + 1) cP) (.int .i64 N)
  have hs1 : 1 ≤ w.heap.size := hd.1
  have hLm : L.length = m := by rw [hm]; exact hBay.2.1.1
  have h36 : 1 ≤ m ∧ m ≤ 36 := by rw [hm]; exact hBay.cells
  have hOm : O.length = m := by rw [(slk_of hs).1, hLm]
  have hpo := prices_of hp
  rw [hLm] at hpo
  have hV := val_of hv
  have sane : ∀ X, LawC w (.int .i64 (wn : Nat)) (.int .i64 (hn : Nat)) (.slice aL m cL) (.slice aS m cS) (.int .i64 (k0 : Nat)) (.slice aO m cO) (.int .i64 aw) (.slice aP (m + 1) cP) (.int .i64 N) X → Calls Tryd.prog 17 #[] X fun e w' => e = .returned (.bool true) ∧ Below w.heap.size w w' := fun X hX =>
    (Sane_any X (hd.below hX.below hs1)).mono fun e w' ⟨he, hb⟩ => ⟨he, hX.below.trans (hb.mono hX.below.size)⟩
  have c15 : ∀ X, LawC w (.int .i64 (wn : Nat)) (.int .i64 (hn : Nat)) (.slice aL m cL) (.slice aS m cS) (.int .i64 (k0 : Nat)) (.slice aO m cO) (.int .i64 aw) (.slice aP (m + 1) cP) (.int .i64 N) X → Calls Tryd.prog 15 #[.agg #[.int .i64 (wn : Nat), .int .i64 (hn : Nat), .slice aL m cL, .slice aS m cS]] X fun e w' => e = .returned (.bool false) ∧ Below X.heap.size X w' := fun X _ => by
    have h1 := Long_any wn hn aL aS cL m cS L.length X h.land.1 h.share.1
    rw [hlb, hLm] at h1
    exact h1
  have c21 : ∀ X, LawC w (.int .i64 (wn : Nat)) (.int .i64 (hn : Nat)) (.slice aL m cL) (.slice aS m cS) (.int .i64 (k0 : Nat)) (.slice aO m cO) (.int .i64 aw) (.slice aP (m + 1) cP) (.int .i64 N) X → Calls Tryd.prog 21 #[.agg #[.int .i64 (wn : Nat), .int .i64 (hn : Nat), .slice aL m cL, .slice aS m cS]] X fun e w' => e = .returned (.bool true) ∧ Below X.heap.size X w' := fun X hX => by
    have h1 := Valid_ref w.heap.size wn hn aL aS cL cS L m S X (h.below hX.below) hX.below.size
    rw [hv, hLm] at h1
    exact h1
  have c51 : ∀ X, LawC w (.int .i64 (wn : Nat)) (.int .i64 (hn : Nat)) (.slice aL m cL) (.slice aS m cS) (.int .i64 (k0 : Nat)) (.slice aO m cO) (.int .i64 aw) (.slice aP (m + 1) cP) (.int .i64 N) X → Calls Tryd.prog 51 #[.agg #[.int .i64 (wn : Nat), .int .i64 (hn : Nat), .slice aL m cL, .slice aS m cS], .agg #[.int .i64 (k0 : Nat), .slice aO m cO, .int .i64 aw]] X fun e w' => e = .returned (.bool true) ∧ Below X.heap.size X w' := fun X hX => by
    have h1 := Is_any w.heap.size wn hn aL aS aO cL cS cO L.length m k0 O aw X (hO.below hX.below) hX.below.size hV.2.1.1 (by omega)
    rw [hs, hLm, hOm] at h1
    exact h1
  have c53 : ∀ X, LawC w (.int .i64 (wn : Nat)) (.int .i64 (hn : Nat)) (.slice aL m cL) (.slice aS m cS) (.int .i64 (k0 : Nat)) (.slice aO m cO) (.int .i64 aw) (.slice aP (m + 1) cP) (.int .i64 N) X → Calls Tryd.prog 53 #[.agg #[.int .i64 (wn : Nat), .int .i64 (hn : Nat), .slice aL m cL, .slice aS m cS], .slice aP (m + 1) cP] X fun e w' => e = .returned (.bool true) ∧ Below X.heap.size X w' := fun X hX => by
    have h1 := ArePrices_ref w.heap.size wn hn aL aS aP cL cS cP L.length m L.length P X (hP.below hX.below) hX.below.size hV.2.1.1 (by omega)
    rw [hp, hLm, hpo.1] at h1
    exact h1
  have hk0 : k0 ≤ 5 := by have := (slk_of hs).2.1; omega
  obtain ⟨M, hM, hM2⟩ : ∃ M : Nat, IntKind.u64.wrap N = (M : Int) ∧ M ≤ 18446744073709551615 := ⟨(IntKind.u64.wrap N).toNat, by rw [IntKind.wrap_u64]; omega, by rw [IntKind.wrap_u64]; omega⟩
  obtain ⟨i, hi⟩ : ∃ i, i = M % (6 - k0) := ⟨_, rfl⟩
  have hil : i < 6 - k0 := by rw [hi]; exact Nat.mod_lt _ (by omega)
  have hiw : wrap64 ((M : Int) % (5 - (k0 : Int) + 1)) = (i : Int) := by
    have e1 : (M : Int) % (5 - (k0 : Int) + 1) = (i : Int) := by
      rw [show (5 - (k0 : Int) + 1) = ((6 - k0 : Nat) : Int) by omega, hi, Int.natCast_emod]
    rw [e1]
    exact IntWalk.wrap64_in _ (by omega)
  replace hM := Lib.hid hM
  replace hiw := Lib.hid hiw
  have hv2 : validB wn hn L (wn * hn) S = true := by rw [← hm]; exact hv
  have hx := aftR_ok (w := wn) (h := hn) (L := L) (S := S) (n := i) hv2 hs (by omega)
  have hal : (amt O aw).length = wn * hn + 1 := by rw [amt_len, hOm, hm]
  have hsa := slk_after (n := i) hBay (slk_of hs).2 (by rw [hOm, hm]) (by omega)
  have hafl := af_len (L := L) (S := S) hal i
  have hae : amt (pre (wn * hn) (af wn hn L S i (amt O aw))) (el (af wn hn L S i (amt O aw)) (wn * hn)) = af wn hn L S i (amt O aw) := amt_pre hafl
  have hq0 : ∀ t, t ≤ m → 0 ≤ el (bf wn hn L S i P) t ∧ el (bf wn hn L S i P) t ≤ 1000 * (16 : Int) ^ i := fun t ht => bf_bound hBay (fun t ht => hpo.2 t (by rw [hm]; exact ht)) i (by omega) t (by rw [← hm]; exact ht)
  have hq0l : (bf wn hn L S i P).length = m + 1 := by rw [hm]; exact bf_len (by rw [hpo.1, hm]) i
  have hq1l : (bf wn hn L S (i + 1) P).length = m + 1 := by rw [hm]; exact bf_len (by rw [hpo.1, hm]) (i + 1)
  have h16i := pow16 i 5 (by omega) 1000 (by omega)
  have hq0b : ∀ t, t ≤ m → 0 ≤ el (bf wn hn L S i P) t ∧ el (bf wn hn L S i P) t ≤ 1000000000000 := fun t ht => by
    have := hq0 t ht
    have e : 1000 * (16 : Int) ^ i = (16 : Int) ^ i * 1000 := Int.mul_comm _ _
    omega
  have hkeep : ∀ t, t ≤ m → keeps wn hn L t = true → 16 * el (bf wn hn L S i P) t = el (bf wn hn L S (i + 1) P) t := fun t ht hk => by
    show _ = el (pr wn hn L S (bf wn hn L S i P)) t
    rw [pr_el (by rw [← hm]; exact ht), prF_keep hk (by rw [← hm]; exact ht)]
  have hcst := cst_dual (L := L) (S := S) i P hal
  have c31 : ∀ X, LawC w (.int .i64 (wn : Nat)) (.int .i64 (hn : Nat)) (.slice aL m cL) (.slice aS m cS) (.int .i64 (k0 : Nat)) (.slice aO m cO) (.int .i64 aw) (.slice aP (m + 1) cP) (.int .i64 N) X → Calls Tryd.prog 31 #[.agg #[.int .i64 (wn : Nat), .int .i64 (hn : Nat), .slice aL m cL, .slice aS m cS], .agg #[.int .i64 (k0 : Nat), .slice aO m cO, .int .i64 aw], .int .i64 (i : Nat)] X fun e X' => ∃ A c, e = .returned (.tuple #[.agg #[.int .i64 ((k0 + i : Nat) : Int), .slice A m c, .int .i64 (el (af wn hn L S i (amt O aw)) (wn * hn))], .int .i64 0]) ∧ Below X.heap.size X X' ∧ Row X' X'.heap.size A (pre (wn * hn) (af wn hn L S i (amt O aw))) := fun X hX => by
    have h1 := After_any w.heap.size wn hn aL aS aO cL cS cO L m S k0 O aw i X (h.below hX.below) (hO.below hX.below) hX.below.size hs1 (hd.below hX.below hs1) (by omega)
    rw [hm] at h1
    rw [hx] at h1
    rw [← hm, hLm, hOm] at h1
    refine h1.mono ?_
    rintro e X' ⟨A', c', he, hb, hr, _⟩
    dsimp only at he hr
    rw [pre_len] at he
    rw [← hm]
    exact ⟨A', c', he, hb, hr⟩
  have c34 : ∀ X A c, LawC w (.int .i64 (wn : Nat)) (.int .i64 (hn : Nat)) (.slice aL m cL) (.slice aS m cS) (.int .i64 (k0 : Nat)) (.slice aO m cO) (.int .i64 aw) (.slice aP (m + 1) cP) (.int .i64 N) X → Row X X.heap.size A (pre (wn * hn) (af wn hn L S i (amt O aw))) → Calls Tryd.prog 34 #[.agg #[.int .i64 (wn : Nat), .int .i64 (hn : Nat), .slice aL m cL, .slice aS m cS], .agg #[.int .i64 ((k0 + i : Nat) : Int), .slice A m c, .int .i64 (el (af wn hn L S i (amt O aw)) (wn * hn))], .slice aP (m + 1) cP] X fun e X' => e = .returned (.tuple #[.int .i64 (Go.Proofs.YtnbgjgiknfcdkaaDoor.cst (amt O aw) (bf wn hn L S i P)), .int .i64 0]) ∧ Below X.heap.size X X' := fun X A c hX hr => by
    have h1 := Cost_ok X.heap.size wn hn aL aS A aP cL cS c cP L m S ((k0 + i : Nat) : Int) (pre (wn * hn) (af wn hn L S i (amt O aw))) (el (af wn hn L S i (amt O aw)) (wn * hn)) P X ((h.below hX.below).more hX.below.size) hr ((hP.below hX.below).more hX.below.size) (Nat.le_refl _) hv
      (slkB_true (by rw [pre_len, hLm, hm]) (by rw [Int.natCast_add]; exact hsa.2)) (by rw [hLm]; rw [hLm] at hp; exact hp)
    rw [hae, hcst, pre_len, hLm, hpo.1, ← hm] at h1
    rw [← hm]
    exact h1
  have c36 : ∀ X, LawC w (.int .i64 (wn : Nat)) (.int .i64 (hn : Nat)) (.slice aL m cL) (.slice aS m cS) (.int .i64 (k0 : Nat)) (.slice aO m cO) (.int .i64 aw) (.slice aP (m + 1) cP) (.int .i64 N) X → Calls Tryd.prog 36 #[.agg #[.int .i64 (wn : Nat), .int .i64 (hn : Nat), .slice aL m cL, .slice aS m cS], .slice aP (m + 1) cP, .int .i64 (i : Nat)] X fun e X' => ∃ A c, e = .returned (.tuple #[.slice A (m + 1) c, .int .i64 0]) ∧ Below X.heap.size X X' ∧ Row X' X'.heap.size A (bf wn hn L S i P) := fun X hX => by
    have h1 := Before_any w.heap.size wn hn aL aS aP cL cS cP L m S P i X (h.below hX.below) (hP.below hX.below) hX.below.size hs1 (hd.below hX.below hs1)
    have hr : befR wn hn L m S P (i : Nat) = (bf wn hn L S i P, 0) := by unfold befR; rw [hv, hp, show movesB (i : Nat) = true by unfold movesB; simp; omega]; simp
    rw [hr, hLm, hpo.1] at h1
    refine h1.mono ?_
    rintro e X' ⟨A', c', he, hb, hr⟩
    dsimp only at he hr
    rw [hq0l] at he
    exact ⟨A', c', he, hb, hr⟩
  have c36b : i + 1 ≤ 5 → ∀ X, LawC w (.int .i64 (wn : Nat)) (.int .i64 (hn : Nat)) (.slice aL m cL) (.slice aS m cS) (.int .i64 (k0 : Nat)) (.slice aO m cO) (.int .i64 aw) (.slice aP (m + 1) cP) (.int .i64 N) X → Calls Tryd.prog 36 #[.agg #[.int .i64 (wn : Nat), .int .i64 (hn : Nat), .slice aL m cL, .slice aS m cS], .slice aP (m + 1) cP, .int .i64 ((i : Nat) + 1)] X fun e X' => ∃ A c, e = .returned (.tuple #[.slice A (m + 1) c, .int .i64 0]) ∧ Below X.heap.size X X' ∧ Row X' X'.heap.size A (bf wn hn L S (i + 1) P) := fun h5 X hX => by
    have h1 := Before_any w.heap.size wn hn aL aS aP cL cS cP L m S P (i + 1 : Nat) X (h.below hX.below) (hP.below hX.below) hX.below.size hs1 (hd.below hX.below hs1)
    have hr : befR wn hn L m S P (i + 1 : Nat) = (bf wn hn L S (i + 1) P, 0) := by unfold befR; rw [hv, hp, show movesB ((i + 1 : Nat) : Int) = true by unfold movesB; simp; omega]; simp
    rw [hr, hLm, hpo.1] at h1
    refine h1.mono ?_
    rintro e X' ⟨A', c', he, hb, hr⟩
    dsimp only at he hr
    rw [hq1l] at he
    exact ⟨A', c', he, hb, hr⟩
  have c54 : ∀ X A c, LawC w (.int .i64 (wn : Nat)) (.int .i64 (hn : Nat)) (.slice aL m cL) (.slice aS m cS) (.int .i64 (k0 : Nat)) (.slice aO m cO) (.int .i64 aw) (.slice aP (m + 1) cP) (.int .i64 N) X → Row X X.heap.size A (bf wn hn L S i P) → Calls Tryd.prog 54 #[.agg #[.int .i64 (k0 : Nat), .slice aO m cO, .int .i64 aw], .slice A (m + 1) c] X fun e X' => e = .returned (.int .i64 (Go.Proofs.YtnbgjgiknfcdkaaDoor.cst (amt O aw) (bf wn hn L S i P))) ∧ Below X.heap.size X X' := fun X A c hX hr =>
    Priced_ref X.heap.size aO A cO c m k0 O aw (bf wn hn L S i P) X ((hO.below hX.below).more hX.below.size) hr (Nat.le_refl _) hOm hq0l h36.2 (fun t ht => by
      have e1 := (slk_of hs).2.2.1 t (by rw [hal, ← hm]; exact ht)
      have e2 := el_le_tot (slk_of hs).2.2.1 t (by rw [hal, ← hm]; exact ht)
      have e3 := (slk_of hs).2.2.2
      rw [Int.toNat_natCast] at e3
      have e4 := hq0 t (by omega)
      have e5 := Int.mul_le_mul (show el (amt O aw) t ≤ 36000 * (16 : Int) ^ k0 by omega) e4.2 e4.1 (Int.mul_nonneg (by omega) (Int.pow_nonneg (by omega)))
      have e6 : 36000 * (16 : Int) ^ k0 * (1000 * (16 : Int) ^ i) = (16 : Int) ^ (k0 + i) * 36000000 := by
        rw [Int.pow_add, Int.mul_comm ((16 : Int) ^ k0 * (16 : Int) ^ i) 36000000, ← Int.mul_assoc, ← Int.mul_assoc, Int.mul_assoc 36000 ((16 : Int) ^ k0) 1000, Int.mul_comm ((16 : Int) ^ k0) 1000, ← Int.mul_assoc, show (36000 : Int) * 1000 = 36000000 by rfl]
      have e7 := pow16 (k0 + i) 5 (by omega) 36000000 (by omega)
      refine ⟨Int.mul_nonneg e1 e4.1, ?_⟩
      rw [e6] at e5
      omega)
  have c55 : ∀ j, j < m → bl L j = false → ∀ X A c, LawC w (.int .i64 (wn : Nat)) (.int .i64 (hn : Nat)) (.slice aL m cL) (.slice aS m cS) (.int .i64 (k0 : Nat)) (.slice aO m cO) (.int .i64 aw) (.slice aP (m + 1) cP) (.int .i64 N) X → Row X X.heap.size A (bf wn hn L S i P) → Calls Tryd.prog 55 #[.agg #[.int .i64 (wn : Nat), .int .i64 (hn : Nat), .slice aL m cL, .slice aS m cS], .slice A (m + 1) c, .int .i64 (j : Nat)] X fun e X' => e = .returned (.int .i64 (el (bf wn hn L S (i + 1) P) j)) ∧ Below X.heap.size X X' := fun j hj hl X A c hX hr => by
    have h1 := share_law X.heap.size wn hn aL aS A cL cS c m S (bf wn hn L S i P) j X hm ((h.below hX.below).more hX.below.size).share hr (Nat.le_refl _) (by have := hBay.1.1; omega) (by have := hBay.1.2; omega) h36 hj hq0l hq0b (fun k hk => (hBay.2.2 j (by rw [← hm]; exact hj)).1 k hk)
    have e1 : el (bf wn hn L S (i + 1) P) j = sm (fun k => sh S j k * el (bf wn hn L S i P) (dst wn hn j k)) 5 := by
      show el (pr wn hn L S (bf wn hn L S i P)) j = _
      rw [pr_el (by rw [← hm]; omega), prF_water hBay.1.1.1 (by rw [← hm]; exact hj) hl]
    rw [e1]
    exact h1
  have hland : ∀ X, Below w.heap.size w X → ∀ j, j < m → ∃ b o, aL = some ⟨b, o, none⟩ ∧ X.cell? ⟨b, o + j, none⟩ = some (.bool (bl L j)) := fun X hX j hj => by
    obtain ⟨b, o, e, _, hc⟩ := (h.below hX).land.at_ j (by rw [hLm]; exact hj)
    exact ⟨b, o, e, hc⟩
  have hkl : ∀ j, j < m → bl L j = true → keeps wn hn L j = true := fun j hj hl => by unfold keeps; rw [hl]; simp
  have hkm : keeps wn hn L m = true := by unfold keeps; rw [hm]; simp
  have hrow : ∀ q : List Int, q.length = m + 1 → ∀ X A, Row X X.heap.size A q → ∀ j, j ≤ m → ∃ b o, A = some ⟨b, o, none⟩ ∧ X.cell? ⟨b, o + j, none⟩ = some (.int .i64 (el q j)) := fun q hq X A hr j hj => by
    obtain ⟨b, o, e, _, hc⟩ := hr.at_ j (by rw [hq]; omega)
    exact ⟨b, o, e, hc⟩
  generalize bf wn hn L S (i + 1) P = q1 at *
  generalize bf wn hn L S i P = q0 at *
  generalize el (af wn hn L S i (amt O aw)) (wn * hn) = xa at *
  generalize pre (wn * hn) (af wn hn L S i (amt O aw)) = xs at *
  generalize Go.Proofs.YtnbgjgiknfcdkaaDoor.cst (amt O aw) q0 = cc at *
  generalize ((k0 + i : Nat) : Int) = kk at *
  clear hx hal hsa hafl hae hq0 h16i hcst hV hv hs hp h hO hP hd hBay
  replace c31 := Lib.hid c31
  replace c34 := Lib.hid c34
  replace c36 := Lib.hid c36
  replace c36b := Lib.hid c36b
  replace c54 := Lib.hid c54
  replace c55 := Lib.hid c55
  replace hland := Lib.hid hland
  replace hkl := Lib.hid hkl
  replace hkm := Lib.hid hkm
  replace hkeep := Lib.hid hkeep
  replace hrow := Lib.hid hrow
  replace hq0b := Lib.hid hq0b
  replace hq0l := Lib.hid hq0l
  replace hq1l := Lib.hid hq1l
  replace c15 := Lib.hid c15
  replace c21 := Lib.hid c21
  replace c51 := Lib.hid c51
  replace c53 := Lib.hid c53
  replace sane := Lib.hid sane
  replace hst := Lib.hid hst
  replace hLm := Lib.hid hLm
  replace hOm := Lib.hid hOm
  replace hpo := Lib.hid hpo
  replace hm := Lib.hid hm
  replace hi := Lib.hid hi
  have h0 := hst.out
  have p0 := h0.two.c0
  have g0 := h0.bay.c0
  have g1 := h0.bay.c1
  have g2 := h0.bay.c2
  have g3 := h0.bay.c3
  go_enter Tryd.func11, Tryd.ntmps11
  go_wp2_with fail
  refine (c15.out _ h0).mono ?_
  rintro e w1 ⟨rfl, hb1⟩
  have h1 := h0.call hb1
  clear hb1 h0 g0 g1 g2 g3 p0
  have g0 := h1.bay.c0
  have g1 := h1.bay.c1
  have g2 := h1.bay.c2
  have g3 := h1.bay.c3
  go_wp2_with fail
  refine (c21.out _ h1).mono ?_
  rintro e w2 ⟨rfl, hb2⟩
  have h3 := h1.call hb2
  clear hb2 h1 g0 g1 g2 g3
  have g0 := h3.bay.c0
  have g1 := h3.bay.c1
  have g2 := h3.bay.c2
  have g3 := h3.bay.c3
  have t0 := h3.slk.c0
  have t1 := h3.slk.c1
  have t2 := h3.slk.c2
  go_wp2_with fail
  refine (c51.out _ h3).mono ?_
  rintro e w4 ⟨rfl, hb4⟩
  have h5 := h3.call hb4
  clear hb4 h3 g0 g1 g2 g3 t0 t1 t2
  have g0 := h5.bay.c0
  have g1 := h5.bay.c1
  have g2 := h5.bay.c2
  have g3 := h5.bay.c3
  go_wp2_with fail
  refine (c53.out _ h5).mono ?_
  rintro e w6 ⟨rfl, hb6⟩
  have h7 := h5.call hb6
  clear hb6 h5 g0 g1 g2 g3
  have hM' := hM.out
  have hiw' := hiw.out
  have p0 := h7.two.c0
  have p1 := h7.two.c1
  have t0 := h7.slk.c0
  have t1 := h7.slk.c1
  have t2 := h7.slk.c2
  have g0 := h7.bay.c0
  have g1 := h7.bay.c1
  have g2 := h7.bay.c2
  have g3 := h7.bay.c3
  go_wp2_with fail
  rw [hiw']
  clear hiw' hM' hiw hM hM2
  refine (c31.out _ h7).mono ?_
  rintro e w8 ⟨A8, c8, rfl, hb8, r8⟩
  have h9 := (h7.call hb8).call (ba1 w8 (.cells #[.int .i64 kk, .slice A8 m c8, .int .i64 xa] 28))
  have t9 := Tri.new w8 (.int .i64 kk) (.slice A8 m c8) (.int .i64 xa)
  have r9 := r8.up (ba1 w8 (.cells #[.int .i64 kk, .slice A8 m c8, .int .i64 xa] 28))
  clear hb8 h7 g0 g1 g2 g3 t0 t1 t2 p0 p1 r8
  have g0 := h9.bay.c0
  have g1 := h9.bay.c1
  have g2 := h9.bay.c2
  have g3 := h9.bay.c3
  have t0 := t9.c0
  have t1 := t9.c1
  have t2 := t9.c2
  go_wp2_with fail
  refine (c34.out _ A8 c8 h9 r9).mono ?_
  rintro e w10 ⟨rfl, hb10⟩
  have h11 := h9.call hb10
  clear hb10 h9 t9 r9 g0 g1 g2 g3 t0 t1 t2
  have g0 := h11.bay.c0
  have g1 := h11.bay.c1
  have g2 := h11.bay.c2
  have g3 := h11.bay.c3
  go_wp2_with fail
  refine (c36.out _ h11).mono ?_
  rintro e w12 ⟨A12, c12, rfl, hb12, r12⟩
  have h13 := h11.call hb12
  clear hb12 h11 g0 g1 g2 g3
  have t0 := h13.slk.c0
  have t1 := h13.slk.c1
  have t2 := h13.slk.c2
  go_wp2_with fail
  refine (c54.out _ A12 c12 h13 r12).mono ?_
  rintro e w14 ⟨rfl, hb14⟩
  have h15 := h13.call hb14
  have r15 := r12.up hb14
  clear hb14 h13 t0 t1 t2 r12
  by_cases hi5 : i = 5
  · have hi5I : ((i : Int) == 5) = true := by rw [hi5]; rfl
    clear c36b
    go_wp2_with fail
    refine (sane.out _ h15).mono ?_
    rintro e w9 ⟨rfl, h9⟩
    go_wp2
    go_ret
    exact ⟨rfl, h9⟩
  have hi5I : ((i : Int) == 5) = false := by simp; omega
  have d36 := c36b.out (by omega)
  clear c36b
  replace d36 := Lib.hid d36
  have g0 := h15.bay.c0
  have g1 := h15.bay.c1
  have g2 := h15.bay.c2
  have g3 := h15.bay.c3
  go_wp2_with fail
  refine (d36.out _ h15).mono ?_
  rintro e w16 ⟨A16, c16, rfl, hb16, r16⟩
  have h17 := h15.call hb16
  have r17 := r15.up hb16
  clear hb16 h15 g0 g1 g2 g3 r15
  obtain ⟨b1, o1, rfl, y1⟩ := hrow.out q0 hq0l.out _ _ r17 m (Nat.le_refl _)
  obtain ⟨b2, o2, rfl, y2⟩ := hrow.out q1 hq1l.out _ _ r16 m (Nat.le_refl _)
  have e16 := hkeep.out m (Nat.le_refl _) hkm.out
  have bz := hq0b.out m (Nat.le_refl _)
  have mI : (m : Int) < ((m + 1 : Nat) : Int) := by omega
  have hX0 : LawC w (.int .i64 (wn : Nat)) (.int .i64 (hn : Nat)) (.slice aL m cL) (.slice aS m cS) (.int .i64 (k0 : Nat)) (.slice aO m cO) (.int .i64 aw) (.slice aP (m + 1) cP) (.int .i64 N) w16 ∧ Row w16 w16.heap.size (some ⟨b1, o1, none⟩) q0 ∧ Row w16 w16.heap.size (some ⟨b2, o2, none⟩) q1 := ⟨h17, r17, r16⟩
  have t0 := h17.slk.c0
  have t1 := h17.slk.c1
  have t2 := h17.slk.c2
  generalize el q0 m = z0 at *
  generalize el q1 m = z1 at *
  have wz : IntKind.i64.wrap (16 * z0) = z1 := by rw [← e16]; exact IntWalk.i64_in _ (by omega)
  clear e16 h17 r17 r16
  replace hX0 := Lib.hid hX0
  go_wp2_with fail
  go_quiet (fail)
  have hX1 : LawC w (.int .i64 (wn : Nat)) (.int .i64 (hn : Nat)) (.slice aL m cL) (.slice aS m cS) (.int .i64 (k0 : Nat)) (.slice aO m cO) (.int .i64 aw) (.slice aP (m + 1) cP) (.int .i64 N) (w16.drewN nq) ∧ Row (w16.drewN nq) (w16.drewN nq).heap.size (some ⟨b1, o1, none⟩) q0 ∧ Row (w16.drewN nq) (w16.drewN nq).heap.size (some ⟨b2, o2, none⟩) q1 :=
    ⟨hX0.out.1.call (below_drewN (Below.refl _ _) nq), hX0.out.2.1.up (below_drewN (Below.refl _ _) nq), hX0.out.2.2.up (below_drewN (Below.refl _ _) nq)⟩
  clear hX0 t0 t1 t2 y1 y2 wz bz
  have t1 := hX1.1.slk.c1
  replace hX1 := Lib.hid hX1
  go_wp2
  go_loopw [16] (fun i X => ∃ j : Nat, j ≤ m ∧ i = .int .i64 j ∧ LawC w (.int .i64 (wn : Nat)) (.int .i64 (hn : Nat)) (.slice aL m cL) (.slice aS m cS) (.int .i64 (k0 : Nat)) (.slice aO m cO) (.int .i64 aw) (.slice aP (m + 1) cP) (.int .i64 N) X ∧ Row X X.heap.size (some ⟨b1, o1, none⟩) q0 ∧ Row X X.heap.size (some ⟨b2, o2, none⟩) q1) (fun i _ => m - (intOf i).toNat)
  case atStart => exact ⟨0, Nat.zero_le _, rfl, hX1.out⟩
  case round =>
    clear hX1 t1
    obtain ⟨j, hj, rfl, hX, r0, r1⟩ := hrel
    have t1 := hX.slk.c1
    by_cases hlt : j < m
    · have jI : (j : Int) < (m : Nat) := by omega
      have jI2 : (j : Int) < ((m + 1 : Nat) : Int) := by omega
      obtain ⟨d1, f1, e1, x0⟩ := hrow.out q0 hq0l.out _ _ r0 j (by omega)
      obtain ⟨rfl, rfl⟩ : b1 = d1 ∧ o1 = f1 := by simpa using e1
      obtain ⟨d2, f2, e2, x1⟩ := hrow.out q1 hq1l.out _ _ r1 j (by omega)
      obtain ⟨rfl, rfl⟩ : b2 = d2 ∧ o2 = f2 := by simpa using e2
      clear e1 e2
      have d55 := c55.out j hlt
      have hk := hkeep.out j (by omega)
      have hkj := hkl.out j hlt
      have bz := hq0b.out j (by omega)
      obtain ⟨bl', ol, heL, xl⟩ := hland.out _ hX.below j hlt
      subst heL
      have g2 := hX.bay.c2
      cases hb : bl L j with
      | true =>
        have e16 := hk (hkj hb)
        rw [hb] at xl
        clear d55 hk hkj hb
        generalize el q0 j = z0 at *
        generalize el q1 j = z1 at *
        replace hX := Lib.hid hX
        replace r0 := Lib.hid r0
        replace r1 := Lib.hid r1
        go_wp2
        go_roundw
        case rel => exact ⟨j + 1, by omega, by go_num, hX.out, r0.out, r1.out⟩
        case measure => simp [intOf]; omega
      | false =>
        have e55 := d55 hb wr _ c12 hX r0
        rw [hb] at xl
        clear d55 hk hkj hb
        have hrw := hrow.out q1 hq1l.out
        generalize el q0 j = z0 at *
        have g0 := hX.bay.c0
        have g1 := hX.bay.c1
        have g3 := hX.bay.c3
        replace e55 := Lib.hid e55
        replace hrw := Lib.hid hrw
        replace hX := Lib.hid hX
        replace r0 := Lib.hid r0
        replace r1 := Lib.hid r1
        go_wp2_with fail
        refine e55.out.mono ?_
        rintro e X1 ⟨rfl, hb1⟩
        have hX1 := hX.out.call hb1
        have r01 := r0.out.up hb1
        have r11 := r1.out.up hb1
        obtain ⟨d2, f2, e2, x3⟩ := hrw.out _ _ r11 j (by omega)
        obtain ⟨rfl, rfl⟩ : b2 = d2 ∧ o2 = f2 := by simpa using e2
        clear e2 hb1 hX r0 r1 x0 x1 xl g0 g1 g2 g3 t1 e55 hrw
        generalize el q1 j = z1 at *
        replace hX1 := Lib.hid hX1
        replace r01 := Lib.hid r01
        replace r11 := Lib.hid r11
        go_wp2
        go_roundw
        case rel => exact ⟨j + 1, by omega, by go_num, hX1.out, r01.out, r11.out⟩
        case measure => simp [intOf]; omega
    · have hj' : j = m := by omega
      subst hj'
      clear r0 r1
      go_wp2_with fail
      refine (sane.out _ hX).mono ?_
      rintro e w9 ⟨rfl, h9⟩
      go_wp2
      go_ret
      exact ⟨rfl, h9⟩

theorem walk (W H : Int) (aL aS aO aP : Option Addr) (cL cS cO cP : Nat) (L : List Bool) (n : Nat) (S : List Int) (K : Int) (O : List Int) (aw : Int) (P : List Int) (N : Int) (w : World) (h : BayIn w w.heap.size aL L aS n S) (hO : Row w w.heap.size aO O) (hP : Row w w.heap.size aP P) (hd : Dirs w) :
    Calls Tryd.prog 11 #[.agg #[.int .i64 W, .int .i64 H, .slice aL L.length cL, .slice aS n cS], .agg #[.int .i64 K, .slice aO O.length cO, .int .i64 aw], .agg #[.slice aP P.length cP, .int .i64 N]] w fun e w' => e = .returned (.bool true) ∧ Below w.heap.size w w' := by
  cases hlb : (decide (100 < L.length) || decide (100 < n)) with
  | true => exact out W H aL aS aO aP cL cS cO cP L n S K O aw P N w h hO hP hd (.inl hlb)
  | false =>
  cases hv : validB W H L n S with
  | false => exact out W H aL aS aO aP cL cS cO cP L n S K O aw P N w h hO hP hd (.inr (.inl hv))
  | true =>
  cases hs : slkB L.length K O aw with
  | false => exact out W H aL aS aO aP cL cS cO cP L n S K O aw P N w h hO hP hd (.inr (.inr (.inl hs)))
  | true =>
  cases hp : pricesB L.length P with
  | false => exact out W H aL aS aO aP cL cS cO cP L n S K O aw P N w h hO hP hd (.inr (.inr (.inr hp)))
  | true =>
  obtain ⟨wn, hn, rfl, rfl, hnm, hL, hBay⟩ := bay_of (val_of hv) h.share.2.1
  obtain ⟨k0, rfl⟩ : ∃ k0 : Nat, K = k0 := ⟨K.toNat, by have := (slk_of hs).2.1; omega⟩
  have hON : O.length = n := by rw [(slk_of hs).1, hL, hnm]
  have hPN : P.length = n + 1 := by rw [(prices_of hp).1, hL, hnm]
  have hLN : L.length = n := by rw [hL, hnm]
  have h1 := inn wn hn aL aS aO aP cL cS cO cP L S k0 O aw P N n w h hO hP hd hnm hlb hv hs hp hBay
  rw [hON, hPN, hLN]
  exact h1

/-! ### the row's step -/
set_option maxRecDepth 100000 in
/-- The door's own heap meets the condition. -/
theorem door_met (os : Os) (args : Array Value) : laidMetH Tryd.prog laidV ((World.doorLaid Tryd.prog 400 os).forCall (fun _ _ => 0) ⟨#[], args, []⟩).memory :=
  laidMetH_of_parts3 (fuel := 8) (laidMet_of_run' 8 (by kernel_rfl) (by kernel_rfl)) (by kernel_rfl) (by kernel_rfl)

set_option maxRecDepth 100000 in
theorem lifted (os : Os) (started : os.Started) (H : Type) (enc : TypeId × Value → H) :
    ReturnsInHanded {} Tryd.checked os 11 .any (fun w args => (Rows.slickBothSpec.pre enc Tryd.prog Tryd.f11 [] false w args ∧ laidMetH Tryd.prog laidV w) ∧ sizedMet enc Tryd.prog Tryd.f11 (OpenSpec.ofChange Rows.slickBothSpec) false w args)
      (Rows.slickBothSpec.post enc Tryd.prog Tryd.f11 false true false false) := by
  refine returnsInHanded_of_change_and (C := Tryd.checked) (X := fun w _ => laidMetH Tryd.prog laidV w) (fun _ _ _ hh h => h.of_heap hh) own started (by kernel_rfl) Tryd.func11
    (ChangeSpec.witness_shaped (enc := enc) (C := Tryd.checked) (os := os) (X := fun w _ => laidMetH Tryd.prog laidV w) false (World.doorLaid Tryd.prog 400 os) #[.agg #[.int .i64 0, .int .i64 0, .slice none 0 0, .slice none 0 0], .agg #[.int .i64 0, .slice none 0 0, .int .i64 0], .agg #[.slice none 0 0, .int .i64 0]] 8 rfl (World.shaped_of_RefB (by kernel_rfl) (by kernel_rfl)) (by kernel_rfl) (by kernel_rfl) (by kernel_rfl) (door_met os _)) ?_
  intro W base args ds gs before hval0 hW _ _ hL _
  have hval : ∀ (j : Nat) t v, Tryd.f11.params[j]? = some t → args[j]? = some v → Value.okWide Tryd.prog W .any base t v := hval0
  have hW' := hW
  obtain ⟨p, q, hA0, hV, rfl, hfz, hnd⟩ := hW
  have hA : DataW.TrodAll enc Tryd.prog W 0 (fun _ => true) true Tryd.f11.params.toList args.toList ds p := hA0
  rw [Tryd.params11] at hA hval
  obtain ⟨v0, vs0, d0, ds0, p0, q0, hargs, rfl, rfl, h0, r0⟩ := trodAll_cons hA
  obtain ⟨v1, vs1, d1, ds1, p1, q1, rfl, rfl, rfl, h1, r1⟩ := trodAll_cons r0
  obtain ⟨v2, vs2, d2, ds2, p2, q2, rfl, rfl, rfl, h2, r2⟩ := trodAll_cons r1
  obtain ⟨rfl, rfl, rfl⟩ := trodAll_nil r2
  obtain rfl : args = #[v0, v1, v2] := by cases args; simp_all
  obtain ⟨rfl, rfl⟩ := trodVars_none hV
  have hdirs := dirs_of hL
  have k0 := h0
  have lt0 : ∀ x ∈ p0, x.block < W.heap.size := by obtain ⟨m, hm⟩ := k0; exact DataW.trod_lt m _ _ _ hm
  obtain ⟨Wd, Hd, aL, aS, cL, cS, n, L, S, rfl, hb0⟩ := bay_in (hval 0 25 v0 rfl rfl) h0
  have k1 := h1
  have lt1 : ∀ x ∈ p1, x.block < W.heap.size := by obtain ⟨m, hm⟩ := k1; exact DataW.trod_lt m _ _ _ hm
  obtain ⟨K, aw, aO, cO, O, rfl, hb1⟩ := slick_in (hval 1 28 v1 rfl rfl) h1
  have k2 := h2
  have lt2 : ∀ x ∈ p2, x.block < W.heap.size := by obtain ⟨m, hm⟩ := k2; exact DataW.trod_lt m _ _ _ hm
  obtain ⟨N, aP, cP, P, rfl, hb2⟩ := two_in (hval 2 47 v2 rfl rfl) h2
  clear hA0 hval0
  refine (walk Wd Hd aL aS aO aP cL cS cO cP L n S K O aw P N W hb0 hb1 hb2 hdirs).mono fun e W' ⟨he, bel⟩ => ?_
  subst he
  exact ⟨_, rfl, _, _, _, [], _, [], hW', trodAll_mk1 (shut_bool Tryd.underlying4 _), (trodAll_cons_mk (Below.trod laidOut (by kernel_rfl) (of_decide_eq_true (by kernel_rfl)) k0 bel lt0) (trodAll_cons_mk (Below.trod laidOut (by kernel_rfl) (of_decide_eq_true (by kernel_rfl)) k1 bel lt1) (trodAll_cons_mk (Below.trod laidOut (by kernel_rfl) (of_decide_eq_true (by kernel_rfl)) k2 bel lt2) trodAll_mk0))), rfl, bel.frame _, fun h => by cases h⟩

theorem over : Rows.SlickBothSaid :=
  OpenClaim.holds_of_wide 11 Tryd.f11 rfl rfl rfl rfl rfl rfl rfl ⟨rfl, rfl, rfl, rfl, rfl⟩ rfl rfl rfl rfl rfl (by kernel_rfl) Tryd.func11 (by kernel_rfl)
    (of_decide_eq_true (by kernel_rfl)) (by unfold Func.isWrapper; first | (rw [if_pos (by decide +kernel)]; kernel_rfl) | (rw [if_neg (by decide +kernel)]; exact ⟨rfl, rfl⟩))
    (fun os started H enc _ => lifted os started H enc)

/-- The statement: the tied card. -/
theorem proved : Rows.SlickBothCardSaid :=
  Claim7.holds_tied_plain_at .later [] [.data] true (true, "38a074445a3967dedbdfb9374eda118d846433fb573c587a55d7c5edfad1e3dd") false
    over (fun _ h => by cases h) (by kernel_rfl) (fun _ h => by cases h) slickBoth_row_tie rfl ⟨rfl, rfl⟩ (by kernel_rfl) rfl
    (fun f fn hf hfn => by
      obtain rfl : f = 11 := Option.some.inj ((show Tryd.prog.funcNamed "skimmer/skimmerlaw02.SlickBoth" = some 11 by kernel_rfl).symm.trans hf) |>.symm
      obtain rfl : fn = Tryd.f11 := (Option.some.inj (Tryd.func11.symm.trans hfn)).symm
      exact ⟨by kernel_rfl, fun j t ht => by
        rw [Tryd.params11] at ht
        have hm : t ∈ [25, 28, 47] := by simpa using Array.mem_of_getElem? ht
        have hall : ([25, 28, 47].all fun u => !Tryd.prog.wantsStandIn u) = true := by kernel_rfl
        exact (show Tryd.prog.wantsStandIn t = false by simpa using List.all_eq_true.1 hall t hm)⟩)
    (by kernel_rfl)
end Go.Proofs.YtnbgjgiknfcdkaaDoor.lawSlickBoth
