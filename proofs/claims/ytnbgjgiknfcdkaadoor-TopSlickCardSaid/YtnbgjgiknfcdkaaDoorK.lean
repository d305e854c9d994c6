/-
  'After' and 'Move': what they answer.
-/
import Derived.Test.YtnbgjgiknfcdkaaDoorJ
namespace Go.Proofs.YtnbgjgiknfcdkaaDoor
open Go.RowKit Go.Deep M
set_option linter.unusedVariables false
set_option linter.unusedSimpArgs false

theorem ba1 (w : World) (o : Obj) : Below w.heap.size w (w.alloc o) := (Below.refl _ _).alloc (Nat.le_refl _) _
theorem ba2 (w : World) (o p : Obj) : Below w.heap.size w ((w.alloc o).alloc p) := (ba1 w o).alloc (by simp) _
theorem ba3 (w : World) (o p q : Obj) : Below w.heap.size w (((w.alloc o).alloc p).alloc q) := (ba2 w o p).alloc (by simp; omega) _
theorem ba4 (w : World) (o p q r : Obj) : Below w.heap.size w ((((w.alloc o).alloc p).alloc q).alloc r) := (ba3 w o p q).alloc (by simp; omega) _

/-- What a call says that hands back a slick and an error. -/
def SlkRes (w : World) (r : Int × List Int × Int × Int) (e : Ending) (w' : World) : Prop :=
  ∃ A c, e = .returned (.tuple #[.agg #[.int .i64 r.1, .slice A r.2.1.length c, .int .i64 r.2.2.1], .int .i64 r.2.2.2]) ∧ Below w.heap.size w w' ∧ Row w' w'.heap.size A r.2.1 ∧ Fresh w.heap.size A
theorem row_nil (w : World) (B : Nat) (A : Option Addr) : Row w B A [] := ⟨by simp, fun h => absurd h (by simp)⟩

/-- What After answers. -/
noncomputable def aftR (W H : Int) (L : List Bool) (n : Nat) (S : List Int) (K : Int) (O : List Int) (aw N : Int) : Int × List Int × Int × Int :=
  if validB W H L n S = true then
    if slkB L.length K O aw = true then
      if movesB N = true then
        if K + N ≤ 5 then (K + N, pre (W.toNat * H.toNat) (af W.toNat H.toNat L S N.toNat (amt O aw)), el (af W.toNat H.toNat L S N.toNat (amt O aw)) (W.toNat * H.toNat), 0)
        else (0, [], 0, 4)
      else (0, [], 0, 2)
    else (0, [], 0, 21)
  else (0, [], 0, 20)

/-- A valid bay, in natural numbers. -/
theorem bay_of {W H : Int} {L : List Bool} {n : Nat} {S : List Int} (h : ValP W H L n S) (hS : S.length = n * 5) : ∃ w h' : Nat, W = w ∧ H = h' ∧ n = w * h' ∧ L.length = w * h' ∧ Bay w h' L S := by
  obtain ⟨⟨⟨w1, w2⟩, h1, h2⟩, ⟨hl, hn⟩, hc⟩ := h
  obtain ⟨w, rfl⟩ : ∃ w : Nat, W = w := ⟨W.toNat, by omega⟩
  obtain ⟨h', rfl⟩ : ∃ h' : Nat, H = h' := ⟨H.toNat, by omega⟩
  have e1 : n = w * h' := by have : ((w * h' : Nat) : Int) = (w : Int) * h' := by simp
                             omega
  have e2 : L.length = w * h' := by have : ((w * h' : Nat) : Int) = (w : Int) * h' := by simp
                                    omega
  refine ⟨w, h', rfl, rfl, e1, e2, ⟨⟨by omega, by omega⟩, by omega, by omega⟩, ⟨e2, by rw [hS, e1]⟩, fun i hi => hc i (by omega)⟩

/-- What the last region of 'After' keeps: both boxes. -/
def AfB (w : World) (W H : Int) (aL : Option Addr) (nL cL : Nat) (aS : Option Addr) (nS cS : Nat) (K : Int) (aO : Option Addr) (nO cO : Nat) (aw : Int) (X : World) : Prop :=
  (X.cell? ⟨w.heap.size, 0, none⟩ = some (.int .i64 W) ∧ X.cell? ⟨w.heap.size, 1, none⟩ = some (.int .i64 H) ∧ X.cell? ⟨w.heap.size, 2, none⟩ = some (.slice aL nL cL) ∧ X.cell? ⟨w.heap.size, 3, none⟩ = some (.slice aS nS cS)) ∧
  (X.cell? ⟨w.heap.size + 1, 0, none⟩ = some (.int .i64 K) ∧ X.cell? ⟨w.heap.size + 1, 1, none⟩ = some (.slice aO nO cO) ∧ X.cell? ⟨w.heap.size + 1, 2, none⟩ = some (.int .i64 aw))
theorem AfB.below {w : World} {W H : Int} {aL : Option Addr} {nL cL : Nat} {aS : Option Addr} {nS cS : Nat} {K : Int} {aO : Option Addr} {nO cO : Nat} {aw : Int} {X Y : World} {B : Nat} (h : AfB w W H aL nL cL aS nS cS K aO nO cO aw X) (hb : Below B X Y) (hB : w.heap.size + 2 ≤ B) : AfB w W H aL nL cL aS nS cS K aO nO cO aw Y := by
  obtain ⟨⟨h0, h1, h2, h3⟩, h4, h5, h6⟩ := h
  have e : ∀ o, Y.cell? ⟨w.heap.size, o, none⟩ = X.cell? ⟨w.heap.size, o, none⟩ := fun o => hb.cell (p := ⟨w.heap.size, o, none⟩) (by show w.heap.size < B; omega)
  have f : ∀ o, Y.cell? ⟨w.heap.size + 1, o, none⟩ = X.cell? ⟨w.heap.size + 1, o, none⟩ := fun o => hb.cell (p := ⟨w.heap.size + 1, o, none⟩) (by show w.heap.size + 1 < B; omega)
  exact ⟨⟨(e 0).trans h0, (e 1).trans h1, (e 2).trans h2, (e 3).trans h3⟩, (f 0).trans h4, (f 1).trans h5, (f 2).trans h6⟩

theorem set3_cell {X : World} {b d : Nat} (hd : d ≠ b) (x y z : Value) (o : Nat) : (((X.setCell ⟨b, 0, none⟩ x).setCell ⟨b, 1, none⟩ y).setCell ⟨b, 2, none⟩ z).cell? ⟨d, o, none⟩ = X.cell? ⟨d, o, none⟩ := by
  refine World.cell?_of_block ?_
  show (((X.setCell ⟨b, 0, none⟩ x).setCell ⟨b, 1, none⟩ y).setCell ⟨b, 2, none⟩ z).heap[d]? = X.heap[d]?
  rw [setCell_block _ _ _ _ _ hd, setCell_block _ _ _ _ _ hd, setCell_block _ _ _ _ _ hd]
theorem afB_set {w : World} {W H : Int} {aL : Option Addr} {nL cL : Nat} {aS : Option Addr} {nS cS : Nat} {K : Int} {aO : Option Addr} {nO cO : Nat} {aw : Int} {X : World} (h : AfB w W H aL nL cL aS nS cS K aO nO cO aw X) (x y z : Value) :
    AfB w W H aL nL cL aS nS cS K aO nO cO aw (((X.setCell ⟨w.heap.size + 1 + 1, 0, none⟩ x).setCell ⟨w.heap.size + 1 + 1, 1, none⟩ y).setCell ⟨w.heap.size + 1 + 1, 2, none⟩ z) := by
  obtain ⟨⟨h0, h1, h2, h3⟩, h4, h5, h6⟩ := h
  have e : ∀ o, _ := fun o => set3_cell (X := X) (b := w.heap.size + 1 + 1) (d := w.heap.size) (by omega) x y z o
  have f : ∀ o, _ := fun o => set3_cell (X := X) (b := w.heap.size + 1 + 1) (d := w.heap.size + 1) (by omega) x y z o
  exact ⟨⟨(e 0).trans h0, (e 1).trans h1, (e 2).trans h2, (e 3).trans h3⟩, (f 0).trans h4, (f 1).trans h5, (f 2).trans h6⟩

/-- A walk's world behind 'checked' in 'After'. -/
structure AftW (w : World) (W H : Int) (aL : Option Addr) (nL cL : Nat) (aS : Option Addr) (nS cS : Nat) (K : Int) (aO : Option Addr) (nO cO : Nat) (aw : Int) (X : World) : Prop where
  below : Below w.heap.size w X
  size : w.heap.size + 3 ≤ X.heap.size
  box : AfB w W H aL nL cL aS nS cS K aO nO cO aw X
  res : Tri X (w.heap.size + 1 + 1) (.int .i64 0) (.slice none 0 0) (.int .i64 0)
theorem AftW.call {w : World} {W H : Int} {aL : Option Addr} {nL cL : Nat} {aS : Option Addr} {nS cS : Nat} {K : Int} {aO : Option Addr} {nO cO : Nat} {aw : Int} {X Y : World} (h : AftW w W H aL nL cL aS nS cS K aO nO cO aw X) (hb : Below X.heap.size X Y) : AftW w W H aL nL cL aS nS cS K aO nO cO aw Y :=
  ⟨h.below.trans (hb.mono h.below.size), Nat.le_trans h.size hb.size, h.box.below hb (by have := h.size; omega), h.res.below hb (by have := h.size; omega)⟩
theorem AftW.drew {w : World} {W H : Int} {aL : Option Addr} {nL cL : Nat} {aS : Option Addr} {nS cS : Nat} {K : Int} {aO : Option Addr} {nO cO : Nat} {aw : Int} {X : World} (h : AftW w W H aL nL cL aS nS cS K aO nO cO aw X) : AftW w W H aL nL cL aS nS cS K aO nO cO aw X.drew := ⟨below_drewN h.below 1, h.size, h.box, h.res⟩
theorem aftW_start (w : World) (W H : Int) (aL : Option Addr) (nL cL : Nat) (aS : Option Addr) (nS cS : Nat) (K : Int) (aO : Option Addr) (nO cO : Nat) (aw : Int) :
    AftW w W H aL nL cL aS nS cS K aO nO cO aw ((((w.alloc (.cells #[.int .i64 W, .int .i64 H, .slice aL nL cL, .slice aS nS cS] 25)).alloc (.cells #[.int .i64 K, .slice aO nO cO, .int .i64 aw] 28)).alloc (.cells #[.int .i64 0, .slice none 0 0, .int .i64 0] 28)).alloc (.cells #[.int .i64 K, .slice aO nO cO, .int .i64 aw] 28)) := by
  refine ⟨ba4 w _ _ _ _, by simp, ⟨⟨by simp [go_sem], by simp [go_sem], by simp [go_sem], by simp [go_sem]⟩, by simp [go_sem], by simp [go_sem], by simp [go_sem]⟩, ?_⟩
  have := Tri.new ((w.alloc (.cells #[.int .i64 W, .int .i64 H, .slice aL nL cL, .slice aS nS cS] 25)).alloc (.cells #[.int .i64 K, .slice aO nO cO, .int .i64 aw] 28)) (.int .i64 0) (.slice none 0 0) (.int .i64 0)
  have h2 := this.below (ba1 _ (.cells #[.int .i64 K, .slice aO nO cO, .int .i64 aw] 28)) (by simp)
  simpa using h2

set_option maxRecDepth 100000 in
set_option maxHeartbeats 4000000 in
theorem After_any (B : Nat) (W H : Int) (aL aS aO : Option Addr) (cL cS cO : Nat) (L : List Bool) (n : Nat) (S : List Int) (K : Int) (O : List Int) (aw N : Int) (w : World) (h : BayIn w B aL L aS n S) (hO : Row w B aO O) (hB : B ≤ w.heap.size) (hB1 : 1 ≤ B) (hd : Dirs w) (hN : -9223372036854775808 ≤ N ∧ N ≤ 9223372036854775807) :
    Calls Tryd.prog 31 #[.agg #[.int .i64 W, .int .i64 H, .slice aL L.length cL, .slice aS n cS], .agg #[.int .i64 K, .slice aO O.length cO, .int .i64 aw], .int .i64 N] w (SlkRes w (aftR W H L n S K O aw N)) := by
  have hst := aftW_start w W H aL L.length cL aS n cS K aO O.length cO aw
  have c59 := checked1_any B W H aL aS aO cL cS cO L n S K O aw (w.heap.size + 3) 1 _ (h.below (hst.below.mono hB)) (hO.below (hst.below.mono hB)) (by simp; omega) (by simp) ⟨by simp [go_sem], by simp [go_sem], by simp [go_sem]⟩
  cases hv : validB W H L n S with
  | false =>
    have hr : aftR W H L n S K O aw N = (0, [], 0, 20) := by unfold aftR; rw [hv]; rfl
    rw [hr]
    rw [hv] at c59
    replace c59 := Lib.hid c59
    replace hst := Lib.hid hst
    go_enter Tryd.func31, Tryd.ntmps31
    go_wp2_with fail
    refine c59.out.mono ?_
    rintro e w1 ⟨rfl, hb1⟩
    have hw1 := hst.out.call hb1
    have t := hw1.res
    have j1 := t.c0
    have j2 := t.c1
    have j3 := t.c2
    have f1 := t.fz 0
    have f2 := t.fz 1
    have f3 := t.fz 2
    have hbb := hw1.below
    clear hb1 hw1
    have ts := t.set (.int .i64 0) (.slice none 0 0) (.int .i64 0)
    have j4 := ts.c0
    have j5 := ts.c1
    have j6 := ts.c2
    have hbs := tri_below (x := .int .i64 0) (y := .slice none 0 0) (z := .int .i64 0) hbb (show w.heap.size ≤ w.heap.size + 1 + 1 by omega)
    go_wp2
    exact bodyPost_ret (v := .tuple #[.agg #[.int .i64 0, .slice none 0 0, .int .i64 0], .int .i64 20]) (by simp [results, Tryd.results31, go_sem, j4, j5, j6]) rfl ⟨none, 0, rfl, hbs, row_nil _ _ _, fun a ha => by cases ha⟩
  | true =>
  cases hs : slkB L.length K O aw with
  | false =>
    have hr : aftR W H L n S K O aw N = (0, [], 0, 21) := by unfold aftR; rw [hv, hs]; rfl
    rw [hr]
    rw [hv, hs] at c59
    replace c59 := Lib.hid c59
    replace hst := Lib.hid hst
    go_enter Tryd.func31, Tryd.ntmps31
    go_wp2_with fail
    refine c59.out.mono ?_
    rintro e w1 ⟨rfl, hb1⟩
    have hw1 := hst.out.call hb1
    have t := hw1.res
    have j1 := t.c0
    have j2 := t.c1
    have j3 := t.c2
    have f1 := t.fz 0
    have f2 := t.fz 1
    have f3 := t.fz 2
    have hbb := hw1.below
    clear hb1 hw1
    have ts := t.set (.int .i64 0) (.slice none 0 0) (.int .i64 0)
    have j4 := ts.c0
    have j5 := ts.c1
    have j6 := ts.c2
    have hbs := tri_below (x := .int .i64 0) (y := .slice none 0 0) (z := .int .i64 0) hbb (show w.heap.size ≤ w.heap.size + 1 + 1 by omega)
    go_wp2
    exact bodyPost_ret (v := .tuple #[.agg #[.int .i64 0, .slice none 0 0, .int .i64 0], .int .i64 21]) (by simp [results, Tryd.results31, go_sem, j4, j5, j6]) rfl ⟨none, 0, rfl, hbs, row_nil _ _ _, fun a ha => by cases ha⟩
  | true =>
  rw [hv, hs] at c59
  have hK := (slk_of hs).2.1
  cases hmv : movesB N with
  | false =>
    have hr : aftR W H L n S K O aw N = (0, [], 0, 2) := by unfold aftR; rw [hv, hs, hmv]; rfl
    rw [hr]
    replace c59 := Lib.hid c59
    replace hst := Lib.hid hst
    go_enter Tryd.func31, Tryd.ntmps31
    go_wp2_with fail
    refine c59.out.mono ?_
    rintro e w1 ⟨rfl, hb1⟩
    have hw1 := hst.out.call hb1
    have t := hw1.res
    have j1 := t.c0
    have j2 := t.c1
    have j3 := t.c2
    have f1 := t.fz 0
    have f2 := t.fz 1
    have f3 := t.fz 2
    have hbb := hw1.below
    clear hb1 hw1
    have ts := t.set (.int .i64 0) (.slice none 0 0) (.int .i64 0)
    have j4 := ts.c0
    have j5 := ts.c1
    have j6 := ts.c2
    have hbs := tri_below (x := .int .i64 0) (y := .slice none 0 0) (z := .int .i64 0) hbb (show w.heap.size ≤ w.heap.size + 1 + 1 by omega)
    go_wp2_with fail
    refine (isMoves_any N _).mono ?_
    rintro e w2 ⟨rfl, rfl⟩
    rw [hmv]
    go_wp2
    exact bodyPost_ret (v := .tuple #[.agg #[.int .i64 0, .slice none 0 0, .int .i64 0], .int .i64 2]) (by simp [results, Tryd.results31, go_sem, j4, j5, j6]) rfl ⟨none, 0, rfl, hbs, row_nil _ _ _, fun a ha => by cases ha⟩
  | true =>
  have hNb : 0 ≤ N ∧ N ≤ 5 := by unfold movesB at hmv; simpa using hmv
  by_cases hKN : K + N ≤ 5
  · have hV := val_of hv
    obtain ⟨wn, hn, rfl, rfl, rfl, hLl, hBay⟩ := bay_of hV h.share.2.1
    obtain ⟨kn, rfl⟩ : ∃ k : Nat, K = k := ⟨K.toNat, by omega⟩
    obtain ⟨mn, rfl⟩ : ∃ m : Nat, N = m := ⟨N.toNat, by omega⟩
    have hSl := slk_of hs
    have hOl : O.length = wn * hn := by rw [hSl.1, hLl]
    have hal : (amt O aw).length = wn * hn + 1 := by rw [amt_len, hOl]
    have hc36 := hBay.cells
    have ht := hSl.2.2.2
    rw [Int.toNat_natCast] at ht
    have h5 : ((16 : Int) ^ mn * (36000 * (16 : Int) ^ kn)) ≤ 36000 * 1048576 := by
      have e1 : (16 : Int) ^ mn * (36000 * (16 : Int) ^ kn) = 36000 * (16 : Int) ^ (mn + kn) := by rw [Int.pow_add, Int.mul_left_comm]
      rw [e1]
      have h6 := pow16 (mn + kn) 5 (by omega) 36000 (by omega)
      omega
    have htot : (16 : Int) ^ mn * tot (amt O aw) ≤ 1000000000000 := by
      have := Int.mul_le_mul_of_nonneg_left ht (show 0 ≤ (16 : Int) ^ mn from Int.pow_nonneg (by omega))
      omega
    have hafl := af_len (L := L) (S := S) hal mn
    have hr : aftR wn hn L (wn * hn) S kn O aw mn = ((kn : Int) + mn, pre (wn * hn) (af wn hn L S mn (amt O aw)), el (af wn hn L S mn (amt O aw)) (wn * hn), 0) := by
      unfold aftR; rw [hv, hs, hmv]; simp [hKN]
    rw [hr]
    have cl64 : ∀ X, AftW w wn hn aL L.length cL aS (wn * hn) cS kn aO O.length cO aw X → Calls Tryd.prog 64 #[.agg #[.int .i64 kn, .slice aO O.length cO, .int .i64 aw]] X fun e X' => ∃ A c, e = .returned (.slice A (wn * hn + 1) c) ∧ (wn * hn + 1 ≤ c ∧ c ≤ 9223372036854775807) ∧ AftW w wn hn aL L.length cL aS (wn * hn) cS kn aO O.length cO aw X' ∧ Row X' X'.heap.size A (amt O aw) := fun X hX => by
      refine (amounts_any B kn aO cO O aw X (hO.below (hX.below.mono hB)) (Nat.le_trans hB hX.below.size) (by omega)).mono ?_
      intro e X' hn'
      obtain ⟨A, c, he, hc, hb, hr⟩ := hn'.cap (by rw [List.length_append, hOl]; simp; omega)
      have e2 : (O ++ [aw]).length = wn * hn + 1 := hal
      rw [e2] at he hc
      exact ⟨A, c, he, hc, hX.call hb, hr⟩
    have cl70 : ∀ X A c, AftW w wn hn aL L.length cL aS (wn * hn) cS kn aO O.length cO aw X → (wn * hn + 1 ≤ c ∧ c ≤ 9223372036854775807) → Row X X.heap.size A (amt O aw) → Calls Tryd.prog 70 #[.agg #[.int .i64 wn, .int .i64 hn, .slice aL L.length cL, .slice aS (wn * hn) cS], .slice A (wn * hn + 1) c, .int .i64 mn] X
        fun e X' => ∃ A c, e = .returned (.slice A (wn * hn + 1) c) ∧ (wn * hn + 1 ≤ c ∧ c ≤ 9223372036854775807) ∧ AftW w wn hn aL L.length cL aS (wn * hn) cS kn aO O.length cO aw X' ∧ Row X' X'.heap.size A (af wn hn L S mn (amt O aw)) := fun X A c hX hc hr => by
      have h1 := after_any X.heap.size wn hn aL aS A cL cS c mn L S (amt O aw) X hBay ((h.below (hX.below.mono hB)).more (Nat.le_trans hB hX.below.size)) hr (Nat.le_refl _) (by have := hX.size; omega) (hd.below (hX.below.mono hB) hB1) hal hSl.2.2.1 htot (by omega) (by rw [hal]; exact hc)
      rw [hal] at h1
      refine h1.mono ?_
      rintro e X' ⟨A', c', he, hc', hb', hr'⟩
      rw [hafl] at he hc'
      exact ⟨A', c', he, hc', hX.call hb', hr'⟩
    have cl69 : ∀ X A c, AftW w wn hn aL L.length cL aS (wn * hn) cS kn aO O.length cO aw X → (wn * hn + 1 ≤ c ∧ c ≤ 9223372036854775807) → Row X X.heap.size A (af wn hn L S mn (amt O aw)) → Calls Tryd.prog 69 #[.int .i64 ((kn : Int) + mn), .slice A (wn * hn + 1) c] X
        fun e X' => ∃ A' c', e = .returned (.agg #[.int .i64 ((kn : Int) + mn), .slice A' (wn * hn) c', .int .i64 (el (af wn hn L S mn (amt O aw)) (wn * hn))]) ∧ AftW w wn hn aL L.length cL aS (wn * hn) cS kn aO O.length cO aw X' ∧ Row X' X'.heap.size A' (pre (wn * hn) (af wn hn L S mn (amt O aw))) ∧ Fresh (w.heap.size + 3) A' := fun X A c hX hc hr => by
      refine (slickOf_any X.heap.size ((kn : Int) + mn) A c (wn * hn) _ X hr (Nat.le_refl _) hafl (by omega) hc).mono ?_
      rintro e X' ⟨A', c', rfl, hb', hr', hf'⟩
      exact ⟨A', c', rfl, hX.call hb', hr', fun a ha => Nat.le_trans hX.size (hf' a ha)⟩
    have hpl : (pre (wn * hn) (af wn hn L S mn (amt O aw))).length = wn * hn := pre_len _ _
    have hKNb : 0 ≤ (kn : Int) + mn ∧ (kn : Int) + mn ≤ 5 := by omega
    generalize pre (wn * hn) (af wn hn L S mn (amt O aw)) = o1 at *
    generalize el (af wn hn L S mn (amt O aw)) (wn * hn) = x1 at *
    generalize af wn hn L S mn (amt O aw) = a1 at *
    replace cl64 := Lib.hid cl64
    replace cl70 := Lib.hid cl70
    replace cl69 := Lib.hid cl69
    replace hpl := Lib.hid hpl
    clear hr hafl htot h5 ht hal hSl hV hs hv
    replace hLl := Lib.hid hLl
    replace hOl := Lib.hid hOl
    replace c59 := Lib.hid c59
    replace hst := Lib.hid hst
    go_enter Tryd.func31, Tryd.ntmps31
    go_wp2_with fail
    refine c59.out.mono ?_
    rintro e w1 ⟨rfl, hb1⟩
    have hw1 := hst.out.call hb1
    have t := hw1.res
    have j1 := t.c0
    have j2 := t.c1
    have j3 := t.c2
    have f1 := t.fz 0
    have f2 := t.fz 1
    have f3 := t.fz 2
    have hbb := hw1.below
    obtain ⟨⟨g0, g1, g2, g3⟩, g4, g5, g6⟩ := hw1.box
    have hw2 := hw1.drew
    clear hb1 hw1 j1 j2 j3 f1 f2 f3 t hbb
    go_wp2_with fail
    refine (isMoves_any mn _).mono ?_
    rintro e w2 ⟨rfl, rfl⟩
    rw [hmv]
    go_wp2
    have hwr : IntKind.i64.wrap ((kn : Int) + mn) = (kn : Int) + mn := IntWalk.i64_in _ (by omega)
    have k2 := hw2.box
    unfold AfB at k2
    go_region_held3 (fun X => (X.cell? ⟨w.heap.size, 0, none⟩ = some (.int .i64 wn) ∧ X.cell? ⟨w.heap.size, 1, none⟩ = some (.int .i64 hn) ∧ X.cell? ⟨w.heap.size, 2, none⟩ = some (.slice aL L.length cL) ∧ X.cell? ⟨w.heap.size, 3, none⟩ = some (.slice aS (wn * hn) cS)) ∧
      (X.cell? ⟨w.heap.size + 1, 0, none⟩ = some (.int .i64 kn) ∧ X.cell? ⟨w.heap.size + 1, 1, none⟩ = some (.slice aO O.length cO) ∧ X.cell? ⟨w.heap.size + 1, 2, none⟩ = some (.int .i64 aw)))
      (first | with_reducible exact k2 | with_reducible exact k3 | with_reducible exact k4 | with_reducible exact k5 | with_reducible exact k6)
      (first | (go_at_call 64; refine (cl64.out _ hw2).mono ?_; rintro e X3 ⟨A3, c3, rfl, hc3, hX3, hr3⟩; have k3 := hX3.box; unfold AfB at k3) | (go_at_call 70; refine (cl70.out _ _ _ hX3 hc3 hr3).mono ?_; rintro e X4 ⟨A4, c4, rfl, hc4, hX4, hr4⟩; have k4 := hX4.box; unfold AfB at k4) | (go_at_call 69; refine (cl69.out _ _ _ hX4 hc4 hr4).mono ?_; rintro e X5 ⟨A5, c5, rfl, hX5, hr5, hf5⟩; have k5 := hX5.box; have k6 := afB_set k5 (.int .i64 ((kn : Int) + mn)) (.slice A5 (wn * hn) c5) (.int .i64 x1); unfold AfB at k5 k6; have f1 := hX5.res.fz 0; have f2 := hX5.res.fz 1; have f3 := hX5.res.fz 2; have j1 := hX5.res.c0; have j2 := hX5.res.c1; have j3 := hX5.res.c2))
    all_goals
      have ts := hX5.res.set (.int .i64 ((kn : Int) + mn)) (.slice A5 (wn * hn) c5) (.int .i64 x1)
      have j4 := ts.c0
      have j5 := ts.c1
      have j6 := ts.c2
      have hbs := tri_below (x := .int .i64 ((kn : Int) + mn)) (y := .slice A5 (wn * hn) c5) (z := .int .i64 x1) hX5.below (show w.heap.size ≤ w.heap.size + 1 + 1 by omega)
      have hrr := (hr5.tri hf5 (b := w.heap.size + 1 + 1) (by omega) (.int .i64 ((kn : Int) + mn)) (.slice A5 (wn * hn) c5) (.int .i64 x1)).more (B' := (((X5.setCell ⟨w.heap.size + 1 + 1, 0, none⟩ (.int .i64 ((kn : Int) + mn))).setCell ⟨w.heap.size + 1 + 1, 1, none⟩ (.slice A5 (wn * hn) c5)).setCell ⟨w.heap.size + 1 + 1, 2, none⟩ (.int .i64 x1)).heap.size) (by simp [World.setCell])
      have hf6 : Fresh w.heap.size A5 := fun a ha => by have := hf5 a ha; omega
      clear k2 k3 k4 k5 k6 hX3 hX4 hX5 hr3 hr4 hr5 g0 g1 g2 g3 g4 g5 g6 hw2 c59 hst cl64 cl70 cl69
      go_wp2
      exact bodyPost_ret (v := .tuple #[.agg #[.int .i64 ((kn : Int) + mn), .slice A5 (wn * hn) c5, .int .i64 x1], .int .i64 0]) (by simp [results, Tryd.results31, go_sem, j4, j5, j6]) rfl ⟨A5, c5, by rw [hpl.out], hbs, hrr, hf6⟩
  · have hr : aftR W H L n S K O aw N = (0, [], 0, 4) := by unfold aftR; rw [hv, hs, hmv]; simp [hKN]
    rw [hr]
    replace c59 := Lib.hid c59
    replace hst := Lib.hid hst
    go_enter Tryd.func31, Tryd.ntmps31
    go_wp2_with fail
    refine c59.out.mono ?_
    rintro e w1 ⟨rfl, hb1⟩
    have hw1 := hst.out.call hb1
    have t := hw1.res
    have j1 := t.c0
    have j2 := t.c1
    have j3 := t.c2
    have f1 := t.fz 0
    have f2 := t.fz 1
    have f3 := t.fz 2
    have hbb := hw1.below
    obtain ⟨⟨g0, g1, g2, g3⟩, g4, g5, g6⟩ := hw1.box
    clear hb1 hw1
    have ts := t.set (.int .i64 0) (.slice none 0 0) (.int .i64 0)
    have j4 := ts.c0
    have j5 := ts.c1
    have j6 := ts.c2
    have hbs := tri_below (x := .int .i64 0) (y := .slice none 0 0) (z := .int .i64 0) hbb (show w.heap.size ≤ w.heap.size + 1 + 1 by omega)
    go_wp2_with fail
    refine (isMoves_any N _).mono ?_
    rintro e w2 ⟨rfl, rfl⟩
    rw [hmv]
    go_wp2
    exact bodyPost_ret (v := .tuple #[.agg #[.int .i64 0, .slice none 0 0, .int .i64 0], .int .i64 4]) (by simp [results, Tryd.results31, go_sem, j4, j5, j6]) rfl ⟨none, 0, rfl, hbs, row_nil _ _ _, fun a ha => by cases ha⟩

set_option maxRecDepth 100000 in
set_option maxHeartbeats 4000000 in
theorem Move_any (B : Nat) (W H : Int) (aL aS aO : Option Addr) (cL cS cO : Nat) (L : List Bool) (n : Nat) (S : List Int) (K : Int) (O : List Int) (aw : Int) (w : World) (h : BayIn w B aL L aS n S) (hO : Row w B aO O) (hB : B ≤ w.heap.size) (hB1 : 1 ≤ B) (hd : Dirs w) :
    Calls Tryd.prog 29 #[.agg #[.int .i64 W, .int .i64 H, .slice aL L.length cL, .slice aS n cS], .agg #[.int .i64 K, .slice aO O.length cO, .int .i64 aw]] w (SlkRes w (aftR W H L n S K O aw 1)) := by
  have hb0 := ba3 w (.cells #[.int .i64 W, .int .i64 H, .slice aL L.length cL, .slice aS n cS] 25) (.cells #[.int .i64 K, .slice aO O.length cO, .int .i64 aw] 28) (.cells #[.int .i64 0, .slice none 0 0, .int .i64 0] 28)
  have ht : Tri (((w.alloc (.cells #[.int .i64 W, .int .i64 H, .slice aL L.length cL, .slice aS n cS] 25)).alloc (.cells #[.int .i64 K, .slice aO O.length cO, .int .i64 aw] 28)).alloc (.cells #[.int .i64 0, .slice none 0 0, .int .i64 0] 28)) (w.heap.size + 1 + 1) (.int .i64 0) (.slice none 0 0) (.int .i64 0) := by
    have := Tri.new ((w.alloc (.cells #[.int .i64 W, .int .i64 H, .slice aL L.length cL, .slice aS n cS] 25)).alloc (.cells #[.int .i64 K, .slice aO O.length cO, .int .i64 aw] 28)) (.int .i64 0) (.slice none 0 0) (.int .i64 0)
    simpa using this
  have c31 := After_any B W H aL aS aO cL cS cO L n S K O aw 1 _ (h.below (hb0.mono hB)) (hO.below (hb0.mono hB)) (by simp; omega) hB1 (hd.below (hb0.mono hB) hB1) (by omega)
  generalize aftR W H L n S K O aw 1 = r at *
  obtain ⟨r1, r2, r3, r4⟩ := r
  replace c31 := Lib.hid c31
  replace hb0 := Lib.hid hb0
  replace ht := Lib.hid ht
  go_enter Tryd.func29, Tryd.ntmps29
  go_wp2_with fail
  refine c31.out.mono ?_
  rintro e w1 ⟨A1, c1, rfl, hb1, hr1, hf1⟩
  have t := ht.out.below hb1 (by simp)
  have hsz : w.heap.size + 1 + 1 + 1 ≤ w1.heap.size := by have := hb1.size; simpa using this
  have hbb := hb0.out.trans (hb1.mono hb0.out.size)
  have hf2 : Fresh (w.heap.size + 1 + 1 + 1) A1 := fun a ha => by have := hf1 a ha; simpa using this
  have j1 := t.c0
  have j2 := t.c1
  have j3 := t.c2
  have f1 := t.fz 0
  have f2 := t.fz 1
  have f3 := t.fz 2
  dsimp only at hr1
  have ts := t.set (.int .i64 r1) (.slice A1 r2.length c1) (.int .i64 r3)
  have j4 := ts.c0
  have j5 := ts.c1
  have j6 := ts.c2
  have hbs := tri_below (x := .int .i64 r1) (y := .slice A1 r2.length c1) (z := .int .i64 r3) hbb (show w.heap.size ≤ w.heap.size + 1 + 1 by omega)
  have hrr := (hr1.tri hf2 (b := w.heap.size + 1 + 1) (by omega) (.int .i64 r1) (.slice A1 r2.length c1) (.int .i64 r3)).more (B' := (((w1.setCell ⟨w.heap.size + 1 + 1, 0, none⟩ (.int .i64 r1)).setCell ⟨w.heap.size + 1 + 1, 1, none⟩ (.slice A1 r2.length c1)).setCell ⟨w.heap.size + 1 + 1, 2, none⟩ (.int .i64 r3)).heap.size) (by simp [World.setCell])
  have hf6 : Fresh w.heap.size A1 := fun a ha => by have := hf2 a ha; omega
  clear hb1 hr1 hf1 hbb t
  go_wp2
  exact bodyPost_end (v := .tuple #[.agg #[.int .i64 r1, .slice A1 r2.length c1, .int .i64 r3], .int .i64 r4]) (by simp [results, Tryd.results29, go_sem, j4, j5, j6]) rfl ⟨A1, c1, rfl, hbs, hrr, hf6⟩
end Go.Proofs.YtnbgjgiknfcdkaaDoor
