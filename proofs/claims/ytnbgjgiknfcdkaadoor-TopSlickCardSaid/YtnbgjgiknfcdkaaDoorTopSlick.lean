/-
  For any bay, any two slicks and any prices, the law TopSlick returns true: nothing is lost behind any moves, two slicks may be moved together or apart, and what comes about costs what was there by the prices before.
  Conditions: the table of directions starts as the program's text lays it.
-/
import Derived.Test.YtnbgjgiknfcdkaaDoorX
import Derived.Test.YtnbgjgiknfcdkaaDoorR
import Derived.Test.YtnbgjgiknfcdkaaDoorZo
import Derived.Test.YtnbgjgiknfcdkaaDoorCards
import Derived.Test.YtnbgjgiknfcdkaaDoorTie
import Derived.SevenTiedAt
import Derived.Deep.DeepCutAuto
namespace Go.Proofs.YtnbgjgiknfcdkaaDoor.lawTopSlick
open Go.ChangeShapes Go.WideShapes Go.ChangeAt Go.RowKit Go.Deep Go.Proofs.YtnbgjgiknfcdkaaDoor M
set_option linter.unusedVariables false
set_option linter.unusedSimpArgs false

theorem cst_dual {w h : Nat} {L : List Bool} {S a : List Int} (n : Nat) (c : List Int) (ha : a.length = w * h + 1) : Go.Proofs.YtnbgjgiknfcdkaaDoor.cst (af w h L S n a) c = Go.Proofs.YtnbgjgiknfcdkaaDoor.cst a (bf w h L S n c) := by
  have h1 := cst_af (w := w) (h := h) (L := L) (S := S) n a c
  unfold M.cst at h1
  unfold Go.Proofs.YtnbgjgiknfcdkaaDoor.cst
  rw [af_len ha, ha]
  exact h1
theorem small {W H : Int} {L : List Bool} {n : Nat} {S : List Int} (hv : validB W H L n S = true) : L.length ≤ 36 := by
  have hV := val_of hv
  have := hV.2.1.1
  have := Int.mul_le_mul hV.1.1.2 hV.1.2.2 (by have := hV.1.2.1; omega) (by omega)
  omega

theorem tri_drew {w : World} {b : Nat} {x y z : Value} (h : Tri w b x y z) : Tri w.drew b x y z := h
theorem quad_drew {w : World} {b : Nat} {x y z u : Value} (h : Quad w b x y z u) : Quad w.drew b x y z u := h
theorem tri_other {w : World} {b d : Nat} {x y z : Value} (h : Tri w d x y z) (hd : d ≠ b) (x' y' z' : Value) : Tri (((w.setCell ⟨b, 0, none⟩ x').setCell ⟨b, 1, none⟩ y').setCell ⟨b, 2, none⟩ z') d x y z := by
  show (((w.setCell ⟨b, 0, none⟩ x').setCell ⟨b, 1, none⟩ y').setCell ⟨b, 2, none⟩ z').heap[d]? = _
  rw [setCell_block _ _ _ _ _ hd, setCell_block _ _ _ _ _ hd, setCell_block _ _ _ _ _ hd]
  exact h

/-- The law's world: the boxes of the bay and of both slicks. -/
structure AddW (w : World) (W H l s K o aw K' o' aw' : Value) (b7 b8 : Nat) (X : World) : Prop where
  below : Below w.heap.size w X
  bay : Quad X w.heap.size W H l s
  fst : Tri X b7 K o aw
  snd : Tri X b8 K' o' aw'
theorem AddW.call {w : World} {W H l s K o aw K' o' aw' : Value} {b7 b8 : Nat} {X Y : World} (h : AddW w W H l s K o aw K' o' aw' b7 b8 X) (hb : Below X.heap.size X Y) : AddW w W H l s K o aw K' o' aw' b7 b8 Y :=
  ⟨h.below.trans (hb.mono h.below.size), h.bay.up hb, h.fst.up hb, h.snd.up hb⟩
theorem AddW.alloc {w : World} {W H l s K o aw K' o' aw' : Value} {b7 b8 : Nat} {X : World} (h : AddW w W H l s K o aw K' o' aw' b7 b8 X) (ob : Obj) : AddW w W H l s K o aw K' o' aw' b7 b8 (X.alloc ob) := h.call (ba1 X ob)
theorem addW_a (w : World) (W H l s K o aw K' o' aw' : Value) : AddW w W H l s K o aw K' o' aw' (w.heap.size + 1 + 1) (w.heap.size + 1 + 1 + 1)
    ((((w.alloc (.cells #[W, H, l, s] 25)).alloc (.cells #[K, o, aw, K', o', aw'] 62)).alloc (.cells #[K, o, aw] 28)).alloc (.cells #[K', o', aw'] 28)).drew := by
  refine ⟨below_drewN (ba4 w _ _ _ _) 1, quad_drew ((((Quad.new w W H l s).up (ba1 _ _)).up (ba1 _ _)).up (ba1 _ _)), ?_, ?_⟩
  · have := tri_drew <| (Tri.new ((w.alloc (.cells #[W, H, l, s] 25)).alloc (.cells #[K, o, aw, K', o', aw'] 62)) K o aw).up (ba1 _ (.cells #[K', o', aw'] 28))
    simpa using this
  · have := tri_drew <| Tri.new (((w.alloc (.cells #[W, H, l, s] 25)).alloc (.cells #[K, o, aw, K', o', aw'] 62)).alloc (.cells #[K, o, aw] 28)) K' o' aw'
    simpa using this
theorem addW_b (w : World) (W H l s K o aw K' o' aw' : Value) : AddW w W H l s K o aw K' o' aw' (w.heap.size + 1 + 1 + 1) (w.heap.size + 1 + 1)
    ((((w.alloc (.cells #[W, H, l, s] 25)).alloc (.cells #[K, o, aw, K', o', aw'] 62)).alloc (.cells #[K', o', aw'] 28)).alloc (.cells #[K, o, aw] 28)).drew := by
  refine ⟨below_drewN (ba4 w _ _ _ _) 1, quad_drew ((((Quad.new w W H l s).up (ba1 _ _)).up (ba1 _ _)).up (ba1 _ _)), ?_, ?_⟩
  · have := tri_drew <| Tri.new (((w.alloc (.cells #[W, H, l, s] 25)).alloc (.cells #[K, o, aw, K', o', aw'] 62)).alloc (.cells #[K', o', aw'] 28)) K o aw
    simpa using this
  · have := tri_drew <| (Tri.new ((w.alloc (.cells #[W, H, l, s] 25)).alloc (.cells #[K, o, aw, K', o', aw'] 62)) K' o' aw').up (ba1 _ (.cells #[K, o, aw] 28))
    simpa using this

/-- What Sum answers: one or the other. -/
theorem sum_cases (W H : Int) (L : List Bool) (n : Nat) (S : List Int) (K : Int) (O : List Int) (aw K' : Int) (O' : List Int) (aw' : Int) :
    (∃ E : Int, (E = 20 ∨ E = 21) ∧ sumR W H L n S K O aw K' O' aw' = (0, [], 0, E)) ∨
    (validB W H L n S = true ∧ slkB L.length K O aw = true ∧ slkB L.length K' O' aw' = true ∧ K = K' ∧
      slkB L.length K (pre L.length (ad (L.length + 1) (amt O aw) (amt O' aw'))) (el (ad (L.length + 1) (amt O aw) (amt O' aw')) L.length) = true ∧
      sumR W H L n S K O aw K' O' aw' = (K, pre L.length (ad (L.length + 1) (amt O aw) (amt O' aw')), el (ad (L.length + 1) (amt O aw) (amt O' aw')) L.length, 0)) := by
  unfold sumR
  cases h1 : validB W H L n S with
  | false => exact .inl ⟨20, .inl rfl, by simp⟩
  | true =>
    cases h2 : slkB L.length K O aw with
    | false => exact .inl ⟨21, .inr rfl, by simp⟩
    | true =>
      cases h3 : slkB L.length K' O' aw' with
      | false => exact .inl ⟨21, .inr rfl, by simp⟩
      | true =>
        by_cases h4 : K = K'
        · cases h5 : slkB L.length K (pre L.length (ad (L.length + 1) (amt O aw) (amt O' aw'))) (el (ad (L.length + 1) (amt O aw) (amt O' aw')) L.length) with
          | false => exact .inl ⟨21, .inr rfl, by simp [h4]⟩
          | true => exact .inr ⟨rfl, rfl, rfl, h4, rfl, by simp [h4]⟩
        · exact .inl ⟨21, .inr rfl, by simp [h4]⟩

set_option maxRecDepth 100000 in
set_option maxHeartbeats 8000000 in
theorem out (W H : Int) (aL aS aO aO' aP : Option Addr) (cL cS cO cO' cP : Nat) (L : List Bool) (n : Nat) (S : List Int) (K K' : Int) (O O' : List Int) (aw aw' : Int) (P : List Int) (w : World) (h : BayIn w w.heap.size aL L aS n S) (hO : Row w w.heap.size aO O) (hO' : Row w w.heap.size aO' O') (hP : Row w w.heap.size aP P) (hd : Dirs w)
    (hout : (decide (100 < L.length) || decide (100 < n)) = true ∨ 100 < O.length ∨ 100 < O'.length ∨ validB W H L n S = false ∨ slkB L.length K O aw = false ∨ slkB L.length K' O' aw' = false ∨ pricesB L.length P = false) :
    Calls Tryd.prog 14 #[.agg #[.int .i64 W, .int .i64 H, .slice aL L.length cL, .slice aS n cS], .agg #[.int .i64 K, .slice aO O.length cO, .int .i64 aw, .int .i64 K', .slice aO' O'.length cO', .int .i64 aw'], .slice aP P.length cP] w fun e w' => e = .returned (.bool true) ∧ Below w.heap.size w w' := by
  have ha := addW_a w (.int .i64 W) (.int .i64 H) (.slice aL L.length cL) (.slice aS n cS) (.int .i64 K) (.slice aO O.length cO) (.int .i64 aw) (.int .i64 K') (.slice aO' O'.length cO') (.int .i64 aw')
  have hb := addW_b w (.int .i64 W) (.int .i64 H) (.slice aL L.length cL) (.slice aS n cS) (.int .i64 K) (.slice aO O.length cO) (.int .i64 aw) (.int .i64 K') (.slice aO' O'.length cO') (.int .i64 aw')
  have hs1 : 1 ≤ w.heap.size := hd.1
  have sane : ∀ X, Below w.heap.size w X → Calls Tryd.prog 17 #[] X fun e w' => e = .returned (.bool true) ∧ Below w.heap.size w w' := fun X hX =>
    (Sane_any X (hd.below hX hs1)).mono fun e w' ⟨he, hb⟩ => ⟨he, hX.trans (hb.mono hX.size)⟩
  have c15 : ∀ X, Below w.heap.size w X → Calls Tryd.prog 15 #[.agg #[.int .i64 W, .int .i64 H, .slice aL L.length cL, .slice aS n cS]] X fun e w' => e = .returned (.bool (decide (100 < L.length) || decide (100 < n))) ∧ Below X.heap.size X w' := fun X _ => Long_any W H aL aS cL n cS L.length X h.land.1 h.share.1
  have c21 : ∀ X, Below w.heap.size w X → Calls Tryd.prog 21 #[.agg #[.int .i64 W, .int .i64 H, .slice aL L.length cL, .slice aS n cS]] X fun e w' => e = .returned (.bool (validB W H L n S)) ∧ Below X.heap.size X w' := fun X hX =>
    Valid_ref w.heap.size W H aL aS cL cS L n S X (h.below hX) hX.size
  have c51 : validB W H L n S = true → ∀ X, Below w.heap.size w X → Calls Tryd.prog 51 #[.agg #[.int .i64 W, .int .i64 H, .slice aL L.length cL, .slice aS n cS], .agg #[.int .i64 K, .slice aO O.length cO, .int .i64 aw]] X fun e w' => e = .returned (.bool (slkB L.length K O aw)) ∧ Below X.heap.size X w' := fun hv X hX =>
    Is_any w.heap.size W H aL aS aO cL cS cO L.length n K O aw X (hO.below hX) hX.size (val_of hv).2.1.1 (small hv)
  have c51' : validB W H L n S = true → ∀ X, Below w.heap.size w X → Calls Tryd.prog 51 #[.agg #[.int .i64 W, .int .i64 H, .slice aL L.length cL, .slice aS n cS], (.agg #[.int .i64 K', .slice aO' O'.length cO', .int .i64 aw'])] X fun e w' => e = .returned (.bool (slkB L.length K' O' aw')) ∧ Below X.heap.size X w' := fun hv X hX =>
    Is_any w.heap.size W H aL aS aO' cL cS cO' L.length n K' O' aw' X (hO'.below hX) hX.size (val_of hv).2.1.1 (small hv)
  have c53 : validB W H L n S = true → ∀ X, Below w.heap.size w X → Calls Tryd.prog 53 #[.agg #[.int .i64 W, .int .i64 H, .slice aL L.length cL, .slice aS n cS], .slice aP P.length cP] X fun e w' => e = .returned (.bool (pricesB L.length P)) ∧ Below X.heap.size X w' := fun hv X hX =>
    ArePrices_ref w.heap.size W H aL aS aP cL cS cP L.length n L.length P X (hP.below hX) hX.size (val_of hv).2.1.1 (small hv)
  have hl63 := hO.1
  have hl63' := hO'.1
  obtain ⟨l0, hl0⟩ : ∃ b, b = (decide (100 < L.length) || decide (100 < n)) := ⟨_, rfl⟩
  obtain ⟨v, hv⟩ : ∃ b, b = validB W H L n S := ⟨_, rfl⟩
  obtain ⟨s1, hs⟩ : ∃ b, b = slkB L.length K O aw := ⟨_, rfl⟩
  obtain ⟨s2, hs'⟩ : ∃ b, b = slkB L.length K' O' aw' := ⟨_, rfl⟩
  obtain ⟨p1, hp⟩ : ∃ b, b = pricesB L.length P := ⟨_, rfl⟩
  rw [← hl0] at c15 hout
  rw [← hv] at c21 c51 c51' c53 hout
  rw [← hs] at c51 hout
  rw [← hs'] at c51' hout
  rw [← hp] at c53 hout
  clear h hO hO' hP hd hl0 hv hs hs' hp
  replace ha := Lib.hid ha
  replace hb := Lib.hid hb
  replace sane := Lib.hid sane
  replace c15 := Lib.hid c15
  replace c21 := Lib.hid c21
  replace c51 := Lib.hid c51
  replace c51' := Lib.hid c51'
  replace c53 := Lib.hid c53
  replace hout := Lib.hid hout
  go_enter Tryd.func14, Tryd.ntmps14
  go_upto_region 1 with fail
  go_cut [7, 8] from 25 to 28 (fun p q wx => ∃ b7 b8 : Nat, p = .pointer (some ⟨b7, 0, none⟩) ∧ q = .pointer (some ⟨b8, 0, none⟩) ∧ AddW w (.int .i64 W) (.int .i64 H) (.slice aL L.length cL) (.slice aS n cS) (.int .i64 K) (.slice aO O.length cO) (.int .i64 aw) (.int .i64 K') (.slice aO' O'.length cO') (.int .i64 aw') b7 b8 wx)
  case first =>
    go_region
    · go_wp2_with fail
      go_meet
      exact ⟨_, _, rfl, rfl, ha.out⟩
    · go_wp2_with fail
      go_meet
      exact ⟨_, _, rfl, rfl, hb.out⟩
  case rest =>
  obtain ⟨b7, b8, rfl, rfl, h0⟩ := hcut
  clear ha hb
  have g0 := h0.bay.c0
  have g1 := h0.bay.c1
  have g2 := h0.bay.c2
  have g3 := h0.bay.c3
  go_wp2_with fail
  refine (c15.out _ h0.below).mono ?_
  rintro e w1 ⟨rfl, hb1⟩
  have h1 := h0.call hb1
  clear hb1
  clear h0 g0 g1 g2 g3
  cases l0 with
  | true =>
    go_wp2_with fail
    refine (sane.out _ h1.below).mono ?_
    rintro e w9 ⟨rfl, h9⟩
    go_wp2
    go_ret
    exact ⟨rfl, h9⟩
  | false =>
  have t1 := h1.fst.c1
  have u1 := h1.snd.c1
  by_cases k1 : 100 < O.length
  · have k1I : (100 : Int) < (O.length : Nat) := by omega
    clear c21 c51 c51' c53 hout
    go_wp2_with fail
    refine (sane.out _ h1.below).mono ?_
    rintro e w9 ⟨rfl, h9⟩
    go_wp2
    go_ret
    exact ⟨rfl, h9⟩
  by_cases k2 : 100 < O'.length
  · have k1I : ¬ (100 : Int) < (O.length : Nat) := by omega
    have k2I : (100 : Int) < (O'.length : Nat) := by omega
    clear c21 c51 c51' c53 hout
    go_wp2_with fail
    refine (sane.out _ h1.below).mono ?_
    rintro e w9 ⟨rfl, h9⟩
    go_wp2
    go_ret
    exact ⟨rfl, h9⟩
  have k1I : ¬ (100 : Int) < (O.length : Nat) := by omega
  have k2I : ¬ (100 : Int) < (O'.length : Nat) := by omega
  have g0 := h1.bay.c0
  have g1 := h1.bay.c1
  have g2 := h1.bay.c2
  have g3 := h1.bay.c3
  go_wp2_with fail
  refine (c21.out _ h1.below).mono ?_
  rintro e w2 ⟨rfl, hb2⟩
  have h3 := h1.call hb2
  clear hb2
  clear h1 g0 g1 g2 g3 t1 u1 k1I k2I
  cases v with
  | false =>
    go_wp2_with fail
    refine (sane.out _ h3.below).mono ?_
    rintro e w9 ⟨rfl, h9⟩
    go_wp2
    go_ret
    exact ⟨rfl, h9⟩
  | true =>
  have d51 := c51.out (by first | trivial | rfl)
  have d51' := c51'.out (by first | trivial | rfl)
  have d53 := c53.out (by first | trivial | rfl)
  clear c51 c51' c53 c21 c15
  replace d51 := Lib.hid d51
  replace d51' := Lib.hid d51'
  replace d53 := Lib.hid d53
  have g0 := h3.bay.c0
  have g1 := h3.bay.c1
  have g2 := h3.bay.c2
  have g3 := h3.bay.c3
  have t0 := h3.fst.c0
  have t1 := h3.fst.c1
  have t2 := h3.fst.c2
  go_wp2_with fail
  refine (d51.out _ h3.below).mono ?_
  rintro e w4 ⟨rfl, hb4⟩
  have h5 := h3.call hb4
  clear hb4
  clear h3 g0 g1 g2 g3 t0 t1 t2
  cases s1 with
  | false =>
    go_wp2_with fail
    refine (sane.out _ h5.below).mono ?_
    rintro e w9 ⟨rfl, h9⟩
    go_wp2
    go_ret
    exact ⟨rfl, h9⟩
  | true =>
  have g0 := h5.bay.c0
  have g1 := h5.bay.c1
  have g2 := h5.bay.c2
  have g3 := h5.bay.c3
  have t0 := h5.snd.c0
  have t1 := h5.snd.c1
  have t2 := h5.snd.c2
  go_wp2_with fail
  refine (d51'.out _ h5.below).mono ?_
  rintro e w6 ⟨rfl, hb6⟩
  have h7 := h5.call hb6
  clear hb6
  clear h5 g0 g1 g2 g3 t0 t1 t2
  cases s2 with
  | false =>
    go_wp2_with fail
    refine (sane.out _ h7.below).mono ?_
    rintro e w9 ⟨rfl, h9⟩
    go_wp2
    go_ret
    exact ⟨rfl, h9⟩
  | true =>
  have g0 := h7.bay.c0
  have g1 := h7.bay.c1
  have g2 := h7.bay.c2
  have g3 := h7.bay.c3
  go_wp2_with fail
  refine (d53.out _ h7.below).mono ?_
  rintro e w8 ⟨rfl, hb8⟩
  have h11 := h7.call hb8
  clear hb8
  clear h7 g0 g1 g2 g3
  cases p1 with
  | false =>
    go_wp2_with fail
    refine (sane.out _ h11.below).mono ?_
    rintro e w9 ⟨rfl, h9⟩
    go_wp2
    go_ret
    exact ⟨rfl, h9⟩
  | true =>
    have := hout.out
    simp at this
    omega

set_option maxRecDepth 100000 in
set_option maxHeartbeats 8000000 in
theorem innNo (wn hn : Nat) (aL aS aO aO' aP : Option Addr) (cL cS cO cO' cP : Nat) (L : List Bool) (S : List Int) (k0 : Nat) (K' : Int) (O O' : List Int) (aw aw' : Int) (P : List Int) (m : Nat) (w : World) (h : BayIn w w.heap.size aL L aS m S) (hO : Row w w.heap.size aO O) (hO' : Row w w.heap.size aO' O') (hP : Row w w.heap.size aP P) (hd : Dirs w)
    (hm : m = wn * hn) (hlb : (decide (100 < L.length) || decide (100 < m)) = false) (hv : validB wn hn L m S = true) (hs : slkB L.length k0 O aw = true) (hs' : slkB L.length K' O' aw' = true) (hp : pricesB L.length P = true) (hBay : Bay wn hn L S)
    (E : Int) (hE : (E != 0) = true) (hsum : sumR wn hn L m S k0 O aw K' O' aw' = (0, [], 0, E)) :
    Calls Tryd.prog 14 #[.agg #[.int .i64 (wn : Nat), .int .i64 (hn : Nat), .slice aL m cL, .slice aS m cS], .agg #[.int .i64 (k0 : Nat), .slice aO m cO, .int .i64 aw, .int .i64 K', .slice aO' m cO', .int .i64 aw'], .slice aP (m + 1) cP] w fun e w' => e = .returned (.bool true) ∧ Below w.heap.size w w' := by
  have ha := addW_a w (.int .i64 (wn : Nat)) (.int .i64 (hn : Nat)) (.slice aL m cL) (.slice aS m cS) (.int .i64 (k0 : Nat)) (.slice aO m cO) (.int .i64 aw) (.int .i64 K') (.slice aO' m cO') (.int .i64 aw')
  have hb := addW_b w (.int .i64 (wn : Nat)) (.int .i64 (hn : Nat)) (.slice aL m cL) (.slice aS m cS) (.int .i64 (k0 : Nat)) (.slice aO m cO) (.int .i64 aw) (.int .i64 K') (.slice aO' m cO') (.int .i64 aw')
  have hs1 : 1 ≤ w.heap.size := hd.1
  have hLm : L.length = m := by rw [hm]; exact hBay.2.1.1
  have h36 : 1 ≤ m ∧ m ≤ 36 := by rw [hm]; exact hBay.cells
  have hOm : O.length = m := by rw [(slk_of hs).1, hLm]
  have hOm' : O'.length = m := by rw [(slk_of hs').1, hLm]
  have hpo := prices_of hp
  rw [hLm] at hpo
  have hV := val_of hv
  have hv2 : validB wn hn L (wn * hn) S = true := by rw [← hm]; exact hv
  have hk0 : k0 ≤ 5 := by have := (slk_of hs).2.1; omega
  have hal : (amt O aw).length = wn * hn + 1 := by rw [amt_len, hOm, hm]
  have sane : ∀ X, Below w.heap.size w X → Calls Tryd.prog 17 #[] X fun e w' => e = .returned (.bool true) ∧ Below w.heap.size w w' := fun X hX =>
    (Sane_any X (hd.below hX hs1)).mono fun e w' ⟨he, hb⟩ => ⟨he, hX.trans (hb.mono hX.size)⟩
  have c15 : ∀ X, Below w.heap.size w X → Calls Tryd.prog 15 #[.agg #[.int .i64 (wn : Nat), .int .i64 (hn : Nat), .slice aL m cL, .slice aS m cS]] X fun e w' => e = .returned (.bool false) ∧ Below X.heap.size X w' := fun X _ => by
    have h1 := Long_any wn hn aL aS cL m cS L.length X h.land.1 h.share.1
    rw [hlb, hLm] at h1
    exact h1
  have c21 : ∀ X, Below w.heap.size w X → Calls Tryd.prog 21 #[.agg #[.int .i64 (wn : Nat), .int .i64 (hn : Nat), .slice aL m cL, .slice aS m cS]] X fun e w' => e = .returned (.bool true) ∧ Below X.heap.size X w' := fun X hX => by
    have h1 := Valid_ref w.heap.size wn hn aL aS cL cS L m S X (h.below hX) hX.size
    rw [hv, hLm] at h1
    exact h1
  have c51 : ∀ X, Below w.heap.size w X → Calls Tryd.prog 51 #[.agg #[.int .i64 (wn : Nat), .int .i64 (hn : Nat), .slice aL m cL, .slice aS m cS], .agg #[.int .i64 (k0 : Nat), .slice aO m cO, .int .i64 aw]] X fun e w' => e = .returned (.bool true) ∧ Below X.heap.size X w' := fun X hX => by
    have h1 := Is_any w.heap.size wn hn aL aS aO cL cS cO L.length m k0 O aw X (hO.below hX) hX.size hV.2.1.1 (by omega)
    rw [hs, hLm, hOm] at h1
    exact h1
  have c51' : ∀ X, Below w.heap.size w X → Calls Tryd.prog 51 #[.agg #[.int .i64 (wn : Nat), .int .i64 (hn : Nat), .slice aL m cL, .slice aS m cS], (.agg #[.int .i64 K', .slice aO' m cO', .int .i64 aw'])] X fun e w' => e = .returned (.bool true) ∧ Below X.heap.size X w' := fun X hX => by
    have h1 := Is_any w.heap.size wn hn aL aS aO' cL cS cO' L.length m K' O' aw' X (hO'.below hX) hX.size hV.2.1.1 (by omega)
    rw [hs', hLm, hOm'] at h1
    exact h1
  have c53 : ∀ X, Below w.heap.size w X → Calls Tryd.prog 53 #[.agg #[.int .i64 (wn : Nat), .int .i64 (hn : Nat), .slice aL m cL, .slice aS m cS], .slice aP (m + 1) cP] X fun e w' => e = .returned (.bool true) ∧ Below X.heap.size X w' := fun X hX => by
    have h1 := ArePrices_ref w.heap.size wn hn aL aS aP cL cS cP L.length m L.length P X (hP.below hX) hX.size hV.2.1.1 (by omega)
    rw [hp, hLm, hpo.1] at h1
    exact h1
  have c22 : ∀ X, Below w.heap.size w X → Calls Tryd.prog 22 #[.agg #[.int .i64 (wn : Nat), .int .i64 (hn : Nat), .slice aL m cL, .slice aS m cS], .agg #[.int .i64 (k0 : Nat), .slice aO m cO, .int .i64 aw]] X fun e w' => e = .returned (.tuple #[.int .i64 (tot (amt O aw)), .int .i64 0]) ∧ Below X.heap.size X w' := fun X hX => by
    have h1 := Total_any w.heap.size wn hn aL aS aO cL cS cO L m S k0 O aw X (h.below hX) (hO.below hX) hX.size
    unfold IntRes totV at h1
    rw [askE_0 hv hs, if_pos rfl, hLm, hOm] at h1
    exact h1
  have hsl : ∀ t, k0 + t ≤ 5 → slkB L.length ((k0 + t : Nat) : Int) (pre (wn * hn) (af wn hn L S t (amt O aw))) (el (af wn hn L S t (amt O aw)) (wn * hn)) = true := fun t ht =>
    slkB_true (by rw [pre_len, hLm, hm]) (by rw [Int.natCast_add]; exact (slk_after (n := t) hBay (slk_of hs).2 (by rw [hOm, hm]) ht).2)
  have c31 : ∀ t, k0 + t ≤ 5 → ∀ X, Below w.heap.size w X → Calls Tryd.prog 31 #[.agg #[.int .i64 (wn : Nat), .int .i64 (hn : Nat), .slice aL m cL, .slice aS m cS], .agg #[.int .i64 (k0 : Nat), .slice aO m cO, .int .i64 aw], .int .i64 (t : Nat)] X fun e X' => ∃ A c, e = .returned (.tuple #[.agg #[.int .i64 ((k0 + t : Nat) : Int), .slice A m c, .int .i64 (el (af wn hn L S t (amt O aw)) (wn * hn))], .int .i64 0]) ∧ Below X.heap.size X X' ∧ Row X' X'.heap.size A (pre (wn * hn) (af wn hn L S t (amt O aw))) := fun t ht X hX => by
    have hx := aftR_ok (w := wn) (h := hn) (L := L) (S := S) (n := t) hv2 hs ht
    have h1 := After_any w.heap.size wn hn aL aS aO cL cS cO L m S k0 O aw t X (h.below hX) (hO.below hX) hX.size hs1 (hd.below hX hs1) (by omega)
    rw [hm] at h1
    rw [hx] at h1
    rw [← hm, hLm, hOm] at h1
    refine h1.mono ?_
    rintro e X' ⟨A', c', he, hb, hr, _⟩
    dsimp only at he hr
    rw [pre_len] at he
    rw [← hm]
    exact ⟨A', c', he, hb, hr⟩
  have c22x : ∀ t, k0 + t ≤ 5 → ∀ X A c, Below w.heap.size w X → Row X X.heap.size A (pre (wn * hn) (af wn hn L S t (amt O aw))) → Calls Tryd.prog 22 #[.agg #[.int .i64 (wn : Nat), .int .i64 (hn : Nat), .slice aL m cL, .slice aS m cS], .agg #[.int .i64 ((k0 + t : Nat) : Int), .slice A m c, .int .i64 (el (af wn hn L S t (amt O aw)) (wn * hn))]] X fun e w' => e = .returned (.tuple #[.int .i64 ((16 : Int) ^ t * tot (amt O aw)), .int .i64 0]) ∧ Below X.heap.size X w' := fun t ht X A c hX hr => by
    have h1 := Total_any X.heap.size wn hn aL aS A cL cS c L m S ((k0 + t : Nat) : Int) (pre (wn * hn) (af wn hn L S t (amt O aw))) (el (af wn hn L S t (amt O aw)) (wn * hn)) X ((h.below hX).more hX.size) hr (Nat.le_refl _)
    unfold IntRes totV at h1
    rw [askE_0 hv (hsl t ht), if_pos rfl, amt_pre (af_len hal t), af_tot hBay hal t, pre_len, hLm, ← hm] at h1
    rw [← hm]
    exact h1
  have c34 : ∀ t, k0 + t ≤ 5 → ∀ X A c, Below w.heap.size w X → Row X X.heap.size A (pre (wn * hn) (af wn hn L S t (amt O aw))) → Calls Tryd.prog 34 #[.agg #[.int .i64 (wn : Nat), .int .i64 (hn : Nat), .slice aL m cL, .slice aS m cS], .agg #[.int .i64 ((k0 + t : Nat) : Int), .slice A m c, .int .i64 (el (af wn hn L S t (amt O aw)) (wn * hn))], .slice aP (m + 1) cP] X fun e w' => e = .returned (.tuple #[.int .i64 (Go.Proofs.YtnbgjgiknfcdkaaDoor.cst (amt O aw) (bf wn hn L S t P)), .int .i64 0]) ∧ Below X.heap.size X w' := fun t ht X A c hX hr => by
    have h1 := Cost_ok X.heap.size wn hn aL aS A aP cL cS c cP L m S ((k0 + t : Nat) : Int) (pre (wn * hn) (af wn hn L S t (amt O aw))) (el (af wn hn L S t (amt O aw)) (wn * hn)) P X ((h.below hX).more hX.size) hr ((hP.below hX).more hX.size) (Nat.le_refl _) hv (hsl t ht) hp
    rw [amt_pre (af_len hal t), cst_dual t P hal, pre_len, hLm, hpo.1, ← hm] at h1
    rw [← hm]
    exact h1
  have hbl : ∀ t, (bf wn hn L S t P).length = m + 1 := fun t => by rw [hm]; exact bf_len (by rw [hpo.1, hm]) t
  have c36 : ∀ t, k0 + t ≤ 5 → ∀ X, Below w.heap.size w X → Calls Tryd.prog 36 #[.agg #[.int .i64 (wn : Nat), .int .i64 (hn : Nat), .slice aL m cL, .slice aS m cS], .slice aP (m + 1) cP, .int .i64 (t : Nat)] X fun e X' => ∃ A c, e = .returned (.tuple #[.slice A (m + 1) c, .int .i64 0]) ∧ Below X.heap.size X X' ∧ Row X' X'.heap.size A (bf wn hn L S t P) := fun t ht X hX => by
    have h1 := Before_any w.heap.size wn hn aL aS aP cL cS cP L m S P t X (h.below hX) (hP.below hX) hX.size hs1 (hd.below hX hs1)
    have hr : befR wn hn L m S P (t : Nat) = (bf wn hn L S t P, 0) := by unfold befR; rw [hv, hp, show movesB (t : Nat) = true by unfold movesB; simp; omega]; simp
    rw [hr, hLm, hpo.1] at h1
    refine h1.mono ?_
    rintro e X' ⟨A', c', he, hb, hr⟩
    dsimp only at he hr
    rw [hbl t] at he
    exact ⟨A', c', he, hb, hr⟩
  have c52 : ∀ t, k0 + t ≤ 5 → ∀ X, Calls Tryd.prog 52 #[.int .i64 (t : Nat)] X fun e X' => e = .returned (.int .i64 ((16 : Int) ^ t)) ∧ X' = X := fun t ht X => (sixteen_ref t X (by omega)).mono fun e w' ⟨he, hw⟩ => ⟨he, hw.symm⟩
  have c54 : ∀ t, k0 + t ≤ 5 → ∀ X A c, Below w.heap.size w X → Row X X.heap.size A (bf wn hn L S t P) → Calls Tryd.prog 54 #[.agg #[.int .i64 (k0 : Nat), .slice aO m cO, .int .i64 aw], .slice A (m + 1) c] X fun e w' => e = .returned (.int .i64 (Go.Proofs.YtnbgjgiknfcdkaaDoor.cst (amt O aw) (bf wn hn L S t P))) ∧ Below X.heap.size X w' := fun t ht X A c hX hr =>
    Priced_ref X.heap.size aO A cO c m k0 O aw (bf wn hn L S t P) X ((hO.below hX).more hX.size) hr (Nat.le_refl _) hOm (hbl t) h36.2 (fun j hj => by
      have e1 := (slk_of hs).2.2.1 j (by rw [hal, ← hm]; exact hj)
      have e2 := el_le_tot (slk_of hs).2.2.1 j (by rw [hal, ← hm]; exact hj)
      have e3 := (slk_of hs).2.2.2
      rw [Int.toNat_natCast] at e3
      have e4 := bf_bound hBay (fun t ht => hpo.2 t (by rw [hm]; exact ht)) t (by omega) j (by rw [← hm]; omega)
      have e5 := Int.mul_le_mul (show el (amt O aw) j ≤ 36000 * (16 : Int) ^ k0 by omega) e4.2 e4.1 (Int.mul_nonneg (by omega) (Int.pow_nonneg (by omega)))
      have e6 : 36000 * (16 : Int) ^ k0 * (1000 * (16 : Int) ^ t) = (16 : Int) ^ (k0 + t) * 36000000 := by
        rw [Int.pow_add, Int.mul_comm ((16 : Int) ^ k0 * (16 : Int) ^ t) 36000000, ← Int.mul_assoc, ← Int.mul_assoc, Int.mul_assoc 36000 ((16 : Int) ^ k0) 1000, Int.mul_comm ((16 : Int) ^ k0) 1000, ← Int.mul_assoc, show (36000 : Int) * 1000 = 36000000 by rfl]
      have e7 := pow16 (k0 + t) 5 (by omega) 36000000 (by omega)
      refine ⟨Int.mul_nonneg e1 e4.1, ?_⟩
      rw [e6] at e5
      omega)
  have hqb : ∀ t, k0 + t ≤ 5 → 0 ≤ (16 : Int) ^ t * tot (amt O aw) ∧ (16 : Int) ^ t * tot (amt O aw) ≤ 1000000000000 := fun t ht => by
    have e1 := slk_tot (slk_of (hsl t ht)).2
    rw [amt_pre (af_len hal t), af_tot hBay hal t] at e1
    exact ⟨Int.mul_nonneg (Int.pow_nonneg (by omega)) (tot_nonneg (slk_of hs).2.2.1), e1⟩
  have c38 : ∀ X, Below w.heap.size w X → Calls Tryd.prog 38 #[.agg #[.int .i64 (wn : Nat), .int .i64 (hn : Nat), .slice aL m cL, .slice aS m cS], .agg #[.int .i64 (k0 : Nat), .slice aO m cO, .int .i64 aw], (.agg #[.int .i64 K', .slice aO' m cO', .int .i64 aw'])] X (SlkRes X (sumR wn hn L m S k0 O aw K' O' aw')) := fun X hX => by
    have h1 := Sum_any w.heap.size wn hn aL aS aO aO' cL cS cO cO' L m S k0 K' O O' aw aw' X (h.below hX) (hO.below hX) (hO'.below hX) hX.size
    rw [hLm, hOm, hOm'] at h1
    exact h1
  rw [hsum] at c38
  unfold SlkRes at c38
  dsimp only at c38
  clear hsl hbl hsum hv2 hal hV hlb hv hs hs' hp h hO hO' hP hd hpo hOm hOm' hLm hBay
  generalize tot (amt O aw) = T at *
  have hmI : ¬ (100 : Int) < (m : Nat) := by omega
  replace sane := Lib.hid sane
  replace c15 := Lib.hid c15
  replace c21 := Lib.hid c21
  replace c51 := Lib.hid c51
  replace c51' := Lib.hid c51'
  replace c53 := Lib.hid c53
  replace c22 := Lib.hid c22
  replace c31 := Lib.hid c31
  replace c22x := Lib.hid c22x
  replace c34 := Lib.hid c34
  replace c36 := Lib.hid c36
  replace c52 := Lib.hid c52
  replace c54 := Lib.hid c54
  replace hqb := Lib.hid hqb
  replace c38 := Lib.hid c38
  replace ha := Lib.hid ha
  replace hb := Lib.hid hb
  replace hm := Lib.hid hm
  go_enter Tryd.func14, Tryd.ntmps14
  go_upto_region 1 with fail
  go_cut [7, 8] from 25 to 28 (fun p q wx => ∃ b7 b8 : Nat, p = .pointer (some ⟨b7, 0, none⟩) ∧ q = .pointer (some ⟨b8, 0, none⟩) ∧ AddW w (.int .i64 (wn : Nat)) (.int .i64 (hn : Nat)) (.slice aL m cL) (.slice aS m cS) (.int .i64 (k0 : Nat)) (.slice aO m cO) (.int .i64 aw) (.int .i64 K') (.slice aO' m cO') (.int .i64 aw') b7 b8 wx)
  case first =>
    go_region
    · go_wp2_with fail
      go_meet
      exact ⟨_, _, rfl, rfl, ha.out⟩
    · go_wp2_with fail
      go_meet
      exact ⟨_, _, rfl, rfl, hb.out⟩
  case rest =>
  obtain ⟨b7, b8, rfl, rfl, h0⟩ := hcut
  clear ha hb
  have g0 := h0.bay.c0
  have g1 := h0.bay.c1
  have g2 := h0.bay.c2
  have g3 := h0.bay.c3
  go_wp2_with fail
  refine (c15.out _ h0.below).mono ?_
  rintro e w1 ⟨rfl, hb1⟩
  have h1 := h0.call hb1
  clear hb1
  clear h0 g0 g1 g2 g3
  have t1 := h1.fst.c1
  have u1 := h1.snd.c1
  have g0 := h1.bay.c0
  have g1 := h1.bay.c1
  have g2 := h1.bay.c2
  have g3 := h1.bay.c3
  go_wp2_with fail
  refine (c21.out _ h1.below).mono ?_
  rintro e w2 ⟨rfl, hb2⟩
  have h3 := h1.call hb2
  clear hb2
  clear h1 g0 g1 g2 g3 t1 u1
  have g0 := h3.bay.c0
  have g1 := h3.bay.c1
  have g2 := h3.bay.c2
  have g3 := h3.bay.c3
  have t0 := h3.fst.c0
  have t1 := h3.fst.c1
  have t2 := h3.fst.c2
  go_wp2_with fail
  refine (c51.out _ h3.below).mono ?_
  rintro e w4 ⟨rfl, hb4⟩
  have h5 := h3.call hb4
  clear hb4
  clear h3 g0 g1 g2 g3 t0 t1 t2
  have g0 := h5.bay.c0
  have g1 := h5.bay.c1
  have g2 := h5.bay.c2
  have g3 := h5.bay.c3
  have t0 := h5.snd.c0
  have t1 := h5.snd.c1
  have t2 := h5.snd.c2
  go_wp2_with fail
  refine (c51'.out _ h5.below).mono ?_
  rintro e w6 ⟨rfl, hb6⟩
  have h7 := h5.call hb6
  clear hb6
  clear h5 g0 g1 g2 g3 t0 t1 t2
  have g0 := h7.bay.c0
  have g1 := h7.bay.c1
  have g2 := h7.bay.c2
  have g3 := h7.bay.c3
  go_wp2_with fail
  refine (c53.out _ h7.below).mono ?_
  rintro e w8 ⟨rfl, hb8⟩
  have h9 := h7.call hb8
  clear hb8
  clear h7 g0 g1 g2 g3
  have g0 := h9.bay.c0
  have g1 := h9.bay.c1
  have g2 := h9.bay.c2
  have g3 := h9.bay.c3
  have t0 := h9.fst.c0
  have t1 := h9.fst.c1
  have t2 := h9.fst.c2
  go_wp2_with fail
  refine (c22.out _ h9.below).mono ?_
  rintro e w10 ⟨rfl, hb10⟩
  have h11 := h9.call hb10
  clear hb10
  clear h9 g0 g1 g2 g3 t0 t1 t2 c15 c21 c51 c51' c53 c22
  have g0 := h11.bay.c0
  have g1 := h11.bay.c1
  have g2 := h11.bay.c2
  have g3 := h11.bay.c3
  have t0 := h11.fst.c0
  have t1 := h11.fst.c1
  have t2 := h11.fst.c2
  have u0 := h11.snd.c0
  have u1 := h11.snd.c1
  have u2 := h11.snd.c2
  go_wp2_with fail
  refine (c38.out _ h11.below).mono ?_
  rintro e w12 ⟨A12, c12, rfl, hb12, r12, _⟩
  have h13 := (h11.call hb12).call (ba1 w12 (.cells #[.int .i64 0, .slice A12 0 c12, .int .i64 0] 28))
  clear hb12 h11 g0 g1 g2 g3 t0 t1 t2 u0 u1 u2 c38 r12
  have t0 := h13.fst.c0
  replace h13 := Lib.hid h13
  go_wp2
  go_loopw [13] (fun i X => ∃ t : Nat, t ≤ 6 - k0 ∧ i = .int .i64 t ∧ AddW w (.int .i64 (wn : Nat)) (.int .i64 (hn : Nat)) (.slice aL m cL) (.slice aS m cS) (.int .i64 (k0 : Nat)) (.slice aO m cO) (.int .i64 aw) (.int .i64 K') (.slice aO' m cO') (.int .i64 aw') b7 b8 X) (fun i _ => 6 - k0 - (intOf i).toNat)
  case atStart => exact ⟨0, Nat.zero_le _, rfl, h13.out⟩
  case round =>
    clear h13 t0
    obtain ⟨t, ht, rfl, hX⟩ := hrel
    have t0 := hX.fst.c0
    by_cases hlt : k0 + t ≤ 5
    · have kI : (k0 : Int) + t ≤ 5 := by omega
      have d31 := c31.out t hlt
      have d22 := c22x.out t hlt
      have d34 := c34.out t hlt
      have d36 := c36.out t hlt
      have d52 := c52.out t hlt
      have d54 := c54.out t hlt
      have dq := hqb.out t hlt
      generalize Go.Proofs.YtnbgjgiknfcdkaaDoor.cst (amt O aw) (bf wn hn L S t P) = cc at *
      generalize bf wn hn L S t P = q0 at *
      generalize (el (af wn hn L S t (amt O aw)) (wn * hn)) = xa at *
      generalize (pre (wn * hn) (af wn hn L S t (amt O aw))) = xs at *
      generalize ((k0 + t : Nat) : Int) = kk at *
      obtain ⟨s16, hs16⟩ : ∃ z, z = (16 : Int) ^ t := ⟨_, rfl⟩
      rw [← hs16] at d22 d52 dq
      obtain ⟨qq, hqq⟩ : ∃ z, z = s16 * T := ⟨_, rfl⟩
      rw [← hqq] at d22 dq
      have wq : IntKind.i64.wrap (T * s16) = qq := by rw [Int.mul_comm, ← hqq]; exact IntWalk.i64_in _ (by omega)
      have wq2 : wrap64 (T * s16) = qq := by rw [Int.mul_comm, ← hqq]; exact IntWalk.wrap64_in _ (by omega)
      clear hs16 hqq dq
      replace d31 := Lib.hid d31
      replace d22 := Lib.hid d22
      replace d34 := Lib.hid d34
      replace d36 := Lib.hid d36
      replace d52 := Lib.hid d52
      replace d54 := Lib.hid d54
      replace wq2 := Lib.hid wq2
      replace wq := Lib.hid wq
      have g0 := hX.bay.c0
      have g1 := hX.bay.c1
      have g2 := hX.bay.c2
      have g3 := hX.bay.c3
      have t1 := hX.fst.c1
      have t2 := hX.fst.c2
      go_wp2_with fail
      refine (d31.out _ hX.below).mono ?_
      rintro e w14 ⟨A14, c14, rfl, hb14, r14⟩
      have h15 := (hX.call hb14).call (ba1 w14 (.cells #[.int .i64 kk, .slice A14 m c14, .int .i64 xa] 28))
      have x15 := Tri.new w14 (.int .i64 kk) (.slice A14 m c14) (.int .i64 xa)
      have r15 := r14.up (ba1 w14 (.cells #[.int .i64 kk, .slice A14 m c14, .int .i64 xa] 28))
      clear hb14 hX g0 g1 g2 g3 t0 t1 t2 r14 d31
      have g0 := h15.bay.c0
      have g1 := h15.bay.c1
      have g2 := h15.bay.c2
      have g3 := h15.bay.c3
      have x0 := x15.c0
      have x1 := x15.c1
      have x2 := x15.c2
      go_wp2_with fail
      refine (d22.out _ A14 c14 h15.below r15).mono ?_
      rintro e w16 ⟨rfl, hb16⟩
      have h17 := h15.call hb16
      have x17 := x15.up hb16
      have r17 := r15.up hb16
      clear hb16 h15 x15 r15 g0 g1 g2 g3 x0 x1 x2 d22
      have g0 := h17.bay.c0
      have g1 := h17.bay.c1
      have g2 := h17.bay.c2
      have g3 := h17.bay.c3
      have x0 := x17.c0
      have x1 := x17.c1
      have x2 := x17.c2
      go_wp2_with fail
      refine (d34.out _ A14 c14 h17.below r17).mono ?_
      rintro e w18 ⟨rfl, hb18⟩
      have h19 := h17.call hb18
      clear hb18 h17 x17 r17 g0 g1 g2 g3 x0 x1 x2 d34
      have g0 := h19.bay.c0
      have g1 := h19.bay.c1
      have g2 := h19.bay.c2
      have g3 := h19.bay.c3
      go_wp2_with fail
      refine (d36.out _ h19.below).mono ?_
      rintro e w20 ⟨A20, c20, rfl, hb20, r20⟩
      have h21 := h19.call hb20
      clear hb20 h19 g0 g1 g2 g3 d36
      go_wp2_with fail
      refine (d52.out _).mono ?_
      rintro e w22 ⟨rfl, rfl⟩
      have t0 := h21.fst.c0
      have t1 := h21.fst.c1
      have t2 := h21.fst.c2
      have wq3 := wq.out
      have wq4 := wq2.out
      go_wp2_with fail
      refine (d54.out _ A20 c20 h21.below r20).mono ?_
      rintro e w24 ⟨rfl, hb24⟩
      have h25 := h21.call hb24
      clear hb24 h21 t0 t1 t2 d52 d54 r20 wq3 wq4 wq wq2
      replace h25 := Lib.hid h25
      go_wp2
      go_roundw
      case rel => exact ⟨t + 1, by omega, by go_num, h25.out⟩
      case measure => simp [intOf]; omega
    · have kI : ¬ (k0 : Int) + t ≤ 5 := by omega
      go_wp2_with fail
      refine (sane.out _ hX.below).mono ?_
      rintro e w9 ⟨rfl, h9⟩
      go_wp2
      go_ret
      exact ⟨rfl, h9⟩

set_option maxRecDepth 100000 in
set_option maxHeartbeats 8000000 in
theorem innOk (wn hn : Nat) (aL aS aO aO' aP : Option Addr) (cL cS cO cO' cP : Nat) (L : List Bool) (S : List Int) (k0 : Nat) (K' : Int) (O O' : List Int) (aw aw' : Int) (P : List Int) (m : Nat) (w : World) (h : BayIn w w.heap.size aL L aS m S) (hO : Row w w.heap.size aO O) (hO' : Row w w.heap.size aO' O') (hP : Row w w.heap.size aP P) (hd : Dirs w)
    (hm : m = wn * hn) (hlb : (decide (100 < L.length) || decide (100 < m)) = false) (hv : validB wn hn L m S = true) (hs : slkB L.length k0 O aw = true) (hs' : slkB L.length K' O' aw' = true) (hp : pricesB L.length P = true) (hBay : Bay wn hn L S)
    (hk' : K' = (k0 : Int)) (hss : slkB L.length k0 (pre (wn * hn) (ad (wn * hn + 1) (amt O aw) (amt O' aw'))) (el (ad (wn * hn + 1) (amt O aw) (amt O' aw')) (wn * hn)) = true) (hsum : sumR wn hn L m S k0 O aw K' O' aw' = ((k0 : Int), pre (wn * hn) (ad (wn * hn + 1) (amt O aw) (amt O' aw')), el (ad (wn * hn + 1) (amt O aw) (amt O' aw')) (wn * hn), 0)) :
    Calls Tryd.prog 14 #[.agg #[.int .i64 (wn : Nat), .int .i64 (hn : Nat), .slice aL m cL, .slice aS m cS], .agg #[.int .i64 (k0 : Nat), .slice aO m cO, .int .i64 aw, .int .i64 K', .slice aO' m cO', .int .i64 aw'], .slice aP (m + 1) cP] w fun e w' => e = .returned (.bool true) ∧ Below w.heap.size w w' := by
  have ha := addW_a w (.int .i64 (wn : Nat)) (.int .i64 (hn : Nat)) (.slice aL m cL) (.slice aS m cS) (.int .i64 (k0 : Nat)) (.slice aO m cO) (.int .i64 aw) (.int .i64 K') (.slice aO' m cO') (.int .i64 aw')
  have hb := addW_b w (.int .i64 (wn : Nat)) (.int .i64 (hn : Nat)) (.slice aL m cL) (.slice aS m cS) (.int .i64 (k0 : Nat)) (.slice aO m cO) (.int .i64 aw) (.int .i64 K') (.slice aO' m cO') (.int .i64 aw')
  have hs1 : 1 ≤ w.heap.size := hd.1
  have hLm : L.length = m := by rw [hm]; exact hBay.2.1.1
  have h36 : 1 ≤ m ∧ m ≤ 36 := by rw [hm]; exact hBay.cells
  have hOm : O.length = m := by rw [(slk_of hs).1, hLm]
  have hOm' : O'.length = m := by rw [(slk_of hs').1, hLm]
  have hpo := prices_of hp
  rw [hLm] at hpo
  have hV := val_of hv
  have hv2 : validB wn hn L (wn * hn) S = true := by rw [← hm]; exact hv
  have hk0 : k0 ≤ 5 := by have := (slk_of hs).2.1; omega
  have hal : (amt O aw).length = wn * hn + 1 := by rw [amt_len, hOm, hm]
  have sane : ∀ X, Below w.heap.size w X → Calls Tryd.prog 17 #[] X fun e w' => e = .returned (.bool true) ∧ Below w.heap.size w w' := fun X hX =>
    (Sane_any X (hd.below hX hs1)).mono fun e w' ⟨he, hb⟩ => ⟨he, hX.trans (hb.mono hX.size)⟩
  have c15 : ∀ X, Below w.heap.size w X → Calls Tryd.prog 15 #[.agg #[.int .i64 (wn : Nat), .int .i64 (hn : Nat), .slice aL m cL, .slice aS m cS]] X fun e w' => e = .returned (.bool false) ∧ Below X.heap.size X w' := fun X _ => by
    have h1 := Long_any wn hn aL aS cL m cS L.length X h.land.1 h.share.1
    rw [hlb, hLm] at h1
    exact h1
  have c21 : ∀ X, Below w.heap.size w X → Calls Tryd.prog 21 #[.agg #[.int .i64 (wn : Nat), .int .i64 (hn : Nat), .slice aL m cL, .slice aS m cS]] X fun e w' => e = .returned (.bool true) ∧ Below X.heap.size X w' := fun X hX => by
    have h1 := Valid_ref w.heap.size wn hn aL aS cL cS L m S X (h.below hX) hX.size
    rw [hv, hLm] at h1
    exact h1
  have c51 : ∀ X, Below w.heap.size w X → Calls Tryd.prog 51 #[.agg #[.int .i64 (wn : Nat), .int .i64 (hn : Nat), .slice aL m cL, .slice aS m cS], .agg #[.int .i64 (k0 : Nat), .slice aO m cO, .int .i64 aw]] X fun e w' => e = .returned (.bool true) ∧ Below X.heap.size X w' := fun X hX => by
    have h1 := Is_any w.heap.size wn hn aL aS aO cL cS cO L.length m k0 O aw X (hO.below hX) hX.size hV.2.1.1 (by omega)
    rw [hs, hLm, hOm] at h1
    exact h1
  have c51' : ∀ X, Below w.heap.size w X → Calls Tryd.prog 51 #[.agg #[.int .i64 (wn : Nat), .int .i64 (hn : Nat), .slice aL m cL, .slice aS m cS], (.agg #[.int .i64 K', .slice aO' m cO', .int .i64 aw'])] X fun e w' => e = .returned (.bool true) ∧ Below X.heap.size X w' := fun X hX => by
    have h1 := Is_any w.heap.size wn hn aL aS aO' cL cS cO' L.length m K' O' aw' X (hO'.below hX) hX.size hV.2.1.1 (by omega)
    rw [hs', hLm, hOm'] at h1
    exact h1
  have c53 : ∀ X, Below w.heap.size w X → Calls Tryd.prog 53 #[.agg #[.int .i64 (wn : Nat), .int .i64 (hn : Nat), .slice aL m cL, .slice aS m cS], .slice aP (m + 1) cP] X fun e w' => e = .returned (.bool true) ∧ Below X.heap.size X w' := fun X hX => by
    have h1 := ArePrices_ref w.heap.size wn hn aL aS aP cL cS cP L.length m L.length P X (hP.below hX) hX.size hV.2.1.1 (by omega)
    rw [hp, hLm, hpo.1] at h1
    exact h1
  have c22 : ∀ X, Below w.heap.size w X → Calls Tryd.prog 22 #[.agg #[.int .i64 (wn : Nat), .int .i64 (hn : Nat), .slice aL m cL, .slice aS m cS], .agg #[.int .i64 (k0 : Nat), .slice aO m cO, .int .i64 aw]] X fun e w' => e = .returned (.tuple #[.int .i64 (tot (amt O aw)), .int .i64 0]) ∧ Below X.heap.size X w' := fun X hX => by
    have h1 := Total_any w.heap.size wn hn aL aS aO cL cS cO L m S k0 O aw X (h.below hX) (hO.below hX) hX.size
    unfold IntRes totV at h1
    rw [askE_0 hv hs, if_pos rfl, hLm, hOm] at h1
    exact h1
  have hsl : ∀ t, k0 + t ≤ 5 → slkB L.length ((k0 + t : Nat) : Int) (pre (wn * hn) (af wn hn L S t (amt O aw))) (el (af wn hn L S t (amt O aw)) (wn * hn)) = true := fun t ht =>
    slkB_true (by rw [pre_len, hLm, hm]) (by rw [Int.natCast_add]; exact (slk_after (n := t) hBay (slk_of hs).2 (by rw [hOm, hm]) ht).2)
  have c31 : ∀ t, k0 + t ≤ 5 → ∀ X, Below w.heap.size w X → Calls Tryd.prog 31 #[.agg #[.int .i64 (wn : Nat), .int .i64 (hn : Nat), .slice aL m cL, .slice aS m cS], .agg #[.int .i64 (k0 : Nat), .slice aO m cO, .int .i64 aw], .int .i64 (t : Nat)] X fun e X' => ∃ A c, e = .returned (.tuple #[.agg #[.int .i64 ((k0 + t : Nat) : Int), .slice A m c, .int .i64 (el (af wn hn L S t (amt O aw)) (wn * hn))], .int .i64 0]) ∧ Below X.heap.size X X' ∧ Row X' X'.heap.size A (pre (wn * hn) (af wn hn L S t (amt O aw))) := fun t ht X hX => by
    have hx := aftR_ok (w := wn) (h := hn) (L := L) (S := S) (n := t) hv2 hs ht
    have h1 := After_any w.heap.size wn hn aL aS aO cL cS cO L m S k0 O aw t X (h.below hX) (hO.below hX) hX.size hs1 (hd.below hX hs1) (by omega)
    rw [hm] at h1
    rw [hx] at h1
    rw [← hm, hLm, hOm] at h1
    refine h1.mono ?_
    rintro e X' ⟨A', c', he, hb, hr, _⟩
    dsimp only at he hr
    rw [pre_len] at he
    rw [← hm]
    exact ⟨A', c', he, hb, hr⟩
  have c22x : ∀ t, k0 + t ≤ 5 → ∀ X A c, Below w.heap.size w X → Row X X.heap.size A (pre (wn * hn) (af wn hn L S t (amt O aw))) → Calls Tryd.prog 22 #[.agg #[.int .i64 (wn : Nat), .int .i64 (hn : Nat), .slice aL m cL, .slice aS m cS], .agg #[.int .i64 ((k0 + t : Nat) : Int), .slice A m c, .int .i64 (el (af wn hn L S t (amt O aw)) (wn * hn))]] X fun e w' => e = .returned (.tuple #[.int .i64 ((16 : Int) ^ t * tot (amt O aw)), .int .i64 0]) ∧ Below X.heap.size X w' := fun t ht X A c hX hr => by
    have h1 := Total_any X.heap.size wn hn aL aS A cL cS c L m S ((k0 + t : Nat) : Int) (pre (wn * hn) (af wn hn L S t (amt O aw))) (el (af wn hn L S t (amt O aw)) (wn * hn)) X ((h.below hX).more hX.size) hr (Nat.le_refl _)
    unfold IntRes totV at h1
    rw [askE_0 hv (hsl t ht), if_pos rfl, amt_pre (af_len hal t), af_tot hBay hal t, pre_len, hLm, ← hm] at h1
    rw [← hm]
    exact h1
  have c34 : ∀ t, k0 + t ≤ 5 → ∀ X A c, Below w.heap.size w X → Row X X.heap.size A (pre (wn * hn) (af wn hn L S t (amt O aw))) → Calls Tryd.prog 34 #[.agg #[.int .i64 (wn : Nat), .int .i64 (hn : Nat), .slice aL m cL, .slice aS m cS], .agg #[.int .i64 ((k0 + t : Nat) : Int), .slice A m c, .int .i64 (el (af wn hn L S t (amt O aw)) (wn * hn))], .slice aP (m + 1) cP] X fun e w' => e = .returned (.tuple #[.int .i64 (Go.Proofs.YtnbgjgiknfcdkaaDoor.cst (amt O aw) (bf wn hn L S t P)), .int .i64 0]) ∧ Below X.heap.size X w' := fun t ht X A c hX hr => by
    have h1 := Cost_ok X.heap.size wn hn aL aS A aP cL cS c cP L m S ((k0 + t : Nat) : Int) (pre (wn * hn) (af wn hn L S t (amt O aw))) (el (af wn hn L S t (amt O aw)) (wn * hn)) P X ((h.below hX).more hX.size) hr ((hP.below hX).more hX.size) (Nat.le_refl _) hv (hsl t ht) hp
    rw [amt_pre (af_len hal t), cst_dual t P hal, pre_len, hLm, hpo.1, ← hm] at h1
    rw [← hm]
    exact h1
  have hbl : ∀ t, (bf wn hn L S t P).length = m + 1 := fun t => by rw [hm]; exact bf_len (by rw [hpo.1, hm]) t
  have c36 : ∀ t, k0 + t ≤ 5 → ∀ X, Below w.heap.size w X → Calls Tryd.prog 36 #[.agg #[.int .i64 (wn : Nat), .int .i64 (hn : Nat), .slice aL m cL, .slice aS m cS], .slice aP (m + 1) cP, .int .i64 (t : Nat)] X fun e X' => ∃ A c, e = .returned (.tuple #[.slice A (m + 1) c, .int .i64 0]) ∧ Below X.heap.size X X' ∧ Row X' X'.heap.size A (bf wn hn L S t P) := fun t ht X hX => by
    have h1 := Before_any w.heap.size wn hn aL aS aP cL cS cP L m S P t X (h.below hX) (hP.below hX) hX.size hs1 (hd.below hX hs1)
    have hr : befR wn hn L m S P (t : Nat) = (bf wn hn L S t P, 0) := by unfold befR; rw [hv, hp, show movesB (t : Nat) = true by unfold movesB; simp; omega]; simp
    rw [hr, hLm, hpo.1] at h1
    refine h1.mono ?_
    rintro e X' ⟨A', c', he, hb, hr⟩
    dsimp only at he hr
    rw [hbl t] at he
    exact ⟨A', c', he, hb, hr⟩
  have c52 : ∀ t, k0 + t ≤ 5 → ∀ X, Calls Tryd.prog 52 #[.int .i64 (t : Nat)] X fun e X' => e = .returned (.int .i64 ((16 : Int) ^ t)) ∧ X' = X := fun t ht X => (sixteen_ref t X (by omega)).mono fun e w' ⟨he, hw⟩ => ⟨he, hw.symm⟩
  have c54 : ∀ t, k0 + t ≤ 5 → ∀ X A c, Below w.heap.size w X → Row X X.heap.size A (bf wn hn L S t P) → Calls Tryd.prog 54 #[.agg #[.int .i64 (k0 : Nat), .slice aO m cO, .int .i64 aw], .slice A (m + 1) c] X fun e w' => e = .returned (.int .i64 (Go.Proofs.YtnbgjgiknfcdkaaDoor.cst (amt O aw) (bf wn hn L S t P))) ∧ Below X.heap.size X w' := fun t ht X A c hX hr =>
    Priced_ref X.heap.size aO A cO c m k0 O aw (bf wn hn L S t P) X ((hO.below hX).more hX.size) hr (Nat.le_refl _) hOm (hbl t) h36.2 (fun j hj => by
      have e1 := (slk_of hs).2.2.1 j (by rw [hal, ← hm]; exact hj)
      have e2 := el_le_tot (slk_of hs).2.2.1 j (by rw [hal, ← hm]; exact hj)
      have e3 := (slk_of hs).2.2.2
      rw [Int.toNat_natCast] at e3
      have e4 := bf_bound hBay (fun t ht => hpo.2 t (by rw [hm]; exact ht)) t (by omega) j (by rw [← hm]; omega)
      have e5 := Int.mul_le_mul (show el (amt O aw) j ≤ 36000 * (16 : Int) ^ k0 by omega) e4.2 e4.1 (Int.mul_nonneg (by omega) (Int.pow_nonneg (by omega)))
      have e6 : 36000 * (16 : Int) ^ k0 * (1000 * (16 : Int) ^ t) = (16 : Int) ^ (k0 + t) * 36000000 := by
        rw [Int.pow_add, Int.mul_comm ((16 : Int) ^ k0 * (16 : Int) ^ t) 36000000, ← Int.mul_assoc, ← Int.mul_assoc, Int.mul_assoc 36000 ((16 : Int) ^ k0) 1000, Int.mul_comm ((16 : Int) ^ k0) 1000, ← Int.mul_assoc, show (36000 : Int) * 1000 = 36000000 by rfl]
      have e7 := pow16 (k0 + t) 5 (by omega) 36000000 (by omega)
      refine ⟨Int.mul_nonneg e1 e4.1, ?_⟩
      rw [e6] at e5
      omega)
  have hqb : ∀ t, k0 + t ≤ 5 → 0 ≤ (16 : Int) ^ t * tot (amt O aw) ∧ (16 : Int) ^ t * tot (amt O aw) ≤ 1000000000000 := fun t ht => by
    have e1 := slk_tot (slk_of (hsl t ht)).2
    rw [amt_pre (af_len hal t), af_tot hBay hal t] at e1
    exact ⟨Int.mul_nonneg (Int.pow_nonneg (by omega)) (tot_nonneg (slk_of hs).2.2.1), e1⟩
  have c38 : ∀ X, Below w.heap.size w X → Calls Tryd.prog 38 #[.agg #[.int .i64 (wn : Nat), .int .i64 (hn : Nat), .slice aL m cL, .slice aS m cS], .agg #[.int .i64 (k0 : Nat), .slice aO m cO, .int .i64 aw], (.agg #[.int .i64 K', .slice aO' m cO', .int .i64 aw'])] X (SlkRes X (sumR wn hn L m S k0 O aw K' O' aw')) := fun X hX => by
    have h1 := Sum_any w.heap.size wn hn aL aS aO aO' cL cS cO cO' L m S k0 K' O O' aw aw' X (h.below hX) (hO.below hX) (hO'.below hX) hX.size
    rw [hLm, hOm, hOm'] at h1
    exact h1
  rw [hsum] at c38
  unfold SlkRes at c38
  dsimp only at c38
  rw [pre_len] at c38
  have hs2 : slkB L.length k0 O' aw' = true := by rw [← hk']; exact hs'
  have hLN : L.length = wn * hn := by rw [hLm, hm]
  have cy : ∀ t, k0 + t ≤ 5 → ∀ X, Below w.heap.size w X → Calls Tryd.prog 31 #[.agg #[.int .i64 (wn : Nat), .int .i64 (hn : Nat), .slice aL m cL, .slice aS m cS], (.agg #[.int .i64 K', .slice aO' m cO', .int .i64 aw']), .int .i64 (t : Nat)] X fun e X' => ∃ A c, e = .returned (.tuple #[.agg #[.int .i64 ((k0 + t : Nat) : Int), .slice A m c, .int .i64 (el (af wn hn L S t (amt O' aw')) (wn * hn))], .int .i64 0]) ∧ Below X.heap.size X X' ∧ Row X' X'.heap.size A (pre (wn * hn) (af wn hn L S t (amt O' aw'))) := fun t ht X hX => by
    subst hk'
    have hx := aftR_ok (w := wn) (h := hn) (L := L) (S := S) (n := t) hv2 hs2 ht
    have h1 := After_any w.heap.size wn hn aL aS aO' cL cS cO' L m S k0 O' aw' t X (h.below hX) (hO'.below hX) hX.size hs1 (hd.below hX hs1) (by omega)
    rw [hm] at h1
    rw [hx] at h1
    rw [← hm, hLm, hOm'] at h1
    refine h1.mono ?_
    rintro e X' ⟨A', c', he, hb, hr, _⟩
    dsimp only at he hr
    rw [pre_len] at he
    rw [← hm]
    exact ⟨A', c', he, hb, hr⟩
  have cz : ∀ t, k0 + t ≤ 5 → ∀ X A c, Below w.heap.size w X → Row X X.heap.size A (pre (wn * hn) (ad (wn * hn + 1) (amt O aw) (amt O' aw'))) → Calls Tryd.prog 31 #[.agg #[.int .i64 (wn : Nat), .int .i64 (hn : Nat), .slice aL m cL, .slice aS m cS], .agg #[.int .i64 (k0 : Nat), .slice A m c, .int .i64 (el (ad (wn * hn + 1) (amt O aw) (amt O' aw')) (wn * hn))], .int .i64 (t : Nat)] X fun e X' => ∃ A c, e = .returned (.tuple #[.agg #[.int .i64 ((k0 + t : Nat) : Int), .slice A m c, .int .i64 (el (af wn hn L S t (ad (wn * hn + 1) (amt O aw) (amt O' aw'))) (wn * hn))], .int .i64 0]) ∧ Below X.heap.size X X' ∧ Row X' X'.heap.size A (pre (wn * hn) (af wn hn L S t (ad (wn * hn + 1) (amt O aw) (amt O' aw')))) := fun t ht X A c hX hr => by
    have hx := aftR_ok (w := wn) (h := hn) (L := L) (S := S) (n := t) hv2 hss ht
    rw [amt_pre (ad_len _ _ _)] at hx
    have h1 := After_any X.heap.size wn hn aL aS A cL cS c L (wn * hn) S k0 (pre (wn * hn) (ad (wn * hn + 1) (amt O aw) (amt O' aw'))) (el (ad (wn * hn + 1) (amt O aw) (amt O' aw')) (wn * hn)) t X (by rw [← hm]; exact (h.below hX).more hX.size) hr (Nat.le_refl _) (Nat.le_trans hs1 hX.size) (hd.below hX hs1) (by omega)
    rw [hx, pre_len, hLN] at h1
    rw [hm]
    refine h1.mono ?_
    rintro e X' ⟨A', c', he, hb, hr, _⟩
    dsimp only at he hr
    rw [pre_len] at he
    exact ⟨A', c', he, hb, hr⟩
  have c38b : ∀ t, k0 + t ≤ 5 → ∀ X A2 A3 c2 c3, Below w.heap.size w X → Row X X.heap.size A2 (pre (wn * hn) (af wn hn L S t (amt O aw))) → Row X X.heap.size A3 (pre (wn * hn) (af wn hn L S t (amt O' aw'))) → Calls Tryd.prog 38 #[.agg #[.int .i64 (wn : Nat), .int .i64 (hn : Nat), .slice aL m cL, .slice aS m cS], .agg #[.int .i64 ((k0 + t : Nat) : Int), .slice A2 m c2, .int .i64 (el (af wn hn L S t (amt O aw)) (wn * hn))], .agg #[.int .i64 ((k0 + t : Nat) : Int), .slice A3 m c3, .int .i64 (el (af wn hn L S t (amt O' aw')) (wn * hn))]] X fun e X' => ∃ A c, e = .returned (.tuple #[.agg #[.int .i64 ((k0 + t : Nat) : Int), .slice A m c, .int .i64 (el (af wn hn L S t (ad (wn * hn + 1) (amt O aw) (amt O' aw'))) (wn * hn))], .int .i64 0]) ∧ Below X.heap.size X X' ∧ Row X' X'.heap.size A (pre (wn * hn) (af wn hn L S t (ad (wn * hn + 1) (amt O aw) (amt O' aw')))) := fun t ht X A2 A3 c2 c3 hX r2 r3 => by
    have hsa := sum_after (n := t) hBay hv2 hLN hs hs2 hss ht
    have h1 := Sum_any X.heap.size wn hn aL aS A2 A3 cL cS c2 c3 L (wn * hn) S ((k0 + t : Nat) : Int) ((k0 + t : Nat) : Int) (pre (wn * hn) (af wn hn L S t (amt O aw))) (pre (wn * hn) (af wn hn L S t (amt O' aw'))) (el (af wn hn L S t (amt O aw)) (wn * hn)) (el (af wn hn L S t (amt O' aw')) (wn * hn)) X (by rw [← hm]; exact (h.below hX).more hX.size) r2 r3 (Nat.le_refl _)
    rw [hsa, pre_len, pre_len, hLN] at h1
    rw [hm]
    refine h1.mono ?_
    rintro e X' ⟨A', c', he, hb, hr, _⟩
    dsimp only at he hr
    rw [pre_len] at he
    exact ⟨A', c', he, hb, hr⟩
  have c33 : ∀ t, k0 + t ≤ 5 → ∀ X A1 A4 c1 c4, Row X X.heap.size A1 (pre (wn * hn) (af wn hn L S t (ad (wn * hn + 1) (amt O aw) (amt O' aw')))) → Row X X.heap.size A4 (pre (wn * hn) (af wn hn L S t (ad (wn * hn + 1) (amt O aw) (amt O' aw')))) → Calls Tryd.prog 33 #[.agg #[.int .i64 ((k0 + t : Nat) : Int), .slice A1 m c1, .int .i64 (el (af wn hn L S t (ad (wn * hn + 1) (amt O aw) (amt O' aw'))) (wn * hn))], .agg #[.int .i64 ((k0 + t : Nat) : Int), .slice A4 m c4, .int .i64 (el (af wn hn L S t (ad (wn * hn + 1) (amt O aw) (amt O' aw'))) (wn * hn))]] X fun e X' => e = .returned (.bool true) ∧ Below X.heap.size X X' := fun t _ X A1 A4 c1 c4 r1 r4 => by
    have h1 := Equal_ref X.heap.size A1 A4 c1 c4 ((k0 + t : Nat) : Int) ((k0 + t : Nat) : Int) _ _ (el (af wn hn L S t (ad (wn * hn + 1) (amt O aw) (amt O' aw'))) (wn * hn)) _ X r1 r4 (Nat.le_refl _) rfl rfl rfl
    rw [pre_len, ← hm] at h1
    rw [← hm]
    exact h1
  generalize (el (ad (wn * hn + 1) (amt O aw) (amt O' aw')) (wn * hn)) = sx at *
  generalize (pre (wn * hn) (ad (wn * hn + 1) (amt O aw) (amt O' aw'))) = os at *
  rw [← hm] at c38
  clear hs2 hLN hk'
  clear hsl hbl hsum hv2 hal hV hlb hv hs hs' hp h hO hO' hP hd hpo hOm hOm' hLm hBay hss
  generalize tot (amt O aw) = T at *
  have hmI : ¬ (100 : Int) < (m : Nat) := by omega
  replace sane := Lib.hid sane
  replace c15 := Lib.hid c15
  replace c21 := Lib.hid c21
  replace c51 := Lib.hid c51
  replace c51' := Lib.hid c51'
  replace c53 := Lib.hid c53
  replace c22 := Lib.hid c22
  replace c31 := Lib.hid c31
  replace c22x := Lib.hid c22x
  replace c34 := Lib.hid c34
  replace c36 := Lib.hid c36
  replace c52 := Lib.hid c52
  replace c54 := Lib.hid c54
  replace hqb := Lib.hid hqb
  replace c38 := Lib.hid c38
  replace ha := Lib.hid ha
  replace hb := Lib.hid hb
  replace hm := Lib.hid hm
  replace cy := Lib.hid cy
  replace cz := Lib.hid cz
  replace c38b := Lib.hid c38b
  replace c33 := Lib.hid c33
  go_enter Tryd.func14, Tryd.ntmps14
  go_upto_region 1 with fail
  go_cut [7, 8] from 25 to 28 (fun p q wx => ∃ b7 b8 : Nat, p = .pointer (some ⟨b7, 0, none⟩) ∧ q = .pointer (some ⟨b8, 0, none⟩) ∧ AddW w (.int .i64 (wn : Nat)) (.int .i64 (hn : Nat)) (.slice aL m cL) (.slice aS m cS) (.int .i64 (k0 : Nat)) (.slice aO m cO) (.int .i64 aw) (.int .i64 K') (.slice aO' m cO') (.int .i64 aw') b7 b8 wx)
  case first =>
    go_region
    · go_wp2_with fail
      go_meet
      exact ⟨_, _, rfl, rfl, ha.out⟩
    · go_wp2_with fail
      go_meet
      exact ⟨_, _, rfl, rfl, hb.out⟩
  case rest =>
  obtain ⟨b7, b8, rfl, rfl, h0⟩ := hcut
  clear ha hb
  have g0 := h0.bay.c0
  have g1 := h0.bay.c1
  have g2 := h0.bay.c2
  have g3 := h0.bay.c3
  go_wp2_with fail
  refine (c15.out _ h0.below).mono ?_
  rintro e w1 ⟨rfl, hb1⟩
  have h1 := h0.call hb1
  clear hb1
  clear h0 g0 g1 g2 g3
  have t1 := h1.fst.c1
  have u1 := h1.snd.c1
  have g0 := h1.bay.c0
  have g1 := h1.bay.c1
  have g2 := h1.bay.c2
  have g3 := h1.bay.c3
  go_wp2_with fail
  refine (c21.out _ h1.below).mono ?_
  rintro e w2 ⟨rfl, hb2⟩
  have h3 := h1.call hb2
  clear hb2
  clear h1 g0 g1 g2 g3 t1 u1
  have g0 := h3.bay.c0
  have g1 := h3.bay.c1
  have g2 := h3.bay.c2
  have g3 := h3.bay.c3
  have t0 := h3.fst.c0
  have t1 := h3.fst.c1
  have t2 := h3.fst.c2
  go_wp2_with fail
  refine (c51.out _ h3.below).mono ?_
  rintro e w4 ⟨rfl, hb4⟩
  have h5 := h3.call hb4
  clear hb4
  clear h3 g0 g1 g2 g3 t0 t1 t2
  have g0 := h5.bay.c0
  have g1 := h5.bay.c1
  have g2 := h5.bay.c2
  have g3 := h5.bay.c3
  have t0 := h5.snd.c0
  have t1 := h5.snd.c1
  have t2 := h5.snd.c2
  go_wp2_with fail
  refine (c51'.out _ h5.below).mono ?_
  rintro e w6 ⟨rfl, hb6⟩
  have h7 := h5.call hb6
  clear hb6
  clear h5 g0 g1 g2 g3 t0 t1 t2
  have g0 := h7.bay.c0
  have g1 := h7.bay.c1
  have g2 := h7.bay.c2
  have g3 := h7.bay.c3
  go_wp2_with fail
  refine (c53.out _ h7.below).mono ?_
  rintro e w8 ⟨rfl, hb8⟩
  have h9 := h7.call hb8
  clear hb8
  clear h7 g0 g1 g2 g3
  have g0 := h9.bay.c0
  have g1 := h9.bay.c1
  have g2 := h9.bay.c2
  have g3 := h9.bay.c3
  have t0 := h9.fst.c0
  have t1 := h9.fst.c1
  have t2 := h9.fst.c2
  go_wp2_with fail
  refine (c22.out _ h9.below).mono ?_
  rintro e w10 ⟨rfl, hb10⟩
  have h11 := h9.call hb10
  clear hb10
  clear h9 g0 g1 g2 g3 t0 t1 t2 c15 c21 c51 c51' c53 c22
  have g0 := h11.bay.c0
  have g1 := h11.bay.c1
  have g2 := h11.bay.c2
  have g3 := h11.bay.c3
  have t0 := h11.fst.c0
  have t1 := h11.fst.c1
  have t2 := h11.fst.c2
  have u0 := h11.snd.c0
  have u1 := h11.snd.c1
  have u2 := h11.snd.c2
  go_wp2_with fail
  refine (c38.out _ h11.below).mono ?_
  rintro e w12 ⟨A12, c12, rfl, hb12, r12, _⟩
  have h13 := (h11.call hb12).call (ba1 w12 (.cells #[.int .i64 (k0 : Nat), .slice A12 m c12, .int .i64 sx] 28))
  have x13 := Tri.new w12 (.int .i64 (k0 : Nat)) (.slice A12 m c12) (.int .i64 sx)
  have y13 := r12.up (ba1 w12 (.cells #[.int .i64 (k0 : Nat), .slice A12 m c12, .int .i64 sx] 28))
  clear hb12 h11 g0 g1 g2 g3 t0 t1 t2 u0 u1 u2 c38 r12
  have t0 := h13.fst.c0
  replace h13 := Lib.hid h13
  replace x13 := Lib.hid x13
  replace y13 := Lib.hid y13
  go_wp2
  go_loopw [13] (fun i X => ∃ t : Nat, t ≤ 6 - k0 ∧ i = .int .i64 t ∧ AddW w (.int .i64 (wn : Nat)) (.int .i64 (hn : Nat)) (.slice aL m cL) (.slice aS m cS) (.int .i64 (k0 : Nat)) (.slice aO m cO) (.int .i64 aw) (.int .i64 K') (.slice aO' m cO') (.int .i64 aw') b7 b8 X ∧ Tri X w12.heap.size (.int .i64 (k0 : Nat)) (.slice A12 m c12) (.int .i64 sx) ∧ Row X X.heap.size A12 os) (fun i _ => 6 - k0 - (intOf i).toNat)
  case atStart => exact ⟨0, Nat.zero_le _, rfl, h13.out, x13.out, y13.out⟩
  case round =>
    clear h13 t0 x13 y13
    obtain ⟨t, ht, rfl, hX, tX, rX⟩ := hrel
    have t0 := hX.fst.c0
    by_cases hlt : k0 + t ≤ 5
    · have kI : (k0 : Int) + t ≤ 5 := by omega
      have d31 := c31.out t hlt
      have d22 := c22x.out t hlt
      have d34 := c34.out t hlt
      have d36 := c36.out t hlt
      have d52 := c52.out t hlt
      have d54 := c54.out t hlt
      have dq := hqb.out t hlt
      have dy := cy.out t hlt
      have dz := cz.out t hlt
      have d38 := c38b.out t hlt
      have d33 := c33.out t hlt
      generalize Go.Proofs.YtnbgjgiknfcdkaaDoor.cst (amt O aw) (bf wn hn L S t P) = cc at *
      generalize bf wn hn L S t P = q0 at *
      generalize (el (af wn hn L S t (amt O aw)) (wn * hn)) = xa at *
      generalize (pre (wn * hn) (af wn hn L S t (amt O aw))) = xs at *
      generalize (el (af wn hn L S t (amt O' aw')) (wn * hn)) = ya at *
      generalize (pre (wn * hn) (af wn hn L S t (amt O' aw'))) = ys at *
      generalize (el (af wn hn L S t (ad (wn * hn + 1) (amt O aw) (amt O' aw'))) (wn * hn)) = za at *
      generalize (pre (wn * hn) (af wn hn L S t (ad (wn * hn + 1) (amt O aw) (amt O' aw')))) = zs at *
      generalize ((k0 + t : Nat) : Int) = kk at *
      obtain ⟨s16, hs16⟩ : ∃ z, z = (16 : Int) ^ t := ⟨_, rfl⟩
      rw [← hs16] at d22 d52 dq
      obtain ⟨qq, hqq⟩ : ∃ z, z = s16 * T := ⟨_, rfl⟩
      rw [← hqq] at d22 dq
      have wq : IntKind.i64.wrap (T * s16) = qq := by rw [Int.mul_comm, ← hqq]; exact IntWalk.i64_in _ (by omega)
      have wq2 : wrap64 (T * s16) = qq := by rw [Int.mul_comm, ← hqq]; exact IntWalk.wrap64_in _ (by omega)
      clear hs16 hqq dq
      replace d31 := Lib.hid d31
      replace d22 := Lib.hid d22
      replace d34 := Lib.hid d34
      replace d36 := Lib.hid d36
      replace d52 := Lib.hid d52
      replace d54 := Lib.hid d54
      replace dy := Lib.hid dy
      replace dz := Lib.hid dz
      replace d38 := Lib.hid d38
      replace d33 := Lib.hid d33
      replace wq2 := Lib.hid wq2
      replace wq := Lib.hid wq
      have g0 := hX.bay.c0
      have g1 := hX.bay.c1
      have g2 := hX.bay.c2
      have g3 := hX.bay.c3
      have t1 := hX.fst.c1
      have t2 := hX.fst.c2
      go_wp2_with fail
      refine (d31.out _ hX.below).mono ?_
      rintro e w14 ⟨A14, c14, rfl, hb14, r14⟩
      have h15 := (hX.call hb14).call (ba1 w14 (.cells #[.int .i64 kk, .slice A14 m c14, .int .i64 xa] 28))
      have x15 := Tri.new w14 (.int .i64 kk) (.slice A14 m c14) (.int .i64 xa)
      have r15 := r14.up (ba1 w14 (.cells #[.int .i64 kk, .slice A14 m c14, .int .i64 xa] 28))
      have tX1 := (tX.up hb14).up (ba1 w14 (.cells #[.int .i64 kk, .slice A14 m c14, .int .i64 xa] 28))
      have rX1 := (rX.up hb14).up (ba1 w14 (.cells #[.int .i64 kk, .slice A14 m c14, .int .i64 xa] 28))
      clear tX rX
      clear hb14 hX g0 g1 g2 g3 t0 t1 t2 r14 d31
      have g0 := h15.bay.c0
      have g1 := h15.bay.c1
      have g2 := h15.bay.c2
      have g3 := h15.bay.c3
      have x0 := x15.c0
      have x1 := x15.c1
      have x2 := x15.c2
      go_wp2_with fail
      refine (d22.out _ A14 c14 h15.below r15).mono ?_
      rintro e w16 ⟨rfl, hb16⟩
      have h17 := h15.call hb16
      have x17 := x15.up hb16
      have r17 := r15.up hb16
      have tX2 := tX1.up hb16
      have rX2 := rX1.up hb16
      clear tX1 rX1
      clear hb16 h15 x15 r15 g0 g1 g2 g3 x0 x1 x2 d22
      have g0 := h17.bay.c0
      have g1 := h17.bay.c1
      have g2 := h17.bay.c2
      have g3 := h17.bay.c3
      have x0 := x17.c0
      have x1 := x17.c1
      have x2 := x17.c2
      go_wp2_with fail
      refine (d34.out _ A14 c14 h17.below r17).mono ?_
      rintro e w18 ⟨rfl, hb18⟩
      have h19 := h17.call hb18
      have x19 := x17.up hb18
      have r19 := r17.up hb18
      have tX3 := tX2.up hb18
      have rX3 := rX2.up hb18
      clear tX2 rX2
      clear hb18 h17 x17 r17 g0 g1 g2 g3 x0 x1 x2 d34
      have g0 := h19.bay.c0
      have g1 := h19.bay.c1
      have g2 := h19.bay.c2
      have g3 := h19.bay.c3
      go_wp2_with fail
      refine (d36.out _ h19.below).mono ?_
      rintro e w20 ⟨A20, c20, rfl, hb20, r20⟩
      have h21 := h19.call hb20
      have x21 := x19.up hb20
      have r21 := r19.up hb20
      have tX4 := tX3.up hb20
      have rX4 := rX3.up hb20
      clear tX3 rX3 x19 r19
      clear hb20 h19 g0 g1 g2 g3 d36
      go_wp2_with fail
      refine (d52.out _).mono ?_
      rintro e w22 ⟨rfl, rfl⟩
      have t0 := h21.fst.c0
      have t1 := h21.fst.c1
      have t2 := h21.fst.c2
      have wq3 := wq.out
      have wq4 := wq2.out
      go_wp2_with fail
      refine (d54.out _ A20 c20 h21.below r20).mono ?_
      rintro e w24 ⟨rfl, hb24⟩
      have h25 := h21.call hb24
      have x25 := x21.up hb24
      have r25 := r21.up hb24
      have tX5 := tX4.up hb24
      have rX5 := rX4.up hb24
      clear tX4 rX4 x21 r21
      clear hb24 h21 t0 t1 t2 d52 d54 r20 wq3 wq4 wq wq2
      have g0 := h25.bay.c0
      have g1 := h25.bay.c1
      have g2 := h25.bay.c2
      have g3 := h25.bay.c3
      have u0 := h25.snd.c0
      have u1 := h25.snd.c1
      have u2 := h25.snd.c2
      go_wp2_with fail
      refine (dy.out _ h25.below).mono ?_
      rintro e w26 ⟨A26, c26, rfl, hb26, r26⟩
      have bb := ba1 w26 (.cells #[.int .i64 kk, .slice A26 m c26, .int .i64 ya] 28)
      have h27 := (h25.call hb26).call bb
      have x27 := (x25.up hb26).up bb
      have r27 := (r25.up hb26).up bb
      have tX6 := (tX5.up hb26).up bb
      have rX6 := (rX5.up hb26).up bb
      have y27 := Tri.new w26 (.int .i64 kk) (.slice A26 m c26) (.int .i64 ya)
      have yr27 := r26.up bb
      clear bb hb26 h25 x25 r25 tX5 rX5 r26 g0 g1 g2 g3 u0 u1 u2 dy
      have g0 := h27.bay.c0
      have g1 := h27.bay.c1
      have g2 := h27.bay.c2
      have g3 := h27.bay.c3
      have v0 := tX6.c0
      have v1 := tX6.c1
      have v2 := tX6.c2
      go_wp2_with fail
      refine (dz.out _ A12 c12 h27.below rX6).mono ?_
      rintro e w28 ⟨A28, c28, rfl, hb28, r28⟩
      have bb := ba1 w28 (.cells #[.int .i64 kk, .slice A28 m c28, .int .i64 za] 28)
      have h29 := (h27.call hb28).call bb
      have x29 := (x27.up hb28).up bb
      have r29 := (r27.up hb28).up bb
      have tX7 := (tX6.up hb28).up bb
      have rX7 := (rX6.up hb28).up bb
      have y29 := (y27.up hb28).up bb
      have yr29 := (yr27.up hb28).up bb
      have z29 := Tri.new w28 (.int .i64 kk) (.slice A28 m c28) (.int .i64 za)
      have zr29 := r28.up bb
      clear bb hb28 h27 x27 r27 tX6 rX6 y27 yr27 r28 g0 g1 g2 g3 v0 v1 v2 dz
      have g0 := h29.bay.c0
      have g1 := h29.bay.c1
      have g2 := h29.bay.c2
      have g3 := h29.bay.c3
      have x0 := x29.c0
      have x1 := x29.c1
      have x2 := x29.c2
      have y0 := y29.c0
      have y1 := y29.c1
      have y2 := y29.c2
      go_wp2_with fail
      refine (d38.out _ A14 A26 c14 c26 h29.below r29 yr29).mono ?_
      rintro e w30 ⟨A30, c30, rfl, hb30, r30⟩
      have bb := ba1 w30 (.cells #[.int .i64 kk, .slice A30 m c30, .int .i64 za] 28)
      have h31 := (h29.call hb30).call bb
      have tX8 := (tX7.up hb30).up bb
      have rX8 := (rX7.up hb30).up bb
      have z31 := (z29.up hb30).up bb
      have zr31 := (zr29.up hb30).up bb
      have j31 := Tri.new w30 (.int .i64 kk) (.slice A30 m c30) (.int .i64 za)
      have jr31 := r30.up bb
      clear bb hb30 h29 x29 r29 tX7 rX7 y29 yr29 z29 zr29 r30 g0 g1 g2 g3 x0 x1 x2 y0 y1 y2 d38
      have j0 := j31.c0
      have j1 := j31.c1
      have j2 := j31.c2
      have z0 := z31.c0
      have z1 := z31.c1
      have z2 := z31.c2
      go_wp2_with fail
      refine (d33.out _ A30 A28 c30 c28 jr31 zr31).mono ?_
      rintro e w32 ⟨rfl, hb32⟩
      have h33 := h31.call hb32
      have tX9 := tX8.up hb32
      have rX9 := rX8.up hb32
      clear hb32 h31 tX8 rX8 z31 zr31 j31 jr31 j0 j1 j2 z0 z1 z2 d33
      replace h33 := Lib.hid h33
      replace tX9 := Lib.hid tX9
      replace rX9 := Lib.hid rX9
      go_wp2
      go_roundw
      case rel => exact ⟨t + 1, by omega, by go_num, h33.out, tX9.out, rX9.out⟩
      case measure => simp [intOf]; omega
    · have kI : ¬ (k0 : Int) + t ≤ 5 := by omega
      go_wp2_with fail
      refine (sane.out _ hX.below).mono ?_
      rintro e w9 ⟨rfl, h9⟩
      go_wp2
      go_ret
      exact ⟨rfl, h9⟩

theorem walk (W H : Int) (aL aS aO aO' aP : Option Addr) (cL cS cO cO' cP : Nat) (L : List Bool) (n : Nat) (S : List Int) (K K' : Int) (O O' : List Int) (aw aw' : Int) (P : List Int) (w : World) (h : BayIn w w.heap.size aL L aS n S) (hO : Row w w.heap.size aO O) (hO' : Row w w.heap.size aO' O') (hP : Row w w.heap.size aP P) (hd : Dirs w) :
    Calls Tryd.prog 14 #[.agg #[.int .i64 W, .int .i64 H, .slice aL L.length cL, .slice aS n cS], .agg #[.int .i64 K, .slice aO O.length cO, .int .i64 aw, .int .i64 K', .slice aO' O'.length cO', .int .i64 aw'], .slice aP P.length cP] w fun e w' => e = .returned (.bool true) ∧ Below w.heap.size w w' := by
  cases hlb : (decide (100 < L.length) || decide (100 < n)) with
  | true => exact out W H aL aS aO aO' aP cL cS cO cO' cP L n S K K' O O' aw aw' P w h hO hO' hP hd (.inl hlb)
  | false =>
  by_cases k1 : 100 < O.length
  · exact out W H aL aS aO aO' aP cL cS cO cO' cP L n S K K' O O' aw aw' P w h hO hO' hP hd (.inr (.inl k1))
  by_cases k2 : 100 < O'.length
  · exact out W H aL aS aO aO' aP cL cS cO cO' cP L n S K K' O O' aw aw' P w h hO hO' hP hd (.inr (.inr (.inl k2)))
  cases hv : validB W H L n S with
  | false => exact out W H aL aS aO aO' aP cL cS cO cO' cP L n S K K' O O' aw aw' P w h hO hO' hP hd (.inr (.inr (.inr (.inl hv))))
  | true =>
  cases hs : slkB L.length K O aw with
  | false => exact out W H aL aS aO aO' aP cL cS cO cO' cP L n S K K' O O' aw aw' P w h hO hO' hP hd (.inr (.inr (.inr (.inr (.inl hs)))))
  | true =>
  cases hs' : slkB L.length K' O' aw' with
  | false => exact out W H aL aS aO aO' aP cL cS cO cO' cP L n S K K' O O' aw aw' P w h hO hO' hP hd (.inr (.inr (.inr (.inr (.inr (.inl hs'))))))
  | true =>
  cases hp : pricesB L.length P with
  | false => exact out W H aL aS aO aO' aP cL cS cO cO' cP L n S K K' O O' aw aw' P w h hO hO' hP hd (.inr (.inr (.inr (.inr (.inr (.inr hp))))))
  | true =>
  obtain ⟨wn, hn, rfl, rfl, hnm, hL, hBay⟩ := bay_of (val_of hv) h.share.2.1
  obtain ⟨k0, rfl⟩ : ∃ k0 : Nat, K = k0 := ⟨K.toNat, by have := (slk_of hs).2.1; omega⟩
  have hON : O.length = n := by rw [(slk_of hs).1, hL, hnm]
  have hON' : O'.length = n := by rw [(slk_of hs').1, hL, hnm]
  have hPN : P.length = n + 1 := by rw [(prices_of hp).1, hL, hnm]
  have hLN : L.length = n := by rw [hL, hnm]
  rcases sum_cases wn hn L n S k0 O aw K' O' aw' with ⟨E, hE, hsum⟩ | ⟨_, _, _, hk', hss, hsum⟩
  · have h1 := innNo wn hn aL aS aO aO' aP cL cS cO cO' cP L S k0 K' O O' aw aw' P n w h hO hO' hP hd hnm hlb hv hs hs' hp hBay E (by rcases hE with rfl | rfl <;> rfl) hsum
    rw [hON, hON', hPN, hLN]
    exact h1
  · have hss2 : slkB L.length k0 (pre (wn * hn) (ad (wn * hn + 1) (amt O aw) (amt O' aw'))) (el (ad (wn * hn + 1) (amt O aw) (amt O' aw')) (wn * hn)) = true := by
      rw [hL] at hss
      rw [hL]
      exact hss
    rw [hL] at hsum
    have h1 := innOk wn hn aL aS aO aO' aP cL cS cO cO' cP L S k0 K' O O' aw aw' P n w h hO hO' hP hd hnm hlb hv hs hs' hp hBay hk'.symm hss2 hsum
    rw [hON, hON', hPN, hLN]
    exact h1

section
variable {H : Type} {enc : TypeId × Value → H} {W : World} {v : Value}
set_option maxRecDepth 100000 in
theorem list_in {d : DataW H} {p : List MemPlace} {b0 : Nat} (hv : Value.okWide Tryd.prog W .any b0 26 v) (h : DataW.Trod enc Tryd.prog W 0 (fun _ => true) true 26 v d p) :
    ∃ (aP : Option Addr) (cP : Nat) (P : List Int), v = .slice aP P.length cP ∧ Row W W.heap.size aP P := by
  obtain ⟨fuel, hf⟩ := h
  cases v with
  | agg xs => simp [Value.okWide, Cell.okWide, Cell.ok, Tryd.underlying26] at hv
  | _ =>
    obtain ⟨aP, nP, cP, P, e, rfl, hP⟩ := row_of hf
    exact ⟨aP, cP, P, e, hP⟩
end

/-! ### the row's step -/
set_option maxRecDepth 100000 in
/-- The door's own heap meets the condition. -/
theorem door_met (os : Os) (args : Array Value) : laidMetH Tryd.prog laidV ((World.doorLaid Tryd.prog 400 os).forCall (fun _ _ => 0) ⟨#[], args, []⟩).memory :=
  laidMetH_of_parts3 (fuel := 8) (laidMet_of_run' 8 (by kernel_rfl) (by kernel_rfl)) (by kernel_rfl) (by kernel_rfl)

set_option maxRecDepth 100000 in
theorem lifted (os : Os) (started : os.Started) (H : Type) (enc : TypeId × Value → H) :
    ReturnsInHanded {} Tryd.checked os 14 .any (fun w args => (Rows.topSlickSpec.pre enc Tryd.prog Tryd.f14 [] false w args ∧ laidMetH Tryd.prog laidV w) ∧ sizedMet enc Tryd.prog Tryd.f14 (OpenSpec.ofChange Rows.topSlickSpec) false w args)
      (Rows.topSlickSpec.post enc Tryd.prog Tryd.f14 false true false false) := by
  refine returnsInHanded_of_change_and (C := Tryd.checked) (X := fun w _ => laidMetH Tryd.prog laidV w) (fun _ _ _ hh h => h.of_heap hh) own started (by kernel_rfl) Tryd.func14
    (ChangeSpec.witness_shaped (enc := enc) (C := Tryd.checked) (os := os) (X := fun w _ => laidMetH Tryd.prog laidV w) false (World.doorLaid Tryd.prog 400 os) #[.agg #[.int .i64 0, .int .i64 0, .slice none 0 0, .slice none 0 0], .agg #[.int .i64 0, .slice none 0 0, .int .i64 0, .int .i64 0, .slice none 0 0, .int .i64 0], .slice none 0 0] 8 rfl (World.shaped_of_RefB (by kernel_rfl) (by kernel_rfl)) (by kernel_rfl) (by kernel_rfl) (by kernel_rfl) (door_met os _)) ?_
  intro W base args ds gs before hval0 hW _ _ hL _
  have hval : ∀ (j : Nat) t v, Tryd.f14.params[j]? = some t → args[j]? = some v → Value.okWide Tryd.prog W .any base t v := hval0
  have hW' := hW
  obtain ⟨p, q, hA0, hV, rfl, hfz, hnd⟩ := hW
  have hA : DataW.TrodAll enc Tryd.prog W 0 (fun _ => true) true Tryd.f14.params.toList args.toList ds p := hA0
  rw [Tryd.params14] at hA hval
  obtain ⟨v0, vs0, d0, ds0, p0, q0, hargs, rfl, rfl, h0, r0⟩ := trodAll_cons hA
  obtain ⟨v1, vs1, d1, ds1, p1, q1, rfl, rfl, rfl, h1, r1⟩ := trodAll_cons r0
  obtain ⟨v2, vs2, d2, ds2, p2, q2, rfl, rfl, rfl, h2, r2⟩ := trodAll_cons r1
  obtain ⟨rfl, rfl, rfl⟩ := trodAll_nil r2
  obtain rfl : args = #[v0, v1, v2] := by cases args; simp_all
  obtain ⟨rfl, rfl⟩ := trodVars_none hV
  have hdirs := dirs_of hL
  have k0 := h0
  have lt0 : ∀ x ∈ p0, x.block < W.heap.size := by obtain ⟨m, hm⟩ := k0; exact DataW.trod_lt m _ _ _ hm
  obtain ⟨Wd, Hd, aL, aS, cL, cS, n, L, S, rfl, hb0⟩ := bay_in (hval 0 25 v0 rfl rfl) h0
  have k1 := h1
  have lt1 : ∀ x ∈ p1, x.block < W.heap.size := by obtain ⟨m, hm⟩ := k1; exact DataW.trod_lt m _ _ _ hm
  obtain ⟨K, aw, aO, cO, O, K', aw', aO', cO', O', rfl, hb1, hb1'⟩ := slicks_in (hval 1 62 v1 rfl rfl) h1
  have k2 := h2
  have lt2 : ∀ x ∈ p2, x.block < W.heap.size := by obtain ⟨m, hm⟩ := k2; exact DataW.trod_lt m _ _ _ hm
  obtain ⟨aP, cP, P, rfl, hb2⟩ := list_in (hval 2 26 v2 rfl rfl) h2
  clear hA0 hval0
  refine (walk Wd Hd aL aS aO aO' aP cL cS cO cO' cP L n S K K' O O' aw aw' P W hb0 hb1 hb1' hb2 hdirs).mono fun e W' ⟨he, bel⟩ => ?_
  subst he
  exact ⟨_, rfl, _, _, _, [], _, [], hW', trodAll_mk1 (shut_bool Tryd.underlying4 _), (trodAll_cons_mk (Below.trod laidOut (by kernel_rfl) (of_decide_eq_true (by kernel_rfl)) k0 bel lt0) (trodAll_cons_mk (Below.trod laidOut (by kernel_rfl) (of_decide_eq_true (by kernel_rfl)) k1 bel lt1) (trodAll_cons_mk (Below.trod laidOut (by kernel_rfl) (of_decide_eq_true (by kernel_rfl)) k2 bel lt2) trodAll_mk0))), rfl, bel.frame _, fun h => by cases h⟩

theorem over : Rows.TopSlickSaid :=
  OpenClaim.holds_of_wide 14 Tryd.f14 rfl rfl rfl rfl rfl rfl rfl ⟨rfl, rfl, rfl, rfl, rfl⟩ rfl rfl rfl rfl rfl (by kernel_rfl) Tryd.func14 (by kernel_rfl)
    (of_decide_eq_true (by kernel_rfl)) (by unfold Func.isWrapper; first | (rw [if_pos (by decide +kernel)]; kernel_rfl) | (rw [if_neg (by decide +kernel)]; exact ⟨rfl, rfl⟩))
    (fun os started H enc _ => lifted os started H enc)

/-- The statement: the tied card. -/
theorem proved : Rows.TopSlickCardSaid :=
  Claim7.holds_tied_plain_at .later [] [.data] true (true, "38a074445a3967dedbdfb9374eda118d846433fb573c587a55d7c5edfad1e3dd") false
    over (fun _ h => by cases h) (by kernel_rfl) (fun _ h => by cases h) topSlick_row_tie rfl ⟨rfl, rfl⟩ (by kernel_rfl) rfl
    (fun f fn hf hfn => by
      obtain rfl : f = 14 := Option.some.inj ((show Tryd.prog.funcNamed "skimmer/skimmertop.TopSlick" = some 14 by kernel_rfl).symm.trans hf) |>.symm
      obtain rfl : fn = Tryd.f14 := (Option.some.inj (Tryd.func14.symm.trans hfn)).symm
      exact ⟨by kernel_rfl, fun j t ht => by
        rw [Tryd.params14] at ht
        have hm : t ∈ [25, 62, 26] := by simpa using Array.mem_of_getElem? ht
        have hall : ([25, 62, 26].all fun u => !Tryd.prog.wantsStandIn u) = true := by kernel_rfl
        exact (show Tryd.prog.wantsStandIn t = false by simpa using List.all_eq_true.1 hall t hm)⟩)
    (by kernel_rfl)
end Go.Proofs.YtnbgjgiknfcdkaaDoor.lawTopSlick
