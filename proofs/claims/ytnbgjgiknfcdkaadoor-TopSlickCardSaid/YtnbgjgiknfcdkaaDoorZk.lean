/-
  'After' and 'Move' of the specification.
-/
import Derived.Test.YtnbgjgiknfcdkaaDoorZj
import Derived.Test.YtnbgjgiknfcdkaaDoorN
import Derived.Test.YtnbgjgiknfcdkaaDoorU
namespace Go.Proofs.YtnbgjgiknfcdkaaDoor
open Go.RowKit Go.Deep M
set_option linter.unusedVariables false
set_option linter.unusedSimpArgs false

structure RaW (w : World) (W H l s K o aw : Value) (X : World) : Prop where
  below : Below w.heap.size w X
  bay : Quad X w.heap.size W H l s
  slk : Tri X (w.heap.size + 1) K o aw
  res : Tri X (w.heap.size + 1 + 1) (.int .i64 0) (.slice none 0 0) (.int .i64 0)
theorem RaW.call {w : World} {W H l s K o aw : Value} {X Y : World} (h : RaW w W H l s K o aw X) (hb : Below X.heap.size X Y) : RaW w W H l s K o aw Y :=
  ⟨h.below.trans (hb.mono h.below.size), h.bay.up hb, h.slk.up hb, h.res.up hb⟩
theorem raW_start (w : World) (W H l s K o aw : Value) : RaW w W H l s K o aw (((w.alloc (.cells #[W, H, l, s] 25)).alloc (.cells #[K, o, aw] 28)).alloc (.cells #[.int .i64 0, .slice none 0 0, .int .i64 0] 28)) := by
  refine ⟨ba3 w _ _ _, ((Quad.new w W H l s).up (ba1 _ _)).up (ba1 _ _), ?_, ?_⟩
  · have := (Tri.new (w.alloc (.cells #[W, H, l, s] 25)) K o aw).up (ba1 _ (.cells #[.int .i64 0, .slice none 0 0, .int .i64 0] 28))
    simpa using this
  · have := Tri.new ((w.alloc (.cells #[W, H, l, s] 25)).alloc (.cells #[K, o, aw] 28)) (.int .i64 0) (.slice none 0 0) (.int .i64 0)
    simpa using this
theorem Tri.set1 {w : World} {b : Nat} {x y z : Value} (h : Tri w b x y z) (y' : Value) : Tri (w.setCell ⟨b, 1, none⟩ y') b x y' z := by
  unfold Tri at *
  simp [World.setCell, Array.getElem?_modify, h]
theorem askE_20 {W H : Int} {L : List Bool} {n : Nat} {S : List Int} {K : Int} {O : List Int} {aw : Int} (hv : validB W H L n S = false) : askE W H L n S K O aw = 20 := by unfold askE; rw [hv]; rfl
theorem askE_21 {W H : Int} {L : List Bool} {n : Nat} {S : List Int} {K : Int} {O : List Int} {aw : Int} (hv : validB W H L n S = true) (hs : slkB L.length K O aw = false) : askE W H L n S K O aw = 21 := by unfold askE; rw [hv, hs]; rfl
theorem askE_0 {W H : Int} {L : List Bool} {n : Nat} {S : List Int} {K : Int} {O : List Int} {aw : Int} (hv : validB W H L n S = true) (hs : slkB L.length K O aw = true) : askE W H L n S K O aw = 0 := by unfold askE; rw [hv, hs]; rfl

set_option maxRecDepth 100000 in
set_option maxHeartbeats 4000000 in
theorem AfterR_bad (B : Nat) (W H : Int) (aL aS aO : Option Addr) (cL cS cO : Nat) (L : List Bool) (n : Nat) (S : List Int) (K : Int) (O : List Int) (aw N : Int) (w : World) (h : BayIn w B aL L aS n S) (hO : Row w B aO O) (hB : B ≤ w.heap.size) (h100 : O.length ≤ 100) (hv : validB W H L n S = false) :
    Calls Tryd.prog 32 #[.agg #[.int .i64 W, .int .i64 H, .slice aL L.length cL, .slice aS n cS], .agg #[.int .i64 K, .slice aO O.length cO, .int .i64 aw], .int .i64 N] w (SlkRes w (0, [], 0, 20)) := by
  have hst := raW_start w (.int .i64 W) (.int .i64 H) (.slice aL L.length cL) (.slice aS n cS) (.int .i64 K) (.slice aO O.length cO) (.int .i64 aw)
  have c65 : ∀ X, RaW w (.int .i64 W) (.int .i64 H) (.slice aL L.length cL) (.slice aS n cS) (.int .i64 K) (.slice aO O.length cO) (.int .i64 aw) X → Calls Tryd.prog 65 #[.agg #[.int .i64 W, .int .i64 H, .slice aL L.length cL, .slice aS n cS], .agg #[.int .i64 K, .slice aO O.length cO, .int .i64 aw]] X fun e w' => e = .returned (.int .i64 20) ∧ Below X.heap.size X w' := fun X hX => by
    have h1 := asked_ref B W H aL aS aO cL cS cO L n S K O aw X (h.below (hX.below.mono hB)) (hO.below (hX.below.mono hB)) (Nat.le_trans hB hX.below.size) h100
    rw [askE_20 hv] at h1
    exact h1
  replace c65 := Lib.hid c65
  replace hst := Lib.hid hst
  go_enter Tryd.func32, Tryd.ntmps32
  go_wp2_with fail
  refine (c65.out _ hst.out).mono ?_
  rintro e w1 ⟨rfl, hb1⟩
  have hw1 := hst.out.call hb1
  clear hb1
  have t := hw1.res
  have j1 := t.c0
  have j2 := t.c1
  have j3 := t.c2
  have f1 := t.fz 0
  have f2 := t.fz 1
  have f3 := t.fz 2
  have ts := t.set (.int .i64 0) (.slice none 0 0) (.int .i64 0)
  have j4 := ts.c0
  have j5 := ts.c1
  have j6 := ts.c2
  have hbs := tri_below (x := .int .i64 0) (y := .slice none 0 0) (z := .int .i64 0) hw1.below (show w.heap.size ≤ w.heap.size + 1 + 1 by omega)
  clear hw1 t ts
  go_wp2
  exact bodyPost_ret (v := .tuple #[.agg #[.int .i64 0, .slice none 0 0, .int .i64 0], .int .i64 20]) (by simp [results, Tryd.results32, go_sem, j4, j5, j6]) rfl ⟨none, 0, rfl, hbs, row_nil _ _ _, fun a ha => by cases ha⟩

set_option maxRecDepth 100000 in
set_option maxHeartbeats 4000000 in
theorem AfterR_no (B : Nat) (W H : Int) (aL aS aO : Option Addr) (cL cS cO : Nat) (L : List Bool) (n : Nat) (S : List Int) (K : Int) (O : List Int) (aw N : Int) (w : World) (h : BayIn w B aL L aS n S) (hO : Row w B aO O) (hB : B ≤ w.heap.size) (h100 : O.length ≤ 100) (hv : validB W H L n S = true) (hs : slkB L.length K O aw = false) :
    Calls Tryd.prog 32 #[.agg #[.int .i64 W, .int .i64 H, .slice aL L.length cL, .slice aS n cS], .agg #[.int .i64 K, .slice aO O.length cO, .int .i64 aw], .int .i64 N] w (SlkRes w (0, [], 0, 21)) := by
  have hst := raW_start w (.int .i64 W) (.int .i64 H) (.slice aL L.length cL) (.slice aS n cS) (.int .i64 K) (.slice aO O.length cO) (.int .i64 aw)
  have c65 : ∀ X, RaW w (.int .i64 W) (.int .i64 H) (.slice aL L.length cL) (.slice aS n cS) (.int .i64 K) (.slice aO O.length cO) (.int .i64 aw) X → Calls Tryd.prog 65 #[.agg #[.int .i64 W, .int .i64 H, .slice aL L.length cL, .slice aS n cS], .agg #[.int .i64 K, .slice aO O.length cO, .int .i64 aw]] X fun e w' => e = .returned (.int .i64 21) ∧ Below X.heap.size X w' := fun X hX => by
    have h1 := asked_ref B W H aL aS aO cL cS cO L n S K O aw X (h.below (hX.below.mono hB)) (hO.below (hX.below.mono hB)) (Nat.le_trans hB hX.below.size) h100
    rw [askE_21 hv hs] at h1
    exact h1
  replace c65 := Lib.hid c65
  replace hst := Lib.hid hst
  go_enter Tryd.func32, Tryd.ntmps32
  go_wp2_with fail
  refine (c65.out _ hst.out).mono ?_
  rintro e w1 ⟨rfl, hb1⟩
  have hw1 := hst.out.call hb1
  clear hb1
  have t := hw1.res
  have j1 := t.c0
  have j2 := t.c1
  have j3 := t.c2
  have f1 := t.fz 0
  have f2 := t.fz 1
  have f3 := t.fz 2
  have ts := t.set (.int .i64 0) (.slice none 0 0) (.int .i64 0)
  have j4 := ts.c0
  have j5 := ts.c1
  have j6 := ts.c2
  have hbs := tri_below (x := .int .i64 0) (y := .slice none 0 0) (z := .int .i64 0) hw1.below (show w.heap.size ≤ w.heap.size + 1 + 1 by omega)
  clear hw1 t ts
  go_wp2
  exact bodyPost_ret (v := .tuple #[.agg #[.int .i64 0, .slice none 0 0, .int .i64 0], .int .i64 21]) (by simp [results, Tryd.results32, go_sem, j4, j5, j6]) rfl ⟨none, 0, rfl, hbs, row_nil _ _ _, fun a ha => by cases ha⟩

set_option maxRecDepth 100000 in
set_option maxHeartbeats 4000000 in
theorem AfterR_arg (B : Nat) (W H : Int) (aL aS aO : Option Addr) (cL cS cO : Nat) (L : List Bool) (n : Nat) (S : List Int) (K : Int) (O : List Int) (aw N : Int) (w : World) (h : BayIn w B aL L aS n S) (hO : Row w B aO O) (hB : B ≤ w.heap.size) (h100 : O.length ≤ 100) (hv : validB W H L n S = true) (hs : slkB L.length K O aw = true) (hN : N < 0 ∨ 5 < N) :
    Calls Tryd.prog 32 #[.agg #[.int .i64 W, .int .i64 H, .slice aL L.length cL, .slice aS n cS], .agg #[.int .i64 K, .slice aO O.length cO, .int .i64 aw], .int .i64 N] w (SlkRes w (0, [], 0, 2)) := by
  have hst := raW_start w (.int .i64 W) (.int .i64 H) (.slice aL L.length cL) (.slice aS n cS) (.int .i64 K) (.slice aO O.length cO) (.int .i64 aw)
  have c65 : ∀ X, RaW w (.int .i64 W) (.int .i64 H) (.slice aL L.length cL) (.slice aS n cS) (.int .i64 K) (.slice aO O.length cO) (.int .i64 aw) X → Calls Tryd.prog 65 #[.agg #[.int .i64 W, .int .i64 H, .slice aL L.length cL, .slice aS n cS], .agg #[.int .i64 K, .slice aO O.length cO, .int .i64 aw]] X fun e w' => e = .returned (.int .i64 0) ∧ Below X.heap.size X w' := fun X hX => by
    have h1 := asked_ref B W H aL aS aO cL cS cO L n S K O aw X (h.below (hX.below.mono hB)) (hO.below (hX.below.mono hB)) (Nat.le_trans hB hX.below.size) h100
    rw [askE_0 hv hs] at h1
    exact h1
  clear hv hs
  by_cases h0 : N < 0
  · clear hN
    replace c65 := Lib.hid c65
    replace hst := Lib.hid hst
    go_enter Tryd.func32, Tryd.ntmps32
    go_wp2_with fail
    refine (c65.out _ hst.out).mono ?_
    rintro e w1 ⟨rfl, hb1⟩
    have hw1 := hst.out.call hb1
    clear hb1
    have t := hw1.res
    have j1 := t.c0
    have j2 := t.c1
    have j3 := t.c2
    have f1 := t.fz 0
    have f2 := t.fz 1
    have f3 := t.fz 2
    have ts := t.set (.int .i64 0) (.slice none 0 0) (.int .i64 0)
    have j4 := ts.c0
    have j5 := ts.c1
    have j6 := ts.c2
    have hbs := tri_below (x := .int .i64 0) (y := .slice none 0 0) (z := .int .i64 0) hw1.below (show w.heap.size ≤ w.heap.size + 1 + 1 by omega)
    clear hw1 t ts
    go_wp2
    exact bodyPost_ret (v := .tuple #[.agg #[.int .i64 0, .slice none 0 0, .int .i64 0], .int .i64 2]) (by simp [results, Tryd.results32, go_sem, j4, j5, j6]) rfl ⟨none, 0, rfl, hbs, row_nil _ _ _, fun a ha => by cases ha⟩
  · have h1 : 5 < N := by omega
    clear hN
    replace c65 := Lib.hid c65
    replace hst := Lib.hid hst
    go_enter Tryd.func32, Tryd.ntmps32
    go_wp2_with fail
    refine (c65.out _ hst.out).mono ?_
    rintro e w1 ⟨rfl, hb1⟩
    have hw1 := hst.out.call hb1
    clear hb1
    have t := hw1.res
    have j1 := t.c0
    have j2 := t.c1
    have j3 := t.c2
    have f1 := t.fz 0
    have f2 := t.fz 1
    have f3 := t.fz 2
    have ts := t.set (.int .i64 0) (.slice none 0 0) (.int .i64 0)
    have j4 := ts.c0
    have j5 := ts.c1
    have j6 := ts.c2
    have hbs := tri_below (x := .int .i64 0) (y := .slice none 0 0) (z := .int .i64 0) hw1.below (show w.heap.size ≤ w.heap.size + 1 + 1 by omega)
    clear hw1 t ts
    go_wp2
    exact bodyPost_ret (v := .tuple #[.agg #[.int .i64 0, .slice none 0 0, .int .i64 0], .int .i64 2]) (by simp [results, Tryd.results32, go_sem, j4, j5, j6]) rfl ⟨none, 0, rfl, hbs, row_nil _ _ _, fun a ha => by cases ha⟩

set_option maxRecDepth 100000 in
set_option maxHeartbeats 4000000 in
theorem AfterR_limit (B : Nat) (W H : Int) (aL aS aO : Option Addr) (cL cS cO : Nat) (L : List Bool) (n : Nat) (S : List Int) (K : Int) (O : List Int) (aw N : Int) (w : World) (h : BayIn w B aL L aS n S) (hO : Row w B aO O) (hB : B ≤ w.heap.size) (h100 : O.length ≤ 100) (hv : validB W H L n S = true) (hs : slkB L.length K O aw = true) (hN : 0 ≤ N ∧ N ≤ 5) (hKN : ¬ K + N ≤ 5) :
    Calls Tryd.prog 32 #[.agg #[.int .i64 W, .int .i64 H, .slice aL L.length cL, .slice aS n cS], .agg #[.int .i64 K, .slice aO O.length cO, .int .i64 aw], .int .i64 N] w (SlkRes w (0, [], 0, 4)) := by
  have hst := raW_start w (.int .i64 W) (.int .i64 H) (.slice aL L.length cL) (.slice aS n cS) (.int .i64 K) (.slice aO O.length cO) (.int .i64 aw)
  have hK := (slk_of hs).2.1
  have c65 : ∀ X, RaW w (.int .i64 W) (.int .i64 H) (.slice aL L.length cL) (.slice aS n cS) (.int .i64 K) (.slice aO O.length cO) (.int .i64 aw) X → Calls Tryd.prog 65 #[.agg #[.int .i64 W, .int .i64 H, .slice aL L.length cL, .slice aS n cS], .agg #[.int .i64 K, .slice aO O.length cO, .int .i64 aw]] X fun e w' => e = .returned (.int .i64 0) ∧ Below X.heap.size X w' := fun X hX => by
    have h1 := asked_ref B W H aL aS aO cL cS cO L n S K O aw X (h.below (hX.below.mono hB)) (hO.below (hX.below.mono hB)) (Nat.le_trans hB hX.below.size) h100
    rw [askE_0 hv hs] at h1
    exact h1
  clear hv hs
  replace c65 := Lib.hid c65
  replace hst := Lib.hid hst
  go_enter Tryd.func32, Tryd.ntmps32
  go_wp2_with fail
  refine (c65.out _ hst.out).mono ?_
  rintro e w1 ⟨rfl, hb1⟩
  have hw1 := hst.out.call hb1
  clear hb1
  have t := hw1.res
  have j1 := t.c0
  have j2 := t.c1
  have j3 := t.c2
  have f1 := t.fz 0
  have f2 := t.fz 1
  have f3 := t.fz 2
  have ts := t.set (.int .i64 0) (.slice none 0 0) (.int .i64 0)
  have j4 := ts.c0
  have j5 := ts.c1
  have j6 := ts.c2
  have hbs := tri_below (x := .int .i64 0) (y := .slice none 0 0) (z := .int .i64 0) hw1.below (show w.heap.size ≤ w.heap.size + 1 + 1 by omega)
  have g0 := hw1.slk.c0
  clear hw1 t ts
  go_wp2
  exact bodyPost_ret (v := .tuple #[.agg #[.int .i64 0, .slice none 0 0, .int .i64 0], .int .i64 4]) (by simp [results, Tryd.results32, go_sem, j4, j5, j6]) rfl ⟨none, 0, rfl, hbs, row_nil _ _ _, fun a ha => by cases ha⟩

set_option maxRecDepth 100000 in
set_option maxHeartbeats 4000000 in
theorem AfterR_ok (B wn hn : Nat) (aL aS aO : Option Addr) (cL cS cO : Nat) (L : List Bool) (S : List Int) (kn : Nat) (O : List Int) (aw : Int) (mn : Nat) (w : World) (h : BayIn w B aL L aS (wn * hn) S) (hO : Row w B aO O) (hB : B ≤ w.heap.size) (hBay : Bay wn hn L S) (hl : O.length = wn * hn) (hv : validB wn hn L (wn * hn) S = true) (hs : slkB L.length kn O aw = true) (hKN : kn + mn ≤ 5) :
    Calls Tryd.prog 32 #[.agg #[.int .i64 (wn : Nat), .int .i64 (hn : Nat), .slice aL (wn * hn) cL, .slice aS (wn * hn) cS], .agg #[.int .i64 (kn : Nat), .slice aO (wn * hn) cO, .int .i64 aw], .int .i64 (mn : Nat)] w (SlkRes w ((kn : Int) + mn, pre (wn * hn) (af wn hn L S mn (amt O aw)), el (af wn hn L S mn (amt O aw)) (wn * hn), 0)) := by
  obtain ⟨i3, ji, jz0, jz1, jz2⟩ := info_parts info3
  replace ji := Lib.hid ji
  replace jz0 := Lib.hid jz0
  replace jz1 := Lib.hid jz1
  replace jz2 := Lib.hid jz2
  have h36 := hBay.cells
  have hLN := hBay.2.1.1
  have hSl := slk_of hs
  have ht := hSl.2.2.2
  rw [Int.toNat_natCast] at ht
  have h5 : ((16 : Int) ^ mn * (36000 * (16 : Int) ^ kn)) ≤ 36000 * 1048576 := by
    have e1 : (16 : Int) ^ mn * (36000 * (16 : Int) ^ kn) = 36000 * (16 : Int) ^ (mn + kn) := by rw [Int.pow_add, Int.mul_left_comm]
    rw [e1]
    have h6 := pow16 (mn + kn) 5 (by omega) 36000 (by omega)
    omega
  have htot : (16 : Int) ^ mn * tot (amt O aw) ≤ 1000000000000 := by
    have := Int.mul_le_mul_of_nonneg_left ht (show 0 ≤ (16 : Int) ^ mn from Int.pow_nonneg (by omega))
    omega
  have c71 := fun X (hX : Below w.heap.size w X) => afterR_any B wn hn aL aS aO cL cS cO L S kn O aw mn X (h.below (hX.mono hB)) (hO.below (hX.mono hB)) (Nat.le_trans hB hX.size) hBay hl (by omega) hSl.2.2.1 htot
  have c65 : ∀ X, RaW w (.int .i64 (wn : Nat)) (.int .i64 (hn : Nat)) (.slice aL (wn * hn) cL) (.slice aS (wn * hn) cS) (.int .i64 (kn : Nat)) (.slice aO (wn * hn) cO) (.int .i64 aw) X → Calls Tryd.prog 65 #[.agg #[.int .i64 (wn : Nat), .int .i64 (hn : Nat), .slice aL (wn * hn) cL, .slice aS (wn * hn) cS], .agg #[.int .i64 (kn : Nat), .slice aO (wn * hn) cO, .int .i64 aw]] X fun e w' => e = .returned (.int .i64 0) ∧ Below X.heap.size X w' := fun X hX => by
    have h1 := asked_ref B wn hn aL aS aO cL cS cO L (wn * hn) S kn O aw X (h.below (hX.below.mono hB)) (hO.below (hX.below.mono hB)) (Nat.le_trans hB hX.below.size) (by omega)
    rw [askE_0 hv hs, hl, hLN] at h1
    exact h1
  have hpl : (pre (wn * hn) (af wn hn L S mn (amt O aw))).length = wn * hn := pre_len _ _
  generalize pre (wn * hn) (af wn hn L S mn (amt O aw)) = q at *
  generalize el (af wn hn L S mn (amt O aw)) (wn * hn) = x at *
  clear h hO hv hs hSl ht h5 htot hl hLN hBay
  generalize wn * hn = m at *
  have hst := raW_start w (.int .i64 (wn : Nat)) (.int .i64 (hn : Nat)) (.slice aL m cL) (.slice aS m cS) (.int .i64 (kn : Nat)) (.slice aO m cO) (.int .i64 aw)
  obtain ⟨kk, hkk⟩ : ∃ t : Int, t = (kn : Int) + mn := ⟨_, rfl⟩
  rw [← hkk] at c71 ⊢
  have hmI : (mn : Int) ≤ 5 := by omega
  have hkI : (kn : Int) + mn ≤ 5 := by omega
  replace hkk := Lib.hid hkk
  replace c71 := Lib.hid c71
  replace c65 := Lib.hid c65
  replace hst := Lib.hid hst
  replace hpl := Lib.hid hpl
  go_enter Tryd.func32, Tryd.ntmps32
  go_wp2_with fail
  refine (c65.out _ hst.out).mono ?_
  rintro e w1 ⟨rfl, hb1⟩
  have hw1 := hst.out.call hb1
  clear hb1
  have g0 := hw1.bay.c0
  have g1 := hw1.bay.c1
  have g2 := hw1.bay.c2
  have g3 := hw1.bay.c3
  have t0 := hw1.slk.c0
  have t1 := hw1.slk.c1
  have t2 := hw1.slk.c2
  go_wp2_with fail
  refine (c71.out _ hw1.below).mono ?_
  rintro e w2 ⟨A, c, rfl, hb2, r2⟩
  clear g0 g1 g2 g3 t0 t1 t2
  have hw2 := hw1.call hb2
  clear hw1 hb2 hst c71 c65
  have hw3 := hw2.call (ba1 w2 (.cells #[.int .i64 kk, .slice A m c, .int .i64 x] 28))
  have t3 := Tri.new w2 (.int .i64 kk) (.slice A m c) (.int .i64 x)
  have r3 := r2.up (ba1 w2 (.cells #[.int .i64 kk, .slice A m c, .int .i64 x] 28))
  have r3lt := hw2.res.lt
  clear r2 hw2
  obtain ⟨b, o, rfl, hbA, hcA⟩ := r3.2 (by rw [hpl.out]; omega)
  have hho := empty_own (w2.alloc (.cells #[.int .i64 kk, .slice (some ⟨b, o, none⟩) m c, .int .i64 x] 28)) 3
  rw [World.size_alloc] at hho hbA
  have hb0 : Below (w2.alloc (.cells #[.int .i64 kk, .slice (some ⟨b, o, none⟩) m c, .int .i64 x] 28)).heap.size (w2.alloc (.cells #[.int .i64 kk, .slice (some ⟨b, o, none⟩) m c, .int .i64 x] 28)) ((w2.alloc (.cells #[.int .i64 kk, .slice (some ⟨b, o, none⟩) m c, .int .i64 x] 28)).alloc (.cells #[] 3)) := ba1 _ _
  have hnews : ∀ j u, (vals q)[j]? = some u → ((w2.alloc (.cells #[.int .i64 kk, .slice (some ⟨b, o, none⟩) m c, .int .i64 x] 28)).alloc (.cells #[] 3)).cell? ((⟨b, o, none⟩ : Addr).add j) = some u := fun j u hu => by
    obtain ⟨hj, rfl⟩ := news_get hu
    rw [add_pl]
    exact (hb0.cell (p := ⟨b, o + j, none⟩) (by rw [World.size_alloc]; exact hbA)).trans (hcA j hj)
  have t4 := t3.up hb0
  have s1 := t4.c1
  have finish : ∀ v' w4, w4.ownsRow (w2.heap.size + 1) 3 1 v' (0 + m) ([] ++ vals q) → ((w2.alloc (.cells #[.int .i64 kk, .slice (some ⟨b, o, none⟩) m c, .int .i64 x] 28)).alloc (.cells #[] 3)).grownBy w4 (some (w2.heap.size + 1)) → ∃ g c', v' = .slice (some ⟨g, 0, none⟩) m c' ∧ w2.heap.size + 1 ≤ g ∧ Blk w4 g m (el q) ∧ Below (w2.alloc (.cells #[.int .i64 kk, .slice (some ⟨b, o, none⟩) m c, .int .i64 x] 28)).heap.size (w2.alloc (.cells #[.int .i64 kk, .slice (some ⟨b, o, none⟩) m c, .int .i64 x] 28)) w4 := fun v' w4 h1 h2 => by
    have hbb := below_grown h2 (B := (w2.alloc (.cells #[.int .i64 kk, .slice (some ⟨b, o, none⟩) m c, .int .i64 x] 28)).heap.size) (by simp) (fun k e => by cases e; simp)
    have hno : NewOwn (w2.alloc (.cells #[.int .i64 kk, .slice (some ⟨b, o, none⟩) m c, .int .i64 x] 28)) q (.returned v') w4 := ⟨v', rfl, hb0.trans hbb, by rw [World.size_alloc, hpl.out]; simpa using h1⟩
    obtain ⟨g, c', e, hc, hb, hge, hk⟩ := hno.blk (by rw [hpl.out]; omega)
    injection e with e
    rw [hpl.out] at e hk
    rw [World.size_alloc] at hge
    exact ⟨g, c', e, hge, hk, hb⟩
  have hlow := hw3.res.lt
  rw [World.size_alloc] at hlow
  have hlow2 := r3lt
  have stp : ∀ g c' w4, Blk w4 g m (el q) → w2.heap.size + 1 ≤ g → Below (w2.alloc (.cells #[.int .i64 kk, .slice (some ⟨b, o, none⟩) m c, .int .i64 x] 28)).heap.size (w2.alloc (.cells #[.int .i64 kk, .slice (some ⟨b, o, none⟩) m c, .int .i64 x] 28)) w4 →
      ((w4.cell? ⟨w2.heap.size, 0, none⟩ = some (.int .i64 kk) ∧ w4.cell? ⟨w2.heap.size, 1, none⟩ = some (.slice (some ⟨b, o, none⟩) m c) ∧ w4.cell? ⟨w2.heap.size, 2, none⟩ = some (.int .i64 x) ∧ w4.frozen? ⟨w2.heap.size, 1, none⟩ = false ∧ Tri w4 (w.heap.size + 1 + 1) (.int .i64 0) (.slice none 0 0) (.int .i64 0)) ∧ Tri (w4.setCell ⟨w2.heap.size, 1, none⟩ (.slice (some ⟨g, 0, none⟩) m c')) w2.heap.size (.int .i64 kk) (.slice (some ⟨g, 0, none⟩) m c') (.int .i64 x)) ∧ Tri (w4.setCell ⟨w2.heap.size, 1, none⟩ (.slice (some ⟨g, 0, none⟩) m c')) (w.heap.size + 1 + 1) (.int .i64 0) (.slice none 0 0) (.int .i64 0) ∧
      SlkRes w (kk, q, x, 0) (.returned (.tuple #[.agg #[.int .i64 kk, .slice (some ⟨g, 0, none⟩) m c', .int .i64 x], .int .i64 0]))
        ((((w4.setCell ⟨w2.heap.size, 1, none⟩ (.slice (some ⟨g, 0, none⟩) m c')).setCell ⟨w.heap.size + 1 + 1, 0, none⟩ (.int .i64 kk)).setCell ⟨w.heap.size + 1 + 1, 1, none⟩ (.slice (some ⟨g, 0, none⟩) m c')).setCell ⟨w.heap.size + 1 + 1, 2, none⟩ (.int .i64 x)) := fun g c' w4 hk hge hb => by
    have t5 := t3.up hb
    have h5 := hw3.call hb
    have hk2 : Blk ((((w4.setCell ⟨w2.heap.size, 1, none⟩ (.slice (some ⟨g, 0, none⟩) m c')).setCell ⟨w.heap.size + 1 + 1, 0, none⟩ (.int .i64 kk)).setCell ⟨w.heap.size + 1 + 1, 1, none⟩ (.slice (some ⟨g, 0, none⟩) m c')).setCell ⟨w.heap.size + 1 + 1, 2, none⟩ (.int .i64 x)) g q.length (el q) := by
      rw [hpl.out]
      exact hk.to (by rw [setCell_block _ _ _ _ _ (by omega), setCell_block _ _ _ _ _ (by omega), setCell_block _ _ _ _ _ (by omega), setCell_block _ _ _ _ _ (by omega)])
    refine ⟨⟨⟨t5.c0, t5.c1, t5.c2, t5.fz 1, h5.res⟩, t5.set1 _⟩, (setCell_block _ _ _ _ _ (by omega)).trans h5.res, some ⟨g, 0, none⟩, c', ?_, tri_below (h5.below.setCell (p := ⟨w2.heap.size, 1, none⟩) (by show w.heap.size ≤ w2.heap.size; omega) _) (by omega), hk2.row (by rw [hpl.out]; omega), fun a ha => by cases ha; show w.heap.size ≤ g; omega⟩
    show _ = Ending.returned (.tuple #[.agg #[_, .slice _ q.length _, _], _])
    rw [hpl.out]
  clear hcA r3
  replace hnews := Lib.hid hnews
  replace hho := Lib.hid hho
  replace t4 := Lib.hid t4
  replace t3 := Lib.hid t3
  replace hw3 := Lib.hid hw3
  replace finish := Lib.hid finish
  replace stp := Lib.hid stp
  replace hb0 := Lib.hid hb0
  go_wp2_with (at_builtin; refine wpList_append_own _ rfl (.tmp 34) (.tmp 36) 26 rfl (w2.heap.size + 1) 3 i3 (.int .i64 0) 1 8 Tryd.underlying26 ji.out jz0.out jz1.out jz2.out rfl (by decide) _ _ _ rfl hho.out ⟨b, o, none⟩ m c (vals q) rfl (by rw [vals_len, Nat.mul_one]; exact hpl.out) hnews.out (fun u hu => by obtain ⟨_, _, rfl⟩ := List.mem_map.1 hu; rfl) (by unfold maxLen; omega) (by omega) (by simp) ?_; intro v' w4 hown' hgrow _; obtain ⟨g, c', rfl, hge, hk, hbel⟩ := finish.out v' w4 hown' hgrow; clear hown' hgrow; obtain ⟨⟨⟨x0, x1, x2, f1, r5⟩, t6⟩, r6, fin⟩ := stp.out g c' w4 hk hge hbel; have x3 := r5.c0; have x4 := r5.c1; have x5 := r5.c2; have x6 := r5.fz 0; have x7 := r5.fz 1; have x8 := r5.fz 2; clear r5; clear hk hbel; have s0 := t6.c0; have s2 := t6.c1; have s3 := t6.c2; have y0 := r6.c0; have y1 := r6.c1; have y2 := r6.c2; have f2 := r6.fz 0; have f3 := r6.fz 1; have f4 := r6.fz 2; have tz := r6.set (.int .i64 kk) (.slice (some ⟨g, 0, none⟩) m c') (.int .i64 x); have z0 := tz.c0; have z1 := tz.c1; have z2 := tz.c2; clear t6 r6 tz; replace fin := Lib.hid fin)
  exact bodyPost_ret (v := .tuple #[.agg #[.int .i64 kk, .slice (some ⟨g, 0, none⟩) m c', .int .i64 x], .int .i64 0]) (by simp [results, Tryd.results32, go_sem, z0, z1, z2]) rfl fin.out

theorem AfterR_any (B : Nat) (W H : Int) (aL aS aO : Option Addr) (cL cS cO : Nat) (L : List Bool) (n : Nat) (S : List Int) (K : Int) (O : List Int) (aw N : Int) (w : World) (h : BayIn w B aL L aS n S) (hO : Row w B aO O) (hB : B ≤ w.heap.size) (h100 : O.length ≤ 100) :
    Calls Tryd.prog 32 #[.agg #[.int .i64 W, .int .i64 H, .slice aL L.length cL, .slice aS n cS], .agg #[.int .i64 K, .slice aO O.length cO, .int .i64 aw], .int .i64 N] w (SlkRes w (aftR W H L n S K O aw N)) := by
  cases hv : validB W H L n S with
  | false =>
    have hr : aftR W H L n S K O aw N = (0, [], 0, 20) := by unfold aftR; rw [hv]; rfl
    rw [hr]
    exact AfterR_bad B W H aL aS aO cL cS cO L n S K O aw N w h hO hB h100 hv
  | true =>
  cases hs : slkB L.length K O aw with
  | false =>
    have hr : aftR W H L n S K O aw N = (0, [], 0, 21) := by unfold aftR; rw [hv, hs]; rfl
    rw [hr]
    exact AfterR_no B W H aL aS aO cL cS cO L n S K O aw N w h hO hB h100 hv hs
  | true =>
  have hK := (slk_of hs).2.1
  by_cases hN : 0 ≤ N ∧ N ≤ 5
  · have hmv : movesB N = true := by unfold movesB; simp [hN]
    by_cases hKN : K + N ≤ 5
    · obtain ⟨wn, hn, rfl, rfl, rfl, hLl, hBay⟩ := bay_of (val_of hv) h.share.2.1
      obtain ⟨kn, rfl⟩ : ∃ k : Nat, K = k := ⟨K.toNat, by omega⟩
      obtain ⟨mn, rfl⟩ : ∃ m : Nat, N = m := ⟨N.toNat, by omega⟩
      have hOl : O.length = wn * hn := by rw [(slk_of hs).1, hLl]
      have hr : aftR wn hn L (wn * hn) S kn O aw mn = ((kn : Int) + mn, pre (wn * hn) (af wn hn L S mn (amt O aw)), el (af wn hn L S mn (amt O aw)) (wn * hn), 0) := by
        unfold aftR; rw [hv, hs, hmv]; simp [hKN]
      rw [hr]
      have h1 := AfterR_ok B wn hn aL aS aO cL cS cO L S kn O aw mn w h hO hB hBay hOl hv hs (by omega)
      rw [hLl, hOl]
      exact h1
    · have hr : aftR W H L n S K O aw N = (0, [], 0, 4) := by unfold aftR; rw [hv, hs, hmv]; simp [hKN]
      rw [hr]
      exact AfterR_limit B W H aL aS aO cL cS cO L n S K O aw N w h hO hB h100 hv hs hN hKN
  · have hmv : movesB N = false := by unfold movesB; simp; omega
    have hr : aftR W H L n S K O aw N = (0, [], 0, 2) := by unfold aftR; rw [hv, hs, hmv]; rfl
    rw [hr]
    exact AfterR_arg B W H aL aS aO cL cS cO L n S K O aw N w h hO hB h100 hv hs (by omega)

set_option maxRecDepth 100000 in
set_option maxHeartbeats 4000000 in
theorem MoveR_any (B : Nat) (W H : Int) (aL aS aO : Option Addr) (cL cS cO : Nat) (L : List Bool) (n : Nat) (S : List Int) (K : Int) (O : List Int) (aw : Int) (w : World) (h : BayIn w B aL L aS n S) (hO : Row w B aO O) (hB : B ≤ w.heap.size) (h100 : O.length ≤ 100) :
    Calls Tryd.prog 30 #[.agg #[.int .i64 W, .int .i64 H, .slice aL L.length cL, .slice aS n cS], .agg #[.int .i64 K, .slice aO O.length cO, .int .i64 aw]] w (SlkRes w (aftR W H L n S K O aw 1)) := by
  have hb0 := ba3 w (.cells #[.int .i64 W, .int .i64 H, .slice aL L.length cL, .slice aS n cS] 25) (.cells #[.int .i64 K, .slice aO O.length cO, .int .i64 aw] 28) (.cells #[.int .i64 0, .slice none 0 0, .int .i64 0] 28)
  have ht : Tri (((w.alloc (.cells #[.int .i64 W, .int .i64 H, .slice aL L.length cL, .slice aS n cS] 25)).alloc (.cells #[.int .i64 K, .slice aO O.length cO, .int .i64 aw] 28)).alloc (.cells #[.int .i64 0, .slice none 0 0, .int .i64 0] 28)) (w.heap.size + 1 + 1) (.int .i64 0) (.slice none 0 0) (.int .i64 0) := by
    have := Tri.new ((w.alloc (.cells #[.int .i64 W, .int .i64 H, .slice aL L.length cL, .slice aS n cS] 25)).alloc (.cells #[.int .i64 K, .slice aO O.length cO, .int .i64 aw] 28)) (.int .i64 0) (.slice none 0 0) (.int .i64 0)
    simpa using this
  have c31 := AfterR_any B W H aL aS aO cL cS cO L n S K O aw 1 _ (h.below (hb0.mono hB)) (hO.below (hb0.mono hB)) (by simp; omega) h100
  generalize aftR W H L n S K O aw 1 = r at *
  obtain ⟨r1, r2, r3, r4⟩ := r
  replace c31 := Lib.hid c31
  replace hb0 := Lib.hid hb0
  replace ht := Lib.hid ht
  go_enter Tryd.func30, Tryd.ntmps30
  go_wp2_with fail
  refine c31.out.mono ?_
  rintro e w1 ⟨A1, c1, rfl, hb1, hr1, hf1⟩
  have t := ht.out.below hb1 (by simp)
  have hsz : w.heap.size + 1 + 1 + 1 ≤ w1.heap.size := by have := hb1.size; simpa using this
  have hbb := hb0.out.trans (hb1.mono hb0.out.size)
  have hf2 : Fresh (w.heap.size + 1 + 1 + 1) A1 := fun a ha => by have := hf1 a ha; simpa using this
  have j1 := t.c0
  have j2 := t.c1
  have j3 := t.c2
  have f1 := t.fz 0
  have f2 := t.fz 1
  have f3 := t.fz 2
  dsimp only at hr1
  have ts := t.set (.int .i64 r1) (.slice A1 r2.length c1) (.int .i64 r3)
  have j4 := ts.c0
  have j5 := ts.c1
  have j6 := ts.c2
  have hbs := tri_below (x := .int .i64 r1) (y := .slice A1 r2.length c1) (z := .int .i64 r3) hbb (show w.heap.size ≤ w.heap.size + 1 + 1 by omega)
  have hrr := (hr1.tri hf2 (b := w.heap.size + 1 + 1) (by omega) (.int .i64 r1) (.slice A1 r2.length c1) (.int .i64 r3)).more (B' := (((w1.setCell ⟨w.heap.size + 1 + 1, 0, none⟩ (.int .i64 r1)).setCell ⟨w.heap.size + 1 + 1, 1, none⟩ (.slice A1 r2.length c1)).setCell ⟨w.heap.size + 1 + 1, 2, none⟩ (.int .i64 r3)).heap.size) (by simp [World.setCell])
  have hf6 : Fresh w.heap.size A1 := fun a ha => by have := hf2 a ha; omega
  clear hb1 hr1 hf1 hbb t
  go_wp2
  exact bodyPost_end (v := .tuple #[.agg #[.int .i64 r1, .slice A1 r2.length c1, .int .i64 r3], .int .i64 r4]) (by simp [results, Tryd.results30, go_sem, j4, j5, j6]) rfl ⟨A1, c1, rfl, hbs, hrr, hf6⟩

end Go.Proofs.YtnbgjgiknfcdkaaDoor
