/-
  For any bay, any slick of it and any numbers of moves, the law SlickMass returns true: nothing is lost behind moves, what is beached and what is away never falls, and moves one after the other are those moves together.
  Conditions: the table of directions starts as the program's text lays it.
-/
import Derived.Test.YtnbgjgiknfcdkaaDoorQ
import Derived.Test.YtnbgjgiknfcdkaaDoorR
import Derived.Test.YtnbgjgiknfcdkaaDoorS
import Derived.Test.YtnbgjgiknfcdkaaDoorCards
import Derived.Test.YtnbgjgiknfcdkaaDoorTie
import Derived.SevenTiedAt
namespace Go.Proofs.YtnbgjgiknfcdkaaDoor.lawSlickMass
open Go.ChangeShapes Go.WideShapes Go.ChangeAt Go.RowKit Go.Deep Go.Proofs.YtnbgjgiknfcdkaaDoor M
set_option linter.unusedVariables false
set_option linter.unusedSimpArgs false

set_option maxRecDepth 100000 in
set_option maxHeartbeats 8000000 in
theorem out (W H : Int) (aL aS aO : Option Addr) (cL cS cO : Nat) (L : List Bool) (n : Nat) (S : List Int) (K : Int) (O : List Int) (aw : Int) (n0 m0 : Nat) (w : World) (h : BayIn w w.heap.size aL L aS n S) (hO : Row w w.heap.size aO O) (hd : Dirs w) (hn0 : n0 ≤ 255) (hm0 : m0 ≤ 255)
    (hout : (decide (100 < L.length) || decide (100 < n)) = true ∨ validB W H L n S = false ∨ slkB L.length K O aw = false) :
    Calls Tryd.prog 9 #[.agg #[.int .i64 W, .int .i64 H, .slice aL L.length cL, .slice aS n cS], .agg #[.int .i64 K, .slice aO O.length cO, .int .i64 aw], .agg #[.int .u8 n0, .int .u8 m0]] w fun e w' => e = .returned (.bool true) ∧ Below w.heap.size w w' := by
  have hst := (law2_start w (.int .i64 W) (.int .i64 H) (.slice aL L.length cL) (.slice aS n cS) (.int .i64 K) (.slice aO O.length cO) (.int .i64 aw)).alloc (.cells #[.int .u8 n0, .int .u8 m0] 59)
  have hs1 : 1 ≤ w.heap.size := hd.1
  have sane : ∀ X, Law2 w (.int .i64 W) (.int .i64 H) (.slice aL L.length cL) (.slice aS n cS) (.int .i64 K) (.slice aO O.length cO) (.int .i64 aw) X → Calls Tryd.prog 17 #[] X fun e w' => e = .returned (.bool true) ∧ Below w.heap.size w w' := fun X hX =>
    (Sane_any X (hd.below hX.2.1 hs1)).mono fun e w' ⟨he, hb⟩ => ⟨he, hX.2.1.trans (hb.mono hX.2.1.size)⟩
  have c15 : ∀ X, Law2 w (.int .i64 W) (.int .i64 H) (.slice aL L.length cL) (.slice aS n cS) (.int .i64 K) (.slice aO O.length cO) (.int .i64 aw) X → Calls Tryd.prog 15 #[.agg #[.int .i64 W, .int .i64 H, .slice aL L.length cL, .slice aS n cS]] X fun e w' => e = .returned (.bool (decide (100 < L.length) || decide (100 < n))) ∧ Law2 w (.int .i64 W) (.int .i64 H) (.slice aL L.length cL) (.slice aS n cS) (.int .i64 K) (.slice aO O.length cO) (.int .i64 aw) w' := fun X hX =>
    (Long_any W H aL aS cL n cS L.length X h.land.1 h.share.1).mono fun e w' ⟨he, hb⟩ => ⟨he, hX.call hb⟩
  have c21 : ∀ X, Law2 w (.int .i64 W) (.int .i64 H) (.slice aL L.length cL) (.slice aS n cS) (.int .i64 K) (.slice aO O.length cO) (.int .i64 aw) X → Calls Tryd.prog 21 #[.agg #[.int .i64 W, .int .i64 H, .slice aL L.length cL, .slice aS n cS]] X fun e w' => e = .returned (.bool (validB W H L n S)) ∧ Law2 w (.int .i64 W) (.int .i64 H) (.slice aL L.length cL) (.slice aS n cS) (.int .i64 K) (.slice aO O.length cO) (.int .i64 aw) w' := fun X hX =>
    (Valid_ref _ W H aL aS cL cS L n S X (h.below hX.2.1) hX.2.1.size).mono fun e w' ⟨he, hb⟩ => ⟨he, hX.call hb⟩
  replace sane := Lib.hid sane
  replace hst := Lib.hid hst
  cases hlb : (decide (100 < L.length) || decide (100 < n)) with
  | true =>
    rw [hlb] at c15
    replace c15 := Lib.hid c15
    clear c21 hlb hout
    go_enter Tryd.func9, Tryd.ntmps9
    go_wp2
    go_quiet (fail)
    have h0 := hst.out.drewN nq
    obtain ⟨⟨⟨g0, g1, g2, g3⟩, g4, g5, g6⟩, _, _⟩ := id h0
    go_wp2_with fail
    refine (c15.out _ h0).mono ?_
    rintro e w1 ⟨rfl, h1⟩
    clear g0 g1 g2 g3 g4 g5 g6
    go_wp2_with fail
    refine (sane.out _ h1).mono ?_
    rintro e w2 ⟨rfl, h2⟩
    go_wp2
    go_ret
    exact ⟨rfl, h2⟩
  | false =>
  rw [hlb] at c15
  cases hv : validB W H L n S with
  | false =>
    rw [hv] at c21
    replace c15 := Lib.hid c15
    replace c21 := Lib.hid c21
    clear hlb hout hv
    go_enter Tryd.func9, Tryd.ntmps9
    go_wp2
    go_quiet (fail)
    have h0 := hst.out.drewN nq
    obtain ⟨⟨⟨g0, g1, g2, g3⟩, g4, g5, g6⟩, _, _⟩ := id h0
    go_wp2_with fail
    refine (c15.out _ h0).mono ?_
    rintro e w1 ⟨rfl, h1⟩
    clear g0 g1 g2 g3 g4 g5 g6
    obtain ⟨⟨⟨g0, g1, g2, g3⟩, g4, g5, g6⟩, _, _⟩ := id h1
    go_wp2_with fail
    refine (c21.out _ h1).mono ?_
    rintro e w2 ⟨rfl, h2⟩
    clear g0 g1 g2 g3 g4 g5 g6
    obtain ⟨⟨⟨g0, g1, g2, g3⟩, g4, g5, g6⟩, _, _⟩ := id h2
    go_wp2_with fail
    refine (sane.out _ h2).mono ?_
    rintro e w3 ⟨rfl, h3⟩
    go_wp2
    go_ret
    exact ⟨rfl, h3⟩
  | true =>
  have hs : slkB L.length K O aw = false := by
    rcases hout with h | h | h
    · rw [hlb] at h; cases h
    · rw [hv] at h; cases h
    · exact h
  have hV := val_of hv
  have h36 : L.length ≤ 36 := by
    have := hV.2.1.1
    have := Int.mul_le_mul hV.1.1.2 hV.1.2.2 (by have := hV.1.2.1; omega) (by omega)
    omega
  have c51 : ∀ X, Law2 w (.int .i64 W) (.int .i64 H) (.slice aL L.length cL) (.slice aS n cS) (.int .i64 K) (.slice aO O.length cO) (.int .i64 aw) X → Calls Tryd.prog 51 #[.agg #[.int .i64 W, .int .i64 H, .slice aL L.length cL, .slice aS n cS], .agg #[.int .i64 K, .slice aO O.length cO, .int .i64 aw]] X fun e w' => e = .returned (.bool false) ∧ Law2 w (.int .i64 W) (.int .i64 H) (.slice aL L.length cL) (.slice aS n cS) (.int .i64 K) (.slice aO O.length cO) (.int .i64 aw) w' := fun X hX => by
    rw [← hs]
    exact (Is_any _ W H aL aS aO cL cS cO L.length n K O aw X (hO.below hX.2.1) hX.2.1.size hV.2.1.1 h36).mono fun e w' ⟨he, hb⟩ => ⟨he, hX.call hb⟩
  rw [hv] at c21
  replace c15 := Lib.hid c15
  replace c21 := Lib.hid c21
  replace c51 := Lib.hid c51
  clear hlb hout hv hV hs
  go_enter Tryd.func9, Tryd.ntmps9
  go_wp2
  go_quiet (fail)
  have h0 := hst.out.drewN nq
  obtain ⟨⟨⟨g0, g1, g2, g3⟩, g4, g5, g6⟩, _, _⟩ := id h0
  go_wp2_with fail
  refine (c15.out _ h0).mono ?_
  rintro e w1 ⟨rfl, h1⟩
  clear g0 g1 g2 g3 g4 g5 g6
  obtain ⟨⟨⟨g0, g1, g2, g3⟩, g4, g5, g6⟩, _, _⟩ := id h1
  go_wp2_with fail
  refine (c21.out _ h1).mono ?_
  rintro e w2 ⟨rfl, h2⟩
  clear g0 g1 g2 g3 g4 g5 g6
  obtain ⟨⟨⟨g0, g1, g2, g3⟩, g4, g5, g6⟩, _, _⟩ := id h2
  go_wp2_with fail
  refine (c51.out _ h2).mono ?_
  rintro e w3 ⟨rfl, h3⟩
  clear g0 g1 g2 g3 g4 g5 g6
  obtain ⟨⟨⟨g0, g1, g2, g3⟩, g4, g5, g6⟩, _, _⟩ := id h3
  go_wp2_with fail
  refine (sane.out _ h3).mono ?_
  rintro e w4 ⟨rfl, h4⟩
  go_wp2
  go_ret
  exact ⟨rfl, h4⟩

set_option maxRecDepth 100000 in
set_option maxHeartbeats 8000000 in
theorem inn (wn hn : Nat) (aL aS aO : Option Addr) (cL cS cO : Nat) (L : List Bool) (S : List Int) (k0 : Nat) (O : List Int) (aw : Int) (n0 m0 : Nat) (w : World) (h : BayIn w w.heap.size aL L aS (wn * hn) S) (hO : Row w w.heap.size aO O) (hd : Dirs w) (hn0 : n0 ≤ 255) (hm0 : m0 ≤ 255)
    (hlb : (decide (100 < L.length) || decide (100 < wn * hn)) = false) (hv : validB wn hn L (wn * hn) S = true) (hs : slkB L.length k0 O aw = true) (hBay : Bay wn hn L S) :
    Calls Tryd.prog 9 #[.agg #[.int .i64 (wn : Nat), .int .i64 (hn : Nat), .slice aL L.length cL, .slice aS (wn * hn) cS], .agg #[.int .i64 (k0 : Nat), .slice aO O.length cO, .int .i64 aw], .agg #[.int .u8 n0, .int .u8 m0]] w fun e w' => e = .returned (.bool true) ∧ Below w.heap.size w w' := by
  have hst := (law2_start w (.int .i64 (wn : Nat)) (.int .i64 (hn : Nat)) (.slice aL L.length cL) (.slice aS (wn * hn) cS) (.int .i64 (k0 : Nat)) (.slice aO O.length cO) (.int .i64 aw)).alloc (.cells #[.int .u8 n0, .int .u8 m0] 59)
  have hs1 : 1 ≤ w.heap.size := hd.1
  have hSl := slk_of hs
  have hP := hSl.2
  have hk0 : k0 ≤ 5 := by have := hP.1; omega
  have hLN := hBay.2.1.1
  have hON : O.length = wn * hn := by rw [hSl.1, hLN]
  have hN36 := hBay.cells
  obtain ⟨i, hi⟩ : ∃ i, i = n0 % (6 - k0) := ⟨_, rfl⟩
  have hil : i < 6 - k0 := by rw [hi]; exact Nat.mod_lt _ (by omega)
  obtain ⟨k, hk⟩ : ∃ k, k = m0 % (6 - k0 - i) := ⟨_, rfl⟩
  have hkl : k < 6 - k0 - i := by rw [hk]; exact Nat.mod_lt _ (by omega)
  have hi1 : (n0 : Int).tmod (5 - (k0 : Int) + 1) = i := by
    rw [Int.tmod_eq_emod_of_nonneg (by omega), hi, Int.natCast_emod]
    congr 1
    omega
  have hk1 : (m0 : Int).tmod (5 - (k0 : Int) - (i : Int) + 1) = k := by
    rw [Int.tmod_eq_emod_of_nonneg (by omega), hk, Int.natCast_emod]
    congr 1
    omega
  have hi2 : (n0 : Int) % ((6 - k0 : Nat) : Int) = i := by rw [hi, Int.natCast_emod]
  have hk2 : (m0 : Int) % (5 - (k0 : Int) - (i : Int) + 1) = k := by
    rw [hk, Int.natCast_emod]
    congr 1
    omega
  obtain ⟨e1, hP1⟩ := slk_after (n := i) hBay hP hON (by omega)
  have hO1 : (pre (wn * hn) (af wn hn L S i (amt O aw))).length = wn * hn := pre_len _ _
  have hs' : slkB L.length ((k0 + i : Nat) : Int) (pre (wn * hn) (af wn hn L S i (amt O aw))) (el (af wn hn L S i (amt O aw)) (wn * hn)) = true := slkB_true (by rw [hO1, hLN]) (by rw [Int.natCast_add]; exact hP1)
  have hx := aftR_ok (n := i) hv hs (by omega)
  have hy := aftR_ok (n := k) hv hs' (by omega)
  have hz := aftR_ok (n := i + k) hv hs (by omega)
  have e2 : af wn hn L S (i + k) (amt O aw) = af wn hn L S k (af wn hn L S i (amt O aw)) := by rw [Nat.add_comm]; exact af_add _ _
  have hal : (amt O aw).length = wn * hn + 1 := by rw [amt_len, hON]
  have htot := af_tot (L := L) (S := S) hBay hal i
  have hkeep : ∀ j, j ≤ wn * hn → keeps wn hn L j = true → (16 : Int) ^ i * el (amt O aw) j ≤ el (af wn hn L S i (amt O aw)) j := fun j hj hk => af_keeps hBay hal hP.2.1 hj hk i
  rw [e2] at hz
  rw [e1] at hy
  have hT := slk_tot hP
  have hT1 : tot (af wn hn L S i (amt O aw)) ≤ 1000000000000 := by have := slk_tot (slk_of hs').2; rwa [e1] at this
  have hnn1 := af_nonneg (L := L) (S := S) hBay hal hP.2.1 i
  have ha1l := af_len (L := L) (S := S) hal i
  have askA : askE wn hn L (wn * hn) S k0 O aw = 0 := by unfold askE; rw [hv, hs]; rfl
  have askB : askE wn hn L (wn * hn) S ((k0 + i : Nat) : Int) (pre (wn * hn) (af wn hn L S i (amt O aw))) (el (af wn hn L S i (amt O aw)) (wn * hn)) = 0 := by unfold askE; rw [hv, hs']; rfl
  have hp16 : 1 ≤ (16 : Int) ^ i ∧ (16 : Int) ^ i ≤ 1048576 := by
    have : i = 0 ∨ i = 1 ∨ i = 2 ∨ i = 3 ∨ i = 4 ∨ i = 5 := by omega
    rcases this with e | e | e | e | e | e <;> rw [e] <;> decide
  have c52 : ∀ X, Calls Tryd.prog 52 #[.int .i64 (i : Nat)] X fun e w' => e = .returned (.int .i64 ((16 : Int) ^ i)) ∧ w' = X := fun X => (sixteen_ref i X (by omega)).mono fun e w' ⟨he, hw⟩ => ⟨he, hw.symm⟩
  generalize (16 : Int) ^ i = p at *
  -- what the beached amounts are
  have hbea : ∀ j, j < wn * hn → 0 ≤ el (only L O true) j ∧ el (only L O true) j * p ≤ el (only L (pre (wn * hn) (af wn hn L S i (amt O aw))) true) j ∧ el (only L (pre (wn * hn) (af wn hn L S i (amt O aw))) true) j ≤ 1000000000000 := fun j hj => by
    have f1 : el (only L O true) j = onlyF L O true j := mk_el _ _ _ (by omega)
    have f2 : el (only L (pre (wn * hn) (af wn hn L S i (amt O aw))) true) j = onlyF L (pre (wn * hn) (af wn hn L S i (amt O aw))) true j := mk_el _ _ _ (by omega)
    rw [f1, f2]
    unfold onlyF
    cases hb : bl L j with
    | true =>
      simp only [if_true]
      have f3 : el (pre (wn * hn) (af wn hn L S i (amt O aw))) j = el (af wn hn L S i (amt O aw)) j := mk_el _ _ _ hj
      have f4 := hkeep j (by omega) (by unfold keeps; rw [hb]; simp)
      rw [amt_el O aw j (by omega)] at f4
      have f5 := hP.2.1 j (by omega)
      rw [amt_el O aw j (by omega)] at f5
      have f6 := el_le_tot hnn1 j (by omega)
      rw [f3, Int.mul_comm]
      omega
    | false => simp
  have haway : aw * p ≤ el (af wn hn L S i (amt O aw)) (wn * hn) ∧ 0 ≤ aw * p ∧ el (af wn hn L S i (amt O aw)) (wn * hn) ≤ 1000000000000 := by
    have f4 := hkeep (wn * hn) (Nat.le_refl _) (by unfold keeps; simp)
    have f5 : el (amt O aw) (wn * hn) = aw := by rw [← hON]; exact amt_away O aw
    rw [f5, Int.mul_comm] at f4
    have f6 := el_le_tot hnn1 (wn * hn) (by omega)
    have f7 := hP.2.1 (wn * hn) (by omega)
    rw [f5] at f7
    exact ⟨f4, Int.mul_nonneg f7 (by omega), by omega⟩
  have ht0 := tot_nonneg hP.2.1
  have hl0 : (only L O true).length = wn * hn := by rw [only_len, hLN]
  have hl1 : (only L (pre (wn * hn) (af wn hn L S i (amt O aw))) true).length = wn * hn := by rw [only_len, hLN]
  have sane : ∀ X, Law2 w (.int .i64 (wn : Nat)) (.int .i64 (hn : Nat)) (.slice aL L.length cL) (.slice aS (wn * hn) cS) (.int .i64 (k0 : Nat)) (.slice aO O.length cO) (.int .i64 aw) X → Calls Tryd.prog 17 #[] X fun e w' => e = .returned (.bool true) ∧ Below w.heap.size w w' := fun X hX =>
    (Sane_any X (hd.below hX.2.1 hs1)).mono fun e w' ⟨he, hb⟩ => ⟨he, hX.2.1.trans (hb.mono hX.2.1.size)⟩
  have c15 : ∀ X, Law2 w (.int .i64 (wn : Nat)) (.int .i64 (hn : Nat)) (.slice aL L.length cL) (.slice aS (wn * hn) cS) (.int .i64 (k0 : Nat)) (.slice aO O.length cO) (.int .i64 aw) X → Calls Tryd.prog 15 #[.agg #[.int .i64 (wn : Nat), .int .i64 (hn : Nat), .slice aL L.length cL, .slice aS (wn * hn) cS]] X fun e w' => e = .returned (.bool false) ∧ Law2 w (.int .i64 (wn : Nat)) (.int .i64 (hn : Nat)) (.slice aL L.length cL) (.slice aS (wn * hn) cS) (.int .i64 (k0 : Nat)) (.slice aO O.length cO) (.int .i64 aw) w' := fun X hX => by
    rw [← hlb]
    exact (Long_any wn hn aL aS cL (wn * hn) cS L.length X h.land.1 h.share.1).mono fun e w' ⟨he, hb⟩ => ⟨he, hX.call hb⟩
  have c21 : ∀ X, Law2 w (.int .i64 (wn : Nat)) (.int .i64 (hn : Nat)) (.slice aL L.length cL) (.slice aS (wn * hn) cS) (.int .i64 (k0 : Nat)) (.slice aO O.length cO) (.int .i64 aw) X → Calls Tryd.prog 21 #[.agg #[.int .i64 (wn : Nat), .int .i64 (hn : Nat), .slice aL L.length cL, .slice aS (wn * hn) cS]] X fun e w' => e = .returned (.bool true) ∧ Law2 w (.int .i64 (wn : Nat)) (.int .i64 (hn : Nat)) (.slice aL L.length cL) (.slice aS (wn * hn) cS) (.int .i64 (k0 : Nat)) (.slice aO O.length cO) (.int .i64 aw) w' := fun X hX => by
    rw [← hv]
    exact (Valid_ref _ wn hn aL aS cL cS L (wn * hn) S X (h.below hX.2.1) hX.2.1.size).mono fun e w' ⟨he, hb⟩ => ⟨he, hX.call hb⟩
  have c51 : ∀ X, Law2 w (.int .i64 (wn : Nat)) (.int .i64 (hn : Nat)) (.slice aL L.length cL) (.slice aS (wn * hn) cS) (.int .i64 (k0 : Nat)) (.slice aO O.length cO) (.int .i64 aw) X → Calls Tryd.prog 51 #[.agg #[.int .i64 (wn : Nat), .int .i64 (hn : Nat), .slice aL L.length cL, .slice aS (wn * hn) cS], .agg #[.int .i64 (k0 : Nat), .slice aO O.length cO, .int .i64 aw]] X fun e w' => e = .returned (.bool true) ∧ Law2 w (.int .i64 (wn : Nat)) (.int .i64 (hn : Nat)) (.slice aL L.length cL) (.slice aS (wn * hn) cS) (.int .i64 (k0 : Nat)) (.slice aO O.length cO) (.int .i64 aw) w' := fun X hX => by
    rw [← hs]
    exact (Is_any _ wn hn aL aS aO cL cS cO L.length (wn * hn) k0 O aw X (hO.below hX.2.1) hX.2.1.size (val_of hv).2.1.1 (by omega)).mono fun e w' ⟨he, hb⟩ => ⟨he, hX.call hb⟩
  have cx : ∀ X, Law2 w (.int .i64 (wn : Nat)) (.int .i64 (hn : Nat)) (.slice aL L.length cL) (.slice aS (wn * hn) cS) (.int .i64 (k0 : Nat)) (.slice aO O.length cO) (.int .i64 aw) X → Calls Tryd.prog 31 #[.agg #[.int .i64 (wn : Nat), .int .i64 (hn : Nat), .slice aL L.length cL, .slice aS (wn * hn) cS], .agg #[.int .i64 (k0 : Nat), .slice aO O.length cO, .int .i64 aw], .int .i64 (i : Nat)] X fun e X' => ∃ A c, e = .returned (.tuple #[.agg #[.int .i64 ((k0 + i : Nat) : Int), .slice A (wn * hn) c, .int .i64 (el (af wn hn L S i (amt O aw)) (wn * hn))], .int .i64 0]) ∧ Below X.heap.size X X' ∧ Row X' X'.heap.size A (pre (wn * hn) (af wn hn L S i (amt O aw))) := fun X hX => by
    have h1 := After_any w.heap.size wn hn aL aS aO cL cS cO L (wn * hn) S k0 O aw i X (h.below hX.2.1) (hO.below hX.2.1) hX.2.1.size hs1 (hd.below hX.2.1 hs1) (by omega)
    rw [hx] at h1
    refine h1.mono ?_
    rintro e X' ⟨A, c, he, hb, hr, _⟩
    dsimp only at he hr
    rw [hO1] at he
    exact ⟨A, c, he, hb, hr⟩
  have cy : ∀ X A c, Law2 w (.int .i64 (wn : Nat)) (.int .i64 (hn : Nat)) (.slice aL L.length cL) (.slice aS (wn * hn) cS) (.int .i64 (k0 : Nat)) (.slice aO O.length cO) (.int .i64 aw) X → Row X X.heap.size A (pre (wn * hn) (af wn hn L S i (amt O aw))) → Calls Tryd.prog 31 #[.agg #[.int .i64 (wn : Nat), .int .i64 (hn : Nat), .slice aL L.length cL, .slice aS (wn * hn) cS], .agg #[.int .i64 ((k0 + i : Nat) : Int), .slice A (wn * hn) c, .int .i64 (el (af wn hn L S i (amt O aw)) (wn * hn))], .int .i64 (k : Nat)] X fun e X' => ∃ A c, e = .returned (.tuple #[.agg #[.int .i64 ((k0 + i + k : Nat) : Int), .slice A (wn * hn) c, .int .i64 (el (af wn hn L S k (af wn hn L S i (amt O aw))) (wn * hn))], .int .i64 0]) ∧ Below X.heap.size X X' ∧ Row X' X'.heap.size A (pre (wn * hn) (af wn hn L S k (af wn hn L S i (amt O aw)))) := fun X A c hX hr => by
    have h1 := After_any X.heap.size wn hn aL aS A cL cS c L (wn * hn) S ((k0 + i : Nat) : Int) (pre (wn * hn) (af wn hn L S i (amt O aw))) (el (af wn hn L S i (amt O aw)) (wn * hn)) k X ((h.below hX.2.1).more hX.2.1.size) hr (Nat.le_refl _) (Nat.le_trans hs1 hX.2.1.size) (hd.below hX.2.1 hs1) (by omega)
    rw [hy, hO1] at h1
    refine h1.mono ?_
    rintro e X' ⟨A, c, he, hb, hr, _⟩
    dsimp only at he hr
    rw [pre_len] at he
    exact ⟨A, c, he, hb, hr⟩
  have cz : ∀ X, Law2 w (.int .i64 (wn : Nat)) (.int .i64 (hn : Nat)) (.slice aL L.length cL) (.slice aS (wn * hn) cS) (.int .i64 (k0 : Nat)) (.slice aO O.length cO) (.int .i64 aw) X → Calls Tryd.prog 31 #[.agg #[.int .i64 (wn : Nat), .int .i64 (hn : Nat), .slice aL L.length cL, .slice aS (wn * hn) cS], .agg #[.int .i64 (k0 : Nat), .slice aO O.length cO, .int .i64 aw], .int .i64 ((i : Int) + k)] X fun e X' => ∃ A c, e = .returned (.tuple #[.agg #[.int .i64 ((k0 + i + k : Nat) : Int), .slice A (wn * hn) c, .int .i64 (el (af wn hn L S k (af wn hn L S i (amt O aw))) (wn * hn))], .int .i64 0]) ∧ Below X.heap.size X X' ∧ Row X' X'.heap.size A (pre (wn * hn) (af wn hn L S k (af wn hn L S i (amt O aw)))) := fun X hX => by
    have h1 := After_any w.heap.size wn hn aL aS aO cL cS cO L (wn * hn) S k0 O aw ((i + k : Nat) : Int) X (h.below hX.2.1) (hO.below hX.2.1) hX.2.1.size hs1 (hd.below hX.2.1 hs1) (by omega)
    rw [hz, ← Nat.add_assoc, Int.natCast_add i k] at h1
    refine h1.mono ?_
    rintro e X' ⟨A, c, he, hb, hr, _⟩
    dsimp only at he hr
    rw [pre_len] at he
    exact ⟨A, c, he, hb, hr⟩
  have c22a : ∀ X, Law2 w (.int .i64 (wn : Nat)) (.int .i64 (hn : Nat)) (.slice aL L.length cL) (.slice aS (wn * hn) cS) (.int .i64 (k0 : Nat)) (.slice aO O.length cO) (.int .i64 aw) X → Calls Tryd.prog 22 #[.agg #[.int .i64 (wn : Nat), .int .i64 (hn : Nat), .slice aL L.length cL, .slice aS (wn * hn) cS], .agg #[.int .i64 (k0 : Nat), .slice aO O.length cO, .int .i64 aw]] X fun e X' => e = .returned (.tuple #[.int .i64 (tot (amt O aw)), .int .i64 0]) ∧ Below X.heap.size X X' := fun X hX => by
    have h1 := Total_any _ wn hn aL aS aO cL cS cO L (wn * hn) S k0 O aw X (h.below hX.2.1) (hO.below hX.2.1) hX.2.1.size
    have e : totV wn hn L (wn * hn) S k0 O aw = tot (amt O aw) := if_pos askA
    rw [e, askA] at h1
    exact h1
  have c22b : ∀ X A c, Law2 w (.int .i64 (wn : Nat)) (.int .i64 (hn : Nat)) (.slice aL L.length cL) (.slice aS (wn * hn) cS) (.int .i64 (k0 : Nat)) (.slice aO O.length cO) (.int .i64 aw) X → Row X X.heap.size A (pre (wn * hn) (af wn hn L S i (amt O aw))) → Calls Tryd.prog 22 #[.agg #[.int .i64 (wn : Nat), .int .i64 (hn : Nat), .slice aL L.length cL, .slice aS (wn * hn) cS], .agg #[.int .i64 ((k0 + i : Nat) : Int), .slice A (wn * hn) c, .int .i64 (el (af wn hn L S i (amt O aw)) (wn * hn))]] X fun e X' => e = .returned (.tuple #[.int .i64 (tot (amt O aw) * p), .int .i64 0]) ∧ Below X.heap.size X X' := fun X A c hX hr => by
    have h1 := Total_any X.heap.size wn hn aL aS A cL cS c L (wn * hn) S ((k0 + i : Nat) : Int) (pre (wn * hn) (af wn hn L S i (amt O aw))) (el (af wn hn L S i (amt O aw)) (wn * hn)) X ((h.below hX.2.1).more hX.2.1.size) hr (Nat.le_refl _)
    have e : totV wn hn L (wn * hn) S ((k0 + i : Nat) : Int) (pre (wn * hn) (af wn hn L S i (amt O aw))) (el (af wn hn L S i (amt O aw)) (wn * hn)) = tot (amt O aw) * p := by
      unfold totV
      rw [if_pos askB, e1, htot, Int.mul_comm]
    rw [e, askB, hO1] at h1
    exact h1
  have c26a : ∀ X, Law2 w (.int .i64 (wn : Nat)) (.int .i64 (hn : Nat)) (.slice aL L.length cL) (.slice aS (wn * hn) cS) (.int .i64 (k0 : Nat)) (.slice aO O.length cO) (.int .i64 aw) X → Calls Tryd.prog 26 #[.agg #[.int .i64 (wn : Nat), .int .i64 (hn : Nat), .slice aL L.length cL, .slice aS (wn * hn) cS], .agg #[.int .i64 (k0 : Nat), .slice aO O.length cO, .int .i64 aw]] X fun e X' => ∃ A c, e = .returned (.tuple #[.slice A (wn * hn) c, .int .i64 0]) ∧ Below X.heap.size X X' ∧ Row X' X'.heap.size A (only L O true) := fun X hX => by
    have h1 := Beached_any _ wn hn aL aS aO cL cS cO L (wn * hn) S k0 O aw X (h.below hX.2.1) (hO.below hX.2.1) hX.2.1.size
    have e : beaV wn hn L (wn * hn) S k0 O aw = only L O true := if_pos askA
    rw [e, askA] at h1
    refine h1.mono ?_
    rintro e X' ⟨A, c, he, hb, hr⟩
    rw [only_len, hLN] at he
    exact ⟨A, c, he, hb, hr⟩
  have c26b : ∀ X A c, Law2 w (.int .i64 (wn : Nat)) (.int .i64 (hn : Nat)) (.slice aL L.length cL) (.slice aS (wn * hn) cS) (.int .i64 (k0 : Nat)) (.slice aO O.length cO) (.int .i64 aw) X → Row X X.heap.size A (pre (wn * hn) (af wn hn L S i (amt O aw))) → Calls Tryd.prog 26 #[.agg #[.int .i64 (wn : Nat), .int .i64 (hn : Nat), .slice aL L.length cL, .slice aS (wn * hn) cS], .agg #[.int .i64 ((k0 + i : Nat) : Int), .slice A (wn * hn) c, .int .i64 (el (af wn hn L S i (amt O aw)) (wn * hn))]] X fun e X' => ∃ A c, e = .returned (.tuple #[.slice A (wn * hn) c, .int .i64 0]) ∧ Below X.heap.size X X' ∧ Row X' X'.heap.size A (only L (pre (wn * hn) (af wn hn L S i (amt O aw))) true) := fun X A c hX hr => by
    have h1 := Beached_any X.heap.size wn hn aL aS A cL cS c L (wn * hn) S ((k0 + i : Nat) : Int) (pre (wn * hn) (af wn hn L S i (amt O aw))) (el (af wn hn L S i (amt O aw)) (wn * hn)) X ((h.below hX.2.1).more hX.2.1.size) hr (Nat.le_refl _)
    have e : beaV wn hn L (wn * hn) S ((k0 + i : Nat) : Int) (pre (wn * hn) (af wn hn L S i (amt O aw))) (el (af wn hn L S i (amt O aw)) (wn * hn)) = only L (pre (wn * hn) (af wn hn L S i (amt O aw))) true := if_pos askB
    rw [e, askB, hO1] at h1
    refine h1.mono ?_
    rintro e X' ⟨A, c, he, hb, hr⟩
    rw [only_len, hLN] at he
    exact ⟨A, c, he, hb, hr⟩
  have c33 : ∀ X A A' c c', Law2 w (.int .i64 (wn : Nat)) (.int .i64 (hn : Nat)) (.slice aL L.length cL) (.slice aS (wn * hn) cS) (.int .i64 (k0 : Nat)) (.slice aO O.length cO) (.int .i64 aw) X → Row X X.heap.size A (pre (wn * hn) (af wn hn L S k (af wn hn L S i (amt O aw)))) → Row X X.heap.size A' (pre (wn * hn) (af wn hn L S k (af wn hn L S i (amt O aw)))) →
      Calls Tryd.prog 33 #[.agg #[.int .i64 ((k0 + i + k : Nat) : Int), .slice A (wn * hn) c, .int .i64 (el (af wn hn L S k (af wn hn L S i (amt O aw))) (wn * hn))], .agg #[.int .i64 ((k0 + i + k : Nat) : Int), .slice A' (wn * hn) c', .int .i64 (el (af wn hn L S k (af wn hn L S i (amt O aw))) (wn * hn))]] X fun e w' => e = .returned (.bool true) ∧ Below X.heap.size X w' := fun X A A' c c' hX r1 r2 => by
    have h1 := Equal_ref X.heap.size A A' c c' ((k0 + i + k : Nat) : Int) ((k0 + i + k : Nat) : Int) _ _ (el (af wn hn L S k (af wn hn L S i (amt O aw))) (wn * hn)) _ X r1 r2 (Nat.le_refl _) rfl rfl rfl
    rw [pre_len] at h1
    exact h1
  have htp : 0 ≤ tot (amt O aw) * p ∧ tot (amt O aw) * p ≤ 1000000000000 := by rw [Int.mul_comm, ← htot]; exact ⟨tot_nonneg hnn1, hT1⟩
  clear hx hy hz e1 e2 hP1 hs' askA askB htot hkeep hnn1 ha1l hT1 hO1 hal
  generalize ((k0 + i + k : Nat) : Int) = kk at *
  generalize ((k0 + i : Nat) : Int) = ki at *
  generalize hq2 : pre (wn * hn) (af wn hn L S k (af wn hn L S i (amt O aw))) = O2 at *
  generalize hq3 : el (af wn hn L S k (af wn hn L S i (amt O aw))) (wn * hn) = x2 at *
  generalize only L (pre (wn * hn) (af wn hn L S i (amt O aw))) true = b1 at *
  generalize pre (wn * hn) (af wn hn L S i (amt O aw)) = O1 at *
  generalize el (af wn hn L S i (amt O aw)) (wn * hn) = x1 at *
  generalize only L O true = b0 at *
  generalize tot (amt O aw) = t0 at *
  clear hq2 hq3 hlb hv hs hP hSl hT hBay h hO hd hs1
  replace sane := Lib.hid sane
  replace c15 := Lib.hid c15
  replace c21 := Lib.hid c21
  replace c51 := Lib.hid c51
  replace cx := Lib.hid cx
  replace cy := Lib.hid cy
  replace cz := Lib.hid cz
  replace c22a := Lib.hid c22a
  replace c22b := Lib.hid c22b
  replace c26a := Lib.hid c26a
  replace c26b := Lib.hid c26b
  replace c33 := Lib.hid c33
  replace c52 := Lib.hid c52
  replace hbea := Lib.hid hbea
  replace hst := Lib.hid hst
  replace hLN := Lib.hid hLN
  replace hON := Lib.hid hON
  replace hi2 := Lib.hid hi2
  replace hk2 := Lib.hid hk2
  go_enter Tryd.func9, Tryd.ntmps9
  go_wp2
  go_quiet (fail)
  have h0 := hst.out.drewN nq
  obtain ⟨⟨⟨g0, g1, g2, g3⟩, g4, g5, g6⟩, _, _⟩ := id h0
  go_wp2_with fail
  refine (c15.out _ h0).mono ?_
  rintro e w1 ⟨rfl, h1⟩
  clear g0 g1 g2 g3 g4 g5 g6
  obtain ⟨⟨⟨g0, g1, g2, g3⟩, g4, g5, g6⟩, _, _⟩ := id h1
  go_wp2_with fail
  refine (c21.out _ h1).mono ?_
  rintro e w2 ⟨rfl, h2⟩
  clear g0 g1 g2 g3 g4 g5 g6
  obtain ⟨⟨⟨g0, g1, g2, g3⟩, g4, g5, g6⟩, _, _⟩ := id h2
  go_wp2_with fail
  refine (c51.out _ h2).mono ?_
  rintro e w3 ⟨rfl, h3⟩
  clear g0 g1 g2 g3 g4 g5 g6
  obtain ⟨⟨⟨g0, g1, g2, g3⟩, g4, g5, g6⟩, _, _⟩ := id h3
  go_wp2_with fail
  rw [hi2.out, hk2.out]
  clear hi hk hi1 hk1 hi2 hk2
  refine (cx.out _ h3).mono ?_
  rintro e w4 ⟨A, c, rfl, hb4, r4⟩
  clear g0 g1 g2 g3 g4 g5 g6
  have h5 := (h3.call hb4).alloc (.cells #[.int .i64 ki, .slice A (wn * hn) c, .int .i64 x1] 28)
  have t5 := Tri.new w4 (.int .i64 ki) (.slice A (wn * hn) c) (.int .i64 x1)
  have r5 := r4.up (ba1 w4 (.cells #[.int .i64 ki, .slice A (wn * hn) c, .int .i64 x1] 28))
  have u0 := t5.c0
  have u1 := t5.c1
  have u2 := t5.c2
  obtain ⟨⟨⟨g0, g1, g2, g3⟩, g4, g5, g6⟩, _, _⟩ := id h5
  go_wp2_with fail
  refine (cy.out _ A c h5 r5).mono ?_
  rintro e w6 ⟨A1, c1, rfl, hb6, r6⟩
  clear g0 g1 g2 g3 g4 g5 g6 u0 u1 u2
  have h7 := (h5.call hb6).alloc (.cells #[.int .i64 kk, .slice A1 (wn * hn) c1, .int .i64 x2] 28)
  have t7 := (t5.up hb6).up (ba1 w6 (.cells #[.int .i64 kk, .slice A1 (wn * hn) c1, .int .i64 x2] 28))
  have r7 := (r5.up hb6).up (ba1 w6 (.cells #[.int .i64 kk, .slice A1 (wn * hn) c1, .int .i64 x2] 28))
  have t7' := Tri.new w6 (.int .i64 kk) (.slice A1 (wn * hn) c1) (.int .i64 x2)
  have r7' := r6.up (ba1 w6 (.cells #[.int .i64 kk, .slice A1 (wn * hn) c1, .int .i64 x2] 28))
  clear t5 r5 r6 r4 hb4 h3
  obtain ⟨⟨⟨g0, g1, g2, g3⟩, g4, g5, g6⟩, _, _⟩ := id h7
  go_wp2_with fail
  refine (cz.out _ h7).mono ?_
  rintro e w8 ⟨A2, c2, rfl, hb8, r8⟩
  clear g0 g1 g2 g3 g4 g5 g6
  have h9 := (h7.call hb8).alloc (.cells #[.int .i64 kk, .slice A2 (wn * hn) c2, .int .i64 x2] 28)
  have t9 := (t7.up hb8).up (ba1 w8 (.cells #[.int .i64 kk, .slice A2 (wn * hn) c2, .int .i64 x2] 28))
  have r9 := (r7.up hb8).up (ba1 w8 (.cells #[.int .i64 kk, .slice A2 (wn * hn) c2, .int .i64 x2] 28))
  have t9' := (t7'.up hb8).up (ba1 w8 (.cells #[.int .i64 kk, .slice A2 (wn * hn) c2, .int .i64 x2] 28))
  have r9' := (r7'.up hb8).up (ba1 w8 (.cells #[.int .i64 kk, .slice A2 (wn * hn) c2, .int .i64 x2] 28))
  have t9'' := Tri.new w8 (.int .i64 kk) (.slice A2 (wn * hn) c2) (.int .i64 x2)
  have r9'' := r8.up (ba1 w8 (.cells #[.int .i64 kk, .slice A2 (wn * hn) c2, .int .i64 x2] 28))
  clear t7 r7 t7' r7' r8
  have u0 := t9'.c0
  have u1 := t9'.c1
  have u2 := t9'.c2
  have v0 := t9''.c0
  have v1 := t9''.c1
  have v2 := t9''.c2
  obtain ⟨⟨⟨g0, g1, g2, g3⟩, g4, g5, g6⟩, _, _⟩ := id h9
  go_wp2_with fail
  refine (c33.out _ A1 A2 c1 c2 h9 r9' r9'').mono ?_
  rintro e w10 ⟨rfl, hb10⟩
  clear g0 g1 g2 g3 g4 g5 g6 u0 u1 u2 v0 v1 v2
  have h11 := h9.call hb10
  have t11 := t9.up hb10
  have r11 := r9.up hb10
  clear t9 r9 t9' r9' t9'' r9''
  obtain ⟨⟨⟨g0, g1, g2, g3⟩, g4, g5, g6⟩, _, _⟩ := id h11
  go_wp2_with fail
  refine (c22a.out _ h11).mono ?_
  rintro e w12 ⟨rfl, hb12⟩
  clear g0 g1 g2 g3 g4 g5 g6
  have h13 := h11.call hb12
  have t13 := t11.up hb12
  have r13 := r11.up hb12
  clear t11 r11
  have u0 := t13.c0
  have u1 := t13.c1
  have u2 := t13.c2
  obtain ⟨⟨⟨g0, g1, g2, g3⟩, g4, g5, g6⟩, _, _⟩ := id h13
  go_wp2_with fail
  refine (c22b.out _ A c h13 r13).mono ?_
  rintro e w14 ⟨rfl, hb14⟩
  clear g0 g1 g2 g3 g4 g5 g6 u0 u1 u2
  have h15 := h13.call hb14
  have t15 := t13.up hb14
  have r15 := r13.up hb14
  clear t13 r13
  obtain ⟨⟨⟨g0, g1, g2, g3⟩, g4, g5, g6⟩, _, _⟩ := id h15
  go_wp2_with fail
  refine (c26a.out _ h15).mono ?_
  rintro e w16 ⟨B0, d0, rfl, hb16, q16⟩
  clear g0 g1 g2 g3 g4 g5 g6
  have h17 := h15.call hb16
  have t17 := t15.up hb16
  have r17 := r15.up hb16
  clear t15 r15
  have u0 := t17.c0
  have u1 := t17.c1
  have u2 := t17.c2
  obtain ⟨⟨⟨g0, g1, g2, g3⟩, g4, g5, g6⟩, _, _⟩ := id h17
  go_wp2_with fail
  refine (c26b.out _ A c h17 r17).mono ?_
  rintro e w18 ⟨B1, d1, rfl, hb18, q18'⟩
  clear g0 g1 g2 g3 g4 g5 g6 u0 u1 u2
  have h19 := h17.call hb18
  have t19 := t17.up hb18
  have q18 := q16.up hb18
  clear t17 r17 q16
  have u0 := t19.c0
  have u1 := t19.c1
  have u2 := t19.c2
  obtain ⟨⟨⟨g0, g1, g2, g3⟩, g4, g5, g6⟩, _, _⟩ := id h19
  go_wp2_with fail
  have wr1 : IntKind.i64.wrap (t0 * p) = t0 * p := IntWalk.i64_in _ (by omega)
  have wr2 : IntKind.i64.wrap (aw * p) = aw * p := IntWalk.i64_in _ (by omega)
  have nlt : decide (x1 < aw * p) = false := by simp; omega
  go_quiet ((go_at_call 52; exact Calls.quiet_of_same (c52.out _)))
  clear wr1 wr2 nlt g0 g1 g2 g3 g4 g5 g6 u0 u1 u2 haway htp ht0
  replace t19 := Lib.hid t19
  generalize hNN : wn * hn = N at hN36
  go_wp2
  go_loopw [22] (fun x wr => ∃ j m : Nat, j ≤ wn * hn ∧ x = .int .i64 j ∧ wr = w18.drewN m) (fun x _ => wn * hn - (intOf x).toNat)
  case atStart => exact ⟨0, _, Nat.zero_le _, rfl, rfl⟩
  case round =>
    obtain ⟨j, m, hj, rfl, hwr⟩ := hrel
    have hbw : Below w18.heap.size w18 wr := by rw [hwr]; exact below_drewN (Below.refl _ _) m
    by_cases hlt : j < wn * hn
    · obtain ⟨b, o, rfl, hbl, hc⟩ := (q18.below hbw).at_ j (by omega)
      obtain ⟨b', o', rfl, hbl', hc'⟩ := (q18'.below hbw).at_ j (by omega)
      have hbe := hbea.out j hlt
      have h0p : 0 ≤ el b0 j * p := Int.mul_nonneg hbe.1 (by omega)
      have wr3 : IntKind.i64.wrap (el b0 j * p) = el b0 j * p := IntWalk.i64_in _ (by omega)
      have nlt3 : decide (el b1 j < el b0 j * p) = false := by simp; omega
      have hjj : (j : Int) < ((wn * hn : Nat) : Int) := by omega
      replace hwr := Lib.hid hwr
      go_wp2
      go_quiet ((go_at_call 52; exact Calls.quiet_of_same (c52.out _)))
      go_wp2
      go_roundw
      case rel => exact ⟨j + 1, m + nq, by omega, by go_num, by rw [hwr.out, World.drewN_drewN]⟩
      case measure => simp [intOf]; omega
    · have hjj : ¬ (j : Int) < ((wn * hn : Nat) : Int) := by omega
      have h20 := h19.drewN m
      rw [← hwr] at h20
      replace hwr := Lib.hid hwr
      go_wp2_with fail
      refine (sane.out _ h20).mono ?_
      rintro e w20 ⟨rfl, h21⟩
      go_wp2
      go_ret
      exact ⟨rfl, h21⟩
theorem walk (W H : Int) (aL aS aO : Option Addr) (cL cS cO : Nat) (L : List Bool) (n : Nat) (S : List Int) (K : Int) (O : List Int) (aw : Int) (n0 m0 : Nat) (w : World) (h : BayIn w w.heap.size aL L aS n S) (hO : Row w w.heap.size aO O) (hd : Dirs w) (hn0 : n0 ≤ 255) (hm0 : m0 ≤ 255) :
    Calls Tryd.prog 9 #[.agg #[.int .i64 W, .int .i64 H, .slice aL L.length cL, .slice aS n cS], .agg #[.int .i64 K, .slice aO O.length cO, .int .i64 aw], .agg #[.int .u8 n0, .int .u8 m0]] w fun e w' => e = .returned (.bool true) ∧ Below w.heap.size w w' := by
  cases hlb : (decide (100 < L.length) || decide (100 < n)) with
  | true => exact out W H aL aS aO cL cS cO L n S K O aw n0 m0 w h hO hd hn0 hm0 (.inl hlb)
  | false =>
  cases hv : validB W H L n S with
  | false => exact out W H aL aS aO cL cS cO L n S K O aw n0 m0 w h hO hd hn0 hm0 (.inr (.inl hv))
  | true =>
  cases hs : slkB L.length K O aw with
  | false => exact out W H aL aS aO cL cS cO L n S K O aw n0 m0 w h hO hd hn0 hm0 (.inr (.inr hs))
  | true =>
  obtain ⟨wn, hn, rfl, rfl, rfl, hL, hBay⟩ := bay_of (val_of hv) h.share.2.1
  obtain ⟨k0, rfl⟩ : ∃ k0 : Nat, K = k0 := ⟨K.toNat, by have := (slk_of hs).2.1; omega⟩
  exact inn wn hn aL aS aO cL cS cO L S k0 O aw n0 m0 w h hO hd hn0 hm0 hlb hv hs hBay

/-! ### the row's step -/
set_option maxRecDepth 100000 in
/-- The door's own heap meets the condition. -/
theorem door_met (os : Os) (args : Array Value) : laidMetH Tryd.prog laidV ((World.doorLaid Tryd.prog 400 os).forCall (fun _ _ => 0) ⟨#[], args, []⟩).memory :=
  laidMetH_of_parts3 (fuel := 8) (laidMet_of_run' 8 (by kernel_rfl) (by kernel_rfl)) (by kernel_rfl) (by kernel_rfl)

set_option maxRecDepth 100000 in
theorem lifted (os : Os) (started : os.Started) (H : Type) (enc : TypeId × Value → H) :
    ReturnsInHanded {} Tryd.checked os 9 .any (fun w args => (Rows.slickMassSpec.pre enc Tryd.prog Tryd.f9 [] false w args ∧ laidMetH Tryd.prog laidV w) ∧ sizedMet enc Tryd.prog Tryd.f9 (OpenSpec.ofChange Rows.slickMassSpec) false w args)
      (Rows.slickMassSpec.post enc Tryd.prog Tryd.f9 false true false false) := by
  refine returnsInHanded_of_change_and (C := Tryd.checked) (X := fun w _ => laidMetH Tryd.prog laidV w) (fun _ _ _ hh h => h.of_heap hh) own started (by kernel_rfl) Tryd.func9
    (ChangeSpec.witness_shaped (enc := enc) (C := Tryd.checked) (os := os) (X := fun w _ => laidMetH Tryd.prog laidV w) false (World.doorLaid Tryd.prog 400 os) #[.agg #[.int .i64 0, .int .i64 0, .slice none 0 0, .slice none 0 0], .agg #[.int .i64 0, .slice none 0 0, .int .i64 0], .agg #[.int .u8 0, .int .u8 0]] 8 rfl (World.shaped_of_RefB (by kernel_rfl) (by kernel_rfl)) (by kernel_rfl) (by kernel_rfl) (by kernel_rfl) (door_met os _)) ?_
  intro W base args ds gs before hval0 hW _ _ hL _
  have hval : ∀ (j : Nat) t v, Tryd.f9.params[j]? = some t → args[j]? = some v → Value.okWide Tryd.prog W .any base t v := hval0
  have hW' := hW
  obtain ⟨p, q, hA0, hV, rfl, hfz, hnd⟩ := hW
  have hA : DataW.TrodAll enc Tryd.prog W 0 (fun _ => true) true Tryd.f9.params.toList args.toList ds p := hA0
  rw [Tryd.params9] at hA hval
  obtain ⟨v0, vs0, d0, ds0, p0, q0, hargs, rfl, rfl, h0, r0⟩ := trodAll_cons hA
  obtain ⟨v1, vs1, d1, ds1, p1, q1, rfl, rfl, rfl, h1, r1⟩ := trodAll_cons r0
  obtain ⟨v2, vs2, d2, ds2, p2, q2, rfl, rfl, rfl, h2, r2⟩ := trodAll_cons r1
  obtain ⟨rfl, rfl, rfl⟩ := trodAll_nil r2
  obtain rfl : args = #[v0, v1, v2] := by cases args; simp_all
  obtain ⟨rfl, rfl⟩ := trodVars_none hV
  have hdirs := dirs_of hL
  have k0 := h0
  have lt0 : ∀ x ∈ p0, x.block < W.heap.size := by obtain ⟨m, hm⟩ := k0; exact DataW.trod_lt m _ _ _ hm
  obtain ⟨Wd, Hd, aL, aS, cL, cS, n, L, S, rfl, hb0⟩ := bay_in (hval 0 25 v0 rfl rfl) h0
  have k1 := h1
  have lt1 : ∀ x ∈ p1, x.block < W.heap.size := by obtain ⟨m, hm⟩ := k1; exact DataW.trod_lt m _ _ _ hm
  obtain ⟨K, aw, aO, cO, O, rfl, hb1⟩ := slick_in (hval 1 28 v1 rfl rfl) h1
  have k2 := h2
  have lt2 : ∀ x ∈ p2, x.block < W.heap.size := by obtain ⟨m, hm⟩ := k2; exact DataW.trod_lt m _ _ _ hm
  obtain ⟨n0, m0, rfl, hn0, hm0⟩ := pair_in (hval 2 59 v2 rfl rfl) h2
  clear hA0 hval0
  refine (walk Wd Hd aL aS aO cL cS cO L n S K O aw n0 m0 W hb0 hb1 hdirs hn0 hm0).mono fun e W' ⟨he, bel⟩ => ?_
  subst he
  exact ⟨_, rfl, _, _, _, [], _, [], hW', trodAll_mk1 (shut_bool Tryd.underlying4 _), (trodAll_cons_mk (Below.trod laidOut (by kernel_rfl) (of_decide_eq_true (by kernel_rfl)) k0 bel lt0) (trodAll_cons_mk (Below.trod laidOut (by kernel_rfl) (of_decide_eq_true (by kernel_rfl)) k1 bel lt1) (trodAll_cons_mk (Below.trod laidOut (by kernel_rfl) (of_decide_eq_true (by kernel_rfl)) k2 bel lt2) trodAll_mk0))), rfl, bel.frame _, fun h => by cases h⟩

theorem over : Rows.SlickMassSaid :=
  OpenClaim.holds_of_wide 9 Tryd.f9 rfl rfl rfl rfl rfl rfl rfl ⟨rfl, rfl, rfl, rfl, rfl⟩ rfl rfl rfl rfl rfl (by kernel_rfl) Tryd.func9 (by kernel_rfl)
    (of_decide_eq_true (by kernel_rfl)) (by unfold Func.isWrapper; first | (rw [if_pos (by decide +kernel)]; kernel_rfl) | (rw [if_neg (by decide +kernel)]; exact ⟨rfl, rfl⟩))
    (fun os started H enc _ => lifted os started H enc)

/-- The statement: the tied card. -/
theorem proved : Rows.SlickMassCardSaid :=
  Claim7.holds_tied_plain_at .later [] [.data] true (true, "38a074445a3967dedbdfb9374eda118d846433fb573c587a55d7c5edfad1e3dd") false
    over (fun _ h => by cases h) (by kernel_rfl) (fun _ h => by cases h) slickMass_row_tie rfl ⟨rfl, rfl⟩ (by kernel_rfl) rfl
    (fun f fn hf hfn => by
      obtain rfl : f = 9 := Option.some.inj ((show Tryd.prog.funcNamed "skimmer/skimmerlaw02.SlickMass" = some 9 by kernel_rfl).symm.trans hf) |>.symm
      obtain rfl : fn = Tryd.f9 := (Option.some.inj (Tryd.func9.symm.trans hfn)).symm
      exact ⟨by kernel_rfl, fun j t ht => by
        rw [Tryd.params9] at ht
        have hm : t ∈ [25, 28, 59] := by simpa using Array.mem_of_getElem? ht
        have hall : ([25, 28, 59].all fun u => !Tryd.prog.wantsStandIn u) = true := by kernel_rfl
        exact (show Tryd.prog.wantsStandIn t = false by simpa using List.all_eq_true.1 hall t hm)⟩)
    (by kernel_rfl)
end Go.Proofs.YtnbgjgiknfcdkaaDoor.lawSlickMass
