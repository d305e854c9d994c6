/-
  For any bay, any slick of it and any number of moves, the law SlickTurns returns true: a mirrored slick moves in the mirrored bay as the slick in the bay.
  Conditions: the table of directions starts as the program's text lays it.
-/
import Derived.Test.YtnbgjgiknfcdkaaDoorQ
import Derived.Test.YtnbgjgiknfcdkaaDoorR
import Derived.Test.YtnbgjgiknfcdkaaDoorX
import Derived.Test.YtnbgjgiknfcdkaaDoorZb
import Derived.Test.YtnbgjgiknfcdkaaDoorZd
import Derived.Test.YtnbgjgiknfcdkaaDoorCards
import Derived.Test.YtnbgjgiknfcdkaaDoorTie
import Derived.SevenTiedAt
import Derived.Deep.DeepCutAuto
namespace Go.Proofs.YtnbgjgiknfcdkaaDoor.lawSlickTurns
open Go.ChangeShapes Go.WideShapes Go.ChangeAt Go.RowKit Go.Deep Go.Proofs.YtnbgjgiknfcdkaaDoor M
set_option linter.unusedVariables false
set_option linter.unusedSimpArgs false

theorem tri_drew {w : World} {b : Nat} {x y z : Value} (h : Tri w b x y z) : Tri w.drew b x y z := h
theorem below_drew2 {B : Nat} {a b : World} (h : Below B a b) : Below B a.drew b.drew := ⟨h.os, h.tape, h.output, h.size, h.block⟩
theorem bayIn_up {w w' : World} {A A' : Option Addr} {L : List Bool} {n : Nat} {S : List Int} (h : BayIn w w.heap.size A L A' n S) (hb : Below w.heap.size w w') : BayIn w' w'.heap.size A L A' n S := (h.below hb).more hb.size
theorem row_other {w Y : World} {B B' b : Nat} {A : Option Addr} {l : List Int} (h : Row w B A l) (hk : ∀ d : Nat, d ≠ b → Y.heap[d]? = w.heap[d]?) (hA : ∀ a, A = some a → a.block ≠ b) (hB : B ≤ B') : Row Y B' A l :=
  ⟨h.1, fun hn => by
    obtain ⟨b', o, e, hb, hc⟩ := h.2 hn
    exact ⟨b', o, e, by omega, fun i hi => (World.cell?_of_block (hk b' (hA _ e))).trans (hc i hi)⟩⟩
theorem set3_block (w : World) (b : Nat) (x y z : Value) (d : Nat) (hd : d ≠ b) : (((w.setCell ⟨b, 0, none⟩ x).setCell ⟨b, 1, none⟩ y).setCell ⟨b, 2, none⟩ z).heap[d]? = w.heap[d]? := by
  rw [setCell_block _ _ _ _ _ hd, setCell_block _ _ _ _ _ hd, setCell_block _ _ _ _ _ hd]
theorem set3_size (w : World) (b : Nat) (x y z : Value) : (((w.setCell ⟨b, 0, none⟩ x).setCell ⟨b, 1, none⟩ y).setCell ⟨b, 2, none⟩ z).heap.size = w.heap.size := by simp [World.setCell]
theorem validB_of_bay {w h : Nat} {L : List Bool} {S : List Int} (hB : Bay w h L S) : validB w h L (w * h) S = true := by
  obtain ⟨⟨⟨a, b⟩, c, d⟩, ⟨e, f⟩, g⟩ := hB
  exact validB_true ⟨⟨⟨by omega, by omega⟩, by omega, by omega⟩, ⟨by rw [e]; simp, by simp⟩, g⟩
theorem amt_mO {w n : Nat} {O : List Int} {aw : Int} (hO : O.length = n) (hmi : ∀ i, i < n → mi w i < n) : amt (mO w n O) aw = mA w n (amt O aw) := by
  refine ints_ext (by rw [amt_len, mO_len, mA_len]) (fun i hi => ?_)
  rw [amt_len, mO_len] at hi
  rw [mA_el (by omega)]
  unfold mp
  by_cases e : i < n
  · rw [if_pos e, amt_el _ _ _ (by rw [mO_len]; exact e), amt_el _ _ _ (by rw [hO]; exact hmi i e), mO_el e]
  · have e2 : i = n := by omega
    rw [if_neg e, e2]
    have h1 := amt_away (mO w n O) aw
    rw [mO_len] at h1
    have h2 := amt_away O aw
    rw [hO] at h2
    rw [h1, h2]
theorem pre_mA {w n : Nat} {a : List Int} (hmi : ∀ i, i < n → mi w i < n) : pre n (mA w n a) = mO w n (pre n a) := by
  refine ints_ext (by rw [pre_len, mO_len]) (fun i hi => ?_)
  rw [pre_len] at hi
  have e1 : el (pre n (mA w n a)) i = el (mA w n a) i := mk_el _ _ _ hi
  have e2 : el (pre n a) (mi w i) = el a (mi w i) := mk_el _ _ _ (hmi i hi)
  rw [e1, mA_el (by omega), mO_el hi, e2]
  unfold mp
  rw [if_pos hi]
theorem el_mA_away {w n : Nat} {a : List Int} : el (mA w n a) n = el a n := by
  rw [mA_el (Nat.le_refl _)]
  unfold mp
  rw [if_neg (by omega)]

set_option maxRecDepth 100000 in
set_option maxHeartbeats 8000000 in
theorem out (W H : Int) (aL aS aO : Option Addr) (cL cS cO : Nat) (L : List Bool) (n : Nat) (S : List Int) (K : Int) (O : List Int) (aw : Int) (n0 : Nat) (w : World) (h : BayIn w w.heap.size aL L aS n S) (hO : Row w w.heap.size aO O) (hd : Dirs w) (hn0 : n0 ≤ 255)
    (hout : (decide (100 < L.length) || decide (100 < n)) = true ∨ validB W H L n S = false ∨ slkB L.length K O aw = false) :
    Calls Tryd.prog 13 #[.agg #[.int .i64 W, .int .i64 H, .slice aL L.length cL, .slice aS n cS], .agg #[.int .i64 K, .slice aO O.length cO, .int .i64 aw], .int .u8 n0] w fun e w' => e = .returned (.bool true) ∧ Below w.heap.size w w' := by
  have hst := (law2_start w (.int .i64 W) (.int .i64 H) (.slice aL L.length cL) (.slice aS n cS) (.int .i64 K) (.slice aO O.length cO) (.int .i64 aw))
  have hs1 : 1 ≤ w.heap.size := hd.1
  have sane : ∀ X, Law2 w (.int .i64 W) (.int .i64 H) (.slice aL L.length cL) (.slice aS n cS) (.int .i64 K) (.slice aO O.length cO) (.int .i64 aw) X → Calls Tryd.prog 17 #[] X fun e w' => e = .returned (.bool true) ∧ Below w.heap.size w w' := fun X hX =>
    (Sane_any X (hd.below hX.2.1 hs1)).mono fun e w' ⟨he, hb⟩ => ⟨he, hX.2.1.trans (hb.mono hX.2.1.size)⟩
  have c15 : ∀ X, Law2 w (.int .i64 W) (.int .i64 H) (.slice aL L.length cL) (.slice aS n cS) (.int .i64 K) (.slice aO O.length cO) (.int .i64 aw) X → Calls Tryd.prog 15 #[.agg #[.int .i64 W, .int .i64 H, .slice aL L.length cL, .slice aS n cS]] X fun e w' => e = .returned (.bool (decide (100 < L.length) || decide (100 < n))) ∧ Law2 w (.int .i64 W) (.int .i64 H) (.slice aL L.length cL) (.slice aS n cS) (.int .i64 K) (.slice aO O.length cO) (.int .i64 aw) w' := fun X hX =>
    (Long_any W H aL aS cL n cS L.length X h.land.1 h.share.1).mono fun e w' ⟨he, hb⟩ => ⟨he, hX.call hb⟩
  have c21 : ∀ X, Law2 w (.int .i64 W) (.int .i64 H) (.slice aL L.length cL) (.slice aS n cS) (.int .i64 K) (.slice aO O.length cO) (.int .i64 aw) X → Calls Tryd.prog 21 #[.agg #[.int .i64 W, .int .i64 H, .slice aL L.length cL, .slice aS n cS]] X fun e w' => e = .returned (.bool (validB W H L n S)) ∧ Law2 w (.int .i64 W) (.int .i64 H) (.slice aL L.length cL) (.slice aS n cS) (.int .i64 K) (.slice aO O.length cO) (.int .i64 aw) w' := fun X hX =>
    (Valid_ref _ W H aL aS cL cS L n S X (h.below hX.2.1) hX.2.1.size).mono fun e w' ⟨he, hb⟩ => ⟨he, hX.call hb⟩
  replace sane := Lib.hid sane
  replace hst := Lib.hid hst
  cases hlb : (decide (100 < L.length) || decide (100 < n)) with
  | true =>
    rw [hlb] at c15
    replace c15 := Lib.hid c15
    clear c21 hlb hout
    have h0 := hst.out
    go_enter Tryd.func13, Tryd.ntmps13
    obtain ⟨⟨⟨g0, g1, g2, g3⟩, g4, g5, g6⟩, _, _⟩ := id h0
    go_wp2_with fail
    refine (c15.out _ h0).mono ?_
    rintro e w1 ⟨rfl, h1⟩
    clear g0 g1 g2 g3 g4 g5 g6
    go_wp2_with fail
    refine (sane.out _ h1).mono ?_
    rintro e w2 ⟨rfl, h2⟩
    go_wp2
    go_ret
    exact ⟨rfl, h2⟩
  | false =>
  rw [hlb] at c15
  cases hv : validB W H L n S with
  | false =>
    rw [hv] at c21
    replace c15 := Lib.hid c15
    replace c21 := Lib.hid c21
    clear hlb hout hv
    have h0 := hst.out
    go_enter Tryd.func13, Tryd.ntmps13
    obtain ⟨⟨⟨g0, g1, g2, g3⟩, g4, g5, g6⟩, _, _⟩ := id h0
    go_wp2_with fail
    refine (c15.out _ h0).mono ?_
    rintro e w1 ⟨rfl, h1⟩
    clear g0 g1 g2 g3 g4 g5 g6
    obtain ⟨⟨⟨g0, g1, g2, g3⟩, g4, g5, g6⟩, _, _⟩ := id h1
    go_wp2_with fail
    refine (c21.out _ h1).mono ?_
    rintro e w2 ⟨rfl, h2⟩
    clear g0 g1 g2 g3 g4 g5 g6
    obtain ⟨⟨⟨g0, g1, g2, g3⟩, g4, g5, g6⟩, _, _⟩ := id h2
    go_wp2_with fail
    refine (sane.out _ h2).mono ?_
    rintro e w3 ⟨rfl, h3⟩
    go_wp2
    go_ret
    exact ⟨rfl, h3⟩
  | true =>
  have hs : slkB L.length K O aw = false := by
    rcases hout with h | h | h
    · rw [hlb] at h; cases h
    · rw [hv] at h; cases h
    · exact h
  have hV := val_of hv
  have h36 : L.length ≤ 36 := by
    have := hV.2.1.1
    have := Int.mul_le_mul hV.1.1.2 hV.1.2.2 (by have := hV.1.2.1; omega) (by omega)
    omega
  have c51 : ∀ X, Law2 w (.int .i64 W) (.int .i64 H) (.slice aL L.length cL) (.slice aS n cS) (.int .i64 K) (.slice aO O.length cO) (.int .i64 aw) X → Calls Tryd.prog 51 #[.agg #[.int .i64 W, .int .i64 H, .slice aL L.length cL, .slice aS n cS], .agg #[.int .i64 K, .slice aO O.length cO, .int .i64 aw]] X fun e w' => e = .returned (.bool false) ∧ Law2 w (.int .i64 W) (.int .i64 H) (.slice aL L.length cL) (.slice aS n cS) (.int .i64 K) (.slice aO O.length cO) (.int .i64 aw) w' := fun X hX => by
    rw [← hs]
    exact (Is_any _ W H aL aS aO cL cS cO L.length n K O aw X (hO.below hX.2.1) hX.2.1.size hV.2.1.1 h36).mono fun e w' ⟨he, hb⟩ => ⟨he, hX.call hb⟩
  rw [hv] at c21
  replace c15 := Lib.hid c15
  replace c21 := Lib.hid c21
  replace c51 := Lib.hid c51
  clear hlb hout hv hV hs
  have h0 := hst.out
  go_enter Tryd.func13, Tryd.ntmps13
  obtain ⟨⟨⟨g0, g1, g2, g3⟩, g4, g5, g6⟩, _, _⟩ := id h0
  go_wp2_with fail
  refine (c15.out _ h0).mono ?_
  rintro e w1 ⟨rfl, h1⟩
  clear g0 g1 g2 g3 g4 g5 g6
  obtain ⟨⟨⟨g0, g1, g2, g3⟩, g4, g5, g6⟩, _, _⟩ := id h1
  go_wp2_with fail
  refine (c21.out _ h1).mono ?_
  rintro e w2 ⟨rfl, h2⟩
  clear g0 g1 g2 g3 g4 g5 g6
  obtain ⟨⟨⟨g0, g1, g2, g3⟩, g4, g5, g6⟩, _, _⟩ := id h2
  go_wp2_with fail
  refine (c51.out _ h2).mono ?_
  rintro e w3 ⟨rfl, h3⟩
  clear g0 g1 g2 g3 g4 g5 g6
  obtain ⟨⟨⟨g0, g1, g2, g3⟩, g4, g5, g6⟩, _, _⟩ := id h3
  go_wp2_with fail
  refine (sane.out _ h3).mono ?_
  rintro e w4 ⟨rfl, h4⟩
  go_wp2
  go_ret
  exact ⟨rfl, h4⟩

set_option maxRecDepth 100000 in
set_option maxHeartbeats 8000000 in
theorem inn (wn hn : Nat) (aL aS aO : Option Addr) (cL cS cO : Nat) (L : List Bool) (S : List Int) (k0 : Nat) (O : List Int) (aw : Int) (n0 : Nat) (w : World) (h : BayIn w w.heap.size aL L aS (wn * hn) S) (hO : Row w w.heap.size aO O) (hd : Dirs w) (hn0 : n0 ≤ 255)
    (hlb : (decide (100 < L.length) || decide (100 < wn * hn)) = false) (hv : validB wn hn L (wn * hn) S = true) (hs : slkB L.length k0 O aw = true) (hBay : Bay wn hn L S) :
    Calls Tryd.prog 13 #[.agg #[.int .i64 (wn : Nat), .int .i64 (hn : Nat), .slice aL L.length cL, .slice aS (wn * hn) cS], .agg #[.int .i64 (k0 : Nat), .slice aO (wn * hn) cO, .int .i64 aw], .int .u8 n0] w fun e w' => e = .returned (.bool true) ∧ Below w.heap.size w w' := by
  have hst := (law2_start w (.int .i64 (wn : Nat)) (.int .i64 (hn : Nat)) (.slice aL L.length cL) (.slice aS (wn * hn) cS) (.int .i64 (k0 : Nat)) (.slice aO (wn * hn) cO) (.int .i64 aw))
  have hs1 : 1 ≤ w.heap.size := hd.1
  have hSl := slk_of hs
  have hP := hSl.2
  have hk0 : k0 ≤ 5 := by have := hP.1; omega
  have hLN := hBay.2.1.1
  have hON : O.length = wn * hn := by rw [hSl.1, hLN]
  have hN36 := hBay.cells
  have hw1 := hBay.1.1
  have hh1 := hBay.1.2
  have hmi : ∀ i, i < wn * hn → mi wn i < wn * hn := fun i hi => mi_lt hw1.1 hi
  obtain ⟨i, hi⟩ : ∃ i, i = n0 % (6 - k0) := ⟨_, rfl⟩
  have hil : i < 6 - k0 := by rw [hi]; exact Nat.mod_lt _ (by omega)
  have hi1 : (n0 : Int).tmod (5 - (k0 : Int) + 1) = i := by
    rw [Int.tmod_eq_emod_of_nonneg (by omega), hi, Int.natCast_emod]
    congr 1
    omega
  have hi2 : (n0 : Int) % ((6 - k0 : Nat) : Int) = i := by rw [hi, Int.natCast_emod]
  have hx := aftR_ok (n := i) hv hs (by omega)
  have hBM := hBay.mirror
  have hvM := validB_of_bay hBM
  have hsM : slkB (mL wn (wn * hn) L).length k0 (mO wn (wn * hn) O) aw = true := slkB_true (by rw [mO_len, mL_len]) ⟨hP.1, by
      rw [amt_mO hON hmi]
      intro j hj
      rw [mA_len] at hj
      rw [mA_el (by omega)]
      have := mp_lt (w := wn) (h := hn) (p := j) hw1.1 hj
      exact hP.2.1 _ (by rw [amt_len, hON]; exact this), by rw [amt_mO hON hmi, tot_mirror hw1.1 (by rw [amt_len, hON])]; exact hP.2.2⟩
  have hy := aftR_ok (n := i) hvM hsM (by omega)
  rw [amt_mO hON hmi, af_mirror hw1.1, pre_mA hmi, el_mA_away] at hy
  have sane : ∀ X, Below w.heap.size w X → Calls Tryd.prog 17 #[] X fun e w' => e = .returned (.bool true) ∧ Below X.heap.size X w' := fun X hX => Sane_any X (hd.below hX hs1)
  have c15 : ∀ X, Law2 w (.int .i64 (wn : Nat)) (.int .i64 (hn : Nat)) (.slice aL L.length cL) (.slice aS (wn * hn) cS) (.int .i64 (k0 : Nat)) (.slice aO (wn * hn) cO) (.int .i64 aw) X → Calls Tryd.prog 15 #[.agg #[.int .i64 (wn : Nat), .int .i64 (hn : Nat), .slice aL L.length cL, .slice aS (wn * hn) cS]] X fun e w' => e = .returned (.bool false) ∧ Law2 w (.int .i64 (wn : Nat)) (.int .i64 (hn : Nat)) (.slice aL L.length cL) (.slice aS (wn * hn) cS) (.int .i64 (k0 : Nat)) (.slice aO (wn * hn) cO) (.int .i64 aw) w' := fun X hX => by
    rw [← hlb]
    exact (Long_any wn hn aL aS cL (wn * hn) cS L.length X h.land.1 h.share.1).mono fun e w' ⟨he, hb⟩ => ⟨he, hX.call hb⟩
  have c21 : ∀ X, Law2 w (.int .i64 (wn : Nat)) (.int .i64 (hn : Nat)) (.slice aL L.length cL) (.slice aS (wn * hn) cS) (.int .i64 (k0 : Nat)) (.slice aO (wn * hn) cO) (.int .i64 aw) X → Calls Tryd.prog 21 #[.agg #[.int .i64 (wn : Nat), .int .i64 (hn : Nat), .slice aL L.length cL, .slice aS (wn * hn) cS]] X fun e w' => e = .returned (.bool true) ∧ Law2 w (.int .i64 (wn : Nat)) (.int .i64 (hn : Nat)) (.slice aL L.length cL) (.slice aS (wn * hn) cS) (.int .i64 (k0 : Nat)) (.slice aO (wn * hn) cO) (.int .i64 aw) w' := fun X hX => by
    rw [← hv]
    exact (Valid_ref _ wn hn aL aS cL cS L (wn * hn) S X (h.below hX.2.1) hX.2.1.size).mono fun e w' ⟨he, hb⟩ => ⟨he, hX.call hb⟩
  have c51 : ∀ X, Law2 w (.int .i64 (wn : Nat)) (.int .i64 (hn : Nat)) (.slice aL L.length cL) (.slice aS (wn * hn) cS) (.int .i64 (k0 : Nat)) (.slice aO (wn * hn) cO) (.int .i64 aw) X → Calls Tryd.prog 51 #[.agg #[.int .i64 (wn : Nat), .int .i64 (hn : Nat), .slice aL L.length cL, .slice aS (wn * hn) cS], .agg #[.int .i64 (k0 : Nat), .slice aO (wn * hn) cO, .int .i64 aw]] X fun e w' => e = .returned (.bool true) ∧ Law2 w (.int .i64 (wn : Nat)) (.int .i64 (hn : Nat)) (.slice aL L.length cL) (.slice aS (wn * hn) cS) (.int .i64 (k0 : Nat)) (.slice aO (wn * hn) cO) (.int .i64 aw) w' := fun X hX => by
    have h1 := Is_any _ wn hn aL aS aO cL cS cO L.length (wn * hn) k0 O aw X (hO.below hX.2.1) hX.2.1.size (val_of hv).2.1.1 (by omega)
    rw [hs, hON] at h1
    exact h1.mono fun e w' ⟨he, hb⟩ => ⟨he, hX.call hb⟩
  have c48 : ∀ X, Law2 w (.int .i64 (wn : Nat)) (.int .i64 (hn : Nat)) (.slice aL L.length cL) (.slice aS (wn * hn) cS) (.int .i64 (k0 : Nat)) (.slice aO (wn * hn) cO) (.int .i64 aw) X → Calls Tryd.prog 48 #[.agg #[.int .i64 (wn : Nat), .int .i64 (hn : Nat), .slice aL L.length cL, .slice aS (wn * hn) cS]] X fun e X' => ∃ A A' c c', e = .returned (.tuple #[.agg #[.int .i64 (wn : Nat), .int .i64 (hn : Nat), .slice A (wn * hn) c, .slice A' (wn * hn) c'], .int .i64 0]) ∧ Below X.heap.size X X' ∧ BayIn X' X'.heap.size A (mL wn (wn * hn) L) A' (wn * hn) (mS wn (wn * hn) S) := fun X hX =>
    Mirror_ok _ wn hn aL aS cL cS L S X (h.below hX.2.1) hX.2.1.size hv hBay
  have cx : ∀ X, Law2 w (.int .i64 (wn : Nat)) (.int .i64 (hn : Nat)) (.slice aL L.length cL) (.slice aS (wn * hn) cS) (.int .i64 (k0 : Nat)) (.slice aO (wn * hn) cO) (.int .i64 aw) X → Calls Tryd.prog 31 #[.agg #[.int .i64 (wn : Nat), .int .i64 (hn : Nat), .slice aL L.length cL, .slice aS (wn * hn) cS], .agg #[.int .i64 (k0 : Nat), .slice aO (wn * hn) cO, .int .i64 aw], .int .i64 (i : Nat)] X fun e X' => ∃ A c, e = .returned (.tuple #[.agg #[.int .i64 ((k0 + i : Nat) : Int), .slice A (wn * hn) c, .int .i64 (el (af wn hn L S i (amt O aw)) (wn * hn))], .int .i64 0]) ∧ Below X.heap.size X X' ∧ Row X' X'.heap.size A (pre (wn * hn) (af wn hn L S i (amt O aw))) := fun X hX => by
    have h1 := After_any w.heap.size wn hn aL aS aO cL cS cO L (wn * hn) S k0 O aw i X (h.below hX.2.1) (hO.below hX.2.1) hX.2.1.size hs1 (hd.below hX.2.1 hs1) (by omega)
    rw [hx, hON] at h1
    refine h1.mono ?_
    rintro e X' ⟨A, c, he, hb, hr, _⟩
    dsimp only at he hr
    rw [pre_len] at he
    exact ⟨A, c, he, hb, hr⟩
  have c58 : ∀ X, Law2 w (.int .i64 (wn : Nat)) (.int .i64 (hn : Nat)) (.slice aL L.length cL) (.slice aS (wn * hn) cS) (.int .i64 (k0 : Nat)) (.slice aO (wn * hn) cO) (.int .i64 aw) X → Calls Tryd.prog 58 #[.agg #[.int .i64 (wn : Nat), .int .i64 (hn : Nat), .slice aL L.length cL, .slice aS (wn * hn) cS], .slice aO (wn * hn) cO] X fun e X' => ∃ A c, e = .returned (.slice A (wn * hn) c) ∧ Below X.heap.size X X' ∧ Row X' X'.heap.size A (mO wn (wn * hn) O) := fun X hX => by
    have h1 := Mirrored_ref w.heap.size wn hn (.slice aL L.length cL) (.slice aS (wn * hn) cS) aO cO O X hw1 hh1 (hO.below hX.2.1) hX.2.1.size hON
    rw [hON] at h1
    refine h1.mono ?_
    intro e X' h2
    obtain ⟨A, c, he, hb, hr⟩ := h2.row (by rw [mO_len]; omega)
    rw [mO_len] at he
    exact ⟨A, c, he, hb, hr⟩
  have c58x : ∀ X A1 c1, Law2 w (.int .i64 (wn : Nat)) (.int .i64 (hn : Nat)) (.slice aL L.length cL) (.slice aS (wn * hn) cS) (.int .i64 (k0 : Nat)) (.slice aO (wn * hn) cO) (.int .i64 aw) X → Row X X.heap.size A1 (pre (wn * hn) (af wn hn L S i (amt O aw))) → Calls Tryd.prog 58 #[.agg #[.int .i64 (wn : Nat), .int .i64 (hn : Nat), .slice aL L.length cL, .slice aS (wn * hn) cS], .slice A1 (wn * hn) c1] X fun e X' => ∃ A c, e = .returned (.slice A (wn * hn) c) ∧ Below X.heap.size X X' ∧ Row X' X'.heap.size A (mO wn (wn * hn) (pre (wn * hn) (af wn hn L S i (amt O aw)))) := fun X A1 c1 hX r1 => by
    have h1 := Mirrored_ref X.heap.size wn hn (.slice aL L.length cL) (.slice aS (wn * hn) cS) A1 c1 (pre (wn * hn) (af wn hn L S i (amt O aw))) X hw1 hh1 r1 (Nat.le_refl _) (pre_len _ _)
    rw [pre_len] at h1
    refine h1.mono ?_
    intro e X' h2
    obtain ⟨A, c, he, hb, hr⟩ := h2.row (by rw [mO_len]; omega)
    rw [mO_len] at he
    exact ⟨A, c, he, hb, hr⟩
  have cy : ∀ X A A' c c' A1 c1, Law2 w (.int .i64 (wn : Nat)) (.int .i64 (hn : Nat)) (.slice aL L.length cL) (.slice aS (wn * hn) cS) (.int .i64 (k0 : Nat)) (.slice aO (wn * hn) cO) (.int .i64 aw) X → BayIn X X.heap.size A (mL wn (wn * hn) L) A' (wn * hn) (mS wn (wn * hn) S) → Row X X.heap.size A1 (mO wn (wn * hn) O) → Calls Tryd.prog 31 #[.agg #[.int .i64 (wn : Nat), .int .i64 (hn : Nat), .slice A (wn * hn) c, .slice A' (wn * hn) c'], .agg #[.int .i64 (k0 : Nat), .slice A1 (wn * hn) c1, .int .i64 aw], .int .i64 (i : Nat)] X fun e X' => ∃ A c, e = .returned (.tuple #[.agg #[.int .i64 ((k0 + i : Nat) : Int), .slice A (wn * hn) c, .int .i64 (el (af wn hn L S i (amt O aw)) (wn * hn))], .int .i64 0]) ∧ Below X.heap.size X X' ∧ Row X' X'.heap.size A (mO wn (wn * hn) (pre (wn * hn) (af wn hn L S i (amt O aw)))) ∧ Fresh X.heap.size A := fun X A A' c c' A1 c1 hX hm r1 => by
    have h1 := After_any X.heap.size wn hn A A' A1 c c' c1 (mL wn (wn * hn) L) (wn * hn) (mS wn (wn * hn) S) k0 (mO wn (wn * hn) O) aw i X hm r1 (Nat.le_refl _) (Nat.le_trans hs1 hX.2.1.size) (hd.below hX.2.1 hs1) (by omega)
    rw [hy, mL_len, mO_len] at h1
    refine h1.mono ?_
    rintro e X' ⟨A, c, he, hb, hr, hf⟩
    dsimp only at he hr
    rw [mO_len] at he
    exact ⟨A, c, he, hb, hr, hf⟩
  have c28 : ∀ X A A' c c', Row X X.heap.size A (mO wn (wn * hn) (pre (wn * hn) (af wn hn L S i (amt O aw)))) → Row X X.heap.size A' (mO wn (wn * hn) (pre (wn * hn) (af wn hn L S i (amt O aw)))) → Calls Tryd.prog 28 #[.slice A (wn * hn) c, .slice A' (wn * hn) c'] X fun e X' => e = .returned (.bool true) ∧ Below X.heap.size X X' := fun X A A' c c' r1 r2 => by
    have h1 := SameInts_ref _ A A' c c' _ _ X r1 r2
    rw [mO_len] at h1
    refine h1.mono ?_
    rintro e X' ⟨rfl, n, rfl⟩
    exact ⟨by simp, below_drewN (Below.refl _ _) n⟩
  clear hx hy hsM hvM hBM
  generalize ((k0 + i : Nat) : Int) = ki at *
  generalize mO wn (wn * hn) (pre (wn * hn) (af wn hn L S i (amt O aw))) = ly at *
  generalize (pre (wn * hn) (af wn hn L S i (amt O aw))) = lx at *
  generalize (el (af wn hn L S i (amt O aw)) (wn * hn)) = x1 at *
  generalize mO wn (wn * hn) O = lo at *
  clear hlb hv hs hP hSl hBay h hO hd hs1
  replace sane := Lib.hid sane
  replace c15 := Lib.hid c15
  replace c21 := Lib.hid c21
  replace c51 := Lib.hid c51
  replace c48 := Lib.hid c48
  replace cx := Lib.hid cx
  replace c58 := Lib.hid c58
  replace c58x := Lib.hid c58x
  replace cy := Lib.hid cy
  replace c28 := Lib.hid c28
  replace hLN := Lib.hid hLN
  replace hON := Lib.hid hON
  replace hi2 := Lib.hid hi2
  replace hmi := Lib.hid hmi
  have h0 := hst
  clear hst
  go_enter Tryd.func13, Tryd.ntmps13
  obtain ⟨⟨⟨g0, g1, g2, g3⟩, g4, g5, g6⟩, _, _⟩ := id h0
  go_wp2_with fail
  refine (c15.out _ h0).mono ?_
  rintro e w1 ⟨rfl, h1⟩
  clear g0 g1 g2 g3 g4 g5 g6
  obtain ⟨⟨⟨g0, g1, g2, g3⟩, g4, g5, g6⟩, _, _⟩ := id h1
  go_wp2_with fail
  refine (c21.out _ h1).mono ?_
  rintro e w2 ⟨rfl, h2⟩
  clear g0 g1 g2 g3 g4 g5 g6
  obtain ⟨⟨⟨g0, g1, g2, g3⟩, g4, g5, g6⟩, _, _⟩ := id h2
  go_wp2_with fail
  refine (c51.out _ h2).mono ?_
  rintro e w3 ⟨rfl, h3⟩
  clear g0 g1 g2 g3 g4 g5 g6
  obtain ⟨⟨⟨g0, g1, g2, g3⟩, g4, g5, g6⟩, _, _⟩ := id h3
  go_wp2_with fail
  rw [hi2.out]
  clear hi hi1 hi2
  refine (c48.out _ h3).mono ?_
  rintro e w4 ⟨Am, Am', cm, cm', rfl, hb4, m4⟩
  have h5 := (h3.call hb4).alloc (.cells #[.int .i64 (wn : Nat), .int .i64 (hn : Nat), .slice Am (wn * hn) cm, .slice Am' (wn * hn) cm'] 25)
  have q5 := Quad.new w4 (.int .i64 (wn : Nat)) (.int .i64 (hn : Nat)) (.slice Am (wn * hn) cm) (.slice Am' (wn * hn) cm')
  have m5 := bayIn_up m4 (ba1 w4 (.cells #[.int .i64 (wn : Nat), .int .i64 (hn : Nat), .slice Am (wn * hn) cm, .slice Am' (wn * hn) cm'] 25))
  clear g0 g1 g2 g3 g4 g5 g6
  clear hb4 m4 h0 h1 h2 h3
  obtain ⟨⟨⟨g0, g1, g2, g3⟩, g4, g5, g6⟩, _, _⟩ := id h5
  go_wp2_with fail
  refine (cx.out _ h5).mono ?_
  rintro e w6 ⟨Ax, cx1, rfl, hb6, r6⟩
  clear g0 g1 g2 g3 g4 g5 g6
  obtain ⟨P, hP⟩ : ∃ P : World → Prop, ∀ X, P X ↔ (Law2 w (.int .i64 (wn : Nat)) (.int .i64 (hn : Nat)) (.slice aL L.length cL) (.slice aS (wn * hn) cS) (.int .i64 (k0 : Nat)) (.slice aO (wn * hn) cO) (.int .i64 aw) X ∧ Quad X w4.heap.size (.int .i64 (wn : Nat)) (.int .i64 (hn : Nat)) (.slice Am (wn * hn) cm) (.slice Am' (wn * hn) cm') ∧ BayIn X X.heap.size Am (mL wn (wn * hn) L) Am' (wn * hn) (mS wn (wn * hn) S) ∧ Tri X w6.heap.size (.int .i64 ki) (.slice Ax (wn * hn) cx1) (.int .i64 x1) ∧ Row X X.heap.size Ax lx) := ⟨_, fun _ => Iff.rfl⟩
  have hup : ∀ X Y, P X → Below X.heap.size X Y → P Y := fun X Y hX hb => by
    obtain ⟨a1, a2, a3, a4, a5⟩ := (hP X).1 hX
    exact (hP Y).2 ⟨a1.call hb, a2.up hb, bayIn_up a3 hb, a4.up hb, a5.up hb⟩
  have h7 : P (w6.alloc (.cells #[.int .i64 ki, .slice Ax (wn * hn) cx1, .int .i64 x1] 28)) := (hP _).2 ⟨(h5.call hb6).alloc _, (q5.up hb6).up (ba1 _ _), bayIn_up (bayIn_up m5 hb6) (ba1 _ _), Tri.new _ _ _ _, r6.up (ba1 _ _)⟩
  have hS : ∀ X, P X → (((X.cell? ⟨w.heap.size, 0, none⟩ = some (.int .i64 (wn : Nat)) ∧ X.cell? ⟨w.heap.size, 1, none⟩ = some (.int .i64 (hn : Nat)) ∧ X.cell? ⟨w.heap.size, 2, none⟩ = some (.slice aL L.length cL) ∧ X.cell? ⟨w.heap.size, 3, none⟩ = some (.slice aS (wn * hn) cS)) ∧ (X.cell? ⟨w.heap.size + 1, 0, none⟩ = some (.int .i64 (k0 : Nat)) ∧ X.cell? ⟨w.heap.size + 1, 1, none⟩ = some (.slice aO (wn * hn) cO) ∧ X.cell? ⟨w.heap.size + 1, 2, none⟩ = some (.int .i64 aw))) ∧ X.cell? ⟨w4.heap.size, 0, none⟩ = some (.int .i64 (wn : Nat)) ∧ X.cell? ⟨w4.heap.size, 1, none⟩ = some (.int .i64 (hn : Nat)) ∧ X.cell? ⟨w4.heap.size, 2, none⟩ = some (.slice Am (wn * hn) cm) ∧ X.cell? ⟨w4.heap.size, 3, none⟩ = some (.slice Am' (wn * hn) cm')) := fun X hX => by
    obtain ⟨a, q, _⟩ := (hP X).1 hX
    have a1 := a.1
    unfold Bx2 at a1
    exact ⟨a1, q.c0, q.c1, q.c2, q.c3⟩
  have dr : ∀ X : World, Below X.heap.size X X.drew := fun X => below_drewN (Below.refl _ _) 1
  have h8 : P (w6.alloc (.cells #[.int .i64 ki, .slice Ax (wn * hn) cx1, .int .i64 x1] 28)).drew := hup _ _ h7 (dr _)
  have h8a : P ((w6.alloc (.cells #[.int .i64 ki, .slice Ax (wn * hn) cx1, .int .i64 x1] 28)).alloc (.cells #[.int .i64 0, .slice none 0 0, .int .i64 0] 28)).drew := hup _ _ (hup _ _ h7 (ba1 _ (.cells #[.int .i64 0, .slice none 0 0, .int .i64 0] 28))) (dr _)
  have b8a : Below (w6.heap.size + 1) (w6.alloc (.cells #[.int .i64 ki, .slice Ax (wn * hn) cx1, .int .i64 x1] 28)).drew ((w6.alloc (.cells #[.int .i64 ki, .slice Ax (wn * hn) cx1, .int .i64 x1] 28)).alloc (.cells #[.int .i64 0, .slice none 0 0, .int .i64 0] 28)).drew := by
    have := below_drew2 (ba1 (w6.alloc (.cells #[.int .i64 ki, .slice Ax (wn * hn) cx1, .int .i64 x1] 28)) (.cells #[.int .i64 0, .slice none 0 0, .int .i64 0] 28))
    simpa using this
  have ta0 : Tri ((w6.alloc (.cells #[.int .i64 ki, .slice Ax (wn * hn) cx1, .int .i64 x1] 28)).alloc (.cells #[.int .i64 0, .slice none 0 0, .int .i64 0] 28)).drew (w6.heap.size + 1) (.int .i64 0) (.slice none 0 0) (.int .i64 0) := by
    have := tri_drew (Tri.new (w6.alloc (.cells #[.int .i64 ki, .slice Ax (wn * hn) cx1, .int .i64 x1] 28)) (.int .i64 0) (.slice none 0 0) (.int .i64 0))
    simpa using this
  have z8 : (w6.alloc (.cells #[.int .i64 ki, .slice Ax (wn * hn) cx1, .int .i64 x1] 28)).drew.heap.size = w6.heap.size + 1 := by simp
  have cyP : ∀ X A1 c1, P X → Row X X.heap.size A1 lo → _ := fun X A1 c1 hX r => cy.out X Am Am' cm cm' A1 c1 ((hP X).1 hX).1 ((hP X).1 hX).2.2.1 r
  have c58P : ∀ X, P X → _ := fun X hX => c58.out X ((hP X).1 hX).1
  have finF : ∀ X2 b11 A c, Below (w6.heap.size + 1) (w6.alloc (.cells #[.int .i64 ki, .slice Ax (wn * hn) cx1, .int .i64 x1] 28)).drew X2 → Tri X2 b11 (.int .i64 0) (.slice none 0 0) (.int .i64 0) → w6.heap.size + 1 ≤ b11 → Row X2 X2.heap.size A ly → (∀ a, A = some a → a.block ≠ b11) →
      P (((X2.setCell ⟨b11, 0, none⟩ (.int .i64 ki)).setCell ⟨b11, 1, none⟩ (.slice A (wn * hn) c)).setCell ⟨b11, 2, none⟩ (.int .i64 x1)) ∧ Tri (((X2.setCell ⟨b11, 0, none⟩ (.int .i64 ki)).setCell ⟨b11, 1, none⟩ (.slice A (wn * hn) c)).setCell ⟨b11, 2, none⟩ (.int .i64 x1)) b11 (.int .i64 ki) (.slice A (wn * hn) c) (.int .i64 x1) ∧
      Row (((X2.setCell ⟨b11, 0, none⟩ (.int .i64 ki)).setCell ⟨b11, 1, none⟩ (.slice A (wn * hn) c)).setCell ⟨b11, 2, none⟩ (.int .i64 x1)) (((X2.setCell ⟨b11, 0, none⟩ (.int .i64 ki)).setCell ⟨b11, 1, none⟩ (.slice A (wn * hn) c)).setCell ⟨b11, 2, none⟩ (.int .i64 x1)).heap.size A ly := fun X2 b11 A c b10 tf hle r2 hne =>
    ⟨hup _ _ h8 (by rw [z8]; exact tri_below b10 hle), tf.set _ _ _, row_other r2 (set3_block X2 b11 _ _ _) hne (by rw [set3_size]; exact Nat.le_refl _)⟩
  have finG : ∀ X2 A c, Below (w6.heap.size + 1) (w6.alloc (.cells #[.int .i64 ki, .slice Ax (wn * hn) cx1, .int .i64 x1] 28)).drew X2 → Row X2 X2.heap.size A ly →
      P (X2.alloc (.cells #[.int .i64 ki, .slice A (wn * hn) c, .int .i64 x1] 28)) ∧ Tri (X2.alloc (.cells #[.int .i64 ki, .slice A (wn * hn) c, .int .i64 x1] 28)) X2.heap.size (.int .i64 ki) (.slice A (wn * hn) c) (.int .i64 x1) ∧ Row (X2.alloc (.cells #[.int .i64 ki, .slice A (wn * hn) c, .int .i64 x1] 28)) (X2.alloc (.cells #[.int .i64 ki, .slice A (wn * hn) c, .int .i64 x1] 28)).heap.size A ly := fun X2 A c b10 r2 =>
    ⟨hup _ _ (hup _ _ h8 (by rw [z8]; exact b10)) (ba1 _ _), Tri.new _ _ _ _, r2.up (ba1 _ _)⟩
  have k8 := hS _ h8
  have k8a := hS _ h8a
  clear hb6 q5 m5 r6 h5 h7 c48 cx c15 c21 c51 c58 cy
  replace hS := Lib.hid hS
  replace hup := Lib.hid hup
  replace finF := Lib.hid finF
  replace finG := Lib.hid finG
  replace cyP := Lib.hid cyP
  replace c58P := Lib.hid c58P
  replace hP := Lib.hid hP
  replace z8 := Lib.hid z8
  replace dr := Lib.hid dr
  go_upto_region 8 with fail
  go_cut [11, 12] from 48 to 62 (fun p q wx => ∃ b11 A c, p = .pointer (some ⟨b11, 0, none⟩) ∧ q = .int .i64 0 ∧ P wx ∧ Tri wx b11 (.int .i64 ki) (.slice A (wn * hn) c) (.int .i64 x1) ∧ Row wx wx.heap.size A ly)
  case first =>
    go_region_held3 (fun X => (((X.cell? ⟨w.heap.size, 0, none⟩ = some (.int .i64 (wn : Nat)) ∧ X.cell? ⟨w.heap.size, 1, none⟩ = some (.int .i64 (hn : Nat)) ∧ X.cell? ⟨w.heap.size, 2, none⟩ = some (.slice aL L.length cL) ∧ X.cell? ⟨w.heap.size, 3, none⟩ = some (.slice aS (wn * hn) cS)) ∧ (X.cell? ⟨w.heap.size + 1, 0, none⟩ = some (.int .i64 (k0 : Nat)) ∧ X.cell? ⟨w.heap.size + 1, 1, none⟩ = some (.slice aO (wn * hn) cO) ∧ X.cell? ⟨w.heap.size + 1, 2, none⟩ = some (.int .i64 aw))) ∧ X.cell? ⟨w4.heap.size, 0, none⟩ = some (.int .i64 (wn : Nat)) ∧ X.cell? ⟨w4.heap.size, 1, none⟩ = some (.int .i64 (hn : Nat)) ∧ X.cell? ⟨w4.heap.size, 2, none⟩ = some (.slice Am (wn * hn) cm) ∧ X.cell? ⟨w4.heap.size, 3, none⟩ = some (.slice Am' (wn * hn) cm')))
      (first | with_reducible exact k8 | with_reducible exact k8a | with_reducible exact k9 | with_reducible exact k9a | with_reducible exact k10 | with_reducible exact k10a | with_reducible exact kf)
      (first
        | (go_at_call 58; refine (c58P.out _ (by first | with_reducible exact h8 | with_reducible exact h8a)).mono ?_; rintro e X1 ⟨A1, c1, rfl, hb1, r1⟩; have h9 := hup.out _ _ (by first | with_reducible exact h8 | with_reducible exact h8a) hb1; have h9a := hup.out _ _ h9 (ba1 X1 (.cells #[.int .i64 0, .slice none 0 0, .int .i64 0] 28)); have k9 := hS.out _ h9; have k9a := hS.out _ h9a;
            first | (have ta := ta0.up hb1; have b9 := b8a.trans (hb1.mono (by simp)); have z9 : w6.heap.size + 1 ≤ X1.heap.size := by have := b9.size; rw [z8.out] at this; exact this) | (have b9 : Below (w6.heap.size + 1) (w6.alloc (.cells #[.int .i64 ki, .slice Ax (wn * hn) cx1, .int .i64 x1] 28)).drew X1 := by rw [← z8.out]; exact hb1); have z9 : w6.heap.size + 1 ≤ X1.heap.size := by have := b9.size; rw [z8.out] at this; exact this)
        | (go_at_call 31; first
            | (refine (cyP.out _ A1 c1 h9 r1).mono ?_; rintro e X2 ⟨A2, c2, rfl, hb2, r2, f2⟩; have b10 := b9.trans (hb2.mono z9); have h10 := hup.out _ _ h9 hb2; have h10a := hup.out _ _ h10 (ba1 X2 (.cells #[.int .i64 0, .slice none 0 0, .int .i64 0] 28)); have k10 := hS.out _ h10; have k10a := hS.out _ h10a;
                first | (have tf := ta.up hb2; have fin := finF.out X2 (w6.heap.size + 1) A2 c2 b10 tf (Nat.le_refl _) r2 (fun a ha => by have := f2 a ha; have := ta.lt; omega); have s0 := tf.c0; have s1 := tf.c1; have s2 := tf.c2; have y0 := tf.fz 0; have y1 := tf.fz 1; have y2 := tf.fz 2; have kf := hS.out _ fin.1) | (have fin := finG.out X2 A2 c2 b10 r2; have kf := hS.out _ fin.1))
            | (refine (cyP.out _ A1 c1 h9a (r1.up (ba1 X1 (.cells #[.int .i64 0, .slice none 0 0, .int .i64 0] 28)))).mono ?_; rintro e X2 ⟨A2, c2, rfl, hb2, r2, f2⟩; have b10 := (b9.trans ((ba1 X1 (.cells #[.int .i64 0, .slice none 0 0, .int .i64 0] 28)).mono z9)).trans (hb2.mono (Nat.le_trans z9 (by simp))); have h10 := hup.out _ _ h9a hb2; have h10a := hup.out _ _ h10 (ba1 X2 (.cells #[.int .i64 0, .slice none 0 0, .int .i64 0] 28)); have k10 := hS.out _ h10; have k10a := hS.out _ h10a;
                have tf := (Tri.new X1 (.int .i64 0) (.slice none 0 0) (.int .i64 0)).up hb2; have fin := finF.out X2 X1.heap.size A2 c2 b10 tf z9 r2 (fun a ha => by have := f2 a ha; simp at this; omega); have s0 := tf.c0; have s1 := tf.c1; have s2 := tf.c2; have y0 := tf.fz 0; have y1 := tf.fz 1; have y2 := tf.fz 2; have kf := hS.out _ fin.1)))
    all_goals (go_wp2_with fail)
    all_goals go_meet
    all_goals exact ⟨_, A2, c2, rfl, rfl, fin⟩
  case rest =>
  obtain ⟨b11, Ay, cy1, rfl, rfl, h12, t12, r12⟩ := hcut
  clear k8 k8a h8 h8a b8a ta0 c58P cyP finF finG hS
  obtain ⟨R, hR⟩ : ∃ R : World → Prop, ∀ X, R X ↔ (P X ∧ Tri X b11 (.int .i64 ki) (.slice Ay (wn * hn) cy1) (.int .i64 x1) ∧ Row X X.heap.size Ay ly) := ⟨_, fun _ => Iff.rfl⟩
  have rup : ∀ X Y, R X → Below X.heap.size X Y → R Y := fun X Y hX hb => by
    obtain ⟨a1, a2, a3⟩ := (hR X).1 hX
    exact (hR Y).2 ⟨hup.out _ _ a1 hb, a2.up hb, a3.up hb⟩
  have hS : ∀ X, R X → (((X.cell? ⟨w.heap.size, 0, none⟩ = some (.int .i64 (wn : Nat)) ∧ X.cell? ⟨w.heap.size, 1, none⟩ = some (.int .i64 (hn : Nat)) ∧ X.cell? ⟨w.heap.size, 2, none⟩ = some (.slice aL L.length cL) ∧ X.cell? ⟨w.heap.size, 3, none⟩ = some (.slice aS (wn * hn) cS)) ∧ (X.cell? ⟨w.heap.size + 1, 0, none⟩ = some (.int .i64 (k0 : Nat)) ∧ X.cell? ⟨w.heap.size + 1, 1, none⟩ = some (.slice aO (wn * hn) cO) ∧ X.cell? ⟨w.heap.size + 1, 2, none⟩ = some (.int .i64 aw))) ∧ (X.cell? ⟨w6.heap.size, 0, none⟩ = some (.int .i64 ki) ∧ X.cell? ⟨w6.heap.size, 1, none⟩ = some (.slice Ax (wn * hn) cx1) ∧ X.cell? ⟨w6.heap.size, 2, none⟩ = some (.int .i64 x1)) ∧ X.cell? ⟨b11, 0, none⟩ = some (.int .i64 ki) ∧ X.cell? ⟨b11, 1, none⟩ = some (.slice Ay (wn * hn) cy1) ∧ X.cell? ⟨b11, 2, none⟩ = some (.int .i64 x1)) := fun X hX => by
    obtain ⟨a1, t, _⟩ := (hR X).1 hX
    obtain ⟨a, _, _, x, _⟩ := (hP.out X).1 a1
    have a2 := a.1
    unfold Bx2 at a2
    exact ⟨a2, ⟨x.c0, x.c1, x.c2⟩, t.c0, t.c1, t.c2⟩
  have c58 : ∀ X, R X → _ := fun X hX => c58x.out X Ax cx1 ((hP.out X).1 ((hR X).1 hX).1).1 ((hP.out X).1 ((hR X).1 hX).1).2.2.2.2
  have c28R : ∀ X A1 c1, R X → Row X X.heap.size A1 ly → _ := fun X A1 c1 hX r1 => c28.out X A1 Ay c1 cy1 r1 ((hR X).1 hX).2.2
  have sanR : ∀ X, R X → _ := fun X hX => sane.out X ((hP.out X).1 ((hR X).1 hX).1).1.2.1
  have endR : ∀ X, R X → Below w.heap.size w X := fun X hX => ((hP.out X).1 ((hR X).1 hX).1).1.2.1
  have h13 : R (World.drew _) := rup _ _ ((hR _).2 ⟨h12, t12, r12⟩) (dr.out _)
  have k13 := hS _ h13
  clear h12 t12 r12
  replace hS := Lib.hid hS
  replace rup := Lib.hid rup
  replace c58 := Lib.hid c58
  replace c28R := Lib.hid c28R
  replace sanR := Lib.hid sanR
  replace endR := Lib.hid endR
  replace hR := Lib.hid hR
  clear c58x c28 sane hup dr hP z8
  go_wp2
  go_region_held3 (fun X => (((X.cell? ⟨w.heap.size, 0, none⟩ = some (.int .i64 (wn : Nat)) ∧ X.cell? ⟨w.heap.size, 1, none⟩ = some (.int .i64 (hn : Nat)) ∧ X.cell? ⟨w.heap.size, 2, none⟩ = some (.slice aL L.length cL) ∧ X.cell? ⟨w.heap.size, 3, none⟩ = some (.slice aS (wn * hn) cS)) ∧ (X.cell? ⟨w.heap.size + 1, 0, none⟩ = some (.int .i64 (k0 : Nat)) ∧ X.cell? ⟨w.heap.size + 1, 1, none⟩ = some (.slice aO (wn * hn) cO) ∧ X.cell? ⟨w.heap.size + 1, 2, none⟩ = some (.int .i64 aw))) ∧ (X.cell? ⟨w6.heap.size, 0, none⟩ = some (.int .i64 ki) ∧ X.cell? ⟨w6.heap.size, 1, none⟩ = some (.slice Ax (wn * hn) cx1) ∧ X.cell? ⟨w6.heap.size, 2, none⟩ = some (.int .i64 x1)) ∧ X.cell? ⟨b11, 0, none⟩ = some (.int .i64 ki) ∧ X.cell? ⟨b11, 1, none⟩ = some (.slice Ay (wn * hn) cy1) ∧ X.cell? ⟨b11, 2, none⟩ = some (.int .i64 x1)))
    (first | with_reducible exact k13 | with_reducible exact k14 | with_reducible exact k15 | with_reducible exact k16)
    (first
      | (go_at_call 58; refine (c58.out _ h13).mono ?_; rintro e X1 ⟨A1, c1, rfl, hb1, r1⟩; have h14 := rup.out _ _ h13 hb1; have k14 := hS.out _ h14)
      | (go_at_call 28; refine (c28R.out _ A1 c1 h14 r1).mono ?_; rintro e X2 ⟨rfl, hb2⟩; have h15 := rup.out _ _ h14 hb2; have k15 := hS.out _ h15)
      | (go_at_call 17; refine (sanR.out _ h15).mono ?_; rintro e X3 ⟨rfl, hb3⟩; have h16 := rup.out _ _ h15 hb3; have k16 := hS.out _ h16))
  have h17 := endR.out _ h16
  go_wp2
  go_ret
  exact ⟨rfl, h17⟩
set_option maxRecDepth 100000 in
theorem byte_in {H : Type} {enc : TypeId × Value → H} {W : World} {v : Value} {d : DataW H} {p : List MemPlace} {b0 : Nat} (hv : Value.okWide Tryd.prog W .any b0 5 v) (h : DataW.Trod enc Tryd.prog W 0 (fun _ => true) true 5 v d p) : ∃ n : Nat, v = .int .u8 n ∧ n ≤ 255 := by
  obtain ⟨z, rfl⟩ := okWide_int und5 hv
  obtain ⟨fuel, hf⟩ := h
  obtain ⟨z', e, _, hw⟩ := DataW.trod_int und5 hf
  obtain rfl : z = z' := by simpa [Value.cells] using e
  obtain ⟨n, rfl, hn⟩ := byte_of hw
  exact ⟨n, rfl, hn⟩

theorem walk (W H : Int) (aL aS aO : Option Addr) (cL cS cO : Nat) (L : List Bool) (n : Nat) (S : List Int) (K : Int) (O : List Int) (aw : Int) (n0 : Nat) (w : World) (h : BayIn w w.heap.size aL L aS n S) (hO : Row w w.heap.size aO O) (hd : Dirs w) (hn0 : n0 ≤ 255) :
    Calls Tryd.prog 13 #[.agg #[.int .i64 W, .int .i64 H, .slice aL L.length cL, .slice aS n cS], .agg #[.int .i64 K, .slice aO O.length cO, .int .i64 aw], .int .u8 n0] w fun e w' => e = .returned (.bool true) ∧ Below w.heap.size w w' := by
  cases hlb : (decide (100 < L.length) || decide (100 < n)) with
  | true => exact out W H aL aS aO cL cS cO L n S K O aw n0 w h hO hd hn0 (.inl hlb)
  | false =>
  cases hv : validB W H L n S with
  | false => exact out W H aL aS aO cL cS cO L n S K O aw n0 w h hO hd hn0 (.inr (.inl hv))
  | true =>
  cases hs : slkB L.length K O aw with
  | false => exact out W H aL aS aO cL cS cO L n S K O aw n0 w h hO hd hn0 (.inr (.inr hs))
  | true =>
  obtain ⟨wn, hn, rfl, rfl, rfl, hL, hBay⟩ := bay_of (val_of hv) h.share.2.1
  obtain ⟨k0, rfl⟩ : ∃ k0 : Nat, K = k0 := ⟨K.toNat, by have := (slk_of hs).2.1; omega⟩
  have hON : O.length = wn * hn := by rw [(slk_of hs).1, hL]
  have h1 := inn wn hn aL aS aO cL cS cO L S k0 O aw n0 w h hO hd hn0 hlb hv hs hBay
  rw [hON]
  exact h1

/-! ### the row's step -/
set_option maxRecDepth 100000 in
/-- The door's own heap meets the condition. -/
theorem door_met (os : Os) (args : Array Value) : laidMetH Tryd.prog laidV ((World.doorLaid Tryd.prog 400 os).forCall (fun _ _ => 0) ⟨#[], args, []⟩).memory :=
  laidMetH_of_parts3 (fuel := 8) (laidMet_of_run' 8 (by kernel_rfl) (by kernel_rfl)) (by kernel_rfl) (by kernel_rfl)

set_option maxRecDepth 100000 in
theorem lifted (os : Os) (started : os.Started) (H : Type) (enc : TypeId × Value → H) :
    ReturnsInHanded {} Tryd.checked os 13 .any (fun w args => (Rows.slickTurnsSpec.pre enc Tryd.prog Tryd.f13 [] false w args ∧ laidMetH Tryd.prog laidV w) ∧ sizedMet enc Tryd.prog Tryd.f13 (OpenSpec.ofChange Rows.slickTurnsSpec) false w args)
      (Rows.slickTurnsSpec.post enc Tryd.prog Tryd.f13 false true false false) := by
  refine returnsInHanded_of_change_and (C := Tryd.checked) (X := fun w _ => laidMetH Tryd.prog laidV w) (fun _ _ _ hh h => h.of_heap hh) own started (by kernel_rfl) Tryd.func13
    (ChangeSpec.witness_shaped (enc := enc) (C := Tryd.checked) (os := os) (X := fun w _ => laidMetH Tryd.prog laidV w) false (World.doorLaid Tryd.prog 400 os) #[.agg #[.int .i64 0, .int .i64 0, .slice none 0 0, .slice none 0 0], .agg #[.int .i64 0, .slice none 0 0, .int .i64 0], .int .u8 0] 8 rfl (World.shaped_of_RefB (by kernel_rfl) (by kernel_rfl)) (by kernel_rfl) (by kernel_rfl) (by kernel_rfl) (door_met os _)) ?_
  intro W base args ds gs before hval0 hW _ _ hL _
  have hval : ∀ (j : Nat) t v, Tryd.f13.params[j]? = some t → args[j]? = some v → Value.okWide Tryd.prog W .any base t v := hval0
  have hW' := hW
  obtain ⟨p, q, hA0, hV, rfl, hfz, hnd⟩ := hW
  have hA : DataW.TrodAll enc Tryd.prog W 0 (fun _ => true) true Tryd.f13.params.toList args.toList ds p := hA0
  rw [Tryd.params13] at hA hval
  obtain ⟨v0, vs0, d0, ds0, p0, q0, hargs, rfl, rfl, h0, r0⟩ := trodAll_cons hA
  obtain ⟨v1, vs1, d1, ds1, p1, q1, rfl, rfl, rfl, h1, r1⟩ := trodAll_cons r0
  obtain ⟨v2, vs2, d2, ds2, p2, q2, rfl, rfl, rfl, h2, r2⟩ := trodAll_cons r1
  obtain ⟨rfl, rfl, rfl⟩ := trodAll_nil r2
  obtain rfl : args = #[v0, v1, v2] := by cases args; simp_all
  obtain ⟨rfl, rfl⟩ := trodVars_none hV
  have hdirs := dirs_of hL
  have k0 := h0
  have lt0 : ∀ x ∈ p0, x.block < W.heap.size := by obtain ⟨m, hm⟩ := k0; exact DataW.trod_lt m _ _ _ hm
  obtain ⟨Wd, Hd, aL, aS, cL, cS, n, L, S, rfl, hb0⟩ := bay_in (hval 0 25 v0 rfl rfl) h0
  have k1 := h1
  have lt1 : ∀ x ∈ p1, x.block < W.heap.size := by obtain ⟨m, hm⟩ := k1; exact DataW.trod_lt m _ _ _ hm
  obtain ⟨K, aw, aO, cO, O, rfl, hb1⟩ := slick_in (hval 1 28 v1 rfl rfl) h1
  have k2 := h2
  have lt2 : ∀ x ∈ p2, x.block < W.heap.size := by obtain ⟨m, hm⟩ := k2; exact DataW.trod_lt m _ _ _ hm
  obtain ⟨n0, rfl, hn0⟩ := byte_in (hval 2 5 v2 rfl rfl) h2
  clear hA0 hval0
  refine (walk Wd Hd aL aS aO cL cS cO L n S K O aw n0 W hb0 hb1 hdirs hn0).mono fun e W' ⟨he, bel⟩ => ?_
  subst he
  exact ⟨_, rfl, _, _, _, [], _, [], hW', trodAll_mk1 (shut_bool Tryd.underlying4 _), (trodAll_cons_mk (Below.trod laidOut (by kernel_rfl) (of_decide_eq_true (by kernel_rfl)) k0 bel lt0) (trodAll_cons_mk (Below.trod laidOut (by kernel_rfl) (of_decide_eq_true (by kernel_rfl)) k1 bel lt1) (trodAll_cons_mk (Below.trod laidOut (by kernel_rfl) (of_decide_eq_true (by kernel_rfl)) k2 bel lt2) trodAll_mk0))), rfl, bel.frame _, fun h => by cases h⟩

theorem over : Rows.SlickTurnsSaid :=
  OpenClaim.holds_of_wide 13 Tryd.f13 rfl rfl rfl rfl rfl rfl rfl ⟨rfl, rfl, rfl, rfl, rfl⟩ rfl rfl rfl rfl rfl (by kernel_rfl) Tryd.func13 (by kernel_rfl)
    (of_decide_eq_true (by kernel_rfl)) (by unfold Func.isWrapper; first | (rw [if_pos (by decide +kernel)]; kernel_rfl) | (rw [if_neg (by decide +kernel)]; exact ⟨rfl, rfl⟩))
    (fun os started H enc _ => lifted os started H enc)

/-- The statement: the tied card. -/
theorem proved : Rows.SlickTurnsCardSaid :=
  Claim7.holds_tied_plain_at .later [] [.data] true (true, "38a074445a3967dedbdfb9374eda118d846433fb573c587a55d7c5edfad1e3dd") false
    over (fun _ h => by cases h) (by kernel_rfl) (fun _ h => by cases h) slickTurns_row_tie rfl ⟨rfl, rfl⟩ (by kernel_rfl) rfl
    (fun f fn hf hfn => by
      obtain rfl : f = 13 := Option.some.inj ((show Tryd.prog.funcNamed "skimmer/skimmerlaw02.SlickTurns" = some 13 by kernel_rfl).symm.trans hf) |>.symm
      obtain rfl : fn = Tryd.f13 := (Option.some.inj (Tryd.func13.symm.trans hfn)).symm
      exact ⟨by kernel_rfl, fun j t ht => by
        rw [Tryd.params13] at ht
        have hm : t ∈ [25, 28, 5] := by simpa using Array.mem_of_getElem? ht
        have hall : ([25, 28, 5].all fun u => !Tryd.prog.wantsStandIn u) = true := by kernel_rfl
        exact (show Tryd.prog.wantsStandIn t = false by simpa using List.all_eq_true.1 hall t hm)⟩)
    (by kernel_rfl)
end Go.Proofs.YtnbgjgiknfcdkaaDoor.lawSlickTurns
