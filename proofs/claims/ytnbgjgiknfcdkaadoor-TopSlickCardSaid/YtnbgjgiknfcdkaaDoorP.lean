/-
  Beached as the specification says it; Fits.
-/
import Derived.Test.YtnbgjgiknfcdkaaDoorO
namespace Go.Proofs.YtnbgjgiknfcdkaaDoor
open Go.RowKit Go.Deep M
set_option linter.unusedVariables false
set_option linter.unusedSimpArgs false

set_option maxRecDepth 100000 in
set_option maxHeartbeats 4000000 in
theorem Beached_ref (B : Nat) (W H : Int) (aL aS aO : Option Addr) (cL cS cO : Nat) (L : List Bool) (n : Nat) (S : List Int) (K : Int) (O : List Int) (aw : Int) (w : World) (h : BayIn w B aL L aS n S) (hO : Row w B aO O) (hB : B ≤ w.heap.size) (h100 : O.length ≤ 100) :
    Calls Tryd.prog 27 #[.agg #[.int .i64 W, .int .i64 H, .slice aL L.length cL, .slice aS n cS], .agg #[.int .i64 K, .slice aO O.length cO, .int .i64 aw]] w (ListRes w (beaV W H L n S K O aw) (askE W H L n S K O aw)) := by
  have cE := c65E h hO hB h100 (W := W) (H := H) (cL := cL) (cS := cS) (cO := cO) (K := K) (aw := aw)
  by_cases hE : askE W H L n S K O aw = 0
  · obtain ⟨hV, hl, hs⟩ := askE_zero hE
    have h36 := val_len hV
    have hv : beaV W H L n S K O aw = _ := if_pos hE
    rw [hv, hE]
    rw [hE] at cE
    clear hv hE hV hs
    have hmk := run_make_row' (P := Tryd.prog) 26 3 (.int .i64 0) 8 Tryd.underlying26 info3 rfl .i64 .i64 O.length (by omega) (by omega)
    replace cE := Lib.hid cE
    replace hl := Lib.hid hl
    go_enter Tryd.func27, Tryd.ntmps27
    go_wp2_with fail
    refine cE.out.mono ?_
    rintro e w1 ⟨rfl, hbb, hsz, hbx⟩
    obtain ⟨⟨g0, g1, g2, g3⟩, g4, g5, g6⟩ := hbx
    have hr0 := World.rowIs_made w1 (.int .i64 0) O.length 3
    have hb0 := hbb.alloc hbb.size (.cells (madeCells #[.int .i64 0] O.length) 3)
    have hx2 : (w1.alloc (.cells (madeCells #[.int .i64 0] O.length) 3)).cell? ⟨w.heap.size, 2, none⟩ = some (.slice aL L.length cL) := by simp [go_sem, g2, show w.heap.size < w1.heap.size by omega]
    have hx5 : (w1.alloc (.cells (madeCells #[.int .i64 0] O.length) 3)).cell? ⟨w.heap.size + 1, 1, none⟩ = some (.slice aO O.length cO) := by simp [go_sem, g5, show w.heap.size + 1 < w1.heap.size by omega]
    replace hr0 := Lib.hid hr0
    replace hb0 := Lib.hid hb0
    replace hx2 := Lib.hid hx2
    replace hx5 := Lib.hid hx5
    go_wp2
    clear hmk
    go_loopw [8] (fun i wr => ∃ k : Nat, k ≤ O.length ∧ i = .int .i64 k ∧ Below w.heap.size w wr ∧ wr.rowIs w1.heap.size 3 O.length (fun i => if i < k then .int .i64 (onlyF L O true i) else .int .i64 0) ∧ wr.cell? ⟨w.heap.size, 2, none⟩ = some (.slice aL L.length cL) ∧ wr.cell? ⟨w.heap.size + 1, 1, none⟩ = some (.slice aO O.length cO)) (fun i _ => O.length - (intOf i).toNat)
    case atStart => exact ⟨0, Nat.zero_le _, rfl, hb0.out, hr0.out.congr (fun i _ => by simp), hx2.out, hx5.out⟩
    case round =>
      clear g0 g1 g2 g3 g4 g5 g6
      obtain ⟨k, hk, rfl, hb, hr, g2, g5⟩ := hrel
      by_cases hlt : k < O.length
      · obtain ⟨b, o, rfl, hbl, hc⟩ := (h.land.below (hb.mono hB)).at_ k (by have := hl.out; omega)
        obtain ⟨b', o', rfl, hbl', hc'⟩ := (hO.below (hb.mono hB)).at_ k hlt
        have hkL : (k : Int) < (L.length : Nat) := by have := hl.out; omega
        have hkO : (k : Int) < (O.length : Nat) := by omega
        cases hbk : bl L k with
        | true =>
          rw [hbk] at hc
          have hf : onlyF L O true k = el O k := if_pos hbk
          have hst := mk_step hr
          rw [hf] at hst
          have hb2 := hb.setCell (p := ⟨w1.heap.size, k, none⟩) (show w.heap.size ≤ w1.heap.size by omega) (.int .i64 (el O k))
          have cr := hr.cell hlt
          have fr := hr.frozen k
          simp only [Nat.lt_irrefl, if_false] at cr
          have j2 : (wr.setCell ⟨w1.heap.size, k, none⟩ (.int .i64 (el O k))).cell? ⟨w.heap.size, 2, none⟩ = some (.slice (some ⟨b, o, none⟩) L.length cL) := (World.cell?_of_block (setCell_block _ _ _ _ _ (show w.heap.size ≠ w1.heap.size by omega))).trans g2
          have j5 : (wr.setCell ⟨w1.heap.size, k, none⟩ (.int .i64 (el O k))).cell? ⟨w.heap.size + 1, 1, none⟩ = some (.slice (some ⟨b', o', none⟩) O.length cO) := (World.cell?_of_block (setCell_block _ _ _ _ _ (show w.heap.size + 1 ≠ w1.heap.size by omega))).trans g5
          replace hst := Lib.hid hst
          replace hb2 := Lib.hid hb2
          replace j2 := Lib.hid j2
          replace j5 := Lib.hid j5
          clear hr hf
          go_wp2
          go_roundw
          case rel => exact ⟨k + 1, by omega, by go_num, hb2.out, hst.out, j2.out, j5.out⟩
          case measure => simp [intOf]; omega
        | false =>
          rw [hbk] at hc
          have hf : onlyF L O true k = 0 := if_neg (by rw [hbk]; simp)
          have hst := mk_skip hr hf
          replace hst := Lib.hid hst
          clear hr hf
          go_wp2
          go_roundw
          case rel => exact ⟨k + 1, by omega, by go_num, hb, hst.out, g2, g5⟩
          case measure => simp [intOf]; omega
      · have hk' : k = O.length := by omega
        subst hk'
        have hend := mk_row hr (by omega)
        have hon : only L O true = mk (onlyF L O true) O.length := by unfold only; rw [hl.out]
        rw [← hon] at hend
        have hol : (only L O true).length = O.length := by rw [only_len, hl.out]
        replace hol := Lib.hid hol
        clear hon hr
        go_wp2
        go_ret2
        exact ⟨some ⟨w1.heap.size, 0, none⟩, O.length, by rw [hol.out]; rfl, hb, hend⟩
  · have hv : beaV W H L n S K O aw = _ := if_neg hE
    rw [hv]
    generalize askE W H L n S K O aw = E at *
    have hEb : (E != 0) = true := by simpa using hE
    replace hE := Lib.hid hE
    clear hv
    replace cE := Lib.hid cE
    go_enter Tryd.func27, Tryd.ntmps27
    go_wp2_with fail
    refine cE.out.mono ?_
    rintro e w1 ⟨rfl, hbb, hsz, hbx⟩
    clear hbx
    go_wp2
    go_ret2
    exact ⟨none, 0, rfl, hbb, row_nil _ _ _⟩

noncomputable def fitV (W H : Int) (L : List Bool) (n : Nat) (S : List Int) (K : Int) (O : List Int) (aw : Int) : Bool := validB W H L n S && slkB L.length K O aw
noncomputable def fitE (W H : Int) (L : List Bool) (n : Nat) (S : List Int) : Int := if validB W H L n S = true then 0 else 20
def BoolRes (w : World) (v : Bool) (err : Int) (e : Ending) (w' : World) : Prop := e = .returned (.tuple #[.bool v, .int .i64 err]) ∧ Below w.heap.size w w'

set_option maxRecDepth 100000 in
set_option maxHeartbeats 4000000 in
theorem Fits_any (B : Nat) (W H : Int) (aL aS aO : Option Addr) (cL cS cO : Nat) (L : List Bool) (n : Nat) (S : List Int) (K : Int) (O : List Int) (aw : Int) (w : World) (h : BayIn w B aL L aS n S) (hO : Row w B aO O) (hB : B ≤ w.heap.size) :
    Calls Tryd.prog 18 #[.agg #[.int .i64 W, .int .i64 H, .slice aL L.length cL, .slice aS n cS], .agg #[.int .i64 K, .slice aO O.length cO, .int .i64 aw]] w (BoolRes w (fitV W H L n S K O aw) (fitE W H L n S)) := by
  have hb0 := ba2 w (.cells #[.int .i64 W, .int .i64 H, .slice aL L.length cL, .slice aS n cS] 25) (.cells #[.int .i64 K, .slice aO O.length cO, .int .i64 aw] 28)
  have c59 := checked0_any B W H aL aS cL cS L n S _ (h.below (hb0.mono hB)) (by simp; omega)
  have hbx := bx2 w (.int .i64 W) (.int .i64 H) (.slice aL L.length cL) (.slice aS n cS) (.int .i64 K) (.slice aO O.length cO) (.int .i64 aw)
  replace hbx := Lib.hid hbx
  cases hv : validB W H L n S with
  | false =>
    have h1 : fitV W H L n S K O aw = false := by unfold fitV; rw [hv]; rfl
    have h2 : fitE W H L n S = 20 := by unfold fitE; rw [hv]; rfl
    rw [h1, h2]
    rw [hv] at c59
    replace c59 := Lib.hid c59
    go_enter Tryd.func18, Tryd.ntmps18
    go_wp2_with fail
    refine c59.out.mono ?_
    rintro e w1 ⟨rfl, hb1⟩
    have hbb := hb0.trans (hb1.mono (by simp; omega))
    clear hb1
    go_wp2
    go_ret2
    exact ⟨rfl, hbb⟩
  | true =>
    have h36 := val_len (val_of hv)
    have h1 : fitV W H L n S K O aw = slkB L.length K O aw := by unfold fitV; rw [hv]; rfl
    have h2 : fitE W H L n S = 0 := by unfold fitE; rw [hv]; rfl
    rw [h1, h2]
    rw [hv] at c59
    have c60 : ∀ X, Below w.heap.size w X → Calls Tryd.prog 60 #[.agg #[.int .i64 W, .int .i64 H, .slice aL L.length cL, .slice aS n cS], .agg #[.int .i64 K, .slice aO O.length cO, .int .i64 aw]] X
      fun e w' => e = .returned (.bool (slkB L.length K O aw)) ∧ Below X.heap.size X w' := fun X hX => isSlick_any B W H aL aS aO cL cS cO L n S K O aw X (hO.below (hX.mono hB)) (Nat.le_trans hB hX.size) h36
    generalize slkB L.length K O aw = s at *
    clear h1 h2
    replace c59 := Lib.hid c59
    replace c60 := Lib.hid c60
    go_enter Tryd.func18, Tryd.ntmps18
    go_wp2_with fail
    refine c59.out.mono ?_
    rintro e w1 ⟨rfl, hb1⟩
    have hbb := hb0.trans (hb1.mono (by simp; omega))
    obtain ⟨⟨g0, g1, g2, g3⟩, g4, g5, g6⟩ := bx2_below hbx.out hb1
    clear hb1
    go_wp2_with fail
    refine (c60.out _ hbb).mono ?_
    rintro e w2 ⟨rfl, hb2⟩
    have hbb2 := hbb.trans (hb2.mono hbb.size)
    clear hb2
    go_wp2
    go_ret2
    exact ⟨rfl, hbb2⟩

set_option maxRecDepth 100000 in
set_option maxHeartbeats 4000000 in
theorem Fits_ref (B : Nat) (W H : Int) (aL aS aO : Option Addr) (cL cS cO : Nat) (L : List Bool) (n : Nat) (S : List Int) (K : Int) (O : List Int) (aw : Int) (w : World) (h : BayIn w B aL L aS n S) (hO : Row w B aO O) (hB : B ≤ w.heap.size) (h100 : O.length ≤ 100) :
    Calls Tryd.prog 19 #[.agg #[.int .i64 W, .int .i64 H, .slice aL L.length cL, .slice aS n cS], .agg #[.int .i64 K, .slice aO O.length cO, .int .i64 aw]] w (BoolRes w (fitV W H L n S K O aw) (fitE W H L n S)) := by
  have hb0 := ba2 w (.cells #[.int .i64 W, .int .i64 H, .slice aL L.length cL, .slice aS n cS] 25) (.cells #[.int .i64 K, .slice aO O.length cO, .int .i64 aw] 28)
  have c21 := Valid_ref B W H aL aS cL cS L n S _ (h.below (hb0.mono hB)) (by simp; omega)
  have hbx := bx2 w (.int .i64 W) (.int .i64 H) (.slice aL L.length cL) (.slice aS n cS) (.int .i64 K) (.slice aO O.length cO) (.int .i64 aw)
  replace hbx := Lib.hid hbx
  cases hv : validB W H L n S with
  | false =>
    have h1 : fitV W H L n S K O aw = false := by unfold fitV; rw [hv]; rfl
    have h2 : fitE W H L n S = 20 := by unfold fitE; rw [hv]; rfl
    rw [h1, h2]
    rw [hv] at c21
    replace c21 := Lib.hid c21
    go_enter Tryd.func19, Tryd.ntmps19
    go_wp2_with fail
    refine c21.out.mono ?_
    rintro e w1 ⟨rfl, hb1⟩
    have hbb := hb0.trans (hb1.mono (by simp; omega))
    clear hb1
    go_wp2
    go_ret2
    exact ⟨rfl, hbb⟩
  | true =>
    have h36 := val_len (val_of hv)
    have hWH := (val_of hv).2.1.1
    have h1 : fitV W H L n S K O aw = slkB L.length K O aw := by unfold fitV; rw [hv]; rfl
    have h2 : fitE W H L n S = 0 := by unfold fitE; rw [hv]; rfl
    rw [h1, h2]
    rw [hv] at c21
    have c51 : ∀ X, Below w.heap.size w X → Calls Tryd.prog 51 #[.agg #[.int .i64 W, .int .i64 H, .slice aL L.length cL, .slice aS n cS], .agg #[.int .i64 K, .slice aO O.length cO, .int .i64 aw]] X
      fun e w' => e = .returned (.bool (slkB L.length K O aw)) ∧ Below X.heap.size X w' := fun X hX => Is_ref B W H aL aS aO cL cS cO L.length n K O aw X (hO.below (hX.mono hB)) (Nat.le_trans hB hX.size) hWH h36 h100
    generalize slkB L.length K O aw = s at *
    clear h1 h2 hWH
    replace c21 := Lib.hid c21
    replace c51 := Lib.hid c51
    go_enter Tryd.func19, Tryd.ntmps19
    go_wp2_with fail
    refine c21.out.mono ?_
    rintro e w1 ⟨rfl, hb1⟩
    have hbb := hb0.trans (hb1.mono (by simp; omega))
    obtain ⟨⟨g0, g1, g2, g3⟩, g4, g5, g6⟩ := bx2_below hbx.out hb1
    clear hb1
    go_wp2_with fail
    refine (c51.out _ hbb).mono ?_
    rintro e w2 ⟨rfl, hb2⟩
    have hbb2 := hbb.trans (hb2.mono hbb.size)
    clear hb2
    go_wp2
    go_ret2
    exact ⟨rfl, hbb2⟩
end Go.Proofs.YtnbgjgiknfcdkaaDoor
