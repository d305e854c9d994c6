/-
  'checked' of two slicks.
-/
import Derived.Test.YtnbgjgiknfcdkaaDoorF
import Derived.Test.YtnbgjgiknfcdkaaDoorS
namespace Go.Proofs.YtnbgjgiknfcdkaaDoor
open Go.RowKit Go.Deep M
set_option linter.unusedVariables false
set_option linter.unusedSimpArgs false

/-- A bay's box, four cells. -/
def Quad (w : World) (b : Nat) (x y z u : Value) : Prop := w.heap[b]? = some (.cells #[x, y, z, u] 25 (0, 0))
theorem Quad.new (w : World) (x y z u : Value) : Quad (w.alloc (.cells #[x, y, z, u] 25)) w.heap.size x y z u := World.alloc_heap_new w _
theorem Quad.lt {w : World} {b : Nat} {x y z u : Value} (h : Quad w b x y z u) : b < w.heap.size := blk_lt h
theorem Quad.c0 {w : World} {b : Nat} {x y z u : Value} (h : Quad w b x y z u) : w.cell? ⟨b, 0, none⟩ = some x := by simp [World.cell?, show w.heap[b]? = _ from h]
theorem Quad.c1 {w : World} {b : Nat} {x y z u : Value} (h : Quad w b x y z u) : w.cell? ⟨b, 1, none⟩ = some y := by simp [World.cell?, show w.heap[b]? = _ from h]
theorem Quad.c2 {w : World} {b : Nat} {x y z u : Value} (h : Quad w b x y z u) : w.cell? ⟨b, 2, none⟩ = some z := by simp [World.cell?, show w.heap[b]? = _ from h]
theorem Quad.c3 {w : World} {b : Nat} {x y z u : Value} (h : Quad w b x y z u) : w.cell? ⟨b, 3, none⟩ = some u := by simp [World.cell?, show w.heap[b]? = _ from h]
theorem Quad.up {w w' : World} {b : Nat} {x y z u : Value} (h : Quad w b x y z u) (hb : Below w.heap.size w w') : Quad w' b x y z u := (hb.block b h.lt).trans h
theorem SlkAt.up {w w' : World} {b o : Nat} {K : Int} {aO : Option Addr} {nO cO : Nat} {aw : Int} (h : SlkAt w b o K aO nO cO aw) (hb : Below w.heap.size w w') (hlt : b < w.heap.size) : SlkAt w' b o K aO nO cO aw :=
  ⟨(hb.cell (p := ⟨b, o, none⟩) hlt).trans h.1, (hb.cell (p := ⟨b, o + 1, none⟩) hlt).trans h.2.1, (hb.cell (p := ⟨b, o + 2, none⟩) hlt).trans h.2.2⟩

set_option maxRecDepth 100000 in
set_option maxHeartbeats 4000000 in
theorem checked2_any (B : Nat) (W H : Int) (aL aS aO aO' : Option Addr) (cL cS cO cO' : Nat) (L : List Bool) (n : Nat) (S : List Int) (K K' : Int) (O O' : List Int) (aw aw' : Int) (b0 c0 : Nat) (w : World) (h : BayIn w B aL L aS n S) (hO : Row w B aO O) (hO' : Row w B aO' O') (hB : B ≤ w.heap.size)
    (hb : b0 < w.heap.size) (hs : SlkAt w b0 0 K aO O.length cO aw) (hs' : SlkAt w b0 3 K' aO' O'.length cO' aw') :
    Calls Tryd.prog 59 #[.agg #[.int .i64 W, .int .i64 H, .slice aL L.length cL, .slice aS n cS], .slice (some ⟨b0, 0, none⟩) 2 c0] w
      fun e w' => e = .returned (.int .i64 (if validB W H L n S = true then (if slkB L.length K O aw = true then (if slkB L.length K' O' aw' = true then 0 else 21) else 21) else 20)) ∧ Below w.heap.size w w' := by
  have hb0 : Below w.heap.size w (w.alloc (.cells #[.int .i64 W, .int .i64 H, .slice aL L.length cL, .slice aS n cS] 25)) := (Below.refl _ _).alloc (Nat.le_refl _) _
  have c20 := Valid_any B W H aL aS cL cS L n S _ (h.below (hb0.mono hB)) (by simp; omega)
  cases hv : validB W H L n S with
  | false =>
    rw [hv] at c20
    replace c20 := Lib.hid c20
    go_enter Tryd.func59, Tryd.ntmps59
    go_wp2_with fail
    refine c20.out.mono ?_
    rintro e w1 ⟨rfl, hb1⟩
    have hbb := hb0.trans (hb1.mono (by simp))
    clear hb1
    go_wp2
    go_ret
    exact ⟨rfl, hbb⟩
  | true =>
    rw [hv] at c20
    replace c20 := Lib.hid c20
    have hl36 : L.length ≤ 36 := by
      have hv' := val_of hv
      have := hv'.2.1.1
      have := Int.mul_le_mul hv'.1.1.2 hv'.1.2.2 (by have := hv'.1.2.1; omega) (by omega)
      omega
    have c60 : ∀ W', Below w.heap.size w W' → Calls Tryd.prog 60 #[.agg #[.int .i64 W, .int .i64 H, .slice aL L.length cL, .slice aS n cS], .agg #[.int .i64 K, .slice aO O.length cO, .int .i64 aw]] W'
      fun e w' => e = .returned (.bool (slkB L.length K O aw)) ∧ Below W'.heap.size W' w' := fun W' hb' => isSlick_any B W H aL aS aO cL cS cO L n S K O aw W' (hO.below (hb'.mono hB)) (by have := hb'.size; omega) hl36
    have c60' : ∀ W', Below w.heap.size w W' → Calls Tryd.prog 60 #[.agg #[.int .i64 W, .int .i64 H, .slice aL L.length cL, .slice aS n cS], (.agg #[.int .i64 K', .slice aO' O'.length cO', .int .i64 aw'])] W'
      fun e w' => e = .returned (.bool (slkB L.length K' O' aw')) ∧ Below W'.heap.size W' w' := fun W' hb' => isSlick_any B W H aL aS aO' cL cS cO' L n S K' O' aw' W' (hO'.below (hb'.mono hB)) (by have := hb'.size; omega) hl36
    generalize slkB L.length K O aw = s at *
    generalize slkB L.length K' O' aw' = s' at *
    have q0 := Quad.new w (.int .i64 W) (.int .i64 H) (.slice aL L.length cL) (.slice aS n cS)
    replace c60 := Lib.hid c60
    replace c60' := Lib.hid c60'
    go_enter Tryd.func59, Tryd.ntmps59
    go_wp2_with fail
    refine c20.out.mono ?_
    rintro e w1 ⟨rfl, hb1⟩
    have hbb := hb0.trans (hb1.mono (by simp))
    have q1 := q0.up hb1
    have hsz1 := hb1.size
    rw [World.size_alloc] at hsz1
    obtain ⟨k0, k1, k2⟩ := hs.up hbb hb
    rw [Nat.zero_add] at k1 k2
    have hne : w.heap.size ≠ w1.heap.size := by omega
    have hlt : w.heap.size < w1.heap.size := by omega
    have hb00 := hb
    have q2 := q1.up (ba1 w1 (.cells #[.int .i64 K, .slice aO O.length cO, .int .i64 aw] 28))
    have g0 := q2.c0
    have g1 := q2.c1
    have g2 := q2.c2
    have g3 := q2.c3
    clear hb1
    go_wp2
    refine wp_loop_rounds 3 ?_
    rw [rounds_succ]
    go_wp2_with fail
    have hbb2 := hbb.alloc (by omega) (.cells #[.int .i64 K, .slice aO O.length cO, .int .i64 aw] 28)
    refine (c60.out _ hbb2).mono ?_
    rintro e w2 ⟨rfl, hb2⟩
    have hbb3 := hbb2.trans (hb2.mono hbb2.size)
    clear g0 g1 g2 g3 k0 k1 k2
    cases s with
    | false =>
      go_wp2
      go_ret
      exact ⟨rfl, hbb3⟩
    | true =>
      have q3 := q2.up hb2
      have hsz3 := hbb3.size
      obtain ⟨k0, k1, k2⟩ := hs'.up hbb3 hb
      have e1 : 3 + 1 = 4 := rfl
      have e2 : 3 + 2 = 5 := rfl
      rw [e1] at k1
      rw [e2] at k2
      have q4 := q3.up (ba1 w2 (.cells #[.int .i64 K', .slice aO' O'.length cO', .int .i64 aw'] 28))
      have g0 := q4.c0
      have g1 := q4.c1
      have g2 := q4.c2
      have g3 := q4.c3
      clear hb2 e1 e2
      go_wp2
      rw [rounds_succ]
      go_wp2_with fail
      have hbb4 := hbb3.alloc (by omega) (.cells #[.int .i64 K', .slice aO' O'.length cO', .int .i64 aw'] 28)
      refine (c60'.out _ hbb4).mono ?_
      rintro e w3 ⟨rfl, hb4⟩
      have hbb5 := hbb4.trans (hb4.mono hbb4.size)
      clear hb4 g0 g1 g2 g3 k0 k1 k2
      cases s' with
      | false =>
        go_wp2
        go_ret
        exact ⟨rfl, hbb5⟩
      | true =>
        go_wp2
        rw [rounds_succ]
        go_wp2
        go_ret
        exact ⟨rfl, hbb5⟩
end Go.Proofs.YtnbgjgiknfcdkaaDoor
