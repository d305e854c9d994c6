/-
  'checked': the first error of a bay and of none, one or two slicks.
-/
import Derived.Test.YtnbgjgiknfcdkaaDoorE
namespace Go.Proofs.YtnbgjgiknfcdkaaDoor
open Go.RowKit Go.Deep M
set_option linter.unusedVariables false
set_option linter.unusedSimpArgs false

/-- A slick in three cells. -/
def SlkAt (w : World) (b o : Nat) (K : Int) (aO : Option Addr) (nO cO : Nat) (aw : Int) : Prop :=
  w.cell? ⟨b, o, none⟩ = some (.int .i64 K) ∧ w.cell? ⟨b, o + 1, none⟩ = some (.slice aO nO cO) ∧ w.cell? ⟨b, o + 2, none⟩ = some (.int .i64 aw)

set_option maxRecDepth 100000 in
set_option maxHeartbeats 4000000 in
theorem checked0_any (B : Nat) (W H : Int) (aL aS : Option Addr) (cL cS : Nat) (L : List Bool) (n : Nat) (S : List Int) (w : World) (h : BayIn w B aL L aS n S) (hB : B ≤ w.heap.size) :
    Calls Tryd.prog 59 #[.agg #[.int .i64 W, .int .i64 H, .slice aL L.length cL, .slice aS n cS], .slice none 0 0] w fun e w' => e = .returned (.int .i64 (if validB W H L n S = true then 0 else 20)) ∧ Below w.heap.size w w' := by
  have hb0 : Below w.heap.size w (w.alloc (.cells #[.int .i64 W, .int .i64 H, .slice aL L.length cL, .slice aS n cS] 25)) := (Below.refl _ _).alloc (Nat.le_refl _) _
  have c20 := Valid_any B W H aL aS cL cS L n S _ (h.below (hb0.mono hB)) (by simp; omega)
  cases hv : validB W H L n S with
  | false =>
    rw [hv] at c20
    replace c20 := Lib.hid c20
    go_enter Tryd.func59, Tryd.ntmps59
    go_wp2_with fail
    refine c20.out.mono ?_
    rintro e w1 ⟨rfl, hb1⟩
    have hbb := hb0.trans (hb1.mono (by simp))
    clear hb1
    go_wp2
    go_ret
    exact ⟨rfl, hbb⟩
  | true =>
    rw [hv] at c20
    replace c20 := Lib.hid c20
    go_enter Tryd.func59, Tryd.ntmps59
    go_wp2_with fail
    refine c20.out.mono ?_
    rintro e w1 ⟨rfl, hb1⟩
    have hbb := hb0.trans (hb1.mono (by simp))
    clear hb1
    go_wp2
    go_rounds 1
    go_ret
    exact ⟨rfl, hbb⟩

set_option maxRecDepth 100000 in
set_option maxHeartbeats 4000000 in
theorem checked1_any (B : Nat) (W H : Int) (aL aS aO : Option Addr) (cL cS cO : Nat) (L : List Bool) (n : Nat) (S : List Int) (K : Int) (O : List Int) (aw : Int) (b0 c0 : Nat) (w : World) (h : BayIn w B aL L aS n S) (hO : Row w B aO O) (hB : B ≤ w.heap.size)
    (hb : b0 < w.heap.size) (hs : SlkAt w b0 0 K aO O.length cO aw) :
    Calls Tryd.prog 59 #[.agg #[.int .i64 W, .int .i64 H, .slice aL L.length cL, .slice aS n cS], .slice (some ⟨b0, 0, none⟩) 1 c0] w
      fun e w' => e = .returned (.int .i64 (if validB W H L n S = true then (if slkB L.length K O aw = true then 0 else 21) else 20)) ∧ Below w.heap.size w w' := by
  have hb0 : Below w.heap.size w (w.alloc (.cells #[.int .i64 W, .int .i64 H, .slice aL L.length cL, .slice aS n cS] 25)) := (Below.refl _ _).alloc (Nat.le_refl _) _
  have c20 := Valid_any B W H aL aS cL cS L n S _ (h.below (hb0.mono hB)) (by simp; omega)
  cases hv : validB W H L n S with
  | false =>
    rw [hv] at c20
    replace c20 := Lib.hid c20
    go_enter Tryd.func59, Tryd.ntmps59
    go_wp2_with fail
    refine c20.out.mono ?_
    rintro e w1 ⟨rfl, hb1⟩
    have hbb := hb0.trans (hb1.mono (by simp))
    clear hb1
    go_wp2
    go_ret
    exact ⟨rfl, hbb⟩
  | true =>
    rw [hv] at c20
    replace c20 := Lib.hid c20
    have hl36 : L.length ≤ 36 := by
      have hv' := val_of hv
      have := hv'.2.1.1
      have := Int.mul_le_mul hv'.1.1.2 hv'.1.2.2 (by have := hv'.1.2.1; omega) (by omega)
      omega
    have c60 : ∀ W', Below w.heap.size w W' → Calls Tryd.prog 60 #[.agg #[.int .i64 W, .int .i64 H, .slice aL L.length cL, .slice aS n cS], .agg #[.int .i64 K, .slice aO O.length cO, .int .i64 aw]] W'
      fun e w' => e = .returned (.bool (slkB L.length K O aw)) ∧ Below W'.heap.size W' w' := fun W' hb' => isSlick_any B W H aL aS aO cL cS cO L n S K O aw W' (hO.below (hb'.mono hB)) (by have := hb'.size; omega) hl36
    generalize slkB L.length K O aw = s at *
    obtain ⟨k0, k1, k2⟩ := hs
    replace c60 := Lib.hid c60
    go_enter Tryd.func59, Tryd.ntmps59
    go_wp2_with fail
    refine c20.out.mono ?_
    rintro e w1 ⟨rfl, hb1⟩
    have hbb := hb0.trans (hb1.mono (by simp))
    have hsz1 := hb1.size
    rw [World.size_alloc] at hsz1
    have g0 : w1.cell? ⟨w.heap.size, 0, none⟩ = some (.int .i64 W) := (hb1.cell (p := ⟨w.heap.size, 0, none⟩) (by simp)).trans (by simp [go_sem])
    have g1 : w1.cell? ⟨w.heap.size, 1, none⟩ = some (.int .i64 H) := (hb1.cell (p := ⟨w.heap.size, 1, none⟩) (by simp)).trans (by simp [go_sem])
    have g2 : w1.cell? ⟨w.heap.size, 2, none⟩ = some (.slice aL L.length cL) := (hb1.cell (p := ⟨w.heap.size, 2, none⟩) (by simp)).trans (by simp [go_sem])
    have g3 : w1.cell? ⟨w.heap.size, 3, none⟩ = some (.slice aS n cS) := (hb1.cell (p := ⟨w.heap.size, 3, none⟩) (by simp)).trans (by simp [go_sem])
    have k0' := (hbb.cell (p := ⟨b0, 0, none⟩) hb).trans k0
    have k1' := (hbb.cell (p := ⟨b0, 0 + 1, none⟩) hb).trans k1
    have k2' := (hbb.cell (p := ⟨b0, 0 + 2, none⟩) hb).trans k2
    rw [Nat.zero_add] at k1' k2'
    have hne : w.heap.size ≠ w1.heap.size := by omega
    have hlt : w.heap.size < w1.heap.size := by omega
    clear hb1
    go_wp2
    refine wp_loop_rounds 2 ?_
    rw [rounds_succ]
    go_wp2_with fail
    have hbb2 := hbb.alloc (by omega) (.cells #[.int .i64 K, .slice aO O.length cO, .int .i64 aw] 28)
    refine (c60.out _ hbb2).mono ?_
    rintro e w2 ⟨rfl, hb2⟩
    have hbb3 := hbb2.trans (hb2.mono hbb2.size)
    clear hb2
    cases s with
    | false =>
      go_wp2
      go_ret
      exact ⟨rfl, hbb3⟩
    | true =>
      go_wp2
      rw [rounds_succ]
      go_wp2
      go_ret
      exact ⟨rfl, hbb3⟩
end Go.Proofs.YtnbgjgiknfcdkaaDoor
