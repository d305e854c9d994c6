/-
  IsOrder of the specification, and the error of jobs and an order; an order runs, and is as long as there are jobs.
-/
import Derived.Test.YtgjgpcpghglnnaaQ
namespace Go.Proofs.Ytgjgpcpghglnnaa
open Go.RowKit Go.Deep M
set_option linter.unusedVariables false
set_option linter.unusedSimpArgs false

/-- The error of jobs and an order. -/
def errO (J : List (List Jb)) (o : List Int) : Int := if valB J = true then (if ordB J o = true then 0 else 61) else 60
/-- What IsOrder answers. -/
def isR (J : List (List Jb)) (o : List Int) : Bool × Int := if valB J = true then (ordB J o, 0) else (false, 60)

set_option maxRecDepth 100000 in
set_option maxHeartbeats 4000000 in
theorem asked_ref (B : Nat) (A Ao : Option Addr) (c co : Nat) (D : List Bc) (o : List Int) (w : World) (h : Bcs w B A D) (ho : Row w B Ao o) (hB : B ≤ w.heap.size) (hL : ∀ i, i < D.length → (be (bl D) i).length ≤ 100) :
    Calls Try.prog 57 #[.slice A D.length c, .slice Ao o.length co] w fun e w' => e = .returned (.int .i64 (errO (bl D) o)) ∧ Below w.heap.size w w' := by
  have h63 := h.1
  have ho63 := ho.1
  have c19 := Valid_ref B A c D w h hB hL
  unfold errO
  by_cases hv : valB (bl D) = true
  · rw [if_pos hv]
    rw [hv] at c19
    have c53 := fun X (hX : Below w.heap.size w X) => isOrder_ref B A Ao c co D o X (h.below (hX.mono hB)) (ho.below (hX.mono hB)) (Nat.le_trans hB hX.size) (val_of hv)
    obtain ⟨R, hR⟩ : ∃ R, R = ordB (bl D) o := ⟨_, rfl⟩
    rw [← hR] at c53 ⊢
    generalize D.length = n at *
    generalize o.length = m at *
    replace hR := Lib.hid hR
    replace c19 := Lib.hid c19
    replace c53 := Lib.hid c53
    replace hv := Lib.hid hv
    replace hL := Lib.hid hL
    replace h := Lib.hid h
    replace ho := Lib.hid ho
    cases R
    all_goals
      go_enter Try.func57, Try.ntmps57
      go_wp2_with fail
      refine c19.out.mono ?_
      rintro e X1 ⟨rfl, hb1⟩
      have k53 := Lib.hid (c53.out X1 hb1)
      replace hb1 := Lib.hid hb1
      go_wp2_with fail
      refine k53.out.mono ?_
      rintro e X2 ⟨rfl, hb2⟩
      have hend := Lib.hid (bel_trans hb1.out hb2)
      clear hb2
      go_wp2
      go_ret
      exact ⟨rfl, hend.out⟩
  · rw [if_neg hv]
    rw [show valB (bl D) = false by simpa using hv] at c19
    generalize D.length = n at *
    generalize o.length = m at *
    replace c19 := Lib.hid c19
    replace hv := Lib.hid hv
    replace hL := Lib.hid hL
    replace h := Lib.hid h
    replace ho := Lib.hid ho
    go_enter Try.func57, Try.ntmps57
    go_wp2_with fail
    refine c19.out.mono ?_
    rintro e X1 ⟨rfl, hb1⟩
    replace hb1 := Lib.hid hb1
    go_wp2
    go_ret
    exact ⟨rfl, hb1.out⟩

set_option maxRecDepth 100000 in
set_option maxHeartbeats 4000000 in
theorem IsOrder_ref (B : Nat) (A Ao : Option Addr) (c co : Nat) (D : List Bc) (o : List Int) (w : World) (h : Bcs w B A D) (ho : Row w B Ao o) (hB : B ≤ w.heap.size) (hL : ∀ i, i < D.length → (be (bl D) i).length ≤ 100) :
    Calls Try.prog 17 #[.slice A D.length c, .slice Ao o.length co] w fun e w' => e = .returned (.tuple #[.bool (isR (bl D) o).1, .int .i64 (isR (bl D) o).2]) ∧ Below w.heap.size w w' := by
  have h63 := h.1
  have ho63 := ho.1
  have c19 := Valid_ref B A c D w h hB hL
  unfold isR
  by_cases hv : valB (bl D) = true
  · rw [if_pos hv]
    rw [hv] at c19
    have c53 := fun X (hX : Below w.heap.size w X) => isOrder_ref B A Ao c co D o X (h.below (hX.mono hB)) (ho.below (hX.mono hB)) (Nat.le_trans hB hX.size) (val_of hv)
    simp only []
    obtain ⟨R, hR⟩ : ∃ R, R = ordB (bl D) o := ⟨_, rfl⟩
    rw [← hR] at c53 ⊢
    generalize D.length = n at *
    generalize o.length = m at *
    replace hR := Lib.hid hR
    replace c19 := Lib.hid c19
    replace c53 := Lib.hid c53
    replace hv := Lib.hid hv
    replace hL := Lib.hid hL
    replace h := Lib.hid h
    replace ho := Lib.hid ho
    go_enter Try.func17, Try.ntmps17
    go_wp2_with fail
    refine c19.out.mono ?_
    rintro e X1 ⟨rfl, hb1⟩
    have k53 := Lib.hid (c53.out X1 hb1)
    replace hb1 := Lib.hid hb1
    go_wp2_with fail
    refine k53.out.mono ?_
    rintro e X2 ⟨rfl, hb2⟩
    have hend := Lib.hid (bel_trans hb1.out hb2)
    clear hb2
    go_wp2
    exact bodyPost_ret (v := .tuple #[.bool R, .int .i64 0]) (by simp [results, Try.results17, go_sem]) rfl ⟨rfl, hend.out⟩
  · rw [if_neg hv]
    rw [show valB (bl D) = false by simpa using hv] at c19
    simp only []
    generalize D.length = n at *
    generalize o.length = m at *
    replace c19 := Lib.hid c19
    replace hv := Lib.hid hv
    replace hL := Lib.hid hL
    replace h := Lib.hid h
    replace ho := Lib.hid ho
    go_enter Try.func17, Try.ntmps17
    go_wp2_with fail
    refine c19.out.mono ?_
    rintro e X1 ⟨rfl, hb1⟩
    replace hb1 := Lib.hid hb1
    go_wp2
    exact bodyPost_ret (v := .tuple #[.bool false, .int .i64 60]) (by simp [results, Try.results17, go_sem]) rfl ⟨rfl, hb1.out⟩
end Go.Proofs.Ytgjgpcpghglnnaa
