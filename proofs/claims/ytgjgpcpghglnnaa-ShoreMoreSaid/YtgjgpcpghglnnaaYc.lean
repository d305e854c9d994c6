/-
  IsOrder, the error of jobs and an order, and Harm: the program's functions.
-/
import Derived.Test.YtgjgpcpghglnnaaYb
import Derived.Test.YtgjgpcpghglnnaaF
namespace Go.Proofs.Ytgjgpcpghglnnaa
open Go.RowKit Go.Deep M
set_option linter.unusedVariables false
set_option linter.unusedSimpArgs false

set_option maxRecDepth 100000 in
set_option maxHeartbeats 4000000 in
theorem checkedOrder_any (B : Nat) (A Ao : Option Addr) (c co : Nat) (D : List Bc) (o : List Int) (w : World) (h : Bcs w B A D) (ho : Row w B Ao o) (hB : B ≤ w.heap.size) (hL : ∀ i, i < D.length → (be (bl D) i).length ≤ 100) :
    Calls Try.prog 55 #[.slice A D.length c, .slice Ao o.length co] w fun e w' => e = .returned (.int .i64 (errO (bl D) o)) ∧ Below w.heap.size w w' := by
  have h63 := h.1
  have ho63 := ho.1
  have c51 := checked_any B A c D w h hB hL
  unfold errV at c51
  unfold errO
  by_cases hv : valB (bl D) = true
  · rw [if_pos hv] at c51 ⊢
    have c52 := fun X (hX : Below w.heap.size w X) => isOrder_any B A Ao c co D o X (h.below (hX.mono hB)) (ho.below (hX.mono hB)) (Nat.le_trans hB hX.size) (val_of hv)
    obtain ⟨R, hR⟩ : ∃ R, R = ordB (bl D) o := ⟨_, rfl⟩
    rw [← hR] at c52 ⊢
    generalize D.length = n at *
    generalize o.length = m at *
    replace hR := Lib.hid hR
    replace c51 := Lib.hid c51
    replace c52 := Lib.hid c52
    replace hv := Lib.hid hv
    replace hL := Lib.hid hL
    replace h := Lib.hid h
    replace ho := Lib.hid ho
    cases R
    all_goals
      go_enter Try.func55, Try.ntmps55
      go_wp2_with fail
      refine c51.out.mono ?_
      rintro e X1 ⟨rfl, hb1⟩
      have k52 := Lib.hid (c52.out X1 hb1)
      replace hb1 := Lib.hid hb1
      go_wp2_with fail
      refine k52.out.mono ?_
      rintro e X2 ⟨rfl, hb2⟩
      have hend := Lib.hid (bel_trans hb1.out hb2)
      clear hb2
      go_wp2
      go_ret
      exact ⟨rfl, hend.out⟩
  · rw [if_neg hv] at c51 ⊢
    generalize D.length = n at *
    generalize o.length = m at *
    replace c51 := Lib.hid c51
    replace hv := Lib.hid hv
    replace hL := Lib.hid hL
    replace h := Lib.hid h
    replace ho := Lib.hid ho
    go_enter Try.func55, Try.ntmps55
    go_wp2_with fail
    refine c51.out.mono ?_
    rintro e X1 ⟨rfl, hb1⟩
    replace hb1 := Lib.hid hb1
    go_wp2
    go_ret
    exact ⟨rfl, hb1.out⟩

set_option maxRecDepth 100000 in
set_option maxHeartbeats 4000000 in
theorem IsOrder_any (B : Nat) (A Ao : Option Addr) (c co : Nat) (D : List Bc) (o : List Int) (w : World) (h : Bcs w B A D) (ho : Row w B Ao o) (hB : B ≤ w.heap.size) (hL : ∀ i, i < D.length → (be (bl D) i).length ≤ 100) :
    Calls Try.prog 16 #[.slice A D.length c, .slice Ao o.length co] w fun e w' => e = .returned (.tuple #[.bool (isR (bl D) o).1, .int .i64 (isR (bl D) o).2]) ∧ Below w.heap.size w w' := by
  have h63 := h.1
  have ho63 := ho.1
  have c51 := checked_any B A c D w h hB hL
  unfold errV at c51
  unfold isR
  by_cases hv : valB (bl D) = true
  · rw [if_pos hv] at c51 ⊢
    have c52 := fun X (hX : Below w.heap.size w X) => isOrder_any B A Ao c co D o X (h.below (hX.mono hB)) (ho.below (hX.mono hB)) (Nat.le_trans hB hX.size) (val_of hv)
    simp only []
    obtain ⟨R, hR⟩ : ∃ R, R = ordB (bl D) o := ⟨_, rfl⟩
    rw [← hR] at c52 ⊢
    generalize D.length = n at *
    generalize o.length = m at *
    replace hR := Lib.hid hR
    replace c51 := Lib.hid c51
    replace c52 := Lib.hid c52
    replace hv := Lib.hid hv
    replace hL := Lib.hid hL
    replace h := Lib.hid h
    replace ho := Lib.hid ho
    go_enter Try.func16, Try.ntmps16
    go_wp2_with fail
    refine c51.out.mono ?_
    rintro e X1 ⟨rfl, hb1⟩
    have k52 := Lib.hid (c52.out X1 hb1)
    replace hb1 := Lib.hid hb1
    go_wp2_with fail
    refine k52.out.mono ?_
    rintro e X2 ⟨rfl, hb2⟩
    have hend := Lib.hid (bel_trans hb1.out hb2)
    clear hb2
    go_wp2
    exact bodyPost_ret (v := .tuple #[.bool R, .int .i64 0]) (by simp [results, Try.results16, go_sem]) rfl ⟨rfl, hend.out⟩
  · rw [if_neg hv] at c51 ⊢
    simp only []
    generalize D.length = n at *
    generalize o.length = m at *
    replace c51 := Lib.hid c51
    replace hv := Lib.hid hv
    replace hL := Lib.hid hL
    replace h := Lib.hid h
    replace ho := Lib.hid ho
    go_enter Try.func16, Try.ntmps16
    go_wp2_with fail
    refine c51.out.mono ?_
    rintro e X1 ⟨rfl, hb1⟩
    replace hb1 := Lib.hid hb1
    go_wp2
    exact bodyPost_ret (v := .tuple #[.bool false, .int .i64 60]) (by simp [results, Try.results16, go_sem]) rfl ⟨rfl, hb1.out⟩

end Go.Proofs.Ytgjgpcpghglnnaa
