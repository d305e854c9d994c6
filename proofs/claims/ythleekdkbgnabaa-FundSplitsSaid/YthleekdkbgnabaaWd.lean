/-
  By how much an award is greater with a greater claim: the program's function, in every case.
-/
import Derived.Test.YthleekdkbgnabaaWb
import Derived.Test.YthleekdkbgnabaaWc
namespace Go.Proofs.Ythleekdkbgnabaa
open Go.RowKit Go.Deep M
set_option linter.unusedVariables false
set_option linter.unusedSimpArgs false

theorem More_good (B : Nat) (A : Option Addr) (c : Nat) (l : List Int) (e : Int) (w : World) (h : Row w B A l) (hB : B ≤ w.heap.size) (hk : okE l e) (k j : Nat) (hk1 : k < 4) (hj : j < l.length) (hne : el l j ≠ 1000) :
    Calls Try.prog 41 #[.slice A l.length c, .int .i64 e, .int .i64 (k + 1 : Nat), .int .i64 j] w fun r w' => r = .returned (.tuple #[rtV (miR (shR (incL l j) e (k + 1 : Nat) j) (shR l e (k + 1 : Nat) j)), .int .i64 0]) ∧ Below w.heap.size w w' := by
  by_cases h2 : k < 2
  · exact More_ok01 B A c l e w h hB hk k j h2 hj hne
  · exact More_ok23 B A c l e w h hB hk k j ⟨by omega, hk1⟩ hj hne
set_option maxRecDepth 100000 in
set_option maxHeartbeats 2000000 in
theorem More_five (B : Nat) (A : Option Addr) (c : Nat) (l : List Int) (e : Int) (w : World) (h : Row w B A l) (hB : B ≤ w.heap.size) (hk : okE l e) (k j : Nat) (hk1 : k < 4) (hj : j < l.length) (hne : el l j = 1000) :
    Calls Try.prog 41 #[.slice A l.length c, .int .i64 e, .int .i64 (k + 1 : Nat), .int .i64 j] w fun r w' => r = .returned (.tuple #[rtV ⟨0, 0⟩, .int .i64 5]) ∧ Below w.heap.size w w' := by
  have h63 := h.1
  have hr0 := Bxr.new w 0 0
  have hb0 := ba1 w (.cells #[.int .i64 0, .int .i64 0] 37)
  have hrow := fun X (hX : Below w.heap.size w X) => h.below (hX.mono hB)
  obtain ⟨Y, hY⟩ : ∃ Y, Y = w.alloc (.cells #[.int .i64 0, .int .i64 0] 37) := ⟨_, rfl⟩
  rw [← hY] at hr0 hb0
  have k1 := cClaim_ok B A c l e Y (hrow Y hb0) hk k j hk1 hj
  have hat := fun X (hX : Below w.heap.size w X) => (hrow X hX).at_ j hj
  rw [hne] at hat
  generalize l.length = n at *
  unfold rtV at *
  unfold fnV at k1
  simp only
  have hjn : (j : Int) < (n : Int) := by omega
  obtain ⟨q, hq⟩ : ∃ q : Int, q = (k + 1 : Nat) := ⟨_, rfl⟩
  rw [← hq] at k1 ⊢
  replace hq := Lib.hid hq
  replace hne := Lib.hid hne
  replace hrow := Lib.hid hrow
  replace hat := Lib.hid hat
  replace h := Lib.hid h
  replace hk := Lib.hid hk
  replace hY := Lib.hid hY
  replace hr0 := Lib.hid hr0
  replace hb0 := Lib.hid hb0
  replace k1 := Lib.hid k1
  go_enter Try.func41, Try.ntmps41
  go_wp2_with fail
  rw [← hY.out]
  refine k1.out.mono ?_
  rintro _ X1 ⟨rfl, hb1⟩
  have hX1 := bel_trans hb0.out hb1
  have hx1 := hr0.out.up hb1
  obtain ⟨bA, oA, rfl, hbA, a0⟩ := hat.out X1 hX1
  have z0 := hx1.c0
  have z1 := hx1.c1
  have z2 := hx1.fz 0
  have z3 := hx1.fz 1
  have z4 := hx1.lt
  have y := hx1.set 0 0
  have y0 := y.c0
  have y1 := y.c1
  have hend := Lib.hid (set2_below hX1 (Nat.le_refl _) (.int .i64 0) (.int .i64 0))
  replace hX1 := Lib.hid hX1
  replace hx1 := Lib.hid hx1
  replace hb1 := Lib.hid hb1
  replace y := Lib.hid y
  go_wp2
  exact bodyPost_ret (v := .tuple #[.agg #[.int .i64 0, .int .i64 0], .int .i64 5]) (by simp [results, Try.results41, go_sem, y0, y1]) rfl ⟨rfl, hend.out⟩
set_option maxRecDepth 100000 in
set_option maxHeartbeats 2000000 in
theorem More_bad (B : Nat) (A : Option Addr) (c : Nat) (l : List Int) (e q j : Int) (w : World) (h : Row w B A l) (hB : B ≤ w.heap.size) (hk : ¬ okT l e q j) :
    Calls Try.prog 41 #[.slice A l.length c, .int .i64 e, .int .i64 q, .int .i64 j] w fun r w' => r = .returned (.tuple #[rtV ⟨0, 0⟩, .int .i64 (errT l e q j)]) ∧ Below w.heap.size w w' := by
  have hr0 := Bxr.new w 0 0
  have hb0 := ba1 w (.cells #[.int .i64 0, .int .i64 0] 37)
  obtain ⟨Y, hY⟩ : ∃ Y, Y = w.alloc (.cells #[.int .i64 0, .int .i64 0] 37) := ⟨_, rfl⟩
  rw [← hY] at hr0 hb0
  have k1 := cClaim_bad B A c l e q j Y (h.below (hb0.mono hB)) hk
  have hne := errT_ne hk
  generalize errT l e q j = E at *
  generalize l.length = n at *
  have hn : (E != 0) = true := by simp; omega
  unfold rtV at *
  simp only
  replace h := Lib.hid h
  replace hk := Lib.hid hk
  replace hne := Lib.hid hne
  replace hY := Lib.hid hY
  replace hr0 := Lib.hid hr0
  replace hb0 := Lib.hid hb0
  replace k1 := Lib.hid k1
  go_enter Try.func41, Try.ntmps41
  go_wp2_with fail
  rw [← hY.out]
  refine k1.out.mono ?_
  rintro _ X1 ⟨rfl, hb1⟩
  have hX1 := bel_trans hb0.out hb1
  have hx1 := hr0.out.up hb1
  have z0 := hx1.c0
  have z1 := hx1.c1
  have z2 := hx1.fz 0
  have z3 := hx1.fz 1
  have z4 := hx1.lt
  have y := hx1.set 0 0
  have y0 := y.c0
  have y1 := y.c1
  have hend := Lib.hid (set2_below hX1 (Nat.le_refl _) (.int .i64 0) (.int .i64 0))
  replace hX1 := Lib.hid hX1
  replace hx1 := Lib.hid hx1
  replace hb1 := Lib.hid hb1
  replace y := Lib.hid y
  go_wp2
  exact bodyPost_ret (v := .tuple #[.agg #[.int .i64 0, .int .i64 0], .int .i64 E]) (by simp [results, Try.results41, go_sem, y0, y1]) rfl ⟨rfl, hend.out⟩
/-- What More answers, in every case. -/
theorem More_any (B : Nat) (A : Option Addr) (c : Nat) (l : List Int) (e q j : Int) (w : World) (h : Row w B A l) (hB : B ≤ w.heap.size) :
    Calls Try.prog 41 #[.slice A l.length c, .int .i64 e, .int .i64 q, .int .i64 j] w fun r w' => r = .returned (.tuple #[rtV (moR l e q j), .int .i64 (moE l e q j)]) ∧ Below w.heap.size w w' := by
  by_cases ht : okT l e q j
  · have ht' := ht
    obtain ⟨k, hk4, rfl⟩ := okS_nat ht.1
    obtain ⟨i, hi, rfl⟩ := okT_nat ht
    by_cases h5 : el l i = 1000
    · rw [moR_no (fun hm => hm.2 (by simpa using h5)), moE_five ht (by simpa using h5)]
      exact More_five B A c l e w h hB ht.1.1 k i hk4 hi h5
    · have hm : okM l e (k + 1 : Nat) i := ⟨ht, by simpa using h5⟩
      rw [moR_ok hm, moE_ok hm]
      simp only [Int.toNat_natCast]
      exact More_good B A c l e w h hB ht.1.1 k i hk4 hi h5
  · rw [moR_no (fun hm => ht hm.1), moE_bad ht]
    exact More_bad B A c l e q j w h hB ht
end Go.Proofs.Ythleekdkbgnabaa
