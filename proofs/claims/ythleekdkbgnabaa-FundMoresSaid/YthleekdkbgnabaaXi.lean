/-
  By how much less a claimant gets than the two in its place: the specification's function, in every case.
-/
import Derived.Test.YthleekdkbgnabaaXf
import Derived.Test.YthleekdkbgnabaaXg
import Derived.Test.YthleekdkbgnabaaXh
namespace Go.Proofs.Ythleekdkbgnabaa
open Go.RowKit Go.Deep M
set_option linter.unusedVariables false
set_option linter.unusedSimpArgs false

set_option maxRecDepth 100000 in
set_option maxHeartbeats 2000000 in
theorem SplitR_bad (B : Nat) (A : Option Addr) (c : Nat) (l : List Int) (e q j a : Int) (w : World) (h : Row w B A l) (hB : B ≤ w.heap.size) (hk : ¬ okS l e q) :
    Calls Try.prog 44 #[.slice A l.length c, .int .i64 e, .int .i64 q, .int .i64 j, .int .i64 a] w fun r w' => r = .returned (.tuple #[rtV ⟨0, 0⟩, .int .i64 (errS l e q)]) ∧ Below w.heap.size w w' := by
  have h63 := h.1
  have hr0 := Bxr.new w 0 0
  have hb0 := ba1 w (.cells #[.int .i64 0, .int .i64 0] 37)
  have hrow := fun X (hX : Below w.heap.size w X) => h.below (hX.mono hB)
  obtain ⟨Y, hY⟩ : ∃ Y, Y = w.alloc (.cells #[.int .i64 0, .int .i64 0] 37) := ⟨_, rfl⟩
  rw [← hY] at hr0 hb0
  have k1 := ruled_any B A c l e q Y (hrow Y hb0)
  have hne := errS_ne hk
  generalize errS l e q = E at *
  generalize l.length = n at *
  have hn : (E != 0) = true := by simp; omega
  have hn2 : (E == 0) = false := by simp; omega
  replace k1 := Lib.hid k1
  replace hk := Lib.hid hk
  replace hne := Lib.hid hne
  unfold rtV at *
  simp only
  replace hrow := Lib.hid hrow
  replace h := Lib.hid h
  replace hY := Lib.hid hY
  replace hr0 := Lib.hid hr0
  replace hb0 := Lib.hid hb0
  go_enter Try.func44, Try.ntmps44
  go_wp2_with fail
  rw [← hY.out]
  refine k1.out.mono ?_
  rintro _ X0 ⟨rfl, rfl⟩
  have hx1 := hr0.out
  have z0 := hx1.c0
  have z1 := hx1.c1
  have z2 := hx1.fz 0
  have z3 := hx1.fz 1
  have z4 := hx1.lt
  have y := hx1.set 0 0
  have y0 := y.c0
  have y1 := y.c1
  have hend := Lib.hid (set2_below hb0.out (Nat.le_refl _) (.int .i64 0) (.int .i64 0))
  replace hx1 := Lib.hid hx1
  replace y := Lib.hid y
  go_wp2
  exact bodyPost_ret (v := .tuple #[.agg #[.int .i64 0, .int .i64 0], .int .i64 E]) (by simp [results, Try.results44, go_sem, y0, y1]) rfl ⟨rfl, hend.out⟩
set_option maxRecDepth 100000 in
set_option maxHeartbeats 2000000 in
theorem SplitR_rng (B : Nat) (A : Option Addr) (c : Nat) (l : List Int) (e q j a : Int) (w : World) (h : Row w B A l) (hB : B ≤ w.heap.size) (hk : okS l e q) (hr : ¬ (0 ≤ j ∧ j < l.length)) (hl : l.length ≤ 8) :
    Calls Try.prog 44 #[.slice A l.length c, .int .i64 e, .int .i64 q, .int .i64 j, .int .i64 a] w fun r w' => r = .returned (.tuple #[rtV ⟨0, 0⟩, .int .i64 2]) ∧ Below w.heap.size w w' := by
  have h63 := h.1
  have hr0 := Bxr.new w 0 0
  have hb0 := ba1 w (.cells #[.int .i64 0, .int .i64 0] 37)
  have hrow := fun X (hX : Below w.heap.size w X) => h.below (hX.mono hB)
  obtain ⟨Y, hY⟩ : ∃ Y, Y = w.alloc (.cells #[.int .i64 0, .int .i64 0] 37) := ⟨_, rfl⟩
  rw [← hY] at hr0 hb0
  have k1 := ruled_any B A c l e q Y (hrow Y hb0)
  rw [errS_ok hk] at k1
  have kw := within_any 0 j ((l.length : Int) - 1) Y
  rw [decide_eq_false (by omega)] at kw
  generalize l.length = n at *
  replace k1 := Lib.hid k1
  replace kw := Lib.hid kw
  replace hk := Lib.hid hk
  replace hr := Lib.hid hr
  unfold rtV at *
  simp only
  replace hrow := Lib.hid hrow
  replace h := Lib.hid h
  replace hY := Lib.hid hY
  replace hr0 := Lib.hid hr0
  replace hb0 := Lib.hid hb0
  go_enter Try.func44, Try.ntmps44
  go_wp2_with fail
  rw [← hY.out]
  refine k1.out.mono ?_
  rintro _ X0 ⟨rfl, rfl⟩
  go_wp2_with fail
  refine kw.out.mono ?_
  rintro _ X1 ⟨rfl, rfl⟩
  have hx1 := hr0.out
  have z0 := hx1.c0
  have z1 := hx1.c1
  have z2 := hx1.fz 0
  have z3 := hx1.fz 1
  have z4 := hx1.lt
  have y := hx1.set 0 0
  have y0 := y.c0
  have y1 := y.c1
  have hend := Lib.hid (set2_below hb0.out (Nat.le_refl _) (.int .i64 0) (.int .i64 0))
  replace hx1 := Lib.hid hx1
  replace y := Lib.hid y
  go_wp2
  exact bodyPost_ret (v := .tuple #[.agg #[.int .i64 0, .int .i64 0], .int .i64 2]) (by simp [results, Try.results44, go_sem, y0, y1]) rfl ⟨rfl, hend.out⟩
set_option maxRecDepth 100000 in
set_option maxHeartbeats 2000000 in
theorem SplitR_arg (B : Nat) (A : Option Addr) (c : Nat) (l : List Int) (e q a : Int) (j : Nat) (w : World) (h : Row w B A l) (hB : B ≤ w.heap.size) (hk : okS l e q) (hj : j < l.length) (hl : l.length ≤ 8) (hne : ¬ (0 ≤ a ∧ a ≤ el l j)) :
    Calls Try.prog 44 #[.slice A l.length c, .int .i64 e, .int .i64 q, .int .i64 j, .int .i64 a] w fun r w' => r = .returned (.tuple #[rtV ⟨0, 0⟩, .int .i64 2]) ∧ Below w.heap.size w w' := by
  have h63 := h.1
  have hr0 := Bxr.new w 0 0
  have hb0 := ba1 w (.cells #[.int .i64 0, .int .i64 0] 37)
  have hrow := fun X (hX : Below w.heap.size w X) => h.below (hX.mono hB)
  obtain ⟨Y, hY⟩ : ∃ Y, Y = w.alloc (.cells #[.int .i64 0, .int .i64 0] 37) := ⟨_, rfl⟩
  rw [← hY] at hr0 hb0
  have k1 := ruled_any B A c l e q Y (hrow Y hb0)
  rw [errS_ok hk] at k1
  have kw := within_any 0 (j : Int) ((l.length : Int) - 1) Y
  rw [decide_eq_true (by omega)] at kw
  obtain ⟨bA, oA, rfl, hbA, a0⟩ := (hrow Y hb0).at_ j hj
  have kv := within_any 0 a (el l j) Y
  rw [decide_eq_false hne] at kv
  generalize el l j = x at *
  replace kv := Lib.hid kv
  generalize l.length = n at *
  have hjn : (j : Int) < (n : Int) := by omega
  replace k1 := Lib.hid k1
  replace kw := Lib.hid kw
  replace hk := Lib.hid hk
  replace hne := Lib.hid hne
  unfold rtV at *
  simp only
  replace hrow := Lib.hid hrow
  replace h := Lib.hid h
  replace hY := Lib.hid hY
  replace hr0 := Lib.hid hr0
  replace hb0 := Lib.hid hb0
  go_enter Try.func44, Try.ntmps44
  go_wp2_with fail
  rw [← hY.out]
  refine k1.out.mono ?_
  rintro _ X0 ⟨rfl, rfl⟩
  go_wp2_with fail
  refine kw.out.mono ?_
  rintro _ X1 ⟨rfl, rfl⟩
  go_wp2_with fail
  refine kv.out.mono ?_
  rintro _ X2 ⟨rfl, rfl⟩
  have hx1 := hr0.out
  have z0 := hx1.c0
  have z1 := hx1.c1
  have z2 := hx1.fz 0
  have z3 := hx1.fz 1
  have z4 := hx1.lt
  have y := hx1.set 0 0
  have y0 := y.c0
  have y1 := y.c1
  have hend := Lib.hid (set2_below hb0.out (Nat.le_refl _) (.int .i64 0) (.int .i64 0))
  replace hx1 := Lib.hid hx1
  replace y := Lib.hid y
  go_wp2
  exact bodyPost_ret (v := .tuple #[.agg #[.int .i64 0, .int .i64 0], .int .i64 2]) (by simp [results, Try.results44, go_sem, y0, y1]) rfl ⟨rfl, hend.out⟩
set_option maxRecDepth 100000 in
set_option maxHeartbeats 2000000 in
theorem SplitR_five (B : Nat) (A : Option Addr) (c : Nat) (l : List Int) (e q a : Int) (j : Nat) (w : World) (h : Row w B A l) (hB : B ≤ w.heap.size) (hk : okS l e q) (hj : j < l.length) (hl : l.length ≤ 8) (ha : 0 ≤ a ∧ a ≤ el l j) (h8 : l.length = 8) :
    Calls Try.prog 44 #[.slice A l.length c, .int .i64 e, .int .i64 q, .int .i64 j, .int .i64 a] w fun r w' => r = .returned (.tuple #[rtV ⟨0, 0⟩, .int .i64 5]) ∧ Below w.heap.size w w' := by
  have h63 := h.1
  have hr0 := Bxr.new w 0 0
  have hb0 := ba1 w (.cells #[.int .i64 0, .int .i64 0] 37)
  have hrow := fun X (hX : Below w.heap.size w X) => h.below (hX.mono hB)
  obtain ⟨Y, hY⟩ : ∃ Y, Y = w.alloc (.cells #[.int .i64 0, .int .i64 0] 37) := ⟨_, rfl⟩
  rw [← hY] at hr0 hb0
  have k1 := ruled_any B A c l e q Y (hrow Y hb0)
  rw [errS_ok hk] at k1
  have kw := within_any 0 (j : Int) ((l.length : Int) - 1) Y
  rw [decide_eq_true (by omega)] at kw
  obtain ⟨bA, oA, rfl, hbA, a0⟩ := (hrow Y hb0).at_ j hj
  have kv := within_any 0 a (el l j) Y
  rw [decide_eq_true ha] at kv
  generalize el l j = x at *
  replace kv := Lib.hid kv
  replace ha := Lib.hid ha
  generalize l.length = n at *
  have hjn : (j : Int) < (n : Int) := by omega
  replace k1 := Lib.hid k1
  replace kw := Lib.hid kw
  replace hk := Lib.hid hk
  subst h8
  unfold rtV at *
  simp only
  replace hrow := Lib.hid hrow
  replace h := Lib.hid h
  replace hY := Lib.hid hY
  replace hr0 := Lib.hid hr0
  replace hb0 := Lib.hid hb0
  go_enter Try.func44, Try.ntmps44
  go_wp2_with fail
  rw [← hY.out]
  refine k1.out.mono ?_
  rintro _ X0 ⟨rfl, rfl⟩
  go_wp2_with fail
  refine kw.out.mono ?_
  rintro _ X1 ⟨rfl, rfl⟩
  go_wp2_with fail
  refine kv.out.mono ?_
  rintro _ X2 ⟨rfl, rfl⟩
  have hx1 := hr0.out
  have z0 := hx1.c0
  have z1 := hx1.c1
  have z2 := hx1.fz 0
  have z3 := hx1.fz 1
  have z4 := hx1.lt
  have y := hx1.set 0 0
  have y0 := y.c0
  have y1 := y.c1
  have hend := Lib.hid (set2_below hb0.out (Nat.le_refl _) (.int .i64 0) (.int .i64 0))
  replace hx1 := Lib.hid hx1
  replace y := Lib.hid y
  go_wp2
  exact bodyPost_ret (v := .tuple #[.agg #[.int .i64 0, .int .i64 0], .int .i64 5]) (by simp [results, Try.results44, go_sem, y0, y1]) rfl ⟨rfl, hend.out⟩
/-- What Split answers, in every case: the specification's function. -/
theorem SplitR_any (B : Nat) (A : Option Addr) (c : Nat) (l : List Int) (e q j a : Int) (w : World) (h : Row w B A l) (hB : B ≤ w.heap.size) (hcap : l.length ≤ c) (hc9 : c ≤ 9223372036854775807) :
    Calls Try.prog 44 #[.slice A l.length c, .int .i64 e, .int .i64 q, .int .i64 j, .int .i64 a] w fun r w' => r = .returned (.tuple #[rtV (spR l e q j a), .int .i64 (spE l e q j a)]) ∧ Below w.heap.size w w' := by
  by_cases hs : okS l e q
  · have hl := val_len hs.1.1
    by_cases hr : 0 ≤ j ∧ j < l.length
    · have ht : okT l e q j := ⟨hs, hr⟩
      obtain ⟨i, hi, rfl⟩ := okT_nat ht
      by_cases ha : 0 ≤ a ∧ a ≤ el l i
      · by_cases h8 : l.length = 8
        · rw [spR_no (fun hm => hm.2 h8), spE_five ht (by simpa using ha) h8]
          exact SplitR_five B A c l e q a i w h hB hs hi hl.2 ha h8
        · have hm : okP l e q i a := ⟨⟨ht, by simpa using ha⟩, h8⟩
          rw [spR_ok hm, spE_ok hm]
          simp only [Int.toNat_natCast]
          obtain ⟨k, hk4, rfl⟩ := okS_nat hs
          obtain ⟨b, o, rfl, _⟩ := h.at_ i hi
          by_cases hcj : c = i + 1
          · exact SplitR_a B b o c l e a w h hB hs.1 k i hk4 hi ha h8 hcap hc9 hcj
          · exact SplitR_b B b o c l e a w h hB hs.1 k i hk4 hi ha h8 hcap hc9 hcj
      · rw [spR_no (fun hm => ha (by simpa using hm.1.2)), spE_arg ht (by simpa using ha)]
        exact SplitR_arg B A c l e q a i w h hB hs hi hl.2 ha
    · have ht : ¬ okT l e q j := fun hh => hr hh.2
      rw [spR_no (fun hm => ht hm.1.1), spE_bad ht]
      have he : errT l e q j = 2 := by unfold errT; rw [if_pos hs, if_neg hr]
      rw [he]
      exact SplitR_rng B A c l e q j a w h hB hs hr hl.2
  · have ht : ¬ okT l e q j := fun hh => hs hh.1
    rw [spR_no (fun hm => ht hm.1.1), spE_bad ht]
    have he : errT l e q j = errS l e q := by unfold errT; rw [if_neg hs]
    rw [he]
    exact SplitR_bad B A c l e q j a w h hB hs
end Go.Proofs.Ythleekdkbgnabaa
