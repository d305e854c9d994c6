/-
  By how much less a claimant gets than the two in its place: the program's function, in every case.
-/
import Derived.Test.YthleekdkbgnabaaXd
import Derived.Test.YthleekdkbgnabaaXe
import Derived.Test.YthleekdkbgnabaaWd
namespace Go.Proofs.Ythleekdkbgnabaa
open Go.RowKit Go.Deep M
set_option linter.unusedVariables false
set_option linter.unusedSimpArgs false

set_option maxRecDepth 100000 in
set_option maxHeartbeats 2000000 in
theorem Split_arg (B : Nat) (A : Option Addr) (c : Nat) (l : List Int) (e a : Int) (w : World) (h : Row w B A l) (hB : B ≤ w.heap.size) (hk : okE l e) (k j : Nat) (hk1 : k < 4) (hj : j < l.length) (hne : a < 0 ∨ 0 ≤ a ∧ el l j < a) :
    Calls Try.prog 43 #[.slice A l.length c, .int .i64 e, .int .i64 (k + 1 : Nat), .int .i64 j, .int .i64 a] w fun r w' => r = .returned (.tuple #[rtV ⟨0, 0⟩, .int .i64 2]) ∧ Below w.heap.size w w' := by
  have h63 := h.1
  have hr0 := Bxr.new w 0 0
  have hb0 := ba1 w (.cells #[.int .i64 0, .int .i64 0] 37)
  have hrow := fun X (hX : Below w.heap.size w X) => h.below (hX.mono hB)
  obtain ⟨Y, hY⟩ : ∃ Y, Y = w.alloc (.cells #[.int .i64 0, .int .i64 0] 37) := ⟨_, rfl⟩
  rw [← hY] at hr0 hb0
  have k1 := cClaim_ok B A c l e Y (hrow Y hb0) hk k j hk1 hj
  have hat := fun X (hX : Below w.heap.size w X) => (hrow X hX).at_ j hj
  generalize l.length = n at *
  unfold rtV at *
  unfold fnV at k1
  simp only
  have hjn : (j : Int) < (n : Int) := by omega
  obtain ⟨q, hq⟩ : ∃ q : Int, q = (k + 1 : Nat) := ⟨_, rfl⟩
  rw [← hq] at k1 ⊢
  replace hq := Lib.hid hq
  replace hrow := Lib.hid hrow
  replace h := Lib.hid h
  replace hk := Lib.hid hk
  replace hY := Lib.hid hY
  replace hr0 := Lib.hid hr0
  replace hb0 := Lib.hid hb0
  replace k1 := Lib.hid k1
  obtain ⟨x, hx⟩ : ∃ x, x = el l j := ⟨_, rfl⟩
  simp only [← hx] at hne hat
  replace hx := Lib.hid hx
  replace hat := Lib.hid hat
  rcases hne with hne | ⟨hne0, hne⟩
  all_goals
   go_enter Try.func43, Try.ntmps43
   go_wp2_with fail
   rw [← hY.out]
   refine k1.out.mono ?_
   rintro _ X1 ⟨rfl, hb1⟩
   have hX1 := bel_trans hb0.out hb1
   have hx1 := hr0.out.up hb1
   obtain ⟨bA, oA, rfl, hbA, a0⟩ := hat.out X1 hX1
   have z0 := hx1.c0
   have z1 := hx1.c1
   have z2 := hx1.fz 0
   have z3 := hx1.fz 1
   have z4 := hx1.lt
   have y := hx1.set 0 0
   have y0 := y.c0
   have y1 := y.c1
   have hend := Lib.hid (set2_below hX1 (Nat.le_refl _) (.int .i64 0) (.int .i64 0))
   replace hX1 := Lib.hid hX1
   replace hx1 := Lib.hid hx1
   replace hb1 := Lib.hid hb1
   replace y := Lib.hid y
   go_wp2
   exact bodyPost_ret (v := .tuple #[.agg #[.int .i64 0, .int .i64 0], .int .i64 2]) (by simp [results, Try.results43, go_sem, y0, y1]) rfl ⟨rfl, hend.out⟩
set_option maxRecDepth 100000 in
set_option maxHeartbeats 2000000 in
theorem Split_five (B : Nat) (A : Option Addr) (c : Nat) (l : List Int) (e a : Int) (w : World) (h : Row w B A l) (hB : B ≤ w.heap.size) (hk : okE l e) (k j : Nat) (hk1 : k < 4) (hj : j < l.length) (ha : 0 ≤ a ∧ a ≤ el l j) (hne : l.length = 8) :
    Calls Try.prog 43 #[.slice A l.length c, .int .i64 e, .int .i64 (k + 1 : Nat), .int .i64 j, .int .i64 a] w fun r w' => r = .returned (.tuple #[rtV ⟨0, 0⟩, .int .i64 5]) ∧ Below w.heap.size w w' := by
  have h63 := h.1
  have hr0 := Bxr.new w 0 0
  have hb0 := ba1 w (.cells #[.int .i64 0, .int .i64 0] 37)
  have hrow := fun X (hX : Below w.heap.size w X) => h.below (hX.mono hB)
  obtain ⟨Y, hY⟩ : ∃ Y, Y = w.alloc (.cells #[.int .i64 0, .int .i64 0] 37) := ⟨_, rfl⟩
  rw [← hY] at hr0 hb0
  have k1 := cClaim_ok B A c l e Y (hrow Y hb0) hk k j hk1 hj
  have hat := fun X (hX : Below w.heap.size w X) => (hrow X hX).at_ j hj
  have hx0 := hk.1.2 j hj
  unfold okC at hx0
  generalize l.length = n at *
  unfold rtV at *
  unfold fnV at k1
  simp only
  have hjn : (j : Int) < (n : Int) := by omega
  obtain ⟨q, hq⟩ : ∃ q : Int, q = (k + 1 : Nat) := ⟨_, rfl⟩
  rw [← hq] at k1 ⊢
  replace hq := Lib.hid hq
  have hn8 : n = 8 := hne
  subst hn8
  obtain ⟨x, hx⟩ : ∃ x, x = el l j := ⟨_, rfl⟩
  simp only [← hx] at ha hat hx0
  replace hx := Lib.hid hx
  have ha1 : ¬ a < 0 := by omega
  have ha2 : ¬ x < a := by omega
  replace hrow := Lib.hid hrow
  replace hat := Lib.hid hat
  replace h := Lib.hid h
  replace hk := Lib.hid hk
  replace hY := Lib.hid hY
  replace hr0 := Lib.hid hr0
  replace hb0 := Lib.hid hb0
  replace k1 := Lib.hid k1
  go_enter Try.func43, Try.ntmps43
  go_wp2_with fail
  rw [← hY.out]
  refine k1.out.mono ?_
  rintro _ X1 ⟨rfl, hb1⟩
  have hX1 := bel_trans hb0.out hb1
  have hx1 := hr0.out.up hb1
  obtain ⟨bA, oA, rfl, hbA, a0⟩ := hat.out X1 hX1
  have z0 := hx1.c0
  have z1 := hx1.c1
  have z2 := hx1.fz 0
  have z3 := hx1.fz 1
  have z4 := hx1.lt
  have y := hx1.set 0 0
  have y0 := y.c0
  have y1 := y.c1
  have hend := Lib.hid (set2_below hX1 (Nat.le_refl _) (.int .i64 0) (.int .i64 0))
  replace hX1 := Lib.hid hX1
  replace hx1 := Lib.hid hx1
  replace hb1 := Lib.hid hb1
  replace y := Lib.hid y
  go_wp2
  exact bodyPost_ret (v := .tuple #[.agg #[.int .i64 0, .int .i64 0], .int .i64 5]) (by simp [results, Try.results43, go_sem, y0, y1]) rfl ⟨rfl, hend.out⟩
set_option maxRecDepth 100000 in
set_option maxHeartbeats 2000000 in
theorem Split_bad (B : Nat) (A : Option Addr) (c : Nat) (l : List Int) (e q j a : Int) (w : World) (h : Row w B A l) (hB : B ≤ w.heap.size) (hk : ¬ okT l e q j) :
    Calls Try.prog 43 #[.slice A l.length c, .int .i64 e, .int .i64 q, .int .i64 j, .int .i64 a] w fun r w' => r = .returned (.tuple #[rtV ⟨0, 0⟩, .int .i64 (errT l e q j)]) ∧ Below w.heap.size w w' := by
  have hr0 := Bxr.new w 0 0
  have hb0 := ba1 w (.cells #[.int .i64 0, .int .i64 0] 37)
  obtain ⟨Y, hY⟩ : ∃ Y, Y = w.alloc (.cells #[.int .i64 0, .int .i64 0] 37) := ⟨_, rfl⟩
  rw [← hY] at hr0 hb0
  have k1 := cClaim_bad B A c l e q j Y (h.below (hb0.mono hB)) hk
  have hne := errT_ne hk
  generalize errT l e q j = E at *
  generalize l.length = n at *
  have hn : (E != 0) = true := by simp; omega
  unfold rtV at *
  simp only
  replace h := Lib.hid h
  replace hk := Lib.hid hk
  replace hne := Lib.hid hne
  replace hY := Lib.hid hY
  replace hr0 := Lib.hid hr0
  replace hb0 := Lib.hid hb0
  replace k1 := Lib.hid k1
  go_enter Try.func43, Try.ntmps43
  go_wp2_with fail
  rw [← hY.out]
  refine k1.out.mono ?_
  rintro _ X1 ⟨rfl, hb1⟩
  have hX1 := bel_trans hb0.out hb1
  have hx1 := hr0.out.up hb1
  have z0 := hx1.c0
  have z1 := hx1.c1
  have z2 := hx1.fz 0
  have z3 := hx1.fz 1
  have z4 := hx1.lt
  have y := hx1.set 0 0
  have y0 := y.c0
  have y1 := y.c1
  have hend := Lib.hid (set2_below hX1 (Nat.le_refl _) (.int .i64 0) (.int .i64 0))
  replace hX1 := Lib.hid hX1
  replace hx1 := Lib.hid hx1
  replace hb1 := Lib.hid hb1
  replace y := Lib.hid y
  go_wp2
  exact bodyPost_ret (v := .tuple #[.agg #[.int .i64 0, .int .i64 0], .int .i64 E]) (by simp [results, Try.results43, go_sem, y0, y1]) rfl ⟨rfl, hend.out⟩
theorem spR_no {l : List Int} {e q c f : Int} (h : ¬ okP l e q c f) : spR l e q c f = ⟨0, 0⟩ := by unfold spR; rw [if_neg h]
theorem spR_ok {l : List Int} {e q c f : Int} (h : okP l e q c f) : spR l e q c f = miR (plR (shR (splL l c.toNat f) e q c.toNat) (shR (splL l c.toNat f) e q (c.toNat + 1))) (shR l e q c.toNat) := by unfold spR; rw [if_pos h]
theorem spE_bad {l : List Int} {e q c f : Int} (h : ¬ okT l e q c) : spE l e q c f = errT l e q c := by unfold spE; rw [if_neg h]
theorem spE_arg {l : List Int} {e q c f : Int} (h : okT l e q c) (h2 : ¬ (0 ≤ f ∧ f ≤ el l c.toNat)) : spE l e q c f = 2 := by unfold spE; rw [if_pos h, if_neg h2]
theorem spE_five {l : List Int} {e q c f : Int} (h : okT l e q c) (h2 : 0 ≤ f ∧ f ≤ el l c.toNat) (h8 : l.length = 8) : spE l e q c f = 5 := by unfold spE; rw [if_pos h, if_pos h2, if_pos h8]
theorem spE_ok {l : List Int} {e q c f : Int} (h : okP l e q c f) : spE l e q c f = 0 := by unfold spE; rw [if_pos h.1.1, if_pos h.1.2, if_neg h.2]
/-- What Split answers, in every case. -/
theorem Split_any (B : Nat) (A : Option Addr) (c : Nat) (l : List Int) (e q j a : Int) (w : World) (h : Row w B A l) (hB : B ≤ w.heap.size) (hcap : l.length ≤ c) (hc9 : c ≤ 9223372036854775807) :
    Calls Try.prog 43 #[.slice A l.length c, .int .i64 e, .int .i64 q, .int .i64 j, .int .i64 a] w fun r w' => r = .returned (.tuple #[rtV (spR l e q j a), .int .i64 (spE l e q j a)]) ∧ Below w.heap.size w w' := by
  by_cases ht : okT l e q j
  · have ht' := ht
    obtain ⟨k, hk4, rfl⟩ := okS_nat ht.1
    obtain ⟨i, hi, rfl⟩ := okT_nat ht
    by_cases ha : 0 ≤ a ∧ a ≤ el l i
    · by_cases h8 : l.length = 8
      · rw [spR_no (fun hm => hm.2 h8), spE_five ht (by simpa using ha) h8]
        exact Split_five B A c l e a w h hB ht.1.1 k i hk4 hi ha h8
      · have hm : okP l e (k + 1 : Nat) i a := ⟨⟨ht, by simpa using ha⟩, h8⟩
        rw [spR_ok hm, spE_ok hm]
        simp only [Int.toNat_natCast]
        by_cases h2 : k < 2
        · exact Split_ok01 B A c l e a w h hB ht.1.1 k i h2 hi ha h8 hcap hc9
        · exact Split_ok23 B A c l e a w h hB ht.1.1 k i ⟨by omega, hk4⟩ hi ha h8 hcap hc9
    · rw [spR_no (fun hm => ha (by simpa using hm.1.2)), spE_arg ht (by simpa using ha)]
      exact Split_arg B A c l e a w h hB ht.1.1 k i hk4 hi (by omega)
  · rw [spR_no (fun hm => ht hm.1.1), spE_bad ht]
    exact Split_bad B A c l e q j a w h hB ht
end Go.Proofs.Ythleekdkbgnabaa
