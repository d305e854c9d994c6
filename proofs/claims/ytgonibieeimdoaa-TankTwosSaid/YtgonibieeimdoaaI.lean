/-
  Two: the program's function.
-/
import Derived.Test.YtgonibieeimdoaaH
namespace Go.Proofs.Ytgonibieeimdoaa
open Go.RowKit Go.Deep M
set_option linter.unusedVariables false
set_option linter.unusedSimpArgs false

/-- What Two says. -/
def TwoR (w : World) (a b n : Int) (e : Ending) (w' : World) : Prop := ∃ D er A c, TwoP a b n D er ∧ e = .returned (.tuple #[.slice A D.length c, .int .i64 er]) ∧ Below w.heap.size w w' ∧ Dls w' w'.heap.size A D

set_option maxRecDepth 100000 in
set_option maxHeartbeats 4000000 in
theorem Two_any (a b n : Int) (w : World) : Calls Try.prog 48 #[.int .i64 a, .int .i64 b, .int .i64 n] w (TwoR w a b n) := by
  have hr := row2 w a b
  have hc := checked0_any _ _ 2 [a, b] _ hr
  have hb0 := Lib.hid (ba1 w (.cells #[.int .i64 a, .int .i64 b] 3))
  unfold err0 at hc
  cases hv : validB [a, b] with
  | false =>
    rw [hv] at hc
    have hP := Lib.hid (show TwoP a b n [] 40 from .inl ⟨hv, rfl, rfl⟩)
    replace hc := Lib.hid hc
    replace hv := Lib.hid hv
    replace hr := Lib.hid hr
    go_enter Try.func48, Try.ntmps48
    go_wp2_with fail
    refine hc.out.mono ?_
    rintro e w1 ⟨rfl, rfl⟩
    go_wp2
    go_ret2
    exact ⟨[], 40, none, 0, hP.out, rfl, hb0.out, dls_nil _ _ _⟩
  | true =>
    rw [hv] at hc
    have hT := val_of hv
    obtain ⟨ha, hb⟩ := vT2 hv
    have hm := measure_any _ _ 2 [a, b] _ hr hT
    obtain ⟨hg1, hg12⟩ := meas_b hT
    by_cases hn : 0 ≤ n ∧ n ≤ b
    · obtain ⟨hn0, hnb⟩ := hn
      by_cases ht : n.tmod (meas [a, b] : Nat) = 0
      · have hok : TwoOk a b n := ⟨hv, ⟨hn0, hnb⟩, ht⟩
        have hin := Lib.hid (twIn_zero hok)
        have hokk := Lib.hid hok
        obtain ⟨g, hg⟩ : ∃ g, g = meas [a, b] := ⟨_, rfl⟩
        rw [← hg] at hm hg1 hg12 ht
        have hg0 : ¬ (g : Int) = 0 := by omega
        have hg1' : 1 ≤ (g : Int) := by omega
        have ht' : (n % (g : Int) != 0) = false := by rw [Int.tmod_eq_emod_of_nonneg hn0] at ht; simpa using ht
        replace ht := Lib.hid ht
        clear hg hok
        replace hc := Lib.hid hc
        replace hm := Lib.hid hm
        replace hv := Lib.hid hv
        replace hr := Lib.hid hr
        replace hT := Lib.hid hT
        go_enter Try.func48, Try.ntmps48
        go_wp2_with fail
        refine hc.out.mono ?_
        rintro e w1 ⟨rfl, rfl⟩
        go_wp2_with fail
        refine hm.out.mono ?_
        rintro e w1 ⟨rfl, k, hk⟩
        replace hk := Lib.hid hk
        go_wp2_with fail
        have hrow : Row w1 (w.heap.size + 1) (some ⟨w.heap.size, 0, none⟩) [a, b] := hr.out.keep fun p _ => by rw [hk.out]; rfl
        have hsz : w.heap.size + 1 ≤ w1.heap.size := by rw [hk.out]; simp [World.drewN]
        refine (two_any (w.heap.size + 1) _ 2 [a, b] n w1 hrow hsz rfl hT.out hin.out).mono ?_
        rintro e w2 ⟨j, hj, hj6, v, rfl, hb2, hown⟩
        obtain ⟨A', c', rfl, hD⟩ := own_dls hown (by rw [twD_len]; omega)
        replace hown := Lib.hid hown
        go_wp2
        go_ret2
        exact ⟨twD [a, b] j, 0, A', c', .inr (.inr (.inr ⟨hokk.out, ⟨j, hj, hj6, rfl⟩, rfl⟩)), rfl, (below_drewN hb0.out k).trans (by rw [← hk.out]; exact hb2.mono (by omega)), hD⟩
      · have hP := Lib.hid (show TwoP a b n [] 5 from .inr (.inr (.inl ⟨hv, ⟨hn0, hnb⟩, ht, rfl, rfl⟩)))
        obtain ⟨g, hg⟩ : ∃ g, g = meas [a, b] := ⟨_, rfl⟩
        rw [← hg] at hm hg1 hg12 ht
        have hg0 : ¬ (g : Int) = 0 := by omega
        have hg1' : 1 ≤ (g : Int) := by omega
        have ht' : (n % (g : Int) != 0) = true := by rw [Int.tmod_eq_emod_of_nonneg hn0] at ht; simpa using ht
        clear hg
        replace ht := Lib.hid ht
        replace hc := Lib.hid hc
        replace hm := Lib.hid hm
        replace hv := Lib.hid hv
        replace hr := Lib.hid hr
        replace hT := Lib.hid hT
        go_enter Try.func48, Try.ntmps48
        go_wp2_with fail
        refine hc.out.mono ?_
        rintro e w1 ⟨rfl, rfl⟩
        go_wp2_with fail
        refine hm.out.mono ?_
        rintro e w1 ⟨rfl, k, hk⟩
        replace hk := Lib.hid hk
        go_wp2
        go_ret2
        exact ⟨[], 5, none, 0, hP.out, rfl, by rw [hk.out]; exact below_drewN hb0.out k, dls_nil _ _ _⟩
    · have hP := Lib.hid (show TwoP a b n [] 2 from .inr (.inl ⟨hv, hn, rfl, rfl⟩))
      replace hc := Lib.hid hc
      replace hm := Lib.hid hm
      replace hv := Lib.hid hv
      replace hr := Lib.hid hr
      replace hT := Lib.hid hT
      by_cases hn0 : n < 0
      · replace hn := Lib.hid hn
        go_enter Try.func48, Try.ntmps48
        go_wp2_with fail
        refine hc.out.mono ?_
        rintro e w1 ⟨rfl, rfl⟩
        go_wp2
        go_ret2
        exact ⟨[], 2, none, 0, hP.out, rfl, hb0.out, dls_nil _ _ _⟩
      · have hnb : b < n := by omega
        replace hn := Lib.hid hn
        go_enter Try.func48, Try.ntmps48
        go_wp2_with fail
        refine hc.out.mono ?_
        rintro e w1 ⟨rfl, rfl⟩
        go_wp2
        go_ret2
        exact ⟨[], 2, none, 0, hP.out, rfl, hb0.out, dls_nil _ _ _⟩
end Go.Proofs.Ytgonibieeimdoaa
