/-
  The specification's 'Same' of any two slicks.
-/
import Derived.Test.YtnbgjgiknfcdkaaDoorZ
import Derived.Test.YtnbgjgiknfcdkaaDoorYa
namespace Go.Proofs.YtnbgjgiknfcdkaaDoor
open Go.RowKit Go.Deep M
set_option linter.unusedVariables false
set_option linter.unusedSimpArgs false

set_option maxRecDepth 100000 in
set_option maxHeartbeats 4000000 in
theorem Same_ref (B : Nat) (K K' : Int) (A A' : Option Addr) (c c' : Nat) (O O' : List Int) (aw aw' : Int) (w : World) (hO : Row w B A O) (hO' : Row w B A' O') (hB : B ≤ w.heap.size) (hl : O.length ≤ 900) (hl' : O'.length ≤ 900) :
    Calls Tryd.prog 41 #[.agg #[.int .i64 K, .slice A O.length c, .int .i64 aw], (.agg #[.int .i64 K', .slice A' O'.length c', .int .i64 aw'])] w fun e w' => e = .returned (.bool (samB K O aw K' O' aw')) ∧ Below w.heap.size w w' := by
  have hst := samW_start w (.int .i64 K) (.slice A O.length c) (.int .i64 aw) (.int .i64 K') (.slice A' O'.length c') (.int .i64 aw')
  have c76 : ∀ X, SamW w (.int .i64 K) (.slice A O.length c) (.int .i64 aw) (.int .i64 K') (.slice A' O'.length c') (.int .i64 aw') X → Calls Tryd.prog 76 #[.agg #[.int .i64 K, .slice A O.length c, .int .i64 aw]] X fun e w' => e = .returned (.bool (amtsB K (amt O aw))) ∧ Below X.heap.size X w' := fun X hX =>
    inRange_ref B K A c O aw X (hO.below (hX.below.mono hB)) (Nat.le_trans hB hX.below.size) hl
  have c76' : ∀ X, SamW w (.int .i64 K) (.slice A O.length c) (.int .i64 aw) (.int .i64 K') (.slice A' O'.length c') (.int .i64 aw') X → Calls Tryd.prog 76 #[(.agg #[.int .i64 K', .slice A' O'.length c', .int .i64 aw'])] X fun e w' => e = .returned (.bool (amtsB K' (amt O' aw'))) ∧ Below X.heap.size X w' := fun X hX =>
    inRange_ref B K' A' c' O' aw' X (hO'.below (hX.below.mono hB)) (Nat.le_trans hB hX.below.size) hl'
  have hlO := hO.1
  have hlO' := hO'.1
  unfold samB
  by_cases hll : O.length = O'.length
  · have hlb : ((O.length : Int) == (O'.length : Int)) = true := by simp [hll]
    have hlb2 : ((O.length : Int) = (O'.length : Int)) = True := by simp [hll]
    cases hq : amtsB K (amt O aw) with
    | false =>
      rw [hq] at c76
      replace c76 := Lib.hid c76
      replace hst := Lib.hid hst
      replace hll := Lib.hid hll
      clear hq c76' hO hO'
      go_enter Tryd.func41, Tryd.ntmps41
      go_wp2_with fail
      refine (c76.out _ hst.out).mono ?_
      rintro e w1 ⟨rfl, hb1⟩
      have h1 := (hst.out.call hb1).below
      clear hb1
      go_wp2
      go_ret
      exact ⟨rfl, h1⟩
    | true =>
    cases hq' : amtsB K' (amt O' aw') with
    | false =>
      rw [hq] at c76
      rw [hq'] at c76'
      replace c76 := Lib.hid c76
      replace c76' := Lib.hid c76'
      replace hst := Lib.hid hst
      replace hll := Lib.hid hll
      clear hq hq' hO hO'
      go_enter Tryd.func41, Tryd.ntmps41
      go_wp2_with fail
      refine (c76.out _ hst.out).mono ?_
      rintro e w1 ⟨rfl, hb1⟩
      have h1 := hst.out.call hb1
      have g0 := h1.snd.c0
      have g1 := h1.snd.c1
      have g2 := h1.snd.c2
      clear hb1
      go_wp2_with fail
      refine (c76'.out _ h1).mono ?_
      rintro e w2 ⟨rfl, hb2⟩
      have h2 := (h1.call hb2).below
      clear hb2 h1 g0 g1 g2
      go_wp2
      go_ret
      exact ⟨rfl, h2⟩
    | true =>
    obtain ⟨hk5, hv⟩ := amts_of hq
    obtain ⟨hk5', hv'⟩ := amts_of hq'
    rw [hq] at c76
    rw [hq'] at c76'
    obtain ⟨k, rfl⟩ : ∃ k : Nat, K = k := ⟨K.toNat, by omega⟩
    obtain ⟨k', rfl⟩ : ∃ k' : Nat, K' = k' := ⟨K'.toNat, by omega⟩
    rw [Int.toNat_natCast] at hv hv'
    rw [Int.toNat_natCast, Int.toNat_natCast]
    have la : (amt O aw).length = O.length + 1 := amt_len _ _
    have la' : (amt O' aw').length = O.length + 1 := by rw [amt_len, hll]
    have hp := p16 k (by omega)
    have hp' := p16 k' (by omega)
    have c52 : ∀ X, Calls Tryd.prog 52 #[.int .i64 k] X fun e w' => e = .returned (.int .i64 ((16 : Int) ^ k)) ∧ w' = X := fun X => (sixteen_ref k X (by omega)).mono fun e w' ⟨he, hw⟩ => ⟨he, hw.symm⟩
    have c52' : ∀ X, Calls Tryd.prog 52 #[.int .i64 k'] X fun e w' => e = .returned (.int .i64 ((16 : Int) ^ k')) ∧ w' = X := fun X => (sixteen_ref k' X (by omega)).mono fun e w' ⟨he, hw⟩ => ⟨he, hw.symm⟩
    have hwr : ∀ i, i < O.length + 1 → IntKind.i64.wrap (el (amt O aw) i * (16 : Int) ^ k') = el (amt O aw) i * (16 : Int) ^ k' := fun i hi => by
      have h1 := hv i (by omega)
      have h2 : 0 ≤ el (amt O aw) i * (16 : Int) ^ k' := Int.mul_nonneg h1.1 (by omega)
      have h3 : el (amt O aw) i * (16 : Int) ^ k' ≤ 36000 * 1048576 * 1048576 := Int.mul_le_mul (by omega) hp'.2 (by omega) (by omega)
      exact IntWalk.i64_in _ (by omega)
    have hwr' : ∀ i, i < O.length + 1 → IntKind.i64.wrap (el (amt O' aw') i * (16 : Int) ^ k) = el (amt O' aw') i * (16 : Int) ^ k := fun i hi => by
      have h1 := hv' i (by omega)
      have h2 : 0 ≤ el (amt O' aw') i * (16 : Int) ^ k := Int.mul_nonneg h1.1 (by omega)
      have h3 : el (amt O' aw') i * (16 : Int) ^ k ≤ 36000 * 1048576 * 1048576 := Int.mul_le_mul (by omega) hp.2 (by omega) (by omega)
      exact IntWalk.i64_in _ (by omega)
    have hR : (true && (true && (decide (O.length = O'.length) && eqIn ((16 : Int) ^ k) ((16 : Int) ^ k') (amt O aw) (amt O' aw') (O.length + 1)))) = eqIn ((16 : Int) ^ k) ((16 : Int) ^ k') (amt O aw) (amt O' aw') (O.length + 1) := by simp [hll]
    rw [hR]
    have hel : ∀ j, j < O.length → el (amt O aw) j = el O j := fun j hj => amt_el O aw j hj
    have hel' : ∀ j, j < O.length → el (amt O' aw') j = el O' j := fun j hj => amt_el O' aw' j (by omega)
    have hae : el (amt O aw) O.length = aw := amt_away O aw
    have hae' : el (amt O' aw') O.length = aw' := by rw [hll]; exact amt_away O' aw'
    clear hR hv hv' hq hq' hp hp'
    generalize (16 : Int) ^ k = p at *
    generalize (16 : Int) ^ k' = p' at *
    generalize amt O aw = a at *
    generalize amt O' aw' = a' at *
    have wae := hwr O.length (by omega)
    have wae' := hwr' O.length (by omega)
    rw [hae] at wae
    rw [hae'] at wae'
    obtain ⟨R, hR⟩ : ∃ R, R = eqIn p p' a a' (O.length + 1) := ⟨_, rfl⟩
    rw [← hR]
    replace hR := Lib.hid hR
    replace hst := Lib.hid hst
    replace c76 := Lib.hid c76
    replace c76' := Lib.hid c76'
    replace c52 := Lib.hid c52
    replace c52' := Lib.hid c52'
    replace hwr := Lib.hid hwr
    replace hwr' := Lib.hid hwr'
    replace hel := Lib.hid hel
    replace hel' := Lib.hid hel'
    replace hae := Lib.hid hae
    replace hae' := Lib.hid hae'
    replace la := Lib.hid la
    replace la' := Lib.hid la'
    have hOw := hO
    have hOw' := hO'
    replace hll := Lib.hid hll
    clear hO hO'
    go_enter Tryd.func41, Tryd.ntmps41
    go_wp2_with fail
    refine (c76.out _ hst.out).mono ?_
    rintro e w1 ⟨rfl, hb1⟩
    have h1 := hst.out.call hb1
    have g0 := h1.snd.c0
    have g1 := h1.snd.c1
    have g2 := h1.snd.c2
    clear hb1
    go_wp2_with fail
    refine (c76'.out _ h1).mono ?_
    rintro e w4 ⟨rfl, hb2⟩
    have h4 := h1.call hb2
    clear hb2 h1 g0 g1 g2
    go_wp2
    go_loopw [5] (fun i wr => ∃ j m : Nat, j ≤ O.length ∧ i = .int .i64 j ∧ wr = w4.drewN m ∧ eqIn p p' a a' j = true) (fun i _ => O.length - (intOf i).toNat)
    case atStart => exact ⟨0, 0, Nat.zero_le _, rfl, rfl, rfl⟩
    case round =>
      obtain ⟨j, m, hj, rfl, hw, he⟩ := hrel
      have hbw : Below w4.heap.size w4 wr := by rw [hw]; exact below_drewN (Below.refl _ _) m
      have h6 := h4.call hbw
      have g0 := h6.snd.c0
      have g1 := h6.fst.c0
      have g2 := h6.fst.c1
      have g3 := h6.snd.c1
      have g4 := h6.fst.c2
      have g5 := h6.snd.c2
      have h7 := h6.below
      by_cases hlt : j < O.length
      · obtain ⟨b, o, rfl, hbl, hc⟩ := (hOw.below (h7.mono hB)).at_ j hlt
        obtain ⟨b', o', rfl, hbl', hc'⟩ := (hOw'.below (h7.mono hB)).at_ j (by have := hll.out; omega)
        have wr3 := hwr.out j (by omega)
        have wr4 := hwr'.out j (by omega)
        rw [hel.out j hlt] at wr3
        rw [hel'.out j hlt] at wr4
        have hjj : (j : Int) < ((O.length : Nat) : Int) := by omega
        have hjj' : (j : Int) < ((O'.length : Nat) : Int) := by have := hll.out; omega
        replace hw := Lib.hid hw
        replace he := Lib.hid he
        clear h6 hbw
        by_cases hee : el O j * p' = el O' j * p
        · have he2 : eqIn p p' a a' (j + 1) = true := by show (eqIn p p' a a' j && decide (el a j * p' = el a' j * p)) = true; rw [he.out, hel.out j hlt, hel'.out j hlt]; simp [hee]
          have heb : (el O j * p' == el O' j * p) = true := by simp [hee]
          replace he2 := Lib.hid he2
          replace hee := Lib.hid hee
          go_wp2
          go_quiet (first | (go_at_call_of 52 (Value.int .i64 ((k' : Nat) : Int)); exact Calls.quiet_of_same (c52'.out _)) | (go_at_call_of 52 (Value.int .i64 ((k : Nat) : Int)); exact Calls.quiet_of_same (c52.out _)))
          go_wp2
          go_roundw
          case rel => exact ⟨j + 1, m + nq, by omega, by go_num, by rw [hw.out, World.drewN_drewN], he2.out⟩
          case measure => simp [intOf]; omega
        · have hRf : R = false := hR.out.trans (eqIn_false _ j (by omega) (by rw [hel.out j hlt, hel'.out j hlt]; exact hee))
          have heb : (el O j * p' == el O' j * p) = false := by simp [hee]
          replace hRf := Lib.hid hRf
          replace hee := Lib.hid hee
          go_wp2
          go_quiet (first | (go_at_call_of 52 (Value.int .i64 ((k' : Nat) : Int)); exact Calls.quiet_of_same (c52'.out _)) | (go_at_call_of 52 (Value.int .i64 ((k : Nat) : Int)); exact Calls.quiet_of_same (c52.out _)))
          have h8 := below_drewN h7 nq
          go_wp2
          go_ret
          exact ⟨ret_bool hRf.out.symm, h8⟩
      · have hjj : ¬ (j : Int) < ((O.length : Nat) : Int) := by omega
        have hj2 : j = O.length := by omega
        have hRt : R = (aw * p' == aw' * p) := by
          rw [hR.out]
          show (eqIn p p' a a' O.length && decide (el a O.length * p' = el a' O.length * p)) = _
          rw [hae.out, hae'.out, ← hj2, he]
          simp [Bool.beq_eq_decide_eq]
        replace hRt := Lib.hid hRt
        replace hw := Lib.hid hw
        replace he := Lib.hid he
        replace hj2 := Lib.hid hj2
        clear h6 hbw
        go_wp2
        go_quiet (first | (go_at_call_of 52 (Value.int .i64 ((k' : Nat) : Int)); exact Calls.quiet_of_same (c52'.out _)) | (go_at_call_of 52 (Value.int .i64 ((k : Nat) : Int)); exact Calls.quiet_of_same (c52.out _)))
        have h8 := below_drewN h7 nq
        go_wp2
        go_ret
        exact ⟨ret_bool hRt.out.symm, h8⟩
  · have hR : (amtsB K (amt O aw) && (amtsB K' (amt O' aw') && (decide (O.length = O'.length) && eqIn ((16 : Int) ^ K.toNat) ((16 : Int) ^ K'.toNat) (amt O aw) (amt O' aw') (O.length + 1)))) = false := by simp [hll]
    rw [hR]
    have hlb : ((O.length : Int) == (O'.length : Int)) = false := by simp; omega
    have hlb2 : ¬ (O.length : Int) = (O'.length : Int) := by omega
    have h1 := hst.below
    replace hst := Lib.hid hst
    replace hll := Lib.hid hll
    replace h1 := Lib.hid h1
    clear hR hO hO' c76 c76'
    go_enter Tryd.func41, Tryd.ntmps41
    go_wp2
    go_ret
    exact ⟨rfl, h1.out⟩
end Go.Proofs.YtnbgjgiknfcdkaaDoor
