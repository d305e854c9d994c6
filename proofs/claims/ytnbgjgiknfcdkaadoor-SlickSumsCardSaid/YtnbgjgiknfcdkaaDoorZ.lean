/-
  'Same' of any two slicks.
-/
import Derived.Test.YtnbgjgiknfcdkaaDoorW
import Derived.Test.YtnbgjgiknfcdkaaDoorY
namespace Go.Proofs.YtnbgjgiknfcdkaaDoor
open Go.RowKit Go.Deep M
set_option linter.unusedVariables false
set_option linter.unusedSimpArgs false

/-- The first m amounts are the same parts. -/
def eqIn (p p' : Int) (a a' : List Int) : Nat → Bool
  | 0 => true
  | m + 1 => eqIn p p' a a' m && decide (el a m * p' = el a' m * p)
theorem eqIn_false {p p' : Int} {a a' : List Int} : ∀ (m j : Nat), j < m → ¬ el a j * p' = el a' j * p → eqIn p p' a a' m = false
  | m + 1, j, hj, hb => by
    show (eqIn p p' a a' m && decide (el a m * p' = el a' m * p)) = false
    by_cases e : j = m
    · subst e; simp [hb]
    · rw [eqIn_false m j (by omega) hb]; rfl
/-- What Same answers. -/
def samB (K : Int) (O : List Int) (aw K' : Int) (O' : List Int) (aw' : Int) : Bool :=
  amtsB K (amt O aw) && (amtsB K' (amt O' aw') && (decide (O.length = O'.length) && eqIn ((16 : Int) ^ K.toNat) ((16 : Int) ^ K'.toNat) (amt O aw) (amt O' aw') (O.length + 1)))
theorem amts_of {K : Int} {a : List Int} (h : amtsB K a = true) : (0 ≤ K ∧ K ≤ 5) ∧ ∀ j, j < a.length → 0 ≤ el a j ∧ el a j ≤ 36000 * (16 : Int) ^ K.toNat := by
  unfold amtsB at h
  rw [Bool.and_eq_true, Bool.not_eq_true'] at h
  refine ⟨by have := h.1; unfold movesB at this; simpa using this, fun j hj => ?_⟩
  have := (not_badIn _).1 h.2 j hj
  unfold badA at this
  simp at this
  omega
theorem p16 (k : Nat) (hk : k ≤ 5) : 1 ≤ (16 : Int) ^ k ∧ (16 : Int) ^ k ≤ 1048576 := by
  have : k = 0 ∨ k = 1 ∨ k = 2 ∨ k = 3 ∨ k = 4 ∨ k = 5 := by omega
  rcases this with e | e | e | e | e | e <;> rw [e] <;> decide

set_option maxRecDepth 100000 in
set_option maxHeartbeats 4000000 in
theorem Same_any (B : Nat) (K K' : Int) (A A' : Option Addr) (c c' : Nat) (O O' : List Int) (aw aw' : Int) (w : World) (hO : Row w B A O) (hO' : Row w B A' O') (hB : B ≤ w.heap.size) (hl : O.length ≤ 900) (hl' : O'.length ≤ 900) :
    Calls Tryd.prog 40 #[.agg #[.int .i64 K, .slice A O.length c, .int .i64 aw], (.agg #[.int .i64 K', .slice A' O'.length c', .int .i64 aw'])] w fun e w' => e = .returned (.bool (samB K O aw K' O' aw')) ∧ Below w.heap.size w w' := by
  have hst := samW_start w (.int .i64 K) (.slice A O.length c) (.int .i64 aw) (.int .i64 K') (.slice A' O'.length c') (.int .i64 aw')
  have c74 : ∀ X, SamW w (.int .i64 K) (.slice A O.length c) (.int .i64 aw) (.int .i64 K') (.slice A' O'.length c') (.int .i64 aw') X → Calls Tryd.prog 74 #[.agg #[.int .i64 K, .slice A O.length c, .int .i64 aw]] X fun e w' => e = .returned (.bool (amtsB K (amt O aw))) ∧ Below X.heap.size X w' := fun X hX =>
    isAmounts_any B K A c O aw X (hO.below (hX.below.mono hB)) (Nat.le_trans hB hX.below.size) hl
  have c74' : ∀ X, SamW w (.int .i64 K) (.slice A O.length c) (.int .i64 aw) (.int .i64 K') (.slice A' O'.length c') (.int .i64 aw') X → Calls Tryd.prog 74 #[(.agg #[.int .i64 K', .slice A' O'.length c', .int .i64 aw'])] X fun e w' => e = .returned (.bool (amtsB K' (amt O' aw'))) ∧ Below X.heap.size X w' := fun X hX =>
    isAmounts_any B K' A' c' O' aw' X (hO'.below (hX.below.mono hB)) (Nat.le_trans hB hX.below.size) hl'
  have hlO := hO.1
  have hlO' := hO'.1
  unfold samB
  cases hq : amtsB K (amt O aw) with
  | false =>
    rw [hq] at c74
    replace c74 := Lib.hid c74
    replace hst := Lib.hid hst
    clear hq c74' hO hO'
    go_enter Tryd.func40, Tryd.ntmps40
    go_wp2_with fail
    refine (c74.out _ hst.out).mono ?_
    rintro e w1 ⟨rfl, hb1⟩
    have h1 := (hst.out.call hb1).below
    clear hb1
    go_wp2
    go_ret
    exact ⟨rfl, h1⟩
  | true =>
  cases hq' : amtsB K' (amt O' aw') with
  | false =>
    rw [hq] at c74
    rw [hq'] at c74'
    replace c74 := Lib.hid c74
    replace c74' := Lib.hid c74'
    replace hst := Lib.hid hst
    clear hq hq' hO hO'
    go_enter Tryd.func40, Tryd.ntmps40
    go_wp2_with fail
    refine (c74.out _ hst.out).mono ?_
    rintro e w1 ⟨rfl, hb1⟩
    have h1 := hst.out.call hb1
    have g0 := h1.snd.c0
    have g1 := h1.snd.c1
    have g2 := h1.snd.c2
    clear hb1
    go_wp2_with fail
    refine (c74'.out _ h1).mono ?_
    rintro e w2 ⟨rfl, hb2⟩
    have h2 := (h1.call hb2).below
    clear hb2 h1 g0 g1 g2
    go_wp2
    go_ret
    exact ⟨rfl, h2⟩
  | true =>
  obtain ⟨hk5, hv⟩ := amts_of hq
  obtain ⟨hk5', hv'⟩ := amts_of hq'
  rw [hq] at c74
  rw [hq'] at c74'
  by_cases hll : O.length = O'.length
  · obtain ⟨k, rfl⟩ : ∃ k : Nat, K = k := ⟨K.toNat, by omega⟩
    obtain ⟨k', rfl⟩ : ∃ k' : Nat, K' = k' := ⟨K'.toNat, by omega⟩
    rw [Int.toNat_natCast] at hv hv'
    rw [Int.toNat_natCast, Int.toNat_natCast]
    have la : (amt O aw).length = O.length + 1 := amt_len _ _
    have la' : (amt O' aw').length = O.length + 1 := by rw [amt_len, hll]
    have hp := p16 k (by omega)
    have hp' := p16 k' (by omega)
    have c75 : ∀ X, Calls Tryd.prog 75 #[.int .i64 k] X fun e w' => e = .returned (.int .i64 ((16 : Int) ^ k)) ∧ w' = X := fun X => (parts_any k X (by omega)).mono fun e w' ⟨he, hw⟩ => ⟨he, hw.symm⟩
    have c75' : ∀ X, Calls Tryd.prog 75 #[.int .i64 k'] X fun e w' => e = .returned (.int .i64 ((16 : Int) ^ k')) ∧ w' = X := fun X => (parts_any k' X (by omega)).mono fun e w' ⟨he, hw⟩ => ⟨he, hw.symm⟩
    have c64 : ∀ X, SamW w (.int .i64 (k : Nat)) (.slice A O.length c) (.int .i64 aw) (.int .i64 (k' : Nat)) (.slice A' O'.length c') (.int .i64 aw') X → Calls Tryd.prog 64 #[.agg #[.int .i64 (k : Nat), .slice A O.length c, .int .i64 aw]] X fun e w' => ∃ D d, e = .returned (.slice D (O.length + 1) d) ∧ Below X.heap.size X w' ∧ Row w' w'.heap.size D (amt O aw) := fun X hX => by
      have h1 := amounts_row (B := B) (K := k) (c := c) (aw := aw) (hO.below (hX.below.mono hB)) (Nat.le_trans hB hX.below.size) hl
      refine h1.mono ?_
      rintro e w' ⟨D, d, he, hb, hr⟩
      have e2 : (O ++ [aw]).length = O.length + 1 := la
      rw [e2] at he
      exact ⟨D, d, he, hb, hr⟩
    have c64' : ∀ X, SamW w (.int .i64 (k : Nat)) (.slice A O.length c) (.int .i64 aw) (.int .i64 (k' : Nat)) (.slice A' O'.length c') (.int .i64 aw') X → Calls Tryd.prog 64 #[.agg #[.int .i64 (k' : Nat), .slice A' O'.length c', .int .i64 aw']] X fun e w' => ∃ D d, e = .returned (.slice D (O.length + 1) d) ∧ Below X.heap.size X w' ∧ Row w' w'.heap.size D (amt O' aw') := fun X hX => by
      have h1 := amounts_row (B := B) (K := k') (c := c') (aw := aw') (hO'.below (hX.below.mono hB)) (Nat.le_trans hB hX.below.size) hl'
      refine h1.mono ?_
      rintro e w' ⟨D, d, he, hb, hr⟩
      have e2 : (O' ++ [aw']).length = O.length + 1 := la'
      rw [e2] at he
      exact ⟨D, d, he, hb, hr⟩
    have hwr : ∀ i, i < O.length + 1 → IntKind.i64.wrap (el (amt O aw) i * (16 : Int) ^ k') = el (amt O aw) i * (16 : Int) ^ k' := fun i hi => by
      have h1 := hv i (by omega)
      have h2 : 0 ≤ el (amt O aw) i * (16 : Int) ^ k' := Int.mul_nonneg h1.1 (by omega)
      have h3 : el (amt O aw) i * (16 : Int) ^ k' ≤ 36000 * 1048576 * 1048576 := Int.mul_le_mul (by omega) hp'.2 (by omega) (by omega)
      exact IntWalk.i64_in _ (by omega)
    have hwr' : ∀ i, i < O.length + 1 → IntKind.i64.wrap (el (amt O' aw') i * (16 : Int) ^ k) = el (amt O' aw') i * (16 : Int) ^ k := fun i hi => by
      have h1 := hv' i (by omega)
      have h2 : 0 ≤ el (amt O' aw') i * (16 : Int) ^ k := Int.mul_nonneg h1.1 (by omega)
      have h3 : el (amt O' aw') i * (16 : Int) ^ k ≤ 36000 * 1048576 * 1048576 := Int.mul_le_mul (by omega) hp.2 (by omega) (by omega)
      exact IntWalk.i64_in _ (by omega)
    have hR : (true && (true && (decide (O.length = O'.length) && eqIn ((16 : Int) ^ k) ((16 : Int) ^ k') (amt O aw) (amt O' aw') (O.length + 1)))) = eqIn ((16 : Int) ^ k) ((16 : Int) ^ k') (amt O aw) (amt O' aw') (O.length + 1) := by simp [hll]
    rw [hR]
    clear hR hv hv' hq hq' hp hp'
    generalize (16 : Int) ^ k = p at *
    generalize (16 : Int) ^ k' = p' at *
    generalize amt O aw = a at *
    generalize amt O' aw' = a' at *
    obtain ⟨R, hR⟩ : ∃ R, R = eqIn p p' a a' (O.length + 1) := ⟨_, rfl⟩
    rw [← hR]
    have hlb : ((O.length : Int) == (O'.length : Int)) = true := by simp [hll]
    replace hR := Lib.hid hR
    replace hst := Lib.hid hst
    replace c74 := Lib.hid c74
    replace c74' := Lib.hid c74'
    replace c64 := Lib.hid c64
    replace c64' := Lib.hid c64'
    replace c75 := Lib.hid c75
    replace c75' := Lib.hid c75'
    replace hwr := Lib.hid hwr
    replace hwr' := Lib.hid hwr'
    replace la := Lib.hid la
    replace la' := Lib.hid la'
    replace hll := Lib.hid hll
    clear hO hO'
    go_enter Tryd.func40, Tryd.ntmps40
    go_wp2_with fail
    refine (c74.out _ hst.out).mono ?_
    rintro e w1 ⟨rfl, hb1⟩
    have h1 := hst.out.call hb1
    have g0 := h1.snd.c0
    have g1 := h1.snd.c1
    have g2 := h1.snd.c2
    clear hb1
    go_wp2_with fail
    refine (c74'.out _ h1).mono ?_
    rintro e w2 ⟨rfl, hb2⟩
    have h2 := h1.call hb2
    clear hb2 h1 g0 g1 g2
    have g0 := h2.snd.c0
    have g1 := h2.snd.c1
    have g2 := h2.snd.c2
    have f1 := h2.fst.c1
    go_wp2_with fail
    refine (c64'.out _ h2).mono ?_
    rintro e w3 ⟨D', d', rfl, hb3, r3⟩
    have h3 := h2.call hb3
    clear hb3 h2 g0 g1 g2 f1
    have g0 := h3.fst.c0
    have g1 := h3.fst.c1
    have g2 := h3.fst.c2
    go_wp2_with fail
    refine (c64.out _ h3).mono ?_
    rintro e w4 ⟨D, d, rfl, hb4, r4⟩
    have h4 := h3.call hb4
    have r5 := r3.up hb4
    clear hb4 h3 g0 g1 g2 r3
    go_wp2
    go_loopw [30] (fun i wr => ∃ j m : Nat, j ≤ O.length + 1 ∧ i = .int .i64 j ∧ wr = w4.drewN m ∧ eqIn p p' a a' j = true) (fun i _ => O.length + 1 - (intOf i).toNat)
    case atStart => exact ⟨0, 0, Nat.zero_le _, rfl, rfl, rfl⟩
    case round =>
      obtain ⟨j, m, hj, rfl, hw, he⟩ := hrel
      have hbw : Below w4.heap.size w4 wr := by rw [hw]; exact below_drewN (Below.refl _ _) m
      have h6 := h4.call hbw
      by_cases hlt : j < O.length + 1
      · obtain ⟨b, o, rfl, hbl, hc⟩ := (r4.below hbw).at_ j (by have := la.out; omega)
        obtain ⟨b', o', rfl, hbl', hc'⟩ := (r5.below hbw).at_ j (by have := la'.out; omega)
        have wr3 := hwr.out j hlt
        have wr4 := hwr'.out j hlt
        have hjj : (j : Int) < ((O.length + 1 : Nat) : Int) := by omega
        have g0 := h6.snd.c0
        have g1 := h6.fst.c0
        have h7 := h6.below
        replace hw := Lib.hid hw
        replace he := Lib.hid he
        clear h6 hbw
        by_cases hee : el a j * p' = el a' j * p
        · have he2 : eqIn p p' a a' (j + 1) = true := by show (eqIn p p' a a' j && decide (el a j * p' = el a' j * p)) = true; rw [he.out]; simp [hee]
          have heb : (el a j * p' == el a' j * p) = true := by simp [hee]
          replace he2 := Lib.hid he2
          replace hee := Lib.hid hee
          go_wp2
          go_quiet (first | (go_at_call_of 75 (Value.int .i64 ((k' : Nat) : Int)); exact Calls.quiet_of_same (c75'.out _)) | (go_at_call_of 75 (Value.int .i64 ((k : Nat) : Int)); exact Calls.quiet_of_same (c75.out _)))
          go_wp2
          go_roundw
          case rel => exact ⟨j + 1, m + nq, by omega, by go_num, by rw [hw.out, World.drewN_drewN], he2.out⟩
          case measure => simp [intOf]; omega
        · have hRf : R = false := hR.out.trans (eqIn_false _ j hlt hee)
          have heb : (el a j * p' == el a' j * p) = false := by simp [hee]
          replace hRf := Lib.hid hRf
          replace hee := Lib.hid hee
          go_wp2
          go_quiet (first | (go_at_call_of 75 (Value.int .i64 ((k' : Nat) : Int)); exact Calls.quiet_of_same (c75'.out _)) | (go_at_call_of 75 (Value.int .i64 ((k : Nat) : Int)); exact Calls.quiet_of_same (c75.out _)))
          have h8 := below_drewN h7 nq
          go_wp2
          go_ret
          exact ⟨ret_bool hRf.out.symm, h8⟩
      · have hjj : ¬ (j : Int) < ((O.length + 1 : Nat) : Int) := by omega
        have hj2 : j = O.length + 1 := by omega
        have hRt : R = true := by rw [hR.out, ← hj2]; exact he
        replace hRt := Lib.hid hRt
        replace hw := Lib.hid hw
        replace he := Lib.hid he
        replace hj2 := Lib.hid hj2
        have h7 := h6.below
        clear h6 hbw
        go_wp2
        go_ret
        exact ⟨ret_bool hRt.out.symm, h7⟩
  · have hR : (true && (true && (decide (O.length = O'.length) && eqIn ((16 : Int) ^ K.toNat) ((16 : Int) ^ K'.toNat) (amt O aw) (amt O' aw') (O.length + 1)))) = false := by simp [hll]
    rw [hR]
    have hlb : ((O.length : Int) == (O'.length : Int)) = false := by simp; omega
    replace c74 := Lib.hid c74
    replace c74' := Lib.hid c74'
    replace hst := Lib.hid hst
    replace hll := Lib.hid hll
    clear hR hq hq' hO hO' hv hv'
    go_enter Tryd.func40, Tryd.ntmps40
    go_wp2_with fail
    refine (c74.out _ hst.out).mono ?_
    rintro e w1 ⟨rfl, hb1⟩
    have h1 := hst.out.call hb1
    have g0 := h1.snd.c0
    have g1 := h1.snd.c1
    have g2 := h1.snd.c2
    clear hb1
    go_wp2_with fail
    refine (c74'.out _ h1).mono ?_
    rintro e w2 ⟨rfl, hb2⟩
    have h2 := h1.call hb2
    clear hb2 h1 g0 g1 g2
    have g1 := h2.snd.c1
    have f1 := h2.fst.c1
    have h3 := h2.below
    clear h2
    go_wp2
    go_ret
    exact ⟨rfl, h3⟩
end Go.Proofs.YtnbgjgiknfcdkaaDoor
