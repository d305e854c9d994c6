/-
  Which bays are valid: the program's and the specification's functions.
-/
import Derived.Test.YtnbgjgiknfcdkaaDoorA
namespace Go.Proofs.YtnbgjgiknfcdkaaDoor
open Go.RowKit Go.Deep M
set_option linter.unusedVariables false
set_option linter.unusedSimpArgs false
attribute [local go_sem] run_eq5

def CellOK (L : List Bool) (S : List Int) (i : Nat) : Prop := (∀ k, k < 5 → 0 ≤ sh S i k ∧ sh S i k ≤ 16) ∧ sm (fun k => sh S i k) 5 = if bl L i = true then 0 else 16
def ValP (W H : Int) (L : List Bool) (n : Nat) (S : List Int) : Prop :=
  ((1 ≤ W ∧ W ≤ 6) ∧ (1 ≤ H ∧ H ≤ 6)) ∧ ((L.length : Int) = W * H ∧ (n : Int) = W * H) ∧ ∀ i, i < n → CellOK L S i
open Classical in
noncomputable def validB (W H : Int) (L : List Bool) (n : Nat) (S : List Int) : Bool := decide (ValP W H L n S)
theorem validB_true {W H : Int} {L : List Bool} {n : Nat} {S : List Int} (h : ValP W H L n S) : validB W H L n S = true := by unfold validB; simp [h]
theorem validB_false {W H : Int} {L : List Bool} {n : Nat} {S : List Int} (h : ¬ ValP W H L n S) : validB W H L n S = false := by unfold validB; simp [h]
theorem val_of {W H : Int} {L : List Bool} {n : Nat} {S : List Int} (h : validB W H L n S = true) : ValP W H L n S := by unfold validB at h; simpa using h
theorem not_val {W H : Int} {L : List Bool} {n : Nat} {S : List Int} (h : validB W H L n S = false) : ¬ ValP W H L n S := by unfold validB at h; simpa using h

theorem sm5 (f : Nat → Int) : sm f 5 = f 0 + f 1 + f 2 + f 3 + f 4 := by
  show ((((0 + f 0) + f 1) + f 2) + f 3) + f 4 = _
  omega
theorem whole_cell {L : List Bool} {S : List Int} {i : Nat} (hl : bl L i = false) : wholeB (sh S i 0) (sh S i 1) (sh S i 2) (sh S i 3) (sh S i 4) = true ↔ CellOK L S i := by
  unfold wholeB CellOK
  rw [decide_eq_true_iff, sm5, hl]
  simp only [Bool.false_eq_true, if_false]
  constructor
  · rintro ⟨h0, h1, h2, h3, h4, h5⟩
    refine ⟨fun k hk => ?_, h5⟩
    have : k = 0 ∨ k = 1 ∨ k = 2 ∨ k = 3 ∨ k = 4 := by omega
    rcases this with rfl | rfl | rfl | rfl | rfl <;> assumption
  · rintro ⟨h, h5⟩
    exact ⟨h 0 (by omega), h 1 (by omega), h 2 (by omega), h 3 (by omega), h 4 (by omega), h5⟩
theorem zero_cell {L : List Bool} {S : List Int} {i : Nat} (hl : bl L i = true) : (sh S i 0 = 0 ∧ sh S i 1 = 0 ∧ sh S i 2 = 0 ∧ sh S i 3 = 0 ∧ sh S i 4 = 0) ↔ CellOK L S i := by
  unfold CellOK
  rw [sm5, hl]
  simp only [if_true]
  constructor
  · rintro ⟨h0, h1, h2, h3, h4⟩
    refine ⟨fun k hk => ?_, by omega⟩
    have : k = 0 ∨ k = 1 ∨ k = 2 ∨ k = 3 ∨ k = 4 := by omega
    rcases this with rfl | rfl | rfl | rfl | rfl <;> omega
  · rintro ⟨h, h5⟩
    have := h 0 (by omega)
    have := h 1 (by omega)
    have := h 2 (by omega)
    have := h 3 (by omega)
    have := h 4 (by omega)
    omega

def OKUpto (L : List Bool) (S : List Int) (m : Nat) : Prop := ∀ i, i < m → CellOK L S i
theorem ok_succ {L : List Bool} {S : List Int} {m : Nat} (h : OKUpto L S m) (h1 : CellOK L S m) : OKUpto L S (m + 1) := fun j hj => by
  rcases Nat.lt_succ_iff_lt_or_eq.1 hj with h' | rfl
  · exact h j h'
  · exact h1
theorem not_side {W H : Int} {L : List Bool} {n : Nat} {S : List Int} (h : sideB W = false ∨ sideB H = false) : validB W H L n S = false := validB_false fun hv => by
  obtain ⟨⟨⟨h1, h2⟩, h3, h4⟩, _⟩ := hv
  unfold sideB at h
  simp at h
  omega

set_option maxRecDepth 100000 in
set_option maxHeartbeats 2000000 in
theorem Valid_any (B : Nat) (W H : Int) (aL aS : Option Addr) (cL cS : Nat) (L : List Bool) (n : Nat) (S : List Int) (w : World) (h : BayIn w B aL L aS n S) (hB : B ≤ w.heap.size) :
    Calls Tryd.prog 20 #[.agg #[.int .i64 W, .int .i64 H, .slice aL L.length cL, .slice aS n cS]] w fun e w' => e = .returned (.bool (validB W H L n S)) ∧ Below w.heap.size w w' := by
  have c61 : ∀ n w, Calls Tryd.prog 61 #[.int .i64 n] w fun e w' => e = .returned (.bool (sideB n)) ∧ w = w' := isSide_any
  have hl63 := h.land.1
  have hs63 := h.share.1
  cases hW : sideB W with
  | false =>
    have hn := Lib.hid (not_side (L := L) (n := n) (S := S) (.inl hW) : validB W H L n S = false)
    go_enter Tryd.func20, Tryd.ntmps20
    go_wp2_with fail
    refine (isSide_any W _).mono ?_
    rintro e w' ⟨rfl, rfl⟩
    rw [hW]
    go_wp2
    go_ret
    exact ⟨ret_bool hn.out.symm, (Below.refl _ _).alloc (Nat.le_refl _) _⟩
  | true =>
  cases hH : sideB H with
  | false =>
    have hn := Lib.hid (not_side (L := L) (n := n) (S := S) (.inr hH) : validB W H L n S = false)
    go_enter Tryd.func20, Tryd.ntmps20
    go_wp2_with fail
    refine (isSide_any W _).mono ?_
    rintro e w' ⟨rfl, rfl⟩
    rw [hW]
    go_wp2_with fail
    refine (isSide_any H _).mono ?_
    rintro e w' ⟨rfl, rfl⟩
    rw [hH]
    go_wp2
    go_ret
    exact ⟨ret_bool hn.out.symm, (Below.refl _ _).alloc (Nat.le_refl _) _⟩
  | true =>
    have hWb : 1 ≤ W ∧ W ≤ 6 := by unfold sideB at hW; simpa using hW
    have hHb : 1 ≤ H ∧ H ≤ 6 := by unfold sideB at hH; simpa using hH
    have hp : 0 ≤ W * H ∧ W * H ≤ 36 := ⟨Int.mul_nonneg (by omega) (by omega), by
      have := Int.mul_le_mul hWb.2 hHb.2 (by omega) (by omega)
      omega⟩
    obtain ⟨p, hp'⟩ : ∃ p, W * H = p := ⟨_, rfl⟩
    rw [hp'] at hp
    replace hp' := Lib.hid hp'
    by_cases h1 : (L.length : Int) = p
    · by_cases h2 : (n : Int) = p
      · go_enter Tryd.func20, Tryd.ntmps20
        go_wp2_with fail
        refine (isSide_any W _).mono ?_
        rintro e w' ⟨rfl, rfl⟩
        rw [hW]
        go_wp2_with fail
        refine (isSide_any H _).mono ?_
        rintro e w' ⟨rfl, rfl⟩
        rw [hH]
        have hp'' := hp'.out
        go_wp2
        clear hp''
        go_loopw [36] (fun i wr => ∃ k : Nat, k ≤ n ∧ i = .int .i64 k ∧ OKUpto L S k ∧ Below w.heap.size w wr ∧ wr.cell? ⟨w.heap.size, 2, none⟩ = some (.slice aL L.length cL) ∧ w.heap.size < wr.heap.size) (fun i _ => n - (intOf i).toNat)
        case atStart => exact ⟨0, Nat.zero_le _, rfl, fun i hi => absurd hi (Nat.not_lt_zero _), (Below.refl _ _).alloc (Nat.le_refl _) _, by simp [go_sem], by simp⟩
        case round =>
          obtain ⟨k, hk, rfl, hok, hbw, hc2, hsz⟩ := hrel
          replace hok := Lib.hid hok
          by_cases hlt : k < n
          · obtain ⟨b, o, rfl, hb, hl⟩ := (h.land.below (hbw.mono hB)).at_ k (by omega)
            obtain ⟨b', o', rfl, hb', s0, s1, s2, s3, s4⟩ := (h.share.below (hbw.mono hB)).at_ k hlt
            have hsz2 := hbw.size
            have hb0 : b < wr.heap.size := by omega
            have hb1 : b ≠ wr.heap.size := by omega
            have hb2 : b' < wr.heap.size := by omega
            cases hll : bl L k with
            | true =>
              rw [hll] at hl
              have hz := zero_cell (L := L) (S := S) (i := k) hll
              cases hz5 : e5 (sh S k 0) (sh S k 1) (sh S k 2) (sh S k 3) (sh S k 4) 0 0 0 0 0 with
              | false =>
                have hn : validB W H L n S = false := validB_false fun hv => by
                  have := hz.2 (hv.2.2 k hlt)
                  unfold e5 at hz5
                  rw [decide_eq_false_iff_not] at hz5
                  exact hz5 this
                replace hn := Lib.hid hn
                clear hz
                go_wp2
                go_ret
                exact ⟨ret_bool hn.out.symm, hbw.alloc (by omega) _⟩
              | true =>
                have hs : OKUpto L S (k + 1) := ok_succ hok.out (hz.1 (by unfold e5 at hz5; rw [decide_eq_true_iff] at hz5; exact hz5))
                replace hs := Lib.hid hs
                clear hz
                go_wp2
                go_roundw
                case rel => exact ⟨k + 1, by omega, by go_num, hs.out, hbw.alloc (by omega) _, by simp [go_sem, hc2, hsz], by simp; omega⟩
                case measure => simp [intOf]; omega
            | false =>
              rw [hll] at hl
              have hz := whole_cell (L := L) (S := S) (i := k) hll
              have c62 := fun w => isWhole_any (sh S k 0) (sh S k 1) (sh S k 2) (sh S k 3) (sh S k 4) w
              cases hz5 : wholeB (sh S k 0) (sh S k 1) (sh S k 2) (sh S k 3) (sh S k 4) with
              | false =>
                have hn : validB W H L n S = false := validB_false fun hv => by
                  have := hz.2 (hv.2.2 k hlt)
                  rw [hz5] at this; cases this
                replace hn := Lib.hid hn
                rw [hz5] at c62
                replace c62 := Lib.hid c62
                clear hz
                go_wp2_with fail
                refine (c62.out _).mono ?_
                rintro e w1 ⟨rfl, hb1⟩
                have hbb := (hbw.alloc (by omega) (.cells #[.int .i64 (sh S k 0), .int .i64 (sh S k 1), .int .i64 (sh S k 2), .int .i64 (sh S k 3), .int .i64 (sh S k 4)] 74)).trans (hb1.mono (by simp; omega))
                clear hb1
                go_wp2
                go_ret
                exact ⟨ret_bool hn.out.symm, hbb⟩
              | true =>
                have hs : OKUpto L S (k + 1) := ok_succ hok.out (hz.1 hz5)
                replace hs := Lib.hid hs
                rw [hz5] at c62
                replace c62 := Lib.hid c62
                clear hz
                go_wp2_with fail
                refine (c62.out _).mono ?_
                rintro e w1 ⟨rfl, hb1⟩
                have hbb := (hbw.alloc (by omega) (.cells #[.int .i64 (sh S k 0), .int .i64 (sh S k 1), .int .i64 (sh S k 2), .int .i64 (sh S k 3), .int .i64 (sh S k 4)] 74)).trans (hb1.mono (by simp; omega))
                have hc3 : w1.cell? ⟨w.heap.size, 2, none⟩ = some (.slice (some ⟨b, o, none⟩) L.length cL) := (hb1.cell (p := ⟨w.heap.size, 2, none⟩) (by simp; omega)).trans (by simp [go_sem, hc2, hsz])
                have hsz3 : w.heap.size < w1.heap.size := by have := hb1.size; simp at this; omega
                clear hb1
                go_wp2
                go_roundw
                case rel => exact ⟨k + 1, by omega, by go_num, hs.out, hbb, hc3, hsz3⟩
                case measure => simp [intOf]; omega
          · have hk' : k = n := by omega
            subst hk'
            have hv : validB W H L k S = true := validB_true ⟨⟨hWb, hHb⟩, ⟨by rw [hp'.out]; exact h1, by rw [hp'.out]; exact h2⟩, hok.out⟩
            replace hv := Lib.hid hv
            go_wp2
            go_ret
            exact ⟨ret_bool hv.out.symm, hbw⟩
      · have hn : validB W H L n S = false := validB_false fun hv => h2 (by rw [hv.2.1.2]; exact hp'.out)
        replace hn := Lib.hid hn
        have h2' : ((n : Int) != p) = true := by simpa using h2
        go_enter Tryd.func20, Tryd.ntmps20
        go_wp2_with fail
        refine (isSide_any W _).mono ?_
        rintro e w' ⟨rfl, rfl⟩
        rw [hW]
        go_wp2_with fail
        refine (isSide_any H _).mono ?_
        rintro e w' ⟨rfl, rfl⟩
        rw [hH]
        have hp'' := hp'.out
        go_wp2
        go_ret
        exact ⟨ret_bool hn.out.symm, (Below.refl _ _).alloc (Nat.le_refl _) _⟩
    · have hn : validB W H L n S = false := validB_false fun hv => h1 (by rw [hv.2.1.1]; exact hp'.out)
      replace hn := Lib.hid hn
      have h1' : ((L.length : Int) != p) = true := by simpa using h1
      go_enter Tryd.func20, Tryd.ntmps20
      go_wp2_with fail
      refine (isSide_any W _).mono ?_
      rintro e w' ⟨rfl, rfl⟩
      rw [hW]
      go_wp2_with fail
      refine (isSide_any H _).mono ?_
      rintro e w' ⟨rfl, rfl⟩
      rw [hH]
      have hp'' := hp'.out
      go_wp2
      go_ret
      exact ⟨ret_bool hn.out.symm, (Below.refl _ _).alloc (Nat.le_refl _) _⟩
end Go.Proofs.YtnbgjgiknfcdkaaDoor
