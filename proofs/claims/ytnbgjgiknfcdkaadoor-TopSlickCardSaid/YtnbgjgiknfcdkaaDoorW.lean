/-
  'Same' of a slick and itself.
-/
import Derived.Test.YtnbgjgiknfcdkaaDoorV
namespace Go.Proofs.YtnbgjgiknfcdkaaDoor
open Go.RowKit Go.Deep M
set_option linter.unusedVariables false
set_option linter.unusedSimpArgs false

/-- The world of 'Same': both boxes. -/
structure SamW (w : World) (x y z x' y' z' : Value) (X : World) : Prop where
  below : Below w.heap.size w X
  size : w.heap.size + 2 ≤ X.heap.size
  fst : Tri X w.heap.size x y z
  snd : Tri X (w.heap.size + 1) x' y' z'
theorem SamW.call {w : World} {x y z x' y' z' : Value} {X Y : World} (h : SamW w x y z x' y' z' X) (hb : Below X.heap.size X Y) : SamW w x y z x' y' z' Y :=
  ⟨h.below.trans (hb.mono h.below.size), Nat.le_trans h.size hb.size, h.fst.up hb, h.snd.up hb⟩
theorem samW_start (w : World) (x y z x' y' z' : Value) : SamW w x y z x' y' z' ((w.alloc (.cells #[x, y, z] 28)).alloc (.cells #[x', y', z'] 28)) := by
  refine ⟨ba2 w _ _, by simp, (Tri.new w x y z).up (ba1 _ _), ?_⟩
  have := Tri.new (w.alloc (.cells #[x, y, z] 28)) x' y' z'
  simpa using this

set_option maxRecDepth 100000 in
set_option maxHeartbeats 4000000 in
theorem Same_ok (B : Nat) (k : Nat) (A A' : Option Addr) (c c' : Nat) (O : List Int) (aw : Int) (w : World) (hs : SlkP k O aw) (hO : Row w B A O) (hO' : Row w B A' O) (hB : B ≤ w.heap.size) (hl : O.length ≤ 900) :
    Calls Tryd.prog 40 #[.agg #[.int .i64 k, .slice A O.length c, .int .i64 aw], (.agg #[.int .i64 k, .slice A' O.length c', .int .i64 aw])] w fun e w' => e = .returned (.bool true) ∧ Below w.heap.size w w' := by
  have hst := samW_start w (.int .i64 k) (.slice A O.length c) (.int .i64 aw) (.int .i64 k) (.slice A' O.length c') (.int .i64 aw)
  have hk : k ≤ 5 := by have := hs.1; omega
  have la : (amt O aw).length = O.length + 1 := amt_len _ _
  have hp16 : 1 ≤ (16 : Int) ^ k ∧ (16 : Int) ^ k ≤ 1048576 := by
    have : k = 0 ∨ k = 1 ∨ k = 2 ∨ k = 3 ∨ k = 4 ∨ k = 5 := by omega
    rcases this with e | e | e | e | e | e <;> rw [e] <;> decide
  have hv : ∀ i, i < (amt O aw).length → 0 ≤ el (amt O aw) i ∧ el (amt O aw) i ≤ 36000 * (16 : Int) ^ k := fun i hi => by
    have h1 := el_le_tot hs.2.1 i hi
    have h2 := hs.2.2
    rw [Int.toNat_natCast] at h2
    exact ⟨hs.2.1 i hi, by omega⟩
  have hwr : ∀ i, i < O.length + 1 → IntKind.i64.wrap (el (amt O aw) i * (16 : Int) ^ k) = el (amt O aw) i * (16 : Int) ^ k := fun i hi => by
    have h1 := hv i (by omega)
    have h2 : 0 ≤ el (amt O aw) i * (16 : Int) ^ k := Int.mul_nonneg h1.1 (by omega)
    have h3 : el (amt O aw) i * (16 : Int) ^ k ≤ (36000 * (16 : Int) ^ k) * (16 : Int) ^ k := Int.mul_le_mul_of_nonneg_right h1.2 (by omega)
    have h4 : (36000 * (16 : Int) ^ k) * (16 : Int) ^ k ≤ 36000 * 1048576 * 1048576 := Int.mul_le_mul (by omega) hp16.2 (by omega) (by omega)
    exact IntWalk.i64_in _ (by omega)
  have c74 : ∀ X, SamW w (.int .i64 k) (.slice A O.length c) (.int .i64 aw) (.int .i64 k) (.slice A' O.length c') (.int .i64 aw) X → Calls Tryd.prog 74 #[.agg #[.int .i64 k, .slice A O.length c, .int .i64 aw]] X fun e w' => e = .returned (.bool true) ∧ Below X.heap.size X w' := fun X hX =>
    isAmounts_ok B k A c O aw X hk (hO.below (hX.below.mono hB)) (Nat.le_trans hB hX.below.size) hl hv
  have c74' : ∀ X, SamW w (.int .i64 k) (.slice A O.length c) (.int .i64 aw) (.int .i64 k) (.slice A' O.length c') (.int .i64 aw) X → Calls Tryd.prog 74 #[(.agg #[.int .i64 k, .slice A' O.length c', .int .i64 aw])] X fun e w' => e = .returned (.bool true) ∧ Below X.heap.size X w' := fun X hX =>
    isAmounts_ok B k A' c' O aw X hk (hO'.below (hX.below.mono hB)) (Nat.le_trans hB hX.below.size) hl hv
  have c64 : ∀ X, SamW w (.int .i64 k) (.slice A O.length c) (.int .i64 aw) (.int .i64 k) (.slice A' O.length c') (.int .i64 aw) X → Calls Tryd.prog 64 #[.agg #[.int .i64 k, .slice A O.length c, .int .i64 aw]] X fun e w' => ∃ D d, e = .returned (.slice D (O.length + 1) d) ∧ Below X.heap.size X w' ∧ Row w' w'.heap.size D (amt O aw) := fun X hX => by
    have h1 := amounts_row (B := B) (K := k) (c := c) (aw := aw) (hO.below (hX.below.mono hB)) (Nat.le_trans hB hX.below.size) hl
    refine h1.mono ?_
    rintro e w' ⟨D, d, he, hb, hr⟩
    have e2 : (O ++ [aw]).length = O.length + 1 := la
    rw [e2] at he
    exact ⟨D, d, he, hb, hr⟩
  have c64' : ∀ X, SamW w (.int .i64 k) (.slice A O.length c) (.int .i64 aw) (.int .i64 k) (.slice A' O.length c') (.int .i64 aw) X → Calls Tryd.prog 64 #[(.agg #[.int .i64 k, .slice A' O.length c', .int .i64 aw])] X fun e w' => ∃ D d, e = .returned (.slice D (O.length + 1) d) ∧ Below X.heap.size X w' ∧ Row w' w'.heap.size D (amt O aw) := fun X hX => by
    have h1 := amounts_row (B := B) (K := k) (c := c') (aw := aw) (hO'.below (hX.below.mono hB)) (Nat.le_trans hB hX.below.size) hl
    refine h1.mono ?_
    rintro e w' ⟨D, d, he, hb, hr⟩
    have e2 : (O ++ [aw]).length = O.length + 1 := la
    rw [e2] at he
    exact ⟨D, d, he, hb, hr⟩
  have c75 : ∀ X, Calls Tryd.prog 75 #[.int .i64 k] X fun e w' => e = .returned (.int .i64 ((16 : Int) ^ k)) ∧ w' = X := fun X => (parts_any k X hk).mono fun e w' ⟨he, hw⟩ => ⟨he, hw.symm⟩
  generalize (16 : Int) ^ k = p at *
  generalize amt O aw = a at *
  replace hst := Lib.hid hst
  replace c74 := Lib.hid c74
  replace c74' := Lib.hid c74'
  replace c64 := Lib.hid c64
  replace c64' := Lib.hid c64'
  replace c75 := Lib.hid c75
  replace hwr := Lib.hid hwr
  replace la := Lib.hid la
  clear hv hs hO hO' hp16
  go_enter Tryd.func40, Tryd.ntmps40
  go_wp2_with fail
  refine (c74.out _ hst.out).mono ?_
  rintro e w1 ⟨rfl, hb1⟩
  have h1 := hst.out.call hb1
  have g0 := h1.snd.c0
  have g1 := h1.snd.c1
  have g2 := h1.snd.c2
  clear hb1
  go_wp2_with fail
  refine (c74'.out _ h1).mono ?_
  rintro e w2 ⟨rfl, hb2⟩
  have h2 := h1.call hb2
  clear hb2 h1 g0 g1 g2
  have g0 := h2.snd.c0
  have g1 := h2.snd.c1
  have g2 := h2.snd.c2
  have f1 := h2.fst.c1
  go_wp2_with fail
  refine (c64'.out _ h2).mono ?_
  rintro e w3 ⟨D', d', rfl, hb3, r3⟩
  have h3 := h2.call hb3
  clear hb3 h2 g0 g1 g2 f1
  have g0 := h3.fst.c0
  have g1 := h3.fst.c1
  have g2 := h3.fst.c2
  go_wp2_with fail
  refine (c64.out _ h3).mono ?_
  rintro e w4 ⟨D, d, rfl, hb4, r4⟩
  have h4 := h3.call hb4
  have r5 := r3.up hb4
  clear hb4 h3 g0 g1 g2 r3
  go_wp2
  go_loopw [30] (fun i wr => ∃ j m : Nat, j ≤ O.length + 1 ∧ i = .int .i64 j ∧ wr = w4.drewN m) (fun i _ => O.length + 1 - (intOf i).toNat)
  case atStart => exact ⟨0, 0, Nat.zero_le _, rfl, rfl⟩
  case round =>
    obtain ⟨j, m, hj, rfl, hw⟩ := hrel
    have hbw : Below w4.heap.size w4 wr := by rw [hw]; exact below_drewN (Below.refl _ _) m
    have h6 := h4.call hbw
    by_cases hlt : j < O.length + 1
    · obtain ⟨b, o, rfl, hbl, hc⟩ := (r4.below hbw).at_ j (by have := la.out; omega)
      obtain ⟨b', o', rfl, hbl', hc'⟩ := (r5.below hbw).at_ j (by have := la.out; omega)
      have wr3 := hwr.out j hlt
      have hjj : (j : Int) < ((O.length + 1 : Nat) : Int) := by omega
      have g0 := h6.snd.c0
      have g1 := h6.fst.c0
      replace hw := Lib.hid hw
      clear h6 hbw
      go_wp2
      go_quiet ((go_at_call 75; exact Calls.quiet_of_same (c75.out _)))
      go_wp2
      go_roundw
      case rel => exact ⟨j + 1, m + nq, by omega, by go_num, by rw [hw.out, World.drewN_drewN]⟩
      case measure => simp [intOf]; omega
    · have hjj : ¬ (j : Int) < ((O.length + 1 : Nat) : Int) := by omega
      replace hw := Lib.hid hw
      have h7 := h6.below
      clear h6 hbw
      go_wp2
      go_ret
      exact ⟨rfl, h7⟩
end Go.Proofs.YtnbgjgiknfcdkaaDoor
