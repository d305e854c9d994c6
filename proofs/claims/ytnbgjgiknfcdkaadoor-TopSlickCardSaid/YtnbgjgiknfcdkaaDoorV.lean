/-
  'isAmounts' of a slick whose amounts are in order.
-/
import Derived.Test.YtnbgjgiknfcdkaaDoorU
namespace Go.Proofs.YtnbgjgiknfcdkaaDoor
open Go.RowKit Go.Deep M
set_option linter.unusedVariables false
set_option linter.unusedSimpArgs false

set_option maxRecDepth 100000 in
set_option maxHeartbeats 4000000 in
theorem bad_ok (k : Nat) (b : Nat) (v : Int) (w : World) (hk : k ≤ 5) (hc : w.cell? ⟨b, 0, none⟩ = some (.int .i64 k)) (hv : 0 ≤ v ∧ v ≤ 36000 * (16 : Int) ^ k) :
    Calls Tryd.prog 90 #[.int .i64 v, .pointer (some ⟨b, 0, none⟩)] w fun e w' => e = .returned (.bool false) ∧ w = w' := by
  have hm := most_any k w hk
  generalize 36000 * (16 : Int) ^ k = p at *
  have h0 : decide (v < 0) = false := by simp; omega
  have h1 : decide (p < v) = false := by simp; omega
  go_enter Tryd.func90, Tryd.ntmps90
  go_wp2_with fail
  refine hm.mono ?_
  rintro e w1 ⟨rfl, rfl⟩
  go_wp2
  go_ret
  exact ⟨rfl, rfl⟩

set_option maxRecDepth 100000 in
set_option maxHeartbeats 4000000 in
theorem index_none (B : Nat) (k : Nat) (b : Nat) (A : Option Addr) (c : Nat) (a : List Int) (w : World) (hk : k ≤ 5) (hc : w.cell? ⟨b, 0, none⟩ = some (.int .i64 k)) (ha : Row w B A a) (hl : a.length ≤ 901) (hv : ∀ i, i < a.length → 0 ≤ el a i ∧ el a i ≤ 36000 * (16 : Int) ^ k) :
    Calls Tryd.prog 97 #[.slice A a.length c, .func (.func 90) #[] #[.pointer (some ⟨b, 0, none⟩)]] w fun e w' => e = .returned (.int .i64 (-1)) ∧ w = w' := by
  have cb : ∀ i, i < a.length → Calls Tryd.prog 90 #[.int .i64 (el a i), .pointer (some ⟨b, 0, none⟩)] w fun e w' => e = .returned (.bool false) ∧ w = w' := fun i hi => bad_ok k b (el a i) w hk hc (hv i hi)
  replace cb := Lib.hid cb
  replace hv := Lib.hid hv
  go_enter Tryd.func97, Tryd.ntmps97
  go_wp2
  go_loop [8] (fun i => ∃ j : Nat, j ≤ a.length ∧ i = .int .i64 j) (fun i => a.length - (intOf i).toNat)
  case atStart => exact ⟨0, Nat.zero_le _, rfl⟩
  case round =>
    obtain ⟨j, hj, rfl⟩ := hrel
    by_cases hlt : j < a.length
    · obtain ⟨b', o', rfl, hb', hcell⟩ := ha.at_ j hlt
      have hjj : (j : Int) < ((a.length : Nat) : Int) := by omega
      go_wp2_with fail
      refine (cb.out j hlt).mono ?_
      rintro e w1 ⟨rfl, rfl⟩
      go_wp2
      go_round
      case rel => exact ⟨j + 1, by omega, by go_num⟩
      case measure => simp [intOf]; omega
    · have hjj : ¬ (j : Int) < ((a.length : Nat) : Int) := by omega
      go_wp2
      go_ret
      exact ⟨rfl, rfl⟩

set_option maxRecDepth 100000 in
set_option maxHeartbeats 4000000 in
theorem contains_none (B : Nat) (k : Nat) (b : Nat) (A : Option Addr) (c : Nat) (a : List Int) (w : World) (hk : k ≤ 5) (hc : w.cell? ⟨b, 0, none⟩ = some (.int .i64 k)) (ha : Row w B A a) (hl : a.length ≤ 901) (hv : ∀ i, i < a.length → 0 ≤ el a i ∧ el a i ≤ 36000 * (16 : Int) ^ k) :
    Calls Tryd.prog 87 #[.slice A a.length c, .func (.func 90) #[] #[.pointer (some ⟨b, 0, none⟩)]] w fun e w' => e = .returned (.bool false) ∧ w = w' := by
  have c97 := index_none B k b A c a w hk hc ha hl hv
  replace c97 := Lib.hid c97
  clear hv hc ha
  go_enter Tryd.func87, Tryd.ntmps87
  go_wp2_with fail
  refine c97.out.mono ?_
  rintro e w1 ⟨rfl, rfl⟩
  go_wp2
  go_ret
  exact ⟨rfl, rfl⟩

set_option maxRecDepth 100000 in
set_option maxHeartbeats 4000000 in
theorem isAmounts_ok (B : Nat) (k : Nat) (A : Option Addr) (c : Nat) (O : List Int) (aw : Int) (w : World) (hk : k ≤ 5) (hO : Row w B A O) (hB : B ≤ w.heap.size) (hl : O.length ≤ 900) (hv : ∀ i, i < (amt O aw).length → 0 ≤ el (amt O aw) i ∧ el (amt O aw) i ≤ 36000 * (16 : Int) ^ k) :
    Calls Tryd.prog 74 #[.agg #[.int .i64 k, .slice A O.length c, .int .i64 aw]] w fun e w' => e = .returned (.bool true) ∧ Below w.heap.size w w' := by
  have hb0 := ba1 w (.cells #[.int .i64 k, .slice A O.length c, .int .i64 aw] 28)
  have t0 := Tri.new w (.int .i64 k) (.slice A O.length c) (.int .i64 aw)
  have la : (amt O aw).length = O.length + 1 := amt_len _ _
  have c64 := amounts_row (B := B) (K := k) (c := c) (aw := aw) (hO.below (hb0.mono hB)) (Nat.le_trans hB hb0.size) hl
  have c87 : ∀ X A' c', X.cell? ⟨w.heap.size, 0, none⟩ = some (.int .i64 k) → Row X X.heap.size A' (amt O aw) → Calls Tryd.prog 87 #[.slice A' (O.length + 1) c', .func (.func 90) #[] #[.pointer (some ⟨w.heap.size, 0, none⟩)]] X fun e w' => e = .returned (.bool false) ∧ X = w' := fun X A' c' hc hr => by
    rw [← la]
    exact contains_none X.heap.size k w.heap.size A' c' (amt O aw) X hk hc hr (by rw [la]; omega) hv
  have hmv : movesB (k : Int) = true := by unfold movesB; simp; omega
  replace c64 := Lib.hid c64
  replace c87 := Lib.hid c87
  replace hv := Lib.hid hv
  replace la := Lib.hid la
  replace hb0 := Lib.hid hb0
  replace t0 := Lib.hid t0
  go_enter Tryd.func74, Tryd.ntmps74
  go_wp2_with fail
  refine (isMoves_any k _).mono ?_
  rintro e w1 ⟨rfl, rfl⟩
  rw [hmv]
  go_wp2_with fail
  refine c64.out.mono ?_
  rintro e w2 ⟨A', c', rfl, hb2, hr2⟩
  have e2 : (O ++ [aw]).length = O.length + 1 := la.out
  rw [e2]
  have t2 := t0.out.up hb2
  have hbb := hb0.out.trans (hb2.mono hb0.out.size)
  have hr3 : Row w2 w2.heap.size A' (amt O aw) := hr2
  clear hb2 hr2
  go_wp2_with fail
  refine (c87.out _ A' c' t2.c0 hr3).mono ?_
  rintro e w3 ⟨rfl, rfl⟩
  go_wp2
  go_ret
  exact ⟨rfl, hbb⟩
end Go.Proofs.YtnbgjgiknfcdkaaDoor
