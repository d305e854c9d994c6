/-
  slices.SortStableFunc of few claimants, by their rests.
-/
import Derived.Test.YthleekdkbgnabaaJa
namespace Go.Proofs.Ythleekdkbgnabaa
open Go.RowKit Go.Deep M
set_option linter.unusedVariables false
set_option linter.unusedSimpArgs false
set_option maxRecDepth 100000 in
set_option maxHeartbeats 4000000 in
theorem stable_any (n0 g n cap box : Nat) (cp : Nat → Nat → Int) (s : Nat → Int) (σ : Nat → Nat) (w : World) (hn : 1 ≤ n ∧ n ≤ 8) (hn0 : n0 ≤ w.heap.size) (hb : BlI w g n (fun i => (σ i : Int))) (h0 : InsI s n 1 σ)
    (kC : ∀ X, Bx n0 g w X → ∀ x y : Nat, x < n → y < n → Calls Try.prog 102 #[.int .i64 (x : Nat), .int .i64 (y : Nat), .pointer (some ⟨box, 0, none⟩)] X fun r w' => r = .returned (.int .i64 (cp x y)) ∧ Below X.heap.size X w')
    (hcp : ∀ x y, x < n → y < n → (cp x y < 0 ↔ s y < s x)) :
    Calls Try.prog 121 #[.slice (some ⟨g, 0, none⟩) n cap, .int .i64 (n : Nat), .func (.func 102) #[] #[.pointer (some ⟨box, 0, none⟩)]] w fun r w' => r = .returned (.tuple #[]) ∧ ∃ σ', SoS w n0 g n σ' w' ∧ InsI s n n σ' := by
  have kk := Lib.hid (insert_any n0 g n cap box cp s σ w (by omega) hn0 hb h0 kC hcp)
  clear hb h0 kC hcp hn0
  obtain ⟨hn1, hn8⟩ := hn
  go_enter Try.func121, Try.ntmps121
  go_wp2
  go_loopw [7, 8] (fun a b wr => a = .int .i64 0 ∧ b = .int .i64 20 ∧ wr = w) (fun _ _ _ => 0)
  case atStart => exact ⟨rfl, rfl, rfl⟩
  case round =>
    obtain ⟨rfl, rfl, rfl⟩ := hrel
    go_wp2_with fail
    refine kk.out.mono ?_
    rintro _ X ⟨rfl, hX⟩
    go_wp2
    go_loopw [6, 7, 8, 9] (fun a _ _ _ wr' => a = .int .i64 20 ∧ wr' = X) (fun _ _ _ _ _ => 0)
    case atStart => exact ⟨rfl, rfl⟩
    case round =>
      obtain ⟨rfl, rfl⟩ := hrel
      go_wp2
      go_end0
      exact ⟨rfl, hX⟩
set_option maxRecDepth 100000 in
set_option maxHeartbeats 4000000 in
theorem sortStable_any (n0 g n cap box : Nat) (cp : Nat → Nat → Int) (s : Nat → Int) (σ : Nat → Nat) (w : World) (hn : 1 ≤ n ∧ n ≤ 8) (hn0 : n0 ≤ w.heap.size) (hb : BlI w g n (fun i => (σ i : Int))) (h0 : InsI s n 1 σ)
    (kC : ∀ X, Bx n0 g w X → ∀ x y : Nat, x < n → y < n → Calls Try.prog 102 #[.int .i64 (x : Nat), .int .i64 (y : Nat), .pointer (some ⟨box, 0, none⟩)] X fun r w' => r = .returned (.int .i64 (cp x y)) ∧ Below X.heap.size X w')
    (hcp : ∀ x y, x < n → y < n → (cp x y < 0 ↔ s y < s x)) :
    Calls Try.prog 101 #[.slice (some ⟨g, 0, none⟩) n cap, .func (.func 102) #[] #[.pointer (some ⟨box, 0, none⟩)]] w fun r w' => r = .returned (.tuple #[]) ∧ ∃ σ', SoS w n0 g n σ' w' ∧ InsI s n n σ' := by
  have kk := Lib.hid (stable_any n0 g n cap box cp s σ w hn hn0 hb h0 kC hcp)
  clear hb h0 kC hcp hn0
  go_enter Try.func101, Try.ntmps101
  go_wp2_with fail
  refine kk.out.mono ?_
  rintro _ X ⟨rfl, hX⟩
  go_wp2
  go_end0
  exact ⟨rfl, hX⟩
end Go.Proofs.Ythleekdkbgnabaa
