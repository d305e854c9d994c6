/-
  What a deed leads to: the program's function on states, the pours of the tanks 2 and 3.
-/
import Derived.Test.YtgonibieeimdoaaC
namespace Go.Proofs.Ytgonibieeimdoaa
open Go.RowKit Go.Deep M
set_option linter.unusedVariables false
set_option linter.unusedSimpArgs false

set_option maxRecDepth 100000 in
set_option maxHeartbeats 2000000 in
theorem does_pour20 (b o c n : Nat) (w : World) (s0 s1 s2 s3 T p : Int) (hp : p = min s2 (T - s0)) (hb : b < w.heap.size) (hg : 2 < n) (hn : n ≤ 4) (hc : w.cell? ⟨b, o, none⟩ = some (.int .i64 T)) (hT : 1 ≤ T ∧ T ≤ 12) (hf : 0 ≤ s2 ∧ s2 ≤ 12) (hq : 0 ≤ s0 ∧ s0 ≤ T) :
    Calls Try.prog 58 #[.slice (some ⟨b, o, none⟩) n c, stV s0 s1 s2 s3, ddV ⟨3, 2, 0⟩] w
      fun e w' => e = .returned (stV (s0 + p) s1 (s2 - p) s3) ∧ Below w.heap.size w w' := by
  unfold stV ddV
  have hi : (0 : Int) < (n : Int) := by omega
  have hb1 : b ≠ w.heap.size := by omega
  have hcw := ((ba3 w (.cells #[.int .i64 s0, .int .i64 s1, .int .i64 s2, .int .i64 s3] 69) (.cells #[.int .i64 3, .int .i64 2, .int .i64 0] 24) (.cells #[.int .i64 0, .int .i64 0, .int .i64 0, .int .i64 0] 69)).cell (p := ⟨b, o, none⟩) hb).trans hc
  have h0 : p = if s2 ≤ T - s0 then s2 else T - s0 := by rw [hp]; split <;> omega
  by_cases hle : s2 ≤ T - s0
  · have hpe : s2 = p := by rw [h0]; simp [hle]
    subst hpe
    clear h0 hp
    go_enter Try.func58, Try.ntmps58
    go_wp2_with fail
    go_region
    all_goals
      go_wp2
      exact bodyPost_ret (v := .agg #[.int .i64 (s0 + s2), .int .i64 s1, .int .i64 (s2 - s2), .int .i64 s3]) (by simp [results, Try.results58, go_sem]) rfl ⟨rfl, below_drewN (ba3 _ _ _ _) 1⟩
  · have hpe : T - s0 = p := by rw [h0]; simp [hle]
    subst hpe
    clear h0 hp
    go_enter Try.func58, Try.ntmps58
    go_wp2_with fail
    go_region
    all_goals
      go_wp2
      exact bodyPost_ret (v := .agg #[.int .i64 (s0 + (T - s0)), .int .i64 s1, .int .i64 (s2 - (T - s0)), .int .i64 s3]) (by simp [results, Try.results58, go_sem]) rfl ⟨rfl, below_drewN (ba3 _ _ _ _) 1⟩

set_option maxRecDepth 100000 in
set_option maxHeartbeats 2000000 in
theorem does_pour21 (b o c n : Nat) (w : World) (s0 s1 s2 s3 T p : Int) (hp : p = min s2 (T - s1)) (hb : b < w.heap.size) (hg : 2 < n) (hn : n ≤ 4) (hc : w.cell? ⟨b, o + 1, none⟩ = some (.int .i64 T)) (hT : 1 ≤ T ∧ T ≤ 12) (hf : 0 ≤ s2 ∧ s2 ≤ 12) (hq : 0 ≤ s1 ∧ s1 ≤ T) :
    Calls Try.prog 58 #[.slice (some ⟨b, o, none⟩) n c, stV s0 s1 s2 s3, ddV ⟨3, 2, 1⟩] w
      fun e w' => e = .returned (stV s0 (s1 + p) (s2 - p) s3) ∧ Below w.heap.size w w' := by
  unfold stV ddV
  have hi : (1 : Int) < (n : Int) := by omega
  have hb1 : b ≠ w.heap.size := by omega
  have hcw := ((ba3 w (.cells #[.int .i64 s0, .int .i64 s1, .int .i64 s2, .int .i64 s3] 69) (.cells #[.int .i64 3, .int .i64 2, .int .i64 1] 24) (.cells #[.int .i64 0, .int .i64 0, .int .i64 0, .int .i64 0] 69)).cell (p := ⟨b, o + 1, none⟩) hb).trans hc
  have h0 : p = if s2 ≤ T - s1 then s2 else T - s1 := by rw [hp]; split <;> omega
  by_cases hle : s2 ≤ T - s1
  · have hpe : s2 = p := by rw [h0]; simp [hle]
    subst hpe
    clear h0 hp
    go_enter Try.func58, Try.ntmps58
    go_wp2_with fail
    go_region
    all_goals
      go_wp2
      exact bodyPost_ret (v := .agg #[.int .i64 s0, .int .i64 (s1 + s2), .int .i64 (s2 - s2), .int .i64 s3]) (by simp [results, Try.results58, go_sem]) rfl ⟨rfl, below_drewN (ba3 _ _ _ _) 1⟩
  · have hpe : T - s1 = p := by rw [h0]; simp [hle]
    subst hpe
    clear h0 hp
    go_enter Try.func58, Try.ntmps58
    go_wp2_with fail
    go_region
    all_goals
      go_wp2
      exact bodyPost_ret (v := .agg #[.int .i64 s0, .int .i64 (s1 + (T - s1)), .int .i64 (s2 - (T - s1)), .int .i64 s3]) (by simp [results, Try.results58, go_sem]) rfl ⟨rfl, below_drewN (ba3 _ _ _ _) 1⟩

set_option maxRecDepth 100000 in
set_option maxHeartbeats 2000000 in
theorem does_pour23 (b o c n : Nat) (w : World) (s0 s1 s2 s3 T p : Int) (hp : p = min s2 (T - s3)) (hb : b < w.heap.size) (hg : 3 < n) (hn : n ≤ 4) (hc : w.cell? ⟨b, o + 3, none⟩ = some (.int .i64 T)) (hT : 1 ≤ T ∧ T ≤ 12) (hf : 0 ≤ s2 ∧ s2 ≤ 12) (hq : 0 ≤ s3 ∧ s3 ≤ T) :
    Calls Try.prog 58 #[.slice (some ⟨b, o, none⟩) n c, stV s0 s1 s2 s3, ddV ⟨3, 2, 3⟩] w
      fun e w' => e = .returned (stV s0 s1 (s2 - p) (s3 + p)) ∧ Below w.heap.size w w' := by
  unfold stV ddV
  have hi : (3 : Int) < (n : Int) := by omega
  have hb1 : b ≠ w.heap.size := by omega
  have hcw := ((ba3 w (.cells #[.int .i64 s0, .int .i64 s1, .int .i64 s2, .int .i64 s3] 69) (.cells #[.int .i64 3, .int .i64 2, .int .i64 3] 24) (.cells #[.int .i64 0, .int .i64 0, .int .i64 0, .int .i64 0] 69)).cell (p := ⟨b, o + 3, none⟩) hb).trans hc
  have h0 : p = if s2 ≤ T - s3 then s2 else T - s3 := by rw [hp]; split <;> omega
  by_cases hle : s2 ≤ T - s3
  · have hpe : s2 = p := by rw [h0]; simp [hle]
    subst hpe
    clear h0 hp
    go_enter Try.func58, Try.ntmps58
    go_wp2_with fail
    go_region
    all_goals
      go_wp2
      exact bodyPost_ret (v := .agg #[.int .i64 s0, .int .i64 s1, .int .i64 (s2 - s2), .int .i64 (s3 + s2)]) (by simp [results, Try.results58, go_sem]) rfl ⟨rfl, below_drewN (ba3 _ _ _ _) 1⟩
  · have hpe : T - s3 = p := by rw [h0]; simp [hle]
    subst hpe
    clear h0 hp
    go_enter Try.func58, Try.ntmps58
    go_wp2_with fail
    go_region
    all_goals
      go_wp2
      exact bodyPost_ret (v := .agg #[.int .i64 s0, .int .i64 s1, .int .i64 (s2 - (T - s3)), .int .i64 (s3 + (T - s3))]) (by simp [results, Try.results58, go_sem]) rfl ⟨rfl, below_drewN (ba3 _ _ _ _) 1⟩

set_option maxRecDepth 100000 in
set_option maxHeartbeats 2000000 in
theorem does_pour30 (b o c n : Nat) (w : World) (s0 s1 s2 s3 T p : Int) (hp : p = min s3 (T - s0)) (hb : b < w.heap.size) (hg : 3 < n) (hn : n ≤ 4) (hc : w.cell? ⟨b, o, none⟩ = some (.int .i64 T)) (hT : 1 ≤ T ∧ T ≤ 12) (hf : 0 ≤ s3 ∧ s3 ≤ 12) (hq : 0 ≤ s0 ∧ s0 ≤ T) :
    Calls Try.prog 58 #[.slice (some ⟨b, o, none⟩) n c, stV s0 s1 s2 s3, ddV ⟨3, 3, 0⟩] w
      fun e w' => e = .returned (stV (s0 + p) s1 s2 (s3 - p)) ∧ Below w.heap.size w w' := by
  unfold stV ddV
  have hi : (0 : Int) < (n : Int) := by omega
  have hb1 : b ≠ w.heap.size := by omega
  have hcw := ((ba3 w (.cells #[.int .i64 s0, .int .i64 s1, .int .i64 s2, .int .i64 s3] 69) (.cells #[.int .i64 3, .int .i64 3, .int .i64 0] 24) (.cells #[.int .i64 0, .int .i64 0, .int .i64 0, .int .i64 0] 69)).cell (p := ⟨b, o, none⟩) hb).trans hc
  have h0 : p = if s3 ≤ T - s0 then s3 else T - s0 := by rw [hp]; split <;> omega
  by_cases hle : s3 ≤ T - s0
  · have hpe : s3 = p := by rw [h0]; simp [hle]
    subst hpe
    clear h0 hp
    go_enter Try.func58, Try.ntmps58
    go_wp2_with fail
    go_region
    all_goals
      go_wp2
      exact bodyPost_ret (v := .agg #[.int .i64 (s0 + s3), .int .i64 s1, .int .i64 s2, .int .i64 (s3 - s3)]) (by simp [results, Try.results58, go_sem]) rfl ⟨rfl, below_drewN (ba3 _ _ _ _) 1⟩
  · have hpe : T - s0 = p := by rw [h0]; simp [hle]
    subst hpe
    clear h0 hp
    go_enter Try.func58, Try.ntmps58
    go_wp2_with fail
    go_region
    all_goals
      go_wp2
      exact bodyPost_ret (v := .agg #[.int .i64 (s0 + (T - s0)), .int .i64 s1, .int .i64 s2, .int .i64 (s3 - (T - s0))]) (by simp [results, Try.results58, go_sem]) rfl ⟨rfl, below_drewN (ba3 _ _ _ _) 1⟩

set_option maxRecDepth 100000 in
set_option maxHeartbeats 2000000 in
theorem does_pour31 (b o c n : Nat) (w : World) (s0 s1 s2 s3 T p : Int) (hp : p = min s3 (T - s1)) (hb : b < w.heap.size) (hg : 3 < n) (hn : n ≤ 4) (hc : w.cell? ⟨b, o + 1, none⟩ = some (.int .i64 T)) (hT : 1 ≤ T ∧ T ≤ 12) (hf : 0 ≤ s3 ∧ s3 ≤ 12) (hq : 0 ≤ s1 ∧ s1 ≤ T) :
    Calls Try.prog 58 #[.slice (some ⟨b, o, none⟩) n c, stV s0 s1 s2 s3, ddV ⟨3, 3, 1⟩] w
      fun e w' => e = .returned (stV s0 (s1 + p) s2 (s3 - p)) ∧ Below w.heap.size w w' := by
  unfold stV ddV
  have hi : (1 : Int) < (n : Int) := by omega
  have hb1 : b ≠ w.heap.size := by omega
  have hcw := ((ba3 w (.cells #[.int .i64 s0, .int .i64 s1, .int .i64 s2, .int .i64 s3] 69) (.cells #[.int .i64 3, .int .i64 3, .int .i64 1] 24) (.cells #[.int .i64 0, .int .i64 0, .int .i64 0, .int .i64 0] 69)).cell (p := ⟨b, o + 1, none⟩) hb).trans hc
  have h0 : p = if s3 ≤ T - s1 then s3 else T - s1 := by rw [hp]; split <;> omega
  by_cases hle : s3 ≤ T - s1
  · have hpe : s3 = p := by rw [h0]; simp [hle]
    subst hpe
    clear h0 hp
    go_enter Try.func58, Try.ntmps58
    go_wp2_with fail
    go_region
    all_goals
      go_wp2
      exact bodyPost_ret (v := .agg #[.int .i64 s0, .int .i64 (s1 + s3), .int .i64 s2, .int .i64 (s3 - s3)]) (by simp [results, Try.results58, go_sem]) rfl ⟨rfl, below_drewN (ba3 _ _ _ _) 1⟩
  · have hpe : T - s1 = p := by rw [h0]; simp [hle]
    subst hpe
    clear h0 hp
    go_enter Try.func58, Try.ntmps58
    go_wp2_with fail
    go_region
    all_goals
      go_wp2
      exact bodyPost_ret (v := .agg #[.int .i64 s0, .int .i64 (s1 + (T - s1)), .int .i64 s2, .int .i64 (s3 - (T - s1))]) (by simp [results, Try.results58, go_sem]) rfl ⟨rfl, below_drewN (ba3 _ _ _ _) 1⟩

set_option maxRecDepth 100000 in
set_option maxHeartbeats 2000000 in
theorem does_pour32 (b o c n : Nat) (w : World) (s0 s1 s2 s3 T p : Int) (hp : p = min s3 (T - s2)) (hb : b < w.heap.size) (hg : 3 < n) (hn : n ≤ 4) (hc : w.cell? ⟨b, o + 2, none⟩ = some (.int .i64 T)) (hT : 1 ≤ T ∧ T ≤ 12) (hf : 0 ≤ s3 ∧ s3 ≤ 12) (hq : 0 ≤ s2 ∧ s2 ≤ T) :
    Calls Try.prog 58 #[.slice (some ⟨b, o, none⟩) n c, stV s0 s1 s2 s3, ddV ⟨3, 3, 2⟩] w
      fun e w' => e = .returned (stV s0 s1 (s2 + p) (s3 - p)) ∧ Below w.heap.size w w' := by
  unfold stV ddV
  have hi : (2 : Int) < (n : Int) := by omega
  have hb1 : b ≠ w.heap.size := by omega
  have hcw := ((ba3 w (.cells #[.int .i64 s0, .int .i64 s1, .int .i64 s2, .int .i64 s3] 69) (.cells #[.int .i64 3, .int .i64 3, .int .i64 2] 24) (.cells #[.int .i64 0, .int .i64 0, .int .i64 0, .int .i64 0] 69)).cell (p := ⟨b, o + 2, none⟩) hb).trans hc
  have h0 : p = if s3 ≤ T - s2 then s3 else T - s2 := by rw [hp]; split <;> omega
  by_cases hle : s3 ≤ T - s2
  · have hpe : s3 = p := by rw [h0]; simp [hle]
    subst hpe
    clear h0 hp
    go_enter Try.func58, Try.ntmps58
    go_wp2_with fail
    go_region
    all_goals
      go_wp2
      exact bodyPost_ret (v := .agg #[.int .i64 s0, .int .i64 s1, .int .i64 (s2 + s3), .int .i64 (s3 - s3)]) (by simp [results, Try.results58, go_sem]) rfl ⟨rfl, below_drewN (ba3 _ _ _ _) 1⟩
  · have hpe : T - s2 = p := by rw [h0]; simp [hle]
    subst hpe
    clear h0 hp
    go_enter Try.func58, Try.ntmps58
    go_wp2_with fail
    go_region
    all_goals
      go_wp2
      exact bodyPost_ret (v := .agg #[.int .i64 s0, .int .i64 s1, .int .i64 (s2 + (T - s2)), .int .i64 (s3 - (T - s2))]) (by simp [results, Try.results58, go_sem]) rfl ⟨rfl, below_drewN (ba3 _ _ _ _) 1⟩

end Go.Proofs.Ytgonibieeimdoaa
