/-
  What a deed leads to: the program's function on states.
-/
import Derived.Test.YtgonibieeimdoaaB
namespace Go.Proofs.Ytgonibieeimdoaa
open Go.RowKit Go.Deep M
set_option linter.unusedVariables false
set_option linter.unusedSimpArgs false

/-- A state of four numbers; a deed. -/
def stV (s0 s1 s2 s3 : Int) : Value := .agg #[.int .i64 s0, .int .i64 s1, .int .i64 s2, .int .i64 s3]
def stL (l : List Int) : Value := stV (el l 0) (el l 1) (el l 2) (el l 3)
def ddV (x : Dd) : Value := .agg #[.int .i64 x.d, .int .i64 x.f, .int .i64 x.t]
theorem ba3 (w : World) (o p q : Obj) : Below w.heap.size w (((w.alloc o).alloc p).alloc q) := (((Below.refl _ _).alloc (Nat.le_refl _) _).alloc (by simp) _).alloc (by simp; omega) _

set_option maxRecDepth 100000 in
set_option maxHeartbeats 2000000 in
theorem does_fill0 (b o c n : Nat) (w : World) (s0 s1 s2 s3 T : Int) (hb : b < w.heap.size) (hg : 0 < n) (hn : n ≤ 4) (hc : w.cell? ⟨b, o, none⟩ = some (.int .i64 T)) :
    Calls Try.prog 58 #[.slice (some ⟨b, o, none⟩) n c, stV s0 s1 s2 s3, ddV ⟨1, 0, 0⟩] w
      fun e w' => e = .returned (stV T s1 s2 s3) ∧ Below w.heap.size w w' := by
  unfold stV ddV
  have hi : (0 : Int) < (n : Int) := by omega
  have hb1 : b ≠ w.heap.size := by omega
  have hcw := ((ba3 w (.cells #[.int .i64 s0, .int .i64 s1, .int .i64 s2, .int .i64 s3] 69) (.cells #[.int .i64 1, .int .i64 0, .int .i64 0] 24) (.cells #[.int .i64 0, .int .i64 0, .int .i64 0, .int .i64 0] 69)).cell (p := ⟨b, o, none⟩) hb).trans hc
  go_enter Try.func58, Try.ntmps58
  go_wp2_with fail
  go_region
  all_goals
    go_wp2
    exact bodyPost_ret (v := .agg #[.int .i64 T, .int .i64 s1, .int .i64 s2, .int .i64 s3]) (by simp [results, Try.results58, go_sem]) rfl ⟨rfl, below_drewN (ba3 _ _ _ _) 1⟩

set_option maxRecDepth 100000 in
set_option maxHeartbeats 2000000 in
theorem does_fill1 (b o c n : Nat) (w : World) (s0 s1 s2 s3 T : Int) (hb : b < w.heap.size) (hg : 1 < n) (hn : n ≤ 4) (hc : w.cell? ⟨b, o + 1, none⟩ = some (.int .i64 T)) :
    Calls Try.prog 58 #[.slice (some ⟨b, o, none⟩) n c, stV s0 s1 s2 s3, ddV ⟨1, 0, 1⟩] w
      fun e w' => e = .returned (stV s0 T s2 s3) ∧ Below w.heap.size w w' := by
  unfold stV ddV
  have hi : (1 : Int) < (n : Int) := by omega
  have hb1 : b ≠ w.heap.size := by omega
  have hcw := ((ba3 w (.cells #[.int .i64 s0, .int .i64 s1, .int .i64 s2, .int .i64 s3] 69) (.cells #[.int .i64 1, .int .i64 0, .int .i64 1] 24) (.cells #[.int .i64 0, .int .i64 0, .int .i64 0, .int .i64 0] 69)).cell (p := ⟨b, o + 1, none⟩) hb).trans hc
  go_enter Try.func58, Try.ntmps58
  go_wp2_with fail
  go_region
  all_goals
    go_wp2
    exact bodyPost_ret (v := .agg #[.int .i64 s0, .int .i64 T, .int .i64 s2, .int .i64 s3]) (by simp [results, Try.results58, go_sem]) rfl ⟨rfl, below_drewN (ba3 _ _ _ _) 1⟩

set_option maxRecDepth 100000 in
set_option maxHeartbeats 2000000 in
theorem does_fill2 (b o c n : Nat) (w : World) (s0 s1 s2 s3 T : Int) (hb : b < w.heap.size) (hg : 2 < n) (hn : n ≤ 4) (hc : w.cell? ⟨b, o + 2, none⟩ = some (.int .i64 T)) :
    Calls Try.prog 58 #[.slice (some ⟨b, o, none⟩) n c, stV s0 s1 s2 s3, ddV ⟨1, 0, 2⟩] w
      fun e w' => e = .returned (stV s0 s1 T s3) ∧ Below w.heap.size w w' := by
  unfold stV ddV
  have hi : (2 : Int) < (n : Int) := by omega
  have hb1 : b ≠ w.heap.size := by omega
  have hcw := ((ba3 w (.cells #[.int .i64 s0, .int .i64 s1, .int .i64 s2, .int .i64 s3] 69) (.cells #[.int .i64 1, .int .i64 0, .int .i64 2] 24) (.cells #[.int .i64 0, .int .i64 0, .int .i64 0, .int .i64 0] 69)).cell (p := ⟨b, o + 2, none⟩) hb).trans hc
  go_enter Try.func58, Try.ntmps58
  go_wp2_with fail
  go_region
  all_goals
    go_wp2
    exact bodyPost_ret (v := .agg #[.int .i64 s0, .int .i64 s1, .int .i64 T, .int .i64 s3]) (by simp [results, Try.results58, go_sem]) rfl ⟨rfl, below_drewN (ba3 _ _ _ _) 1⟩

set_option maxRecDepth 100000 in
set_option maxHeartbeats 2000000 in
theorem does_fill3 (b o c n : Nat) (w : World) (s0 s1 s2 s3 T : Int) (hb : b < w.heap.size) (hg : 3 < n) (hn : n ≤ 4) (hc : w.cell? ⟨b, o + 3, none⟩ = some (.int .i64 T)) :
    Calls Try.prog 58 #[.slice (some ⟨b, o, none⟩) n c, stV s0 s1 s2 s3, ddV ⟨1, 0, 3⟩] w
      fun e w' => e = .returned (stV s0 s1 s2 T) ∧ Below w.heap.size w w' := by
  unfold stV ddV
  have hi : (3 : Int) < (n : Int) := by omega
  have hb1 : b ≠ w.heap.size := by omega
  have hcw := ((ba3 w (.cells #[.int .i64 s0, .int .i64 s1, .int .i64 s2, .int .i64 s3] 69) (.cells #[.int .i64 1, .int .i64 0, .int .i64 3] 24) (.cells #[.int .i64 0, .int .i64 0, .int .i64 0, .int .i64 0] 69)).cell (p := ⟨b, o + 3, none⟩) hb).trans hc
  go_enter Try.func58, Try.ntmps58
  go_wp2_with fail
  go_region
  all_goals
    go_wp2
    exact bodyPost_ret (v := .agg #[.int .i64 s0, .int .i64 s1, .int .i64 s2, .int .i64 T]) (by simp [results, Try.results58, go_sem]) rfl ⟨rfl, below_drewN (ba3 _ _ _ _) 1⟩

set_option maxRecDepth 100000 in
set_option maxHeartbeats 2000000 in
theorem does_empty0 (A : Option Addr) (c n : Nat) (w : World) (s0 s1 s2 s3 : Int) :
    Calls Try.prog 58 #[.slice A n c, stV s0 s1 s2 s3, ddV ⟨2, 0, 0⟩] w
      fun e w' => e = .returned (stV 0 s1 s2 s3) ∧ Below w.heap.size w w' := by
  unfold stV ddV
  go_enter Try.func58, Try.ntmps58
  go_wp2
  exact bodyPost_ret (v := .agg #[.int .i64 0, .int .i64 s1, .int .i64 s2, .int .i64 s3]) (by simp [results, Try.results58, go_sem]) rfl ⟨rfl, ba3 _ _ _ _⟩

set_option maxRecDepth 100000 in
set_option maxHeartbeats 2000000 in
theorem does_empty1 (A : Option Addr) (c n : Nat) (w : World) (s0 s1 s2 s3 : Int) :
    Calls Try.prog 58 #[.slice A n c, stV s0 s1 s2 s3, ddV ⟨2, 0, 1⟩] w
      fun e w' => e = .returned (stV s0 0 s2 s3) ∧ Below w.heap.size w w' := by
  unfold stV ddV
  go_enter Try.func58, Try.ntmps58
  go_wp2
  exact bodyPost_ret (v := .agg #[.int .i64 s0, .int .i64 0, .int .i64 s2, .int .i64 s3]) (by simp [results, Try.results58, go_sem]) rfl ⟨rfl, ba3 _ _ _ _⟩

set_option maxRecDepth 100000 in
set_option maxHeartbeats 2000000 in
theorem does_empty2 (A : Option Addr) (c n : Nat) (w : World) (s0 s1 s2 s3 : Int) :
    Calls Try.prog 58 #[.slice A n c, stV s0 s1 s2 s3, ddV ⟨2, 0, 2⟩] w
      fun e w' => e = .returned (stV s0 s1 0 s3) ∧ Below w.heap.size w w' := by
  unfold stV ddV
  go_enter Try.func58, Try.ntmps58
  go_wp2
  exact bodyPost_ret (v := .agg #[.int .i64 s0, .int .i64 s1, .int .i64 0, .int .i64 s3]) (by simp [results, Try.results58, go_sem]) rfl ⟨rfl, ba3 _ _ _ _⟩

set_option maxRecDepth 100000 in
set_option maxHeartbeats 2000000 in
theorem does_empty3 (A : Option Addr) (c n : Nat) (w : World) (s0 s1 s2 s3 : Int) :
    Calls Try.prog 58 #[.slice A n c, stV s0 s1 s2 s3, ddV ⟨2, 0, 3⟩] w
      fun e w' => e = .returned (stV s0 s1 s2 0) ∧ Below w.heap.size w w' := by
  unfold stV ddV
  go_enter Try.func58, Try.ntmps58
  go_wp2
  exact bodyPost_ret (v := .agg #[.int .i64 s0, .int .i64 s1, .int .i64 s2, .int .i64 0]) (by simp [results, Try.results58, go_sem]) rfl ⟨rfl, ba3 _ _ _ _⟩

set_option maxRecDepth 100000 in
set_option maxHeartbeats 2000000 in
theorem does_pour01 (b o c n : Nat) (w : World) (s0 s1 s2 s3 T p : Int) (hp : p = min s0 (T - s1)) (hb : b < w.heap.size) (hg : 1 < n) (hn : n ≤ 4) (hc : w.cell? ⟨b, o + 1, none⟩ = some (.int .i64 T)) (hT : 1 ≤ T ∧ T ≤ 12) (hf : 0 ≤ s0 ∧ s0 ≤ 12) (hq : 0 ≤ s1 ∧ s1 ≤ T) :
    Calls Try.prog 58 #[.slice (some ⟨b, o, none⟩) n c, stV s0 s1 s2 s3, ddV ⟨3, 0, 1⟩] w
      fun e w' => e = .returned (stV (s0 - p) (s1 + p) s2 s3) ∧ Below w.heap.size w w' := by
  unfold stV ddV
  have hi : (1 : Int) < (n : Int) := by omega
  have hb1 : b ≠ w.heap.size := by omega
  have hcw := ((ba3 w (.cells #[.int .i64 s0, .int .i64 s1, .int .i64 s2, .int .i64 s3] 69) (.cells #[.int .i64 3, .int .i64 0, .int .i64 1] 24) (.cells #[.int .i64 0, .int .i64 0, .int .i64 0, .int .i64 0] 69)).cell (p := ⟨b, o + 1, none⟩) hb).trans hc
  have h0 : p = if s0 ≤ T - s1 then s0 else T - s1 := by rw [hp]; split <;> omega
  by_cases hle : s0 ≤ T - s1
  · have hpe : s0 = p := by rw [h0]; simp [hle]
    subst hpe
    clear h0 hp
    go_enter Try.func58, Try.ntmps58
    go_wp2_with fail
    go_region
    all_goals
      go_wp2
      exact bodyPost_ret (v := .agg #[.int .i64 (s0 - s0), .int .i64 (s1 + s0), .int .i64 s2, .int .i64 s3]) (by simp [results, Try.results58, go_sem]) rfl ⟨rfl, below_drewN (ba3 _ _ _ _) 1⟩
  · have hpe : T - s1 = p := by rw [h0]; simp [hle]
    subst hpe
    clear h0 hp
    go_enter Try.func58, Try.ntmps58
    go_wp2_with fail
    go_region
    all_goals
      go_wp2
      exact bodyPost_ret (v := .agg #[.int .i64 (s0 - (T - s1)), .int .i64 (s1 + (T - s1)), .int .i64 s2, .int .i64 s3]) (by simp [results, Try.results58, go_sem]) rfl ⟨rfl, below_drewN (ba3 _ _ _ _) 1⟩

set_option maxRecDepth 100000 in
set_option maxHeartbeats 2000000 in
theorem does_pour02 (b o c n : Nat) (w : World) (s0 s1 s2 s3 T p : Int) (hp : p = min s0 (T - s2)) (hb : b < w.heap.size) (hg : 2 < n) (hn : n ≤ 4) (hc : w.cell? ⟨b, o + 2, none⟩ = some (.int .i64 T)) (hT : 1 ≤ T ∧ T ≤ 12) (hf : 0 ≤ s0 ∧ s0 ≤ 12) (hq : 0 ≤ s2 ∧ s2 ≤ T) :
    Calls Try.prog 58 #[.slice (some ⟨b, o, none⟩) n c, stV s0 s1 s2 s3, ddV ⟨3, 0, 2⟩] w
      fun e w' => e = .returned (stV (s0 - p) s1 (s2 + p) s3) ∧ Below w.heap.size w w' := by
  unfold stV ddV
  have hi : (2 : Int) < (n : Int) := by omega
  have hb1 : b ≠ w.heap.size := by omega
  have hcw := ((ba3 w (.cells #[.int .i64 s0, .int .i64 s1, .int .i64 s2, .int .i64 s3] 69) (.cells #[.int .i64 3, .int .i64 0, .int .i64 2] 24) (.cells #[.int .i64 0, .int .i64 0, .int .i64 0, .int .i64 0] 69)).cell (p := ⟨b, o + 2, none⟩) hb).trans hc
  have h0 : p = if s0 ≤ T - s2 then s0 else T - s2 := by rw [hp]; split <;> omega
  by_cases hle : s0 ≤ T - s2
  · have hpe : s0 = p := by rw [h0]; simp [hle]
    subst hpe
    clear h0 hp
    go_enter Try.func58, Try.ntmps58
    go_wp2_with fail
    go_region
    all_goals
      go_wp2
      exact bodyPost_ret (v := .agg #[.int .i64 (s0 - s0), .int .i64 s1, .int .i64 (s2 + s0), .int .i64 s3]) (by simp [results, Try.results58, go_sem]) rfl ⟨rfl, below_drewN (ba3 _ _ _ _) 1⟩
  · have hpe : T - s2 = p := by rw [h0]; simp [hle]
    subst hpe
    clear h0 hp
    go_enter Try.func58, Try.ntmps58
    go_wp2_with fail
    go_region
    all_goals
      go_wp2
      exact bodyPost_ret (v := .agg #[.int .i64 (s0 - (T - s2)), .int .i64 s1, .int .i64 (s2 + (T - s2)), .int .i64 s3]) (by simp [results, Try.results58, go_sem]) rfl ⟨rfl, below_drewN (ba3 _ _ _ _) 1⟩

set_option maxRecDepth 100000 in
set_option maxHeartbeats 2000000 in
theorem does_pour03 (b o c n : Nat) (w : World) (s0 s1 s2 s3 T p : Int) (hp : p = min s0 (T - s3)) (hb : b < w.heap.size) (hg : 3 < n) (hn : n ≤ 4) (hc : w.cell? ⟨b, o + 3, none⟩ = some (.int .i64 T)) (hT : 1 ≤ T ∧ T ≤ 12) (hf : 0 ≤ s0 ∧ s0 ≤ 12) (hq : 0 ≤ s3 ∧ s3 ≤ T) :
    Calls Try.prog 58 #[.slice (some ⟨b, o, none⟩) n c, stV s0 s1 s2 s3, ddV ⟨3, 0, 3⟩] w
      fun e w' => e = .returned (stV (s0 - p) s1 s2 (s3 + p)) ∧ Below w.heap.size w w' := by
  unfold stV ddV
  have hi : (3 : Int) < (n : Int) := by omega
  have hb1 : b ≠ w.heap.size := by omega
  have hcw := ((ba3 w (.cells #[.int .i64 s0, .int .i64 s1, .int .i64 s2, .int .i64 s3] 69) (.cells #[.int .i64 3, .int .i64 0, .int .i64 3] 24) (.cells #[.int .i64 0, .int .i64 0, .int .i64 0, .int .i64 0] 69)).cell (p := ⟨b, o + 3, none⟩) hb).trans hc
  have h0 : p = if s0 ≤ T - s3 then s0 else T - s3 := by rw [hp]; split <;> omega
  by_cases hle : s0 ≤ T - s3
  · have hpe : s0 = p := by rw [h0]; simp [hle]
    subst hpe
    clear h0 hp
    go_enter Try.func58, Try.ntmps58
    go_wp2_with fail
    go_region
    all_goals
      go_wp2
      exact bodyPost_ret (v := .agg #[.int .i64 (s0 - s0), .int .i64 s1, .int .i64 s2, .int .i64 (s3 + s0)]) (by simp [results, Try.results58, go_sem]) rfl ⟨rfl, below_drewN (ba3 _ _ _ _) 1⟩
  · have hpe : T - s3 = p := by rw [h0]; simp [hle]
    subst hpe
    clear h0 hp
    go_enter Try.func58, Try.ntmps58
    go_wp2_with fail
    go_region
    all_goals
      go_wp2
      exact bodyPost_ret (v := .agg #[.int .i64 (s0 - (T - s3)), .int .i64 s1, .int .i64 s2, .int .i64 (s3 + (T - s3))]) (by simp [results, Try.results58, go_sem]) rfl ⟨rfl, below_drewN (ba3 _ _ _ _) 1⟩

set_option maxRecDepth 100000 in
set_option maxHeartbeats 2000000 in
theorem does_pour10 (b o c n : Nat) (w : World) (s0 s1 s2 s3 T p : Int) (hp : p = min s1 (T - s0)) (hb : b < w.heap.size) (hg : 1 < n) (hn : n ≤ 4) (hc : w.cell? ⟨b, o, none⟩ = some (.int .i64 T)) (hT : 1 ≤ T ∧ T ≤ 12) (hf : 0 ≤ s1 ∧ s1 ≤ 12) (hq : 0 ≤ s0 ∧ s0 ≤ T) :
    Calls Try.prog 58 #[.slice (some ⟨b, o, none⟩) n c, stV s0 s1 s2 s3, ddV ⟨3, 1, 0⟩] w
      fun e w' => e = .returned (stV (s0 + p) (s1 - p) s2 s3) ∧ Below w.heap.size w w' := by
  unfold stV ddV
  have hi : (0 : Int) < (n : Int) := by omega
  have hb1 : b ≠ w.heap.size := by omega
  have hcw := ((ba3 w (.cells #[.int .i64 s0, .int .i64 s1, .int .i64 s2, .int .i64 s3] 69) (.cells #[.int .i64 3, .int .i64 1, .int .i64 0] 24) (.cells #[.int .i64 0, .int .i64 0, .int .i64 0, .int .i64 0] 69)).cell (p := ⟨b, o, none⟩) hb).trans hc
  have h0 : p = if s1 ≤ T - s0 then s1 else T - s0 := by rw [hp]; split <;> omega
  by_cases hle : s1 ≤ T - s0
  · have hpe : s1 = p := by rw [h0]; simp [hle]
    subst hpe
    clear h0 hp
    go_enter Try.func58, Try.ntmps58
    go_wp2_with fail
    go_region
    all_goals
      go_wp2
      exact bodyPost_ret (v := .agg #[.int .i64 (s0 + s1), .int .i64 (s1 - s1), .int .i64 s2, .int .i64 s3]) (by simp [results, Try.results58, go_sem]) rfl ⟨rfl, below_drewN (ba3 _ _ _ _) 1⟩
  · have hpe : T - s0 = p := by rw [h0]; simp [hle]
    subst hpe
    clear h0 hp
    go_enter Try.func58, Try.ntmps58
    go_wp2_with fail
    go_region
    all_goals
      go_wp2
      exact bodyPost_ret (v := .agg #[.int .i64 (s0 + (T - s0)), .int .i64 (s1 - (T - s0)), .int .i64 s2, .int .i64 s3]) (by simp [results, Try.results58, go_sem]) rfl ⟨rfl, below_drewN (ba3 _ _ _ _) 1⟩

set_option maxRecDepth 100000 in
set_option maxHeartbeats 2000000 in
theorem does_pour12 (b o c n : Nat) (w : World) (s0 s1 s2 s3 T p : Int) (hp : p = min s1 (T - s2)) (hb : b < w.heap.size) (hg : 2 < n) (hn : n ≤ 4) (hc : w.cell? ⟨b, o + 2, none⟩ = some (.int .i64 T)) (hT : 1 ≤ T ∧ T ≤ 12) (hf : 0 ≤ s1 ∧ s1 ≤ 12) (hq : 0 ≤ s2 ∧ s2 ≤ T) :
    Calls Try.prog 58 #[.slice (some ⟨b, o, none⟩) n c, stV s0 s1 s2 s3, ddV ⟨3, 1, 2⟩] w
      fun e w' => e = .returned (stV s0 (s1 - p) (s2 + p) s3) ∧ Below w.heap.size w w' := by
  unfold stV ddV
  have hi : (2 : Int) < (n : Int) := by omega
  have hb1 : b ≠ w.heap.size := by omega
  have hcw := ((ba3 w (.cells #[.int .i64 s0, .int .i64 s1, .int .i64 s2, .int .i64 s3] 69) (.cells #[.int .i64 3, .int .i64 1, .int .i64 2] 24) (.cells #[.int .i64 0, .int .i64 0, .int .i64 0, .int .i64 0] 69)).cell (p := ⟨b, o + 2, none⟩) hb).trans hc
  have h0 : p = if s1 ≤ T - s2 then s1 else T - s2 := by rw [hp]; split <;> omega
  by_cases hle : s1 ≤ T - s2
  · have hpe : s1 = p := by rw [h0]; simp [hle]
    subst hpe
    clear h0 hp
    go_enter Try.func58, Try.ntmps58
    go_wp2_with fail
    go_region
    all_goals
      go_wp2
      exact bodyPost_ret (v := .agg #[.int .i64 s0, .int .i64 (s1 - s1), .int .i64 (s2 + s1), .int .i64 s3]) (by simp [results, Try.results58, go_sem]) rfl ⟨rfl, below_drewN (ba3 _ _ _ _) 1⟩
  · have hpe : T - s2 = p := by rw [h0]; simp [hle]
    subst hpe
    clear h0 hp
    go_enter Try.func58, Try.ntmps58
    go_wp2_with fail
    go_region
    all_goals
      go_wp2
      exact bodyPost_ret (v := .agg #[.int .i64 s0, .int .i64 (s1 - (T - s2)), .int .i64 (s2 + (T - s2)), .int .i64 s3]) (by simp [results, Try.results58, go_sem]) rfl ⟨rfl, below_drewN (ba3 _ _ _ _) 1⟩

set_option maxRecDepth 100000 in
set_option maxHeartbeats 2000000 in
theorem does_pour13 (b o c n : Nat) (w : World) (s0 s1 s2 s3 T p : Int) (hp : p = min s1 (T - s3)) (hb : b < w.heap.size) (hg : 3 < n) (hn : n ≤ 4) (hc : w.cell? ⟨b, o + 3, none⟩ = some (.int .i64 T)) (hT : 1 ≤ T ∧ T ≤ 12) (hf : 0 ≤ s1 ∧ s1 ≤ 12) (hq : 0 ≤ s3 ∧ s3 ≤ T) :
    Calls Try.prog 58 #[.slice (some ⟨b, o, none⟩) n c, stV s0 s1 s2 s3, ddV ⟨3, 1, 3⟩] w
      fun e w' => e = .returned (stV s0 (s1 - p) s2 (s3 + p)) ∧ Below w.heap.size w w' := by
  unfold stV ddV
  have hi : (3 : Int) < (n : Int) := by omega
  have hb1 : b ≠ w.heap.size := by omega
  have hcw := ((ba3 w (.cells #[.int .i64 s0, .int .i64 s1, .int .i64 s2, .int .i64 s3] 69) (.cells #[.int .i64 3, .int .i64 1, .int .i64 3] 24) (.cells #[.int .i64 0, .int .i64 0, .int .i64 0, .int .i64 0] 69)).cell (p := ⟨b, o + 3, none⟩) hb).trans hc
  have h0 : p = if s1 ≤ T - s3 then s1 else T - s3 := by rw [hp]; split <;> omega
  by_cases hle : s1 ≤ T - s3
  · have hpe : s1 = p := by rw [h0]; simp [hle]
    subst hpe
    clear h0 hp
    go_enter Try.func58, Try.ntmps58
    go_wp2_with fail
    go_region
    all_goals
      go_wp2
      exact bodyPost_ret (v := .agg #[.int .i64 s0, .int .i64 (s1 - s1), .int .i64 s2, .int .i64 (s3 + s1)]) (by simp [results, Try.results58, go_sem]) rfl ⟨rfl, below_drewN (ba3 _ _ _ _) 1⟩
  · have hpe : T - s3 = p := by rw [h0]; simp [hle]
    subst hpe
    clear h0 hp
    go_enter Try.func58, Try.ntmps58
    go_wp2_with fail
    go_region
    all_goals
      go_wp2
      exact bodyPost_ret (v := .agg #[.int .i64 s0, .int .i64 (s1 - (T - s3)), .int .i64 s2, .int .i64 (s3 + (T - s3))]) (by simp [results, Try.results58, go_sem]) rfl ⟨rfl, below_drewN (ba3 _ _ _ _) 1⟩

end Go.Proofs.Ytgonibieeimdoaa
