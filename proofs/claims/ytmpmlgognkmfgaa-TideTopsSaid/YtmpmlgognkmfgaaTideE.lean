/-
  The contract of tide.Drift.
-/
import Derived.Test.YtmpmlgognkmfgaaTideD
import Derived.Deep.RegionHeld3
namespace Go.Proofs.Ytmpmlgognkmfgaa
open Go.RowKit M
set_option linter.unusedVariables false
set_option linter.unusedSimpArgs false

theorem mat3 {w : World} {B : Nat} {A : Option Addr} {T : List (List Int)} (h : Mat w B A T) (hB : B ≤ w.heap.size) (o o' o'' : Obj) : Mat (((w.alloc o).alloc o').alloc o'').drew B A T :=
  (((h.alloc hB o).alloc (by simp; omega) o').alloc (by simp; omega) o'').drewN 1
theorem below3 {w w' : World} {o o' o'' : Obj} (h : Below (((w.alloc o).alloc o').alloc o'').drew.heap.size (((w.alloc o).alloc o').alloc o'').drew w') : Below w.heap.size w w' :=
  ((((Below.refl _ _).alloc (Nat.le_refl _) o).alloc (by simp) o').alloc (by simp; omega) o'').drew.trans (h.mono (by simp; omega))
theorem told_drift3 (B : Nat) (A : Option Addr) (c : Nat) (T : List (List Int)) (f n : Int) (w : World) (h : Mat w B A T) (hB : B ≤ w.heap.size) :
    Calls Try.prog 49 #[.slice A T.length c, .func (Fn.func 54) #[] #[.pointer (some ⟨w.heap.size, 0, none⟩), .pointer (some ⟨w.heap.size + 1, 0, none⟩)], .slice (some ⟨w.heap.size + 1 + 1, 0, none⟩) 2 2]
      (((w.alloc (.cells #[.int .i64 f] 3)).alloc (.cells #[.int .i64 n] 3)).alloc (.cells #[.bool (hourB f), .bool (spanB n)] 4)).drew fun e w' => e = R2 (driftR T f n) ∧ Below w.heap.size w w' ∧
        w'.cell? ⟨w.heap.size, 0, none⟩ = some (.int .i64 f) ∧ w'.cell? ⟨w.heap.size + 1, 0, none⟩ = some (.int .i64 n) := by
  refine (told_drift B A c T f n w.heap.size (w.heap.size + 1) (w.heap.size + 1 + 1) 2 _ (mat3 h hB _ _ _) ?_ ?_ ?_ ?_).mono ?_
  · simp [go_sem]
  · simp [go_sem]
  · simp [go_sem]
  · simp [go_sem]
  · rintro e w' ⟨rfl, hb⟩
    exact ⟨rfl, below3 hb, by rw [hb.cell (p := ⟨w.heap.size, 0, none⟩) (by simp; omega)]; simp [go_sem], by rw [hb.cell (p := ⟨w.heap.size + 1, 0, none⟩) (by simp)]; simp [go_sem]⟩

set_option maxHeartbeats 1000000 in
theorem Drift_any (B : Nat) (A : Option Addr) (c : Nat) (T : List (List Int)) (f n : Int) (w : World) (h : Mat w B A T) (hB : B ≤ w.heap.size) :
    Calls Try.prog 19 #[.slice A T.length c, .int .i64 f, .int .i64 n] w fun e w' => e = R2 (driftR T f n) ∧ Below w.heap.size w w' := by
  have h3 := told_drift3 B A c T f n w h hB
  generalize driftR T f n = p at h3 ⊢
  obtain ⟨x, y⟩ := p
  replace h3 := Lib.hid h3
  go_enter Try.func19, Try.ntmps19
  go_wp2_with fail
  go_region_held3 (fun w' => w'.cell? ⟨w.heap.size, 0, none⟩ = some (.int .i64 f) ∧ w'.cell? ⟨w.heap.size + 1, 0, none⟩ = some (.int .i64 n)) (first | exact ⟨hk1, hk2⟩ | (simp [go_sem]; done))
    (first | (go_at_call 52; refine (isHour_any _ _).mono ?_; rintro e w' ⟨rfl, rfl⟩) | (go_at_call 56; refine (isSpan_any _ _).mono ?_; rintro e w' ⟨rfl, rfl⟩) | (go_at_call 49; (with_reducible refine h3.out.mono ?_); rintro e w' ⟨rfl, hb, hk1, hk2⟩; unfold R2))

  all_goals (go_wp2; go_ret2; exact ⟨rfl, hb⟩)

end Go.Proofs.Ytmpmlgognkmfgaa
