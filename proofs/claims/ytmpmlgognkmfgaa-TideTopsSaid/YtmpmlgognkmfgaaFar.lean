/-
  The contracts of Highest and Farthest of the program.
-/
import Derived.Test.YtmpmlgognkmfgaaGreat
namespace Go.Proofs.Ytmpmlgognkmfgaa
open Go.RowKit Go.Deep M
set_option linter.unusedVariables false
set_option linter.unusedSimpArgs false

theorem farElem (B : Nat) (A : Option Addr) (c : Nat) (T : List (List Int)) (k n p q : Nat) (w : World) (h : Mat w B A T) (hV : Val T) (hk : k ≤ 20736) (hn : n ≤ 1000000)
    (hp : w.cell? ⟨p, 0, none⟩ = some (.slice A T.length c)) (hq : w.cell? ⟨q, 0, none⟩ = some (.int .i64 n)) :
    Calls Try.prog 92 #[.int .i64 k, .pointer (some ⟨p, 0, none⟩), .pointer (some ⟨q, 0, none⟩)] w fun e w' => e = .returned (.int .i64 (drf T (k : Int) n)) ∧ ∃ m, w' = w.drewN m := by
  have hc := Lib.hid (drift_any B A c T k n w h hV (by omega) hn)
  generalize drf T (k : Int) n = x at hc ⊢
  go_enter Try.func92, Try.ntmps92
  go_wp2_with fail
  refine hc.out.mono ?_
  rintro e w' ⟨rfl, m, rfl⟩
  go_wp2
  go_ret
  exact ⟨rfl, m, rfl⟩
theorem enter92 (args : Array Value) (w : World) : (callFunc 92 args).run Try.prog w = .ok (.enter 92 args) w := enter_of Try.func92 (by kernel_rfl) rfl args w

theorem farthest_any (B : Nat) (A : Option Addr) (c : Nat) (T : List (List Int)) (n : Nat) (w : World) (h : Mat w B A T) (hB : B ≤ w.heap.size) (hV : Val T) (hn : n ≤ 1000000) :
    Calls Try.prog 75 #[.slice A T.length c, .int .i64 n] w fun e w' => e = .returned (Agg (topD T n)) ∧ Below w.heap.size w w' := by
  have hbb : Below w.heap.size w (((w.alloc (.cells #[.slice A T.length c] 55)).alloc (.cells #[.int .i64 n] 3)).alloc (.cells #[.int .i64 0, .int .i64 0] 71)) := (((Below.refl _ _).alloc (Nat.le_refl _) _).alloc (by simp) _).alloc (by simp; omega) _
  have hM := ((h.alloc hB (.cells #[.slice A T.length c] 55)).alloc (by simp; omega) (.cells #[.int .i64 n] 3)).alloc (by simp; omega) (.cells #[.int .i64 0, .int .i64 0] 71)
  have h3 : Calls Try.prog 91 #[.slice A T.length c, .func (Fn.func 92) #[] #[.pointer (some ⟨w.heap.size, 0, none⟩), .pointer (some ⟨w.heap.size + 1, 0, none⟩)]]
      (((w.alloc (.cells #[.slice A T.length c] 55)).alloc (.cells #[.int .i64 n] 3)).alloc (.cells #[.int .i64 0, .int .i64 0] 71)) fun e w' => e = .returned (Agg (topD T n)) ∧ Below w.heap.size w w' ∧ Pair w' (w.heap.size + 1 + 1) 0 0 := by
    refine (greatest2 B A c T 92 _ _ (fun k => drf T (k : Int) n) _ hM (by simp; omega) hV (fun k hk => by have := drf_bd hV (k : Int) n hn; omega) enter92 (fun k hk W hb => ?_)).mono ?_
    · refine (farElem B A c T k n w.heap.size (w.heap.size + 1) W (hM.below (hb.mono (by simp; omega))) hV hk hn ?_ ?_).mono ?_
      · rw [hb.cell (p := ⟨w.heap.size, 0, none⟩) (by simp; omega)]; simp [go_sem]
      · rw [hb.cell (p := ⟨w.heap.size + 1, 0, none⟩) (by simp)]; simp [go_sem]
      · rintro e w' ⟨rfl, m, rfl⟩
        exact ⟨rfl, below_drewN (Below.refl _ _) m⟩
    · rintro e w' ⟨rfl, hb⟩
      refine ⟨rfl, hbb.trans (hb.mono (by simp; omega)), ?_⟩
      have hpn := Pair.new ((w.alloc (.cells #[.slice A T.length c] 55)).alloc (.cells #[.int .i64 n] 3)) 0 0
      have := hpn.below hb (by simp)
      simpa using this
  generalize topD T n = q at h3 ⊢
  obtain ⟨x, y⟩ := q
  unfold Agg at h3 ⊢
  replace h3 := Lib.hid h3
  clear hbb hM
  go_enter Try.func75, Try.ntmps75
  go_wp2_with fail
  refine h3.out.mono ?_
  rintro e w1 ⟨rfl, hb, hp⟩
  have k1 := hp.c0
  have k2 := hp.c1
  have k3 := hp.fz 0
  have k4 := hp.fz 1
  have hpn := hp.set (x : Int) y
  have hbn := (hb.setCell (p := ⟨w.heap.size + 1 + 1, 0, none⟩) (by show w.heap.size ≤ w.heap.size + 1 + 1; omega) (.int .i64 (x : Int))).setCell (p := ⟨w.heap.size + 1 + 1, 1, none⟩) (by show w.heap.size ≤ w.heap.size + 1 + 1; omega) (.int .i64 y)
  clear hp hb
  dsimp only
  go_wp2
  have j1 := hpn.c0
  have j2 := hpn.c1
  exact bodyPost_ret (v := .agg #[.int .i64 (x : Int), .int .i64 y]) (by simp [results, Try.results75, go_sem, j1, j2]) rfl ⟨rfl, hbn⟩

theorem farClo (B : Nat) (A : Option Addr) (c : Nat) (T : List (List Int)) (n p : Nat) (w : World) (h : Mat w B A T) (hB : B ≤ w.heap.size) (hV : Val T) (hn : n ≤ 1000000) (hp : w.cell? ⟨p, 0, none⟩ = some (.int .i64 n)) (hpl : p < w.heap.size) :
    Calls Try.prog 74 #[.slice A T.length c, .pointer (some ⟨p, 0, none⟩)] w fun e w' => e = .returned (Agg (topD T n)) ∧ Below w.heap.size w w' := by
  have hcl : (w.alloc (.cells #[.int .i64 0, .int .i64 0] 71)).cell? ⟨p, 0, none⟩ = some (.int .i64 n) := by simp [go_sem, hp, hpl]
  have h3 : Calls Try.prog 75 #[.slice A T.length c, .int .i64 n] (w.alloc (.cells #[.int .i64 0, .int .i64 0] 71)) fun e w' => e = .returned (Agg (topD T n)) ∧ Below w.heap.size w w' ∧ Pair w' w.heap.size 0 0 := by
    refine (farthest_any B A c T n _ (h.alloc hB _) (by simp; omega) hV hn).mono ?_
    rintro e w' ⟨rfl, hb⟩
    exact ⟨rfl, ((Below.refl _ _).alloc (Nat.le_refl _) _).trans (hb.mono (by simp)), (Pair.new w 0 0).below hb (by simp)⟩
  generalize topD T n = q at h3 ⊢
  obtain ⟨x, y⟩ := q
  unfold Agg at h3 ⊢
  replace h3 := Lib.hid h3
  go_enter Try.func74, Try.ntmps74
  go_wp2_with fail
  refine h3.out.mono ?_
  rintro e w1 ⟨rfl, hb, hp⟩
  have k1 := hp.c0
  have k2 := hp.c1
  have k3 := hp.fz 0
  have k4 := hp.fz 1
  have hpn := hp.set (x : Int) y
  have hbn := (hb.setCell (p := ⟨w.heap.size, 0, none⟩) (Nat.le_refl _) (.int .i64 (x : Int))).setCell (p := ⟨w.heap.size, 1, none⟩) (Nat.le_refl _) (.int .i64 y)
  clear hp hb
  dsimp only
  go_wp2
  have j1 := hpn.c0
  have j2 := hpn.c1
  exact bodyPost_ret (v := .agg #[.int .i64 (x : Int), .int .i64 y]) (by simp [results, Try.results74, go_sem, j1, j2]) rfl ⟨rfl, hbn⟩

end Go.Proofs.Ytmpmlgognkmfgaa
