/-
  The part of a period, as the law asks for it.
-/
import Derived.Test.YtlnpnfjdcnijhaaMathE
namespace Go.Proofs.Ytlnpnfjdcnijhaa
open Go.RowKit Go.Deep M
set_option linter.unusedVariables false
set_option linter.unusedSimpArgs false

namespace M
/-- The part of a period, by what is asked of it. -/
structure PartIs (x : Wn) (N D : Nat) : Prop where
  ret : partR x = (((N : Int), (D : Int)), 0)
  d1 : 1 ≤ D
  d9 : (D : Int) ≤ x.p
  nd : N ≤ D
  eq : ∀ p : Nat, x.p = (p : Int) → N * p = D * x.hs.length
theorem partIs {x : Wn} (h : winB x 3600 = true) : ∃ N D, PartIs x N D := by
  obtain ⟨p, hp, h1, h2, hg⟩ := win_nat h
  have hl := len_le hp hg
  have hg1 : 1 ≤ Nat.gcd x.hs.length p := Nat.gcd_pos_of_pos_right _ (by omega)
  refine ⟨x.hs.length / Nat.gcd x.hs.length p, p / Nat.gcd x.hs.length p, ?_, ?_, ?_, ?_, fun p' hp' => ?_⟩
  · unfold partR partN; rw [h, hp, Int.toNat_natCast]; simp
  · exact Nat.div_pos (Nat.le_of_dvd (by omega) (Nat.gcd_dvd_right _ _)) hg1
  · rw [hp]; have := Nat.div_le_self p (Nat.gcd x.hs.length p); omega
  · exact Nat.div_le_div_right hl
  · have e : p' = p := by rw [hp] at hp'; omega
    subst e
    have a := Nat.div_mul_cancel (Nat.gcd_dvd_left x.hs.length p')
    have b := Nat.div_mul_cancel (Nat.gcd_dvd_right x.hs.length p')
    generalize x.hs.length / Nat.gcd x.hs.length p' = u at *
    generalize p' / Nat.gcd x.hs.length p' = v at *
    generalize Nat.gcd x.hs.length p' = g at *
    rw [← a, ← b]
    grind
end M
set_option maxRecDepth 100000 in
set_option maxHeartbeats 2000000 in
theorem part_call {X : World} {b c : Nat} {x : Wn} {A : Option Addr} {N D : Nat} (h : Bw X b x A c) (hN : PartIs x N D) (h9 : x.p ≤ 3600) : Calls Try.prog 59 #[.agg #[.int .i64 x.p, .slice A x.hs.length c]] X fun e Y => e = .returned (.tuple #[.agg #[.int .i64 (N : Nat), .int .i64 (D : Nat)], .bool true]) ∧ Below X.heap.size X Y := by
  have h63 := h.2.1
  have hW := ptW_new X x.p A x.hs.length c
  have k1 := Part_any X.heap.size A c x _ (h.2.below hW.on.below) hW.on.below.size
  rw [hN.ret] at k1
  have c0 := hW.on.box.c0
  have c1 := hW.on.box.c1
  have d1 := hN.d1
  have d9 := hN.d9
  have nd := hN.nd
  have hD : (D : Int) ≤ 3600 := by omega
  have n0 : (0 : Int) ≤ (N : Int) := by omega
  have nd' : (N : Int) ≤ (D : Int) := by omega
  have d1' : (1 : Int) ≤ (D : Int) := by omega
  unfold wnV at *
  replace hN := Lib.hid hN
  replace h := Lib.hid h
  replace hW := Lib.hid hW
  replace k1 := Lib.hid k1
  clear d9 h9
  go_enter Try.func59, Try.ntmps59
  go_wp2_with fail
  refine k1.out.mono ?_
  rintro e X3 ⟨rfl, hb3⟩
  have hX3 := hW.out.up hb3
  have hb4 := ba1 X3 (.cells #[.int .i64 (N : Nat), .int .i64 (D : Nat)] 33)
  have hX4 := hX3.up hb4
  have hbx : BxP (X3.alloc (.cells #[.int .i64 (N : Nat), .int .i64 (D : Nat)] 33)) X3.heap.size N D := heap_alloc_new X3 _
  have hlt : X.heap.size + 1 < X3.heap.size := hX3.box.lt
  obtain ⟨Y, hY⟩ : ∃ Y, Y = X3.alloc (.cells #[.int .i64 (N : Nat), .int .i64 (D : Nat)] 33) := ⟨_, rfl⟩
  obtain ⟨b4, hb4e⟩ : ∃ b4, b4 = X3.heap.size := ⟨_, rfl⟩
  rw [← hY] at hX4 hbx
  rw [← hb4e] at hbx
  have hlt4 : X.heap.size + 1 < b4 := by omega
  have hX4d := hX4.drew
  have k0 : Y.drew.cell? ⟨b4, 0, none⟩ = some (.int .i64 (N : Nat)) ∧ Y.drew.cell? ⟨b4, 1, none⟩ = some (.int .i64 (D : Nat)) := ⟨hbx.c0, hbx.c1⟩
  have z4 := hX4.box.fz 0
  have z5 := hX4.box.fz 1
  have z6 := hX4.box.c0
  have z7 := hX4.box.c1
  have zl := hX4.box.lt
  have hs := hX4.box.set N D
  have y0 := hs.c0
  have y1 := hs.c1
  have hbx2 : BxP ((Y.setCell ⟨X.heap.size + 1, 0, none⟩ (.int .i64 (N : Nat))).setCell ⟨X.heap.size + 1, 1, none⟩ (.int .i64 (D : Nat))) b4 N D := (set2_far (show b4 ≠ X.heap.size + 1 by omega) _ _).trans hbx
  have k2 : ((Y.setCell ⟨X.heap.size + 1, 0, none⟩ (.int .i64 (N : Nat))).setCell ⟨X.heap.size + 1, 1, none⟩ (.int .i64 (D : Nat))).drew.cell? ⟨b4, 0, none⟩ = some (.int .i64 (N : Nat)) ∧ ((Y.setCell ⟨X.heap.size + 1, 0, none⟩ (.int .i64 (N : Nat))).setCell ⟨X.heap.size + 1, 1, none⟩ (.int .i64 (D : Nat))).drew.cell? ⟨b4, 1, none⟩ = some (.int .i64 (D : Nat)) := ⟨hbx2.c0, hbx2.c1⟩
  have hz := below_drew (set2_below hX4.on.below (Nat.le_succ X.heap.size) (.int .i64 (N : Nat)) (.int .i64 (D : Nat)))
  replace hY := Lib.hid hY
  replace hb4e := Lib.hid hb4e
  replace hs := Lib.hid hs
  replace hbx := Lib.hid hbx
  replace hbx2 := Lib.hid hbx2
  replace hX3 := Lib.hid hX3
  replace hX4 := Lib.hid hX4
  replace hX4d := Lib.hid hX4d
  replace hb3 := Lib.hid hb3
  replace hb4 := Lib.hid hb4
  replace hz := Lib.hid hz
  go_wp2_with fail
  rw [← hY.out, ← hb4e.out]
  go_region_held3 (fun Z => Z.cell? ⟨b4, 0, none⟩ = some (.int .i64 (N : Nat)) ∧ Z.cell? ⟨b4, 1, none⟩ = some (.int .i64 (D : Nat)))
    (first | with_reducible exact k0 | with_reducible exact k2)
    (fail)
  all_goals
    go_wp2
    exact bodyPost_ret (v := .tuple #[.agg #[.int .i64 (N : Nat), .int .i64 (D : Nat)], .bool true]) (by simp [results, Try.results59, go_sem, y0, y1]) rfl ⟨rfl, hz.out⟩
end Go.Proofs.Ytlnpnfjdcnijhaa
