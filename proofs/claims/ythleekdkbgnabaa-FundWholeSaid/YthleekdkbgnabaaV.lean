/-
  The law's question whether ratios can be awards: yes, where each is between 0 and its claim.
-/
import Derived.Test.YthleekdkbgnabaaMathD
import Derived.Test.YthleekdkbgnabaaT
namespace Go.Proofs.Ythleekdkbgnabaa
open Go.RowKit Go.Deep M
set_option linter.unusedVariables false
set_option linter.unusedSimpArgs false

set_option maxRecDepth 100000 in
set_option maxHeartbeats 4000000 in
theorem valid_true (A A' : Option Addr) (c cp : Nat) (l : List Int) (f : Nat → Rt) (w : World) (h : Row w w.heap.size A l) (hv : vC l) (hf : RtF w A' l.length f) (hg : ∀ i, i < l.length → gdR (el l i) (f i)) :
    Calls Try.prog 49 #[.slice A l.length c, .slice A' l.length cp] w fun r w' => r = .returned (.bool true) ∧ ∃ j, w' = w.drewN j := by
  have hn := val_len hv
  obtain ⟨g, rfl, hb⟩ := hf (by omega)
  have hc : ∀ (j k : Nat), k < l.length → ∃ b o, A = some ⟨b, o, none⟩ ∧ (w.drewN j).cell? ⟨b, o + k, none⟩ = some (.int .i64 (el l k)) ∧ (w.drewN j).cell? ⟨g, k * 2, none⟩ = some (.int .i64 (f k).n) ∧ (w.drewN j).cell? ⟨g, k * 2 + 1, none⟩ = some (.int .i64 (f k).d) := fun j k hk => by
    obtain ⟨b, o, e, _, h0⟩ := h.at_ k hk
    exact ⟨b, o, e, h0, hb.c0 hk, hb.c1 hk⟩
  have hx := fun i (hi : i < l.length) => hv.2 i hi
  generalize l.length = n at *
  replace hc := Lib.hid hc
  replace hx := Lib.hid hx
  replace hg := Lib.hid hg
  replace hb := Lib.hid hb
  replace h := Lib.hid h
  replace hv := Lib.hid hv
  replace hf := Lib.hid hf
  obtain ⟨hn1, hn8⟩ := hn
  go_enter Try.func49, Try.ntmps49
  go_wp2
  go_loopw [5] (fun i wr => ∃ k j : Nat, k ≤ n ∧ i = .int .i64 (k : Nat) ∧ wr = w.drewN j) (fun i _ => n - (intOf i).toNat)
  case atStart => exact ⟨0, 0, by omega, rfl, rfl⟩
  case round =>
    obtain ⟨k, j, hk, rfl, hw⟩ := hrel
    by_cases hkn : k < n
    · obtain ⟨b, o, rfl, c0, c1, c2⟩ := hc.out j k hkn
      rw [← hw] at c0 c1 c2
      have hgk := hg.out k hkn
      have hxk := hx.out k hkn
      obtain ⟨⟨g1, g2⟩, g3, g4⟩ := hgk
      unfold okC at hxk
      have hkn2 : (k : Int) < (n : Int) := by omega
      generalize f k = q at *
      obtain ⟨qn, qd⟩ := q
      simp only at *
      generalize el l k = x at *
      have p1 : x * qd ≤ 1000 * qd := Int.mul_le_mul_of_nonneg_right hxk.2 (by omega)
      have p2 : 0 ≤ x * qd := Int.mul_nonneg hxk.1 (by omega)
      obtain ⟨pm, hpm⟩ : ∃ z, z = x * qd := ⟨_, rfl⟩
      rw [← hpm] at p1 p2 g2
      have w1 : IntKind.i64.wrap (x * qd) = pm := by rw [← hpm]; exact IntWalk.i64_in _ (by omega)
      have e1 : ¬ qd < 1 := by omega
      have e2 : ¬ 10000 < qd := by omega
      have e3 : ¬ qn < 0 := by omega
      have e4 : ¬ pm < qn := by omega
      replace hw := Lib.hid hw
      replace hpm := Lib.hid hpm
      go_wp2_with fail
      go_quiet (fail)
      go_wp2
      go_roundw
      case rel => exact ⟨k + 1, j + nq, by omega, by go_num, by rw [hw.out, World.drewN_drewN]⟩
      case measure => simp [intOf]; omega
    · have : k = n := by omega
      subst this
      replace hw := Lib.hid hw
      go_wp2
      go_ret
      exact ⟨rfl, j, hw.out⟩
end Go.Proofs.Ythleekdkbgnabaa
