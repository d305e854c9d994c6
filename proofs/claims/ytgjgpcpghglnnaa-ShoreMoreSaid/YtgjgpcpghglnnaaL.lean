/-
  The first order: slices.Repeat of one number, and what it rests on.
-/
import Derived.Test.YtgjgpcpghglnnaaD
import Derived.Laws.CopyOwn
namespace Go.Proofs.Ytgjgpcpghglnnaa
open Go.RowKit Go.Deep M
set_option linter.unusedVariables false
set_option linter.unusedSimpArgs false
set_option maxRecDepth 100000 in
set_option maxHeartbeats 4000000 in
theorem Mul64_one (y : Nat) (hy : y ≤ 12) (w : World) : Calls Try.prog 102 #[.int .u64 1, .int .u64 y] w fun e w' => e = .returned (.tuple #[.int .u64 0, .int .u64 y]) ∧ w = w' := by
  have : y = 0 ∨ y = 1 ∨ y = 2 ∨ y = 3 ∨ y = 4 ∨ y = 5 ∨ y = 6 ∨ y = 7 ∨ y = 8 ∨ y = 9 ∨ y = 10 ∨ y = 11 ∨ y = 12 := by omega
  rcases this with rfl | rfl | rfl | rfl | rfl | rfl | rfl | rfl | rfl | rfl | rfl | rfl | rfl
  all_goals
    go_enter Try.func102, Try.ntmps102
    go_wp2
    go_ret2
    first
    | exact ⟨rfl, rfl⟩
    | exact ⟨by kernel_rfl, rfl⟩
    | skip

set_option maxRecDepth 100000 in
set_option maxHeartbeats 4000000 in
theorem Mul_one (y : Nat) (hy : y ≤ 12) (w : World) : Calls Try.prog 97 #[.int .u64 1, .int .u64 y] w fun e w' => e = .returned (.tuple #[.int .u64 0, .int .u64 y]) ∧ w = w' := by
  have k := Lib.hid (Mul64_one y hy w)
  go_enter Try.func97, Try.ntmps97
  go_wp2_with fail
  refine k.out.mono ?_
  rintro e X ⟨rfl, rfl⟩
  go_wp2
  go_ret2
  exact ⟨rfl, rfl⟩

/-- c cells, of which the first m are z and the others 0. -/
def repL (z : Int) (c m : Nat) : List Value := List.replicate m (.int .i64 z) ++ List.replicate (c - m) (.int .i64 0)
theorem repL_len (z : Int) {c m : Nat} (h : m ≤ c) : (repL z c m).length = c := by simp [repL]; omega
theorem repL_get (z : Int) {c m j : Nat} (h : j < m) : (repL z c m)[j]? = some (.int .i64 z) := by
  unfold repL
  rw [List.getElem?_append_left (by simpa using h), List.getElem?_replicate, if_pos h]
theorem repL_full (z : Int) (c : Nat) : repL z c c = vals (List.replicate c z) := by simp [repL, vals]
theorem repL_splice (z : Int) {c m k : Nat} (h : m + k ≤ c) : splice (repL z c m) m (List.replicate k (.int .i64 z)) = repL z c (m + k) := by
  unfold splice repL
  rw [List.length_replicate, List.take_append_of_le_length (by simp), List.take_replicate, Nat.min_self, List.drop_append, List.drop_replicate, List.drop_replicate, List.length_replicate]
  rw [show m - (m + k) = 0 by omega, show c - m - (m + k - m) = c - (m + k) by omega, List.replicate_zero, List.nil_append, ← List.append_assoc, List.replicate_append_replicate]
theorem mkI_rep (w : World) (z : Int) (c : Nat) : (mkI w c).heap[w.heap.size]? = some (.cells (repL z c 0).toArray 3 (0, 0)) := by
  have e : madeCells #[Value.int .i64 0] c = (repL z c 0).toArray := by
    apply Array.ext
    · unfold madeCells repL; simp
    · intro i h1 h2
      unfold madeCells repL at *
      simp [Nat.mod_one] at *
  rw [← e]
  exact heap_alloc_new w _

theorem size3 : (Try.prog.info? 3).map (·.size) = some 1 := by kernel_rfl

set_option maxRecDepth 100000 in
set_option maxHeartbeats 4000000 in
theorem Repeat_one (z : Int) (b cap c : Nat) (hc : c ≤ 12) (w : World) (hz : w.cell? ⟨b, 0, none⟩ = some (.int .i64 z)) (hbw : b < w.heap.size) :
    Calls Try.prog 92 #[.slice (some ⟨b, 0, none⟩) 1 cap, .int .i64 c] w fun e w' => e = .returned (.slice (some ⟨w.heap.size, 0, none⟩) c c) ∧ Below w.heap.size w w' ∧ w'.heap[w.heap.size]? = some (.cells (vals (List.replicate c z)).toArray 3 (0, 0)) := by
  have k97 := Lib.hid (Mul_one c hc w)
  have hmk := run_mkI w c (by omega)
  have hg0 := mkI_rep w z c
  have hb0 := mkI_below w c
  have hz0 : (mkI w c).cell? ⟨b, 0, none⟩ = some (.int .i64 z) := (hb0.cell (p := ⟨b, 0, none⟩) hbw).trans hz
  obtain ⟨Y, hY⟩ : ∃ Y, Y = mkI w c := ⟨_, rfl⟩
  rw [← hY] at hmk hg0 hb0 hz0
  obtain ⟨g, hg⟩ : ∃ g, g = w.heap.size := ⟨_, rfl⟩
  rw [← hg] at hmk hg0 hb0 ⊢
  obtain ⟨k0, hk0⟩ : ∃ k, k = Nat.min 1 c := ⟨_, rfl⟩
  obtain ⟨cs, hcs⟩ : ∃ cs : List Value, cs = List.replicate k0 (.int .i64 z) := ⟨_, rfl⟩
  have hk1 : k0 ≤ c := by rw [hk0]; exact Nat.min_le_right _ _
  have hk2 : ¬ c = 0 → 1 ≤ k0 := fun h => by rw [hk0]; exact Nat.le_min.2 ⟨Nat.le_refl _, by omega⟩
  have hkb : k0 ≤ 1 := by rw [hk0]; exact Nat.min_le_left _ _
  have q1 := Lib.hid (show cs.length = Nat.min 1 c by rw [hcs, List.length_replicate, hk0])
  have q2 := Lib.hid (show ∀ j v, cs[j]? = some v → Y.cell? ((⟨b, 0, none⟩ : Addr).add j) = some v from fun j v hj => by
    rw [hcs, List.getElem?_replicate] at hj
    split at hj
    · rename_i hjk
      obtain rfl : j = 0 := by omega
      cases hj
      rw [add_pl]; exact hz0
    · cases hj)
  have q3 := Lib.hid (show 0 + cs.length ≤ (repL z c 0).length by rw [repL_len z (Nat.zero_le c), hcs, List.length_replicate]; omega)
  have q4 := Lib.hid (show ∀ v ∈ cs, v.oneCell' = true from fun v hv => by rw [hcs] at hv; obtain rfl := (List.mem_replicate.1 hv).2; rfl)
  have q5 := Lib.hid (show cs.length = k0 by rw [hcs, List.length_replicate])
  have q6 := Lib.hid (show splice (repL z c 0) 0 cs = repL z c k0 by rw [hcs, repL_splice z (by omega), Nat.zero_add])
  obtain ⟨L0, hL0⟩ : ∃ L, L = repL z c 0 := ⟨_, rfl⟩
  rw [← hL0] at hg0 q3 q6
  replace hg0 := Lib.hid hg0
  replace hb0 := Lib.hid hb0
  replace hz0 := Lib.hid hz0
  replace hY := Lib.hid hY
  replace hcs := Lib.hid hcs
  replace hk0 := Lib.hid hk0
  replace hL0 := Lib.hid hL0
  replace hz := Lib.hid hz
  replace hg := Lib.hid hg
  have hsz := Lib.hid size3
  go_enter Try.func92, Try.ntmps92
  go_wp2_with fail
  refine k97.out.mono ?_
  rintro e X ⟨rfl, rfl⟩
  go_wp2_with (with_reducible refine wpList_copy_splice rfl (.tmp 31) (.tmp 32) 23 23 rfl 3 Try.underlying23 hsz.out (some ⟨g, 0, none⟩) (some ⟨b, 0, none⟩) c c 1 cap rfl rfl g 0 L0 3 hg0.out cs q1.out (fun _ => ⟨rfl, _, rfl, q2.out⟩) q3.out q4.out g w hb0.out (Nat.le_refl _) ?_; intro X2 hG2 hB2)
  have hR0 := hG2.out
  rw [q6.out] at hR0
  have hk5 := q5.out
  replace hR0 := Lib.hid hR0
  replace hB2 := Lib.hid hB2
  go_wp2
  go_loopw [8] (fun v X => ∃ m : Nat, m ≤ c ∧ (¬ c = 0 → 1 ≤ m) ∧ v = .int .i64 (m : Nat) ∧ Below g w X ∧ X.heap[g]? = some (.cells (repL z c m).toArray 3 (0, 0))) (fun v _ => c - (intOf v).toNat)
  case atStart => exact ⟨k0, hk1, hk2, by go_num, hB2.out, hR0.out⟩
  case round =>
    clear hB2 hR0
    obtain ⟨m, hm, hm1, rfl, hX, hR⟩ := hrel
    by_cases hlt : m < c
    · obtain ⟨k, hk⟩ : ∃ k, k = Nat.min m (c - m) := ⟨_, rfl⟩
      have hk1 : m + k ≤ c := by have : k ≤ c - m := by rw [hk]; exact Nat.min_le_right _ _
                                 omega
      have hk2 : 1 ≤ k := by rw [hk]; exact Nat.le_min.2 ⟨hm1 (by omega), by omega⟩
      have hk3 : k ≤ m := by rw [hk]; exact Nat.min_le_left _ _
      obtain ⟨c2, hc2⟩ : ∃ cs : List Value, cs = List.replicate k (.int .i64 z) := ⟨_, rfl⟩
      have p1 := Lib.hid (show c2.length = Nat.min m (c - m) by rw [hc2, List.length_replicate, hk])
      have p2 := Lib.hid (show ∀ j v, c2[j]? = some v → wr.drew.cell? ((⟨g, 0, none⟩ : Addr).add j) = some v from fun j v hj => by
        rw [hc2, List.getElem?_replicate] at hj
        split at hj
        · rename_i hjk
          cases hj
          show wr.cell? _ = _
          rw [add_pl, Nat.zero_add]
          simp [World.cell?, hR, repL_get z (show j < m by omega)]
        · cases hj)
      have p3 := Lib.hid (show m + c2.length ≤ (repL z c m).length by rw [repL_len z hm, hc2, List.length_replicate]; omega)
      have p4 := Lib.hid (show ∀ v ∈ c2, v.oneCell' = true from fun v hv => by rw [hc2] at hv; obtain rfl := (List.mem_replicate.1 hv).2; rfl)
      have p5 := Lib.hid (show c2.length = k by rw [hc2, List.length_replicate])
      have p6 := Lib.hid (show splice (repL z c m) m c2 = repL z c (m + k) by rw [hc2, repL_splice z hk1])
      have hRd := Lib.hid (show wr.drew.heap[g]? = _ from hR)
      have hXd := Lib.hid (show Below g w wr.drew from below_drewN hX 1)
      obtain ⟨L1, hL1⟩ : ∃ L, L = repL z c m := ⟨_, rfl⟩
      rw [← hL1] at hRd p3 p6
      replace hL1 := Lib.hid hL1
      replace hc2 := Lib.hid hc2
      replace hk := Lib.hid hk
      replace hR := Lib.hid hR
      replace hX := Lib.hid hX
      have hmc : ¬ m = c := by omega
      have hcm : ¬ c = m := by omega
      have hsum : IntKind.i64.wrap ((m : Int) + (k : Int)) = (m : Int) + (k : Int) := IntWalk.i64_in _ (by omega)
      go_wp2_with fail
      go_region_law (refine step_copy_splice rfl (.tmp 41) (.tmp 44) 23 23 rfl 3 Try.underlying23 hsz.out (some ⟨g, m, none⟩) (some ⟨g, 0, none⟩) (c - m) (c - m) m c (by simp [Act.eval, Act.put]) (by simp [Act.eval, Act.put]) g m L1 3 hRd.out c2 p1.out (fun _ => ⟨rfl, _, rfl, p2.out⟩) p3.out p4.out g w hXd.out (Nat.le_refl _) ?_; intro w4 hg4 hb4)
      have hR4 := hg4.out
      rw [p6.out] at hR4
      have p5' := p5.out
      replace hR4 := Lib.hid hR4
      replace hb4 := Lib.hid hb4
      rw [p5']
      go_wp2
      go_simp
      go_roundw
      case rel => exact ⟨m + k, by omega, by omega, by go_num, hb4.out, hR4.out⟩
      case measure => simp [intOf]; omega
    · have hk' : m = c := by omega
      subst hk'
      have hfin : wr.heap[g]? = some (.cells (vals (List.replicate m z)).toArray 3 (0, 0)) := by rw [← repL_full]; exact hR
      replace hfin := Lib.hid hfin
      replace hR := Lib.hid hR
      replace hX := Lib.hid hX
      go_wp2
      go_ret
      exact ⟨rfl, hX.out, hfin.out⟩
end Go.Proofs.Ytgjgpcpghglnnaa
