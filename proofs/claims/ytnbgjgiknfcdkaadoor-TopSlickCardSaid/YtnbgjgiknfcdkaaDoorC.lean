/-
  Which bays are valid: the specification's function.
-/
import Derived.Test.YtnbgjgiknfcdkaaDoorB
namespace Go.Proofs.YtnbgjgiknfcdkaaDoor
open Go.RowKit Go.Deep M
set_option linter.unusedVariables false
set_option linter.unusedSimpArgs false

def Els (S : List Int) (i m : Nat) : Prop := ∀ k, k < m → 0 ≤ sh S i k ∧ sh S i k ≤ 16
theorem els_succ {S : List Int} {i m : Nat} (h : Els S i m) (h1 : 0 ≤ sh S i m) (h2 : sh S i m ≤ 16) : Els S i (m + 1) := fun j hj => by
  rcases Nat.lt_succ_iff_lt_or_eq.1 hj with h' | rfl
  · exact h j h'
  · exact ⟨h1, h2⟩
theorem els_sum {S : List Int} {i : Nat} (m : Nat) (h : Els S i m) : 0 ≤ sm (fun k => sh S i k) m ∧ sm (fun k => sh S i k) m ≤ 16 * m := by
  induction m with
  | zero => exact ⟨Int.le_refl _, Int.le_refl _⟩
  | succ m ih =>
    have := ih (fun k hk => h k (by omega))
    have := h m (by omega)
    rw [sm_succ]
    omega

set_option maxRecDepth 100000 in
set_option maxHeartbeats 2000000 in
theorem Valid_ref (B : Nat) (W H : Int) (aL aS : Option Addr) (cL cS : Nat) (L : List Bool) (n : Nat) (S : List Int) (w : World) (h : BayIn w B aL L aS n S) (hB : B ≤ w.heap.size) :
    Calls Tryd.prog 21 #[.agg #[.int .i64 W, .int .i64 H, .slice aL L.length cL, .slice aS n cS]] w fun e w' => e = .returned (.bool (validB W H L n S)) ∧ Below w.heap.size w w' := by
  have hl63 := h.land.1
  have hs63 := h.share.1
  have hb0 : Below w.heap.size w (w.alloc (.cells #[.int .i64 W, .int .i64 H, .slice aL L.length cL, .slice aS n cS] 25)) := (Below.refl _ _).alloc (Nat.le_refl _) _
  by_cases w1 : W < 1
  · have hn := Lib.hid (validB_false (fun hv => by have := hv.1; omega) : validB W H L n S = false)
    go_enter Tryd.func21, Tryd.ntmps21
    go_wp2
    go_ret
    exact ⟨ret_bool hn.out.symm, hb0⟩
  by_cases w2 : 6 < W
  · have hn := Lib.hid (validB_false (fun hv => by have := hv.1; omega) : validB W H L n S = false)
    go_enter Tryd.func21, Tryd.ntmps21
    go_wp2
    go_ret
    exact ⟨ret_bool hn.out.symm, hb0⟩
  by_cases w3 : H < 1
  · have hn := Lib.hid (validB_false (fun hv => by have := hv.1; omega) : validB W H L n S = false)
    go_enter Tryd.func21, Tryd.ntmps21
    go_wp2
    go_ret
    exact ⟨ret_bool hn.out.symm, hb0⟩
  by_cases w4 : 6 < H
  · have hn := Lib.hid (validB_false (fun hv => by have := hv.1; omega) : validB W H L n S = false)
    go_enter Tryd.func21, Tryd.ntmps21
    go_wp2
    go_ret
    exact ⟨ret_bool hn.out.symm, hb0⟩
  have hWb : 1 ≤ W ∧ W ≤ 6 := by omega
  have hHb : 1 ≤ H ∧ H ≤ 6 := by omega
  have hp : 0 ≤ W * H ∧ W * H ≤ 36 := ⟨Int.mul_nonneg (by omega) (by omega), by
    have := Int.mul_le_mul hWb.2 hHb.2 (by omega) (by omega)
    omega⟩
  obtain ⟨p, hp'⟩ : ∃ p, W * H = p := ⟨_, rfl⟩
  rw [hp'] at hp
  have hp'' := hp'
  replace hp' := Lib.hid hp'
  by_cases h1 : (L.length : Int) = p
  · by_cases h2 : (n : Int) = p
    · go_enter Tryd.func21, Tryd.ntmps21
      go_wp2
      clear hp''
      go_loop [3] (fun i => ∃ k : Nat, k ≤ n ∧ i = .int .i64 k ∧ OKUpto L S k) (fun i => n - (intOf i).toNat)
      case atStart => exact ⟨0, Nat.zero_le _, rfl, fun i hi => absurd hi (Nat.not_lt_zero _)⟩
      case round =>
        obtain ⟨k, hk, rfl, hok⟩ := hrel
        replace hok := Lib.hid hok
        by_cases hlt : k < n
        · have hlt' : k < L.length := by omega
          obtain ⟨b, o, rfl, hb, hl⟩ := h.land.at_ k (by omega)
          obtain ⟨b', o', rfl, hb', hs⟩ := h.share.2.2 (by omega)
          have hb2 : b < w.heap.size := by omega
          have hb3 : b' < w.heap.size := by omega
          go_wp2
          go_loop [4, 5] (fun s i => ∃ j : Nat, j ≤ 5 ∧ i = .int .i64 j ∧ Els S k j ∧ s = .int .i64 (sm (fun k' => sh S k k') j)) (fun _ i => 5 - (intOf i).toNat)
          case atStart => exact ⟨0, Nat.zero_le _, rfl, fun i hi => absurd hi (Nat.not_lt_zero _), rfl⟩
          case round =>
            obtain ⟨j, hj, rfl, hel, rfl⟩ := hrel
            obtain ⟨s1, s2⟩ := els_sum j hel
            have hel := Lib.hid hel
            by_cases hjt : j < 5
            · have hc := hs k j hlt hjt
              by_cases he0 : sh S k j < 0
              · have hn := Lib.hid (validB_false (fun hv => by have := (hv.2.2 k hlt).1 j hjt; omega) : validB W H L n S = false)
                go_wp2
                go_ret
                exact ⟨ret_bool hn.out.symm, hb0⟩
              by_cases he1 : 16 < sh S k j
              · have hn := Lib.hid (validB_false (fun hv => by have := (hv.2.2 k hlt).1 j hjt; omega) : validB W H L n S = false)
                go_wp2
                go_ret
                exact ⟨ret_bool hn.out.symm, hb0⟩
              have hs' := Lib.hid (els_succ hel.out (by omega) (by omega))
              have hsm := Lib.hid (sm_succ (fun k' => sh S k k') j)
              go_wp2
              go_round
              case rel => exact ⟨j + 1, by omega, by go_num, hs'.out, by rw [hsm.out]⟩
              case measure => simp [intOf]; omega
            · have hj' : j = 5 := by omega
              subst hj'
              have hq : (sm (fun k' => sh S k k') 5 = if bl L k = true then 0 else 16) ↔ CellOK L S k := ⟨fun e => ⟨hel.out, e⟩, fun e => e.2⟩
              generalize sm (fun k' => sh S k k') 5 = q at *
              cases hll : bl L k with
              | true =>
                rw [hll] at hl hq
                simp only [if_true] at hq
                by_cases hq0 : q = 0
                · have hs' := Lib.hid (ok_succ hok.out (hq.1 hq0))
                  have hq1 : (q != 0) = false := by simpa using hq0
                  clear hq
                  go_wp2
                  go_round
                  case rel => exact ⟨k + 1, by omega, by go_num, hs'.out⟩
                  case measure => simp [intOf]; omega
                · have hn := Lib.hid (validB_false (fun hv => hq0 (hq.2 (hv.2.2 k hlt))) : validB W H L n S = false)
                  have hq1 : (q != 0) = true := by simpa using hq0
                  clear hq
                  go_wp2
                  go_ret
                  exact ⟨ret_bool hn.out.symm, hb0⟩
              | false =>
                rw [hll] at hl hq
                simp only [Bool.false_eq_true, if_false] at hq
                by_cases hq0 : q = 16
                · have hs' := Lib.hid (ok_succ hok.out (hq.1 hq0))
                  have hq1 : (q != 16) = false := by simpa using hq0
                  clear hq
                  go_wp2
                  go_round
                  case rel => exact ⟨k + 1, by omega, by go_num, hs'.out⟩
                  case measure => simp [intOf]; omega
                · have hn := Lib.hid (validB_false (fun hv => hq0 (hq.2 (hv.2.2 k hlt))) : validB W H L n S = false)
                  have hq1 : (q != 16) = true := by simpa using hq0
                  clear hq
                  go_wp2
                  go_ret
                  exact ⟨ret_bool hn.out.symm, hb0⟩
        · have hk' : k = n := by omega
          subst hk'
          have hv := Lib.hid (validB_true ⟨⟨hWb, hHb⟩, ⟨by rw [hp'.out]; exact h1, by rw [hp'.out]; exact h2⟩, hok.out⟩ : validB W H L k S = true)
          go_wp2
          go_ret
          exact ⟨ret_bool hv.out.symm, hb0⟩
    · have hn := Lib.hid (validB_false (fun hv => h2 (by rw [hv.2.1.2]; exact hp'.out)) : validB W H L n S = false)
      have h2' : ((n : Int) != p) = true := by simpa using h2
      go_enter Tryd.func21, Tryd.ntmps21
      go_wp2
      go_ret
      exact ⟨ret_bool hn.out.symm, hb0⟩
  · have hn := Lib.hid (validB_false (fun hv => h1 (by rw [hv.2.1.1]; exact hp'.out)) : validB W H L n S = false)
    have h1' : ((L.length : Int) != p) = true := by simpa using h1
    go_enter Tryd.func21, Tryd.ntmps21
    go_wp2
    go_ret
    exact ⟨ret_bool hn.out.symm, hb0⟩
end Go.Proofs.YtnbgjgiknfcdkaaDoor
