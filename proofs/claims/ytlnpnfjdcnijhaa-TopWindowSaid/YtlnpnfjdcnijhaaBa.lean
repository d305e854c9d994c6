/-
  Are two windows equal: the specification's function, of any two.
-/
import Derived.Test.YtlnpnfjdcnijhaaMathD
namespace Go.Proofs.Ytlnpnfjdcnijhaa
open Go.RowKit Go.Deep M
set_option linter.unusedVariables false
set_option linter.unusedSimpArgs false

namespace M
def eqW (p : Int) (l : List Int) (p' : Int) (l' : List Int) : Bool := decide (p = p') && decide (l = l')
theorem eqW_p {p p' : Int} {l l' : List Int} (h : ¬ p = p') : eqW p l p' l' = false := by unfold eqW; rw [decide_eq_false h]; rfl
theorem eqW_n {p p' : Int} {l l' : List Int} (h : ¬ l.length = l'.length) : eqW p l p' l' = false := by
  unfold eqW; rw [decide_eq_false (p := l = l') (fun e => h (by rw [e]))]; simp
theorem eqW_e (p p' : Int) (l l' : List Int) (k : Nat) (h : ¬ el l k = el l' k) : eqW p l p' l' = false := by
  unfold eqW; rw [decide_eq_false (p := l = l') (fun e => h (by rw [e]))]; simp
theorem eqW_yes {p : Int} {l l' : List Int} (h : l.length = l'.length) (h' : ∀ i, i < l.length → el l i = el l' i) : eqW p l p l' = true := by
  unfold eqW; rw [decide_eq_true (p := l = l') (ints_ext h h')]; simp
end M

set_option maxHeartbeats 2000000 in
theorem Equal_gen (B : Nat) (A A' : Option Addr) (c c' : Nat) (p p' : Int) (l l' : List Int) (w : World) (h : Row w B A l) (h' : Row w B A' l') (hB : B ≤ w.heap.size) :
    Calls Try.prog 32 #[wnV p A l.length c, wnV p' A' l'.length c'] w fun e w' => e = .returned (.bool (eqW p l p' l')) ∧ Below w.heap.size w w' := by
  have h63 := h.1
  have h63' := h'.1
  have hn1 := @eqW_p p p' l l'
  have hn2 := @eqW_n p p' l l'
  have hn3 := eqW_e p p' l l'
  have hyy := @eqW_yes p l l'
  obtain ⟨n, hn⟩ : ∃ n, n = l.length := ⟨_, rfl⟩
  obtain ⟨n', hn'⟩ : ∃ n, n = l'.length := ⟨_, rfl⟩
  rw [← hn] at h63 hn2 hyy ⊢
  rw [← hn'] at h63' hn2 hyy ⊢
  replace hn := Lib.hid hn
  replace hn' := Lib.hid hn'
  have hx := BxW.new w p A n c
  have hb1 := ba1 w (.cells #[.int .i64 p, .slice A n c] 24)
  have hb2 := ba1 (w.alloc (.cells #[.int .i64 p, .slice A n c] 24)) (.cells #[.int .i64 p', .slice A' n' c'] 24)
  have hy := BxW.new (w.alloc (.cells #[.int .i64 p, .slice A n c] 24)) p' A' n' c'
  rw [show (w.alloc (.cells #[.int .i64 p, .slice A n c] 24)).heap.size = w.heap.size + 1 by simp] at hy
  obtain ⟨W, hW⟩ : ∃ W, W = (w.alloc (.cells #[.int .i64 p, .slice A n c] 24)).alloc (.cells #[.int .i64 p', .slice A' n' c'] 24) := ⟨_, rfl⟩
  have hbW : Below w.heap.size w W := by rw [hW]; exact hb1.trans (hb2.mono hb1.size)
  have hxW : BxW W w.heap.size p A n c := by rw [hW]; exact hx.up hb2
  have hyW : BxW W (w.heap.size + 1) p' A' n' c' := by rw [hW]; exact hy
  have hr := h.below (hbW.mono hB)
  have hr' := h'.below (hbW.mono hB)
  have c0 := hxW.c0
  have c1 := hxW.c1
  have d0 := hyW.c0
  have d1 := hyW.c1
  have hW' := Lib.hid hW
  replace hbW := Lib.hid hbW
  replace hx := Lib.hid hx
  replace hy := Lib.hid hy
  replace hb1 := Lib.hid hb1
  replace hb2 := Lib.hid hb2
  replace hxW := Lib.hid hxW
  replace hyW := Lib.hid hyW
  replace hr := Lib.hid hr
  replace hr' := Lib.hid hr'
  unfold wnV
  rw [hW] at c0 c1 d0 d1
  clear hW h h'
  by_cases hpp : p = p'
  · subst hpp
    clear hn1
    by_cases hnn : n = n'
    · subst hnn
      clear hn2
      replace hyy := Lib.hid (hyy rfl)
      replace hn3 := Lib.hid hn3
      generalize eqW p l p l' = R at *
      go_enter Try.func32, Try.ntmps32
      go_wp2
      rw [← hW'.out]
      clear c0 c1 d0 d1
      go_loopw [23] (fun i wr => ∃ k m : Nat, k ≤ n ∧ i = .int .i64 (k : Nat) ∧ wr = W.drewN m ∧ ∀ j, j < k → el l j = el l' j) (fun i _ => n - (intOf i).toNat)
      case atStart => exact ⟨0, 0, Nat.zero_le _, rfl, rfl, fun j hj => absurd hj (Nat.not_lt_zero _)⟩
      case round =>
        obtain ⟨k, m, hk, rfl, hw, hel⟩ := hrel
        have k1 : BxW wr w.heap.size p A n c := by rw [hw]; exact hxW.out
        have k2 : BxW wr (w.heap.size + 1) p A' n c' := by rw [hw]; exact hyW.out
        have hq : Row wr B A l := hr.out.keep fun p _ => by rw [hw]; rfl
        have hq' : Row wr B A' l' := hr'.out.keep fun p _ => by rw [hw]; rfl
        have hbr : Below w.heap.size w wr := by rw [hw]; exact below_drewN hbW.out m
        replace hw := Lib.hid hw
        have f0 := k1.c1
        have f1 := k2.c1
        replace k1 := Lib.hid k1
        replace k2 := Lib.hid k2
        by_cases hlt : k < n
        · obtain ⟨b, o, rfl, hb, hc⟩ := hq.at_ k (hn.out ▸ hlt)
          obtain ⟨b', o', rfl, hb', hc'⟩ := hq'.at_ k (hn'.out ▸ hlt)
          have hkb : (k : Int) < (n : Int) := by omega
          have hst : el l k = el l' k → ∀ j, j < k + 1 → el l j = el l' j := fun h1 j hj => by
            rcases Nat.lt_succ_iff_lt_or_eq.1 hj with h' | rfl
            · exact hel j h'
            · exact h1
          have hno := hn3.out k
          generalize el l k = a at *
          generalize el l' k = a' at *
          replace hel := Lib.hid hel
          replace hq := Lib.hid hq
          replace hq' := Lib.hid hq'
          by_cases ha : a = a'
          · subst ha
            replace hst := Lib.hid (hst rfl)
            have hne : (a != a) = false := by simp
            replace hbr := Lib.hid hbr
            clear hno
            go_wp2_with fail
            go_quiet (fail)
            go_wp2
            go_roundw
            case rel => exact ⟨k + 1, m + nq, by omega, by go_num, by rw [hw.out, World.drewN_drewN], hst.out⟩
            case measure => simp [intOf]; omega
          · have hR := hno ha
            subst hR
            clear hst hno
            have hne : (a != a') = true := by simp [ha]
            replace hbr := Lib.hid hbr
            go_wp2_with fail
            go_quiet (fail)
            go_wp2
            go_ret
            exact ⟨rfl, below_drewN hbr.out nq⟩
        · have hk' : k = n := by omega
          subst hk'
          have hR := hyy.out hel
          subst hR
          replace hel := Lib.hid hel
          replace hbr := Lib.hid hbr
          replace hq := Lib.hid hq
          replace hq' := Lib.hid hq'
          go_wp2
          go_ret
          exact ⟨rfl, hbr.out⟩
    · have hR := hn2 hnn
      rw [hR]
      clear hn2 hyy
      replace hR := Lib.hid hR
      replace hn3 := Lib.hid hn3
      have hni : ¬ (n : Int) = (n' : Int) := by omega
      go_enter Try.func32, Try.ntmps32
      go_wp2
      rw [← hW'.out]
      go_ret
      exact ⟨rfl, hbW.out⟩
  · have hR := hn1 hpp
    rw [hR]
    clear hn2 hyy hn1
    replace hR := Lib.hid hR
    replace hn3 := Lib.hid hn3
    go_enter Try.func32, Try.ntmps32
    go_wp2
    rw [← hW'.out]
    go_ret
    exact ⟨rfl, hbW.out⟩
end Go.Proofs.Ytlnpnfjdcnijhaa
