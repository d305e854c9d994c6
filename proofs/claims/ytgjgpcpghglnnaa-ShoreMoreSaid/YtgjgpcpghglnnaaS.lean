/-
  Two lists of integers compared: by slices.Equal, and by the specification.
-/
import Derived.Test.YtgjgpcpghglnnaaD
namespace Go.Proofs.Ytgjgpcpghglnnaa
open Go.RowKit Go.Deep M
set_option linter.unusedVariables false
set_option linter.unusedSimpArgs false

namespace M
theorem ext_el {l m : List Int} (h : l.length = m.length) (e : ∀ i, i < l.length → el l i = el m i) : l = m := by
  apply List.ext_getElem h
  intro i h1 h2
  have := e i h1
  rwa [el_eq l i h1, el_eq m i h2] at this
end M

set_option maxRecDepth 100000 in
set_option maxHeartbeats 4000000 in
theorem Equal_any (B : Nat) (A A' : Option Addr) (c c' : Nat) (l l' : List Int) (w : World) (h : Row w B A l) (h' : Row w B A' l') (hB : B ≤ w.heap.size) :
    Calls Try.prog 77 #[.slice A l.length c, .slice A' l'.length c'] w fun e w' => e = .returned (.bool (decide (l = l'))) ∧ Below w.heap.size w w' := by
  have h63 := h.1
  have h63' := h'.1
  have hat := fun X (hX : Below w.heap.size w X) k (hk : k < l.length) => (h.below (hX.mono hB)).at_ k hk
  have hat' := fun X (hX : Below w.heap.size w X) k (hk : k < l'.length) => (h'.below (hX.mono hB)).at_ k hk
  have hn1 : ¬ l.length = l'.length → decide (l = l') = false := fun hh => decide_eq_false fun e => hh (by rw [e])
  have hn2 : ∀ k, ¬ el l k = el l' k → decide (l = l') = false := fun k hh => decide_eq_false fun e => hh (by rw [e])
  have hy : l.length = l'.length → (∀ k, k < l.length → el l k = el l' k) → decide (l = l') = true := fun a b => decide_eq_true (ext_el a b)
  obtain ⟨R, hR⟩ : ∃ R, R = decide (l = l') := ⟨_, rfl⟩
  rw [← hR] at hn1 hn2 hy ⊢
  obtain ⟨n, hn⟩ : ∃ n, n = l.length := ⟨_, rfl⟩
  obtain ⟨m, hm⟩ : ∃ m, m = l'.length := ⟨_, rfl⟩
  rw [← hn] at h63 hat hn1 hy ⊢
  rw [← hm] at h63' hat' hn1 hy ⊢
  have hw0 := Lib.hid (Below.refl w.heap.size w)
  replace hR := Lib.hid hR
  replace hn := Lib.hid hn
  replace hm := Lib.hid hm
  replace hat := Lib.hid hat
  replace hat' := Lib.hid hat'
  replace hn2 := Lib.hid hn2
  replace h := Lib.hid h
  replace h' := Lib.hid h'
  by_cases e : n = m
  · subst e
    replace hy := Lib.hid (hy rfl)
    clear hn1
    go_enter Try.func77, Try.ntmps77
    go_wp2
    go_loopw [13] (fun i X => ∃ k : Nat, k ≤ n ∧ i = .int .i64 (k : Nat) ∧ Below w.heap.size w X ∧ ∀ j, j < k → el l j = el l' j) (fun i _ => n - (intOf i).toNat)
    case atStart => exact ⟨0, by omega, rfl, hw0.out, fun j hj => absurd hj (Nat.not_lt_zero _)⟩
    case round =>
      clear hw0
      obtain ⟨k, hk, rfl, hX, hel⟩ := hrel
      by_cases hlk : k < n
      · obtain ⟨b, o, rfl, hb, e0⟩ := hat.out wr hX k hlk
        obtain ⟨b', o', rfl, hb', e0'⟩ := hat'.out wr hX k hlk
        have hff := hn2.out k
        have hel' := fun hh => (fun (j : Nat) (hj : j < k + 1) => show el l j = el l' j by
          rcases Nat.lt_succ_iff_lt_or_eq.1 hj with h' | rfl
          · exact hel j h'
          · exact hh)
        obtain ⟨x, hx⟩ : ∃ x, x = el l k := ⟨_, rfl⟩
        obtain ⟨y, hy'⟩ : ∃ x, x = el l' k := ⟨_, rfl⟩
        rw [← hx] at e0 hff hel'
        rw [← hy'] at e0' hff hel'
        have hXd := Lib.hid (fun k => below_drewN hX k)
        replace hX := Lib.hid hX
        replace hel := Lib.hid hel
        replace hx := Lib.hid hx
        replace hy' := Lib.hid hy'
        by_cases exy : x = y
        · have hs := Lib.hid (hel' exy)
          subst exy
          clear hff hel'
          go_wp2_with fail
          go_quiet (fail)
          go_wp2
          go_roundw
          case rel => exact ⟨k + 1, by omega, by go_num, hXd.out _, hs.out⟩
          case measure => simp [intOf]; omega
        · have hRR := hff exy
          subst hRR
          clear hff hel'
          go_wp2_with fail
          go_quiet (fail)
          go_wp2
          go_ret
          exact ⟨rfl, hXd.out _⟩
      · have hk' : k = n := by omega
        subst hk'
        have hRR := hy.out hel
        subst hRR
        replace hX := Lib.hid hX
        replace hel := Lib.hid hel
        go_wp2
        go_ret
        exact ⟨rfl, hX.out⟩
  · have hRR := hn1 e
    subst hRR
    clear hn1 hy
    have e' : ¬ (n : Int) = (m : Int) := by omega
    go_enter Try.func77, Try.ntmps77
    go_wp2
    go_ret
    exact ⟨rfl, hw0.out⟩

set_option maxRecDepth 100000 in
set_option maxHeartbeats 4000000 in
theorem SameInts_any (B : Nat) (A A' : Option Addr) (c c' : Nat) (l l' : List Int) (w : World) (h : Row w B A l) (h' : Row w B A' l') (hB : B ≤ w.heap.size) :
    Calls Try.prog 26 #[.slice A l.length c, .slice A' l'.length c'] w fun e w' => e = .returned (.bool (decide (l = l'))) ∧ Below w.heap.size w w' := by
  have h63 := h.1
  have h63' := h'.1
  have hat := fun X (hX : Below w.heap.size w X) k (hk : k < l.length) => (h.below (hX.mono hB)).at_ k hk
  have hat' := fun X (hX : Below w.heap.size w X) k (hk : k < l'.length) => (h'.below (hX.mono hB)).at_ k hk
  have hn1 : ¬ l.length = l'.length → decide (l = l') = false := fun hh => decide_eq_false fun e => hh (by rw [e])
  have hn2 : ∀ k, ¬ el l k = el l' k → decide (l = l') = false := fun k hh => decide_eq_false fun e => hh (by rw [e])
  have hy : l.length = l'.length → (∀ k, k < l.length → el l k = el l' k) → decide (l = l') = true := fun a b => decide_eq_true (ext_el a b)
  obtain ⟨R, hR⟩ : ∃ R, R = decide (l = l') := ⟨_, rfl⟩
  rw [← hR] at hn1 hn2 hy ⊢
  obtain ⟨n, hn⟩ : ∃ n, n = l.length := ⟨_, rfl⟩
  obtain ⟨m, hm⟩ : ∃ m, m = l'.length := ⟨_, rfl⟩
  rw [← hn] at h63 hat hn1 hy ⊢
  rw [← hm] at h63' hat' hn1 hy ⊢
  have hw0 := Lib.hid (Below.refl w.heap.size w)
  replace hR := Lib.hid hR
  replace hn := Lib.hid hn
  replace hm := Lib.hid hm
  replace hat := Lib.hid hat
  replace hat' := Lib.hid hat'
  replace hn2 := Lib.hid hn2
  replace h := Lib.hid h
  replace h' := Lib.hid h'
  by_cases e : n = m
  · subst e
    replace hy := Lib.hid (hy rfl)
    clear hn1
    go_enter Try.func26, Try.ntmps26
    go_wp2
    go_loopw [5] (fun i X => ∃ k : Nat, k ≤ n ∧ i = .int .i64 (k : Nat) ∧ Below w.heap.size w X ∧ ∀ j, j < k → el l j = el l' j) (fun i _ => n - (intOf i).toNat)
    case atStart => exact ⟨0, by omega, rfl, hw0.out, fun j hj => absurd hj (Nat.not_lt_zero _)⟩
    case round =>
      clear hw0
      obtain ⟨k, hk, rfl, hX, hel⟩ := hrel
      by_cases hlk : k < n
      · obtain ⟨b, o, rfl, hb, e0⟩ := hat.out wr hX k hlk
        obtain ⟨b', o', rfl, hb', e0'⟩ := hat'.out wr hX k hlk
        have hff := hn2.out k
        have hel' := fun hh => (fun (j : Nat) (hj : j < k + 1) => show el l j = el l' j by
          rcases Nat.lt_succ_iff_lt_or_eq.1 hj with h' | rfl
          · exact hel j h'
          · exact hh)
        obtain ⟨x, hx⟩ : ∃ x, x = el l k := ⟨_, rfl⟩
        obtain ⟨y, hy'⟩ : ∃ x, x = el l' k := ⟨_, rfl⟩
        rw [← hx] at e0 hff hel'
        rw [← hy'] at e0' hff hel'
        have hXd := Lib.hid (fun k => below_drewN hX k)
        replace hX := Lib.hid hX
        replace hel := Lib.hid hel
        replace hx := Lib.hid hx
        replace hy' := Lib.hid hy'
        by_cases exy : x = y
        · have hs := Lib.hid (hel' exy)
          subst exy
          clear hff hel'
          go_wp2_with fail
          go_quiet (fail)
          go_wp2
          go_roundw
          case rel => exact ⟨k + 1, by omega, by go_num, hXd.out _, hs.out⟩
          case measure => simp [intOf]; omega
        · have hRR := hff exy
          subst hRR
          clear hff hel'
          go_wp2_with fail
          go_quiet (fail)
          go_wp2
          go_ret
          exact ⟨rfl, hXd.out _⟩
      · have hk' : k = n := by omega
        subst hk'
        have hRR := hy.out hel
        subst hRR
        replace hX := Lib.hid hX
        replace hel := Lib.hid hel
        go_wp2
        go_ret
        exact ⟨rfl, hX.out⟩
  · have hRR := hn1 e
    subst hRR
    clear hn1 hy
    have e' : ¬ (n : Int) = (m : Int) := by omega
    go_enter Try.func26, Try.ntmps26
    go_wp2
    go_ret
    exact ⟨rfl, hw0.out⟩
end Go.Proofs.Ytgjgpcpghglnnaa
