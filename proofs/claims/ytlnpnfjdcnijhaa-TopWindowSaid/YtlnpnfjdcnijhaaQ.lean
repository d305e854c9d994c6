/-
  What is told of an opening: the next open hour, how many are open, the window of it.
-/
import Derived.Test.YtlnpnfjdcnijhaaP
namespace Go.Proofs.Ytlnpnfjdcnijhaa
open Go.RowKit Go.Deep M
set_option linter.unusedVariables false
set_option linter.unusedSimpArgs false

namespace M
/-- The first open hour from an hour on, within a period. -/
def fstO (p : Nat) (f : Int → Bool) (h : Int) : Option Nat := (List.range p).find? (fun k => f (h + k))
theorem fstO_some {p : Nat} {f : Int → Bool} {h : Int} {k : Nat} (hk : k < p) (hh : f (h + k) = true) (hn : ∀ j : Nat, j < k → f (h + j) = false) : fstO p f h = some k := by
  unfold fstO
  rw [List.find?_range_eq_some]
  exact ⟨hh, by simpa using hk, fun j hj => by rw [hn j hj]; rfl⟩
theorem fstO_none {p : Nat} {f : Int → Bool} {h : Int} (hn : ∀ j : Nat, j < p → f (h + j) = false) : fstO p f h = none := by
  unfold fstO
  rw [List.find?_range_eq_none]
  intro j hj
  simpa using hn j hj
def nextO (p : Nat) (f : Int → Bool) (h : Int) : Int × Int := match fstO p f h with | some k => (h + k, 0) | none => (0, 5)
end M

/-- A box of an opening. -/
def BxO (w : World) (b : Nat) (p : Int) (F : Value) : Prop := w.heap[b]? = some (.cells #[.int .i64 p, F] 74 (0, 0))
theorem BxO.lt {w : World} {b : Nat} {p : Int} {F : Value} (h : BxO w b p F) : b < w.heap.size := blk_lt h
theorem BxO.c0 {w : World} {b : Nat} {p : Int} {F : Value} (h : BxO w b p F) : w.cell? ⟨b, 0, none⟩ = some (.int .i64 p) := by simp [World.cell?, show w.heap[b]? = _ from h]
theorem BxO.c1 {w : World} {b : Nat} {p : Int} {F : Value} (h : BxO w b p F) : w.cell? ⟨b, 1, none⟩ = some F := by simp [World.cell?, show w.heap[b]? = _ from h]
theorem BxO.new (w : World) (p : Int) (F : Value) : BxO (w.alloc (.cells #[.int .i64 p, F] 74)) w.heap.size p F := heap_alloc_new w _
theorem BxO.up {w w' : World} {b : Nat} {p : Int} {F : Value} (h : BxO w b p F) (hb : Below w.heap.size w w') : BxO w' b p F := (hb.block b h.lt).trans h

set_option maxRecDepth 100000 in
set_option maxHeartbeats 2000000 in
theorem next_any (B : Nat) (p : Nat) (F : Value) (f : Int → Bool) (h : Int) (w : World) (hO : Opn w B F f) (hB : B ≤ w.heap.size) (hp : p ≤ 1000000) (hh : 0 ≤ h ∧ h ≤ 1000000000) :
    Calls Try.prog 68 #[.agg #[.int .i64 p, F], .int .i64 h] w fun e w' => e = .returned (.tuple #[.int .i64 (nextO p f h).1, .int .i64 (nextO p f h).2]) ∧ Below w.heap.size w w' := by
  have hO' := hO
  obtain ⟨g, caps, rfl, hen, hcall⟩ := hO
  have hyes := fun k (hk : k < p) (hn : ∀ j : Nat, j < k → f (h + j) = false) (hh : f (h + k) = true) => show nextO p f h = (h + k, 0) by unfold nextO; rw [fstO_some hk hh hn]
  have hno := fun (hn : ∀ j : Nat, j < p → f (h + j) = false) => show nextO p f h = (0, 5) by unfold nextO; rw [fstO_none hn]
  generalize nextO p f h = R at *
  obtain ⟨R1, R2⟩ := R
  have hx := BxO.new w p (.func (Fn.func g) #[] caps)
  have c0 := hx.c0
  have c1 := hx.c1
  have hb0 := ba1 w (.cells #[.int .i64 p, .func (Fn.func g) #[] caps] 74)
  replace hx := Lib.hid hx
  replace hb0 := Lib.hid hb0
  replace hyes := Lib.hid hyes
  replace hno := Lib.hid hno
  replace hcall := Lib.hid hcall
  replace hO' := Lib.hid hO'
  go_enter Try.func68, Try.ntmps68
  go_wp2
  go_loopw [9] (fun v X => ∃ k : Nat, k ≤ p ∧ v = .int .i64 (k : Nat) ∧ (∀ j : Nat, j < k → f (h + j) = false) ∧ Below w.heap.size w X ∧ BxO X w.heap.size p (.func (Fn.func g) #[] caps)) (fun v _ => p - (intOf v).toNat)
  case atStart => exact ⟨0, Nat.zero_le _, rfl, fun j hj => absurd hj (Nat.not_lt_zero _), hb0.out, hx.out⟩
  case round =>
    obtain ⟨k, hk, rfl, hj, hw, hbx⟩ := hrel
    clear c0 c1
    have c0 := hbx.c0
    have c1 := hbx.c1
    by_cases hlt : k < p
    · have hc := hcall.out wr (hw.mono hB) (Nat.le_trans hB hw.size) (h + k) (by omega)
      cases hq : f (h + k) with
      | true =>
        rw [hq] at hc
        have hR := hyes.out k hlt hj hq
        obtain ⟨rfl, rfl⟩ : R1 = h + k ∧ R2 = 0 := by simpa using hR
        clear hR
        replace hj := Lib.hid hj
        replace hc := Lib.hid hc
        replace hw := Lib.hid hw
        replace hbx := Lib.hid hbx
        go_wp2_with fail
        refine hc.out.mono ?_
        rintro e w1 ⟨rfl, hb1⟩
        go_wp2
        go_ret2
        exact ⟨rfl, hw.out.trans (hb1.mono hw.out.size)⟩
      | false =>
        rw [hq] at hc
        have hs : ∀ j : Nat, j < k + 1 → f (h + j) = false := fun j hj' => by
          rcases Nat.lt_succ_iff_lt_or_eq.1 hj' with h' | rfl
          · exact hj j h'
          · exact hq
        replace hs := Lib.hid hs
        replace hj := Lib.hid hj
        replace hc := Lib.hid hc
        replace hw := Lib.hid hw
        replace hbx := Lib.hid hbx
        go_wp2_with fail
        refine hc.out.mono ?_
        rintro e w1 ⟨rfl, hb1⟩
        have hw1 := hw.out.trans (hb1.mono hw.out.size)
        have hbx1 := hbx.out.up hb1
        replace hw1 := Lib.hid hw1
        replace hbx1 := Lib.hid hbx1
        go_wp2
        go_roundw
        case rel => exact ⟨k + 1, by omega, by go_num, hs.out, hw1.out, hbx1.out⟩
        case measure => simp [intOf]; omega
    · have hR := hno.out fun j hjp => hj j (by omega)
      obtain ⟨rfl, rfl⟩ : R1 = 0 ∧ R2 = 5 := by simpa using hR
      clear hR
      replace hj := Lib.hid hj
      replace hw := Lib.hid hw
      replace hbx := Lib.hid hbx
      go_wp2
      go_ret2
      exact ⟨rfl, hw.out⟩
end Go.Proofs.Ytlnpnfjdcnijhaa
