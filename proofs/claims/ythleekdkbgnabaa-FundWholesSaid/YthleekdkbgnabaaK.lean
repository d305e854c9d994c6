/-
  What lists of integers and of ratios that came in are in memory.
-/
import Derived.Test.YthleekdkbgnabaaRows
import Derived.Test.YthleekdkbgnabaaData
import Derived.ProofKit
import Derived.OpenShut
import Derived.ShutString
import Derived.ChangeOld
import Derived.Below
import Derived.Stop.Joined
import Derived.Lib.SmallJoins
namespace Go.Proofs.Ythleekdkbgnabaa
open Go.Joins Go.ChangeShapes Go.WideShapes Go.ChangeAt Go.RowKit Go.Deep M
set_option linter.unusedVariables false
set_option linter.unusedSimpArgs false

theorem own : ownKnob Try.prog.godebug = none := by kernel_rfl
theorem laidOut : laidOutB Try.prog = true := by kernel_rfl
theorem cells3 : Try.prog.cellsOf 3 = 1 := by kernel_rfl
theorem cells37 : Try.prog.cellsOf 37 = 2 := by kernel_rfl

/-- A slice whose cells are known: its address is plain, and lies below the heap's end. -/
theorem addr_plain {w : World} {a : Addr} {v : Value} (h : w.cell? (a.add 0) = some v) : ∃ b o, a = ⟨b, o, none⟩ ∧ b < w.heap.size ∧ ∀ i, a.add i = ⟨b, o + i, none⟩ := by
  obtain ⟨b, o, s⟩ := a
  have h0 : w.cell? ⟨b, o, s⟩ = some v := by simpa [Addr.add] using h
  have hs : s = none := by simpa using World.cell?_spot h0
  subst hs
  exact ⟨b, o, rfl, World.block_lt_of_cell? _ _ h0, fun i => by unfold Addr.add; split <;> simp_all⟩
def mkJ (F : Nat → Rt) (n : Nat) : List Rt := (List.range n).map F
theorem mkJ_len (F : Nat → Rt) (n : Nat) : (mkJ F n).length = n := by simp [mkJ]
theorem mkJ_el (F : Nat → Rt) (n i : Nat) (h : i < n) : rt (mkJ F n) i = F i := by rw [rt_eq _ _ (by rw [mkJ_len]; exact h)]; simp [mkJ]
def readI (w : World) (a : Addr) (i : Nat) : Int := match w.cell? (a.add i) with | some (.int _ n) => n | _ => 0
section
variable {H : Type} {enc : TypeId × Value → H} {W : World} {fuel : Nat} {v : Value} {x : DataW H × List MemPlace}

set_option maxRecDepth 100000 in
/-- RATIOS THAT CAME IN. -/
theorem rts_of (hf : DataW.trod enc Try.prog W 0 (fun _ => true) true fuel 25 [v] = some x) : ∃ A len cap D, v = .slice A len cap ∧ D.length = len ∧ Rts W W.heap.size A D ∧ len ≤ cap := by
  rcases open_slice Try.underlying25 hf with ⟨hcs, hx⟩ | ⟨a, len, cap, m, n, D, Pl, hcs, _, hl, hm, hmm, hx, hi⟩
  · obtain rfl : v = .slice none 0 0 := by simpa using hcs
    exact ⟨none, 0, 0, [], rfl, rfl, rts_nil _ _ _, Nat.le_refl _⟩
  · obtain rfl : v = .slice (some a) len cap := by simpa using hcs
    have hm' : m = cap := by simpa using hmm
    subst hm'
    have hc : ∀ i, i < len → ∃ x y : Int, W.cell? (a.add (i * 2)) = some (.int .i64 x) ∧ W.cell? (a.add (i * 2 + 1)) = some (.int .i64 y) := fun i hil => by
      obtain ⟨cs', hc, ht⟩ := hi i (by omega)
      rw [cells37] at hc
      obtain ⟨_, hcl, hat⟩ := World.cells?_some hc
      obtain ⟨y0, y1, n', hx', hlen, h0, h1⟩ := trod_struct2 Try.underlying37 ht
      have a0 := hat 0 (by omega)
      have a1 := hat 1 (by omega)
      rw [Go.Deep.add_add] at a0 a1
      match cs', hcl with
      | [c0, c1], _ =>
        obtain ⟨z0, e0, _, _⟩ := DataW.trod_int Try.underlying3 h0
        obtain ⟨z1, e1, _, _⟩ := DataW.trod_int Try.underlying3 h1
        obtain rfl : c0 = .int .i64 z0 := by simpa [cells3] using e0
        obtain rfl : c1 = .int .i64 z1 := by simpa [cells3] using e1
        exact ⟨z0, z1, a0, a1⟩
    unfold maxLen at hm
    refine ⟨some a, len, m, mkJ (fun i => ⟨readI W a (i * 2), readI W a (i * 2 + 1)⟩) len, rfl, mkJ_len _ _, ⟨by rw [mkJ_len]; omega, fun hn => ?_⟩, by omega⟩
    rw [mkJ_len] at hn
    obtain ⟨z, _, hz, _⟩ := hc 0 hn
    obtain ⟨b, o, rfl, hb, hadd⟩ := addr_plain (by simpa using hz)
    refine ⟨b, o, rfl, hb, fun i hil => ?_⟩
    rw [mkJ_len] at hil
    obtain ⟨z0, z1, q0, q1⟩ := hc i hil
    rw [mkJ_el _ _ _ hil]
    have hr0 : readI W ⟨b, o, none⟩ (i * 2) = z0 := by unfold readI; rw [q0]
    have hr1 : readI W ⟨b, o, none⟩ (i * 2 + 1) = z1 := by unfold readI; rw [q1]
    simp only [hr0, hr1]
    rw [hadd] at q0 q1
    exact ⟨q0, q1⟩
end
def mkL (F : Nat → Int) (n : Nat) : List Int := (List.range n).map F
theorem mkL_len (F : Nat → Int) (n : Nat) : (mkL F n).length = n := by simp [mkL]
theorem mkL_el (F : Nat → Int) (n i : Nat) (h : i < n) : el (mkL F n) i = F i := by rw [el_eq _ _ (by rw [mkL_len]; exact h)]; simp [mkL]
section
variable {H : Type} {enc : TypeId × Value → H} {W : World} {fuel : Nat} {v : Value} {x : DataW H × List MemPlace}
set_option maxRecDepth 100000 in
/-- A LIST OF INTEGERS THAT CAME IN. -/
theorem row_of (hf : DataW.trod enc Try.prog W 0 (fun _ => true) true fuel 22 [v] = some x) : ∃ A len cap l, v = .slice A len cap ∧ l.length = len ∧ Row W W.heap.size A l := by
  rcases open_slice Try.underlying22 hf with ⟨hcs, hx⟩ | ⟨a, len, cap, m, n, D, Pl, hcs, _, hl, hm, hmm, hx, hi⟩
  · obtain rfl : v = .slice none 0 0 := by simpa using hcs
    exact ⟨none, 0, 0, [], rfl, rfl, row_nil _ _ _⟩
  · obtain rfl : v = .slice (some a) len cap := by simpa using hcs
    have hm' : m = cap := by simpa using hmm
    subst hm'
    have hc : ∀ i, i < len → ∃ z, W.cell? (a.add i) = some (.int .i64 z) := fun i hil => by
      obtain ⟨cs', hc, ht⟩ := hi i (by omega)
      rw [cells3] at hc
      obtain ⟨z, rfl, _, _⟩ := DataW.trod_int Try.underlying3 ht
      obtain ⟨_, hcl, hat⟩ := World.cells?_some hc
      have := hat 0 (by omega)
      rw [Go.Deep.add_add, Nat.mul_one, Nat.add_zero] at this
      exact ⟨z, this⟩
    unfold maxLen at hm
    refine ⟨some a, len, m, mkL (readI W a) len, rfl, mkL_len _ _, by rw [mkL_len]; omega, fun hn => ?_⟩
    rw [mkL_len] at hn
    obtain ⟨z, hz⟩ := hc 0 hn
    obtain ⟨b, o, rfl, hb, hadd⟩ := addr_plain hz
    refine ⟨b, o, rfl, hb, fun i hil => ?_⟩
    rw [mkL_len] at hil
    obtain ⟨z, hz⟩ := hc i hil
    rw [mkL_el _ _ _ hil]
    have hr : readI W ⟨b, o, none⟩ i = z := by unfold readI; rw [hz]
    rw [hr, ← hadd i]; exact hz
set_option maxRecDepth 100000 in
theorem row_cap (hf : DataW.trod enc Try.prog W 0 (fun _ => true) true fuel 22 [v] = some x) : ∃ A len cap l, v = .slice A len cap ∧ l.length = len ∧ Row W W.heap.size A l ∧ len ≤ cap := by
  obtain ⟨A, len, cap, l, hv, hl, hr⟩ := row_of hf
  refine ⟨A, len, cap, l, hv, hl, hr, ?_⟩
  rcases open_slice Try.underlying22 hf with ⟨hcs, hx⟩ | ⟨a, len', cap', m, n, D, Pl, hcs, _, hl', hm, hmm, hx, hi⟩
  · have : v = .slice none 0 0 := by simpa using hcs
    rw [hv] at this
    injection this with _ h1 h2
    omega
  · have : v = .slice (some a) len' cap' := by simpa using hcs
    rw [hv] at this
    injection this with _ h1 h2
    have hm' : m = cap' := by simpa using hmm
    omega
end
/-- The range of an int that came in. -/
theorem i64_range {x : Int} (h : (Lit.int .i64 x).wf = true) : -9223372036854775808 ≤ x ∧ x ≤ 9223372036854775807 := bounds_i64 h
theorem u16_range {x : Int} (h : (Lit.int .u16 x).wf = true) : 0 ≤ x ∧ x ≤ 65535 := bounds_u16 h
end Go.Proofs.Ythleekdkbgnabaa
