/-
  What a [][]int, an int and a small count that came in are in memory.
-/
import Derived.Test.YtmpmlgognkmfgaaRows
import Derived.Test.YtmpmlgognkmfgaaData
import Derived.ProofKit
import Derived.OpenShut
import Derived.ShutString
import Derived.ChangeOld
import Derived.Below
import Derived.Deep.Matrix
namespace Go.Proofs.Ytmpmlgognkmfgaa
open Go.ChangeShapes Go.WideShapes Go.ChangeAt Go.RowKit Go.Deep M
set_option linter.unusedVariables false
set_option linter.unusedSimpArgs false

theorem own : ownKnob Try.prog.godebug = none := by kernel_rfl
theorem laidOut : laidOutB Try.prog = true := by kernel_rfl
theorem cells31 : Try.prog.cellsOf 31 = 1 := by kernel_rfl
theorem cells3 : Try.prog.cellsOf 3 = 1 := by kernel_rfl

/-- A slice whose cells are known: its address is plain, and lies below the heap's end. -/
theorem addr_plain {w : World} {a : Addr} {v : Value} (h : w.cell? (a.add 0) = some v) : ∃ b o, a = ⟨b, o, none⟩ ∧ b < w.heap.size ∧ ∀ i, a.add i = ⟨b, o + i, none⟩ := by
  obtain ⟨b, o, s⟩ := a
  have h0 : w.cell? ⟨b, o, s⟩ = some v := by simpa [Addr.add] using h
  have hs : s = none := by simpa using World.cell?_spot h0
  subst hs
  exact ⟨b, o, rfl, World.block_lt_of_cell? _ _ h0, fun i => by unfold Addr.add; split <;> simp_all⟩

/-- A TIDE THAT CAME IN. -/
theorem mat_of {H : Type} {enc : TypeId × Value → H} {W : World} {fuel : Nat} {a0 : Option Addr} {len cap : Nat} {x : DataW H × List MemPlace}
    (hf : DataW.trod enc Try.prog W 0 (fun _ => true) true fuel 22 (Value.slice a0 len cap).cells.toList = some x) : ∃ T : List (List Int), T.length = len ∧ Mat W W.heap.size a0 T := by
  rcases open_int_rows Try.underlying22 Try.underlying31 Try.underlying3 cells31 cells3 hf with ⟨hcs0, hx⟩ | ⟨a, len', cap', A, L, C, Z, hcs0, _, hl, hm, hx, hrows⟩
  · simp [Value.cells] at hcs0
    obtain ⟨rfl, rfl, rfl⟩ := hcs0
    exact ⟨[], rfl, by simp, fun h => absurd h (by simp)⟩
  · simp [Value.cells] at hcs0
    obtain ⟨rfl, rfl, rfl⟩ := hcs0
    unfold maxLen at hm hrows
    let T : List (List Int) := (List.range len).map fun r => (Z r).take (L r)
    have hT : T.length = len := by simp [T]
    have hrow : ∀ i, i < len → row T i = (Z i).take (L i) := fun i hi => by
      rw [row_eq T i (by omega)]; simp [T]
    refine ⟨T, hT, by omega, fun hn => ?_⟩
    rw [hT] at hn
    obtain ⟨h0, _⟩ := hrows 0 (by omega)
    obtain ⟨b, o, rfl, hb, hadd⟩ := addr_plain h0
    refine ⟨b, o, rfl, hb, fun i hi => ?_⟩
    rw [hT] at hi
    obtain ⟨hc, hLC, hC, hZ, hwf, hnone, hsome⟩ := hrows i (by omega)
    have hlen : (row T i).length = L i := by rw [hrow i hi, List.length_take]; omega
    refine ⟨A i, C i, by rw [hlen, ← hadd i]; exact hc, by omega, fun hpos => ?_⟩
    rw [hlen] at hpos
    cases hA : A i with
    | none => have := hnone hA; omega
    | some a' =>
      obtain ⟨_, hcell⟩ := hsome a' hA
      have hc0 := hcell 0 (by omega)
      obtain ⟨b', o', rfl, hb', hadd'⟩ := addr_plain hc0
      refine ⟨b', o', rfl, hb', fun j hj => ?_⟩
      rw [hlen] at hj
      rw [← hadd' j, hcell j (by omega)]
      congr 2
      rw [hrow i hi]
      unfold el
      simp [List.getD, List.getElem?_take, hj]

/-- The range of an int, and of a uint16, that came in. -/
theorem i64_range {x : Int} (h : (Lit.int .i64 x).wf = true) : -9223372036854775808 ≤ x ∧ x ≤ 9223372036854775807 := bounds_i64 h
theorem u16_range {x : Int} (h : (Lit.int .u16 x).wf = true) : 0 ≤ x ∧ x ≤ 65535 := bounds_u16 h

end Go.Proofs.Ytmpmlgognkmfgaa
