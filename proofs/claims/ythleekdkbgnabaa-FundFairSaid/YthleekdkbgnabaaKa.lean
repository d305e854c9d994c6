/-
  What four numbers in an array that came in are in memory.
-/
import Derived.Test.YthleekdkbgnabaaK
import Derived.Laws.IdiomArrays
namespace Go.Proofs.Ythleekdkbgnabaa
open Go.Joins Go.ChangeShapes Go.WideShapes Go.ChangeAt Go.RowKit Go.Deep M
set_option linter.unusedVariables false
set_option linter.unusedSimpArgs false

theorem cells48 : Try.prog.cellsOf 48 = 4 := by kernel_rfl
theorem okWide_arr4 {P : Program} {w : World} {r : Reach} {base : Nat} {t e : TypeId} {n : Nat} {v : Value} (ht : P.underlying t = some (.array n e)) (h : Value.okWide P w r base t v) : ∃ cs : Array Value, v = .agg cs ∧ cs.size = P.cellsOf t := by
  simp only [Value.okWide, ht] at h
  obtain ⟨cs, h1, h2, _⟩ := h
  exact ⟨cs, h1, h2⟩
section
variable {H : Type} {enc : TypeId × Value → H} {W : World} {fuel : Nat} {v : Value} {x : DataW H × List MemPlace}
set_option maxRecDepth 100000 in
/-- A LIST OF INTEGERS THAT CAME IN, WITH ITS ROOM. -/
theorem row_cap9 (hf : DataW.trod enc Try.prog W 0 (fun _ => true) true fuel 22 [v] = some x) : ∃ A len cap l, v = .slice A len cap ∧ l.length = len ∧ Row W W.heap.size A l ∧ len ≤ cap ∧ cap ≤ 9223372036854775807 := by
  obtain ⟨A, len, cap, l, hv, hl, hr⟩ := row_of hf
  refine ⟨A, len, cap, l, hv, hl, hr, ?_⟩
  rcases open_slice Try.underlying22 hf with ⟨hcs, hx⟩ | ⟨a, len', cap', m, n, D, Pl, hcs, _, hl', hm, hmm, hx, hi⟩
  · have : v = .slice none 0 0 := by simpa using hcs
    rw [hv] at this
    injection this with _ h1 h2
    exact ⟨by omega, by omega⟩
  · have : v = .slice (some a) len' cap' := by simpa using hcs
    rw [hv] at this
    injection this with _ h1 h2
    have hm' : m = cap' := by simpa using hmm
    unfold maxLen at hm
    exact ⟨by omega, by omega⟩
set_option maxRecDepth 100000 in
/-- FOUR NUMBERS THAT CAME IN. -/
theorem arr4_in {d : DataW H} {p : List MemPlace} {b0 : Nat} (hv : Value.okWide Try.prog W .any b0 48 v) (h : DataW.Trod enc Try.prog W 0 (fun _ => true) true 48 v d p) :
    ∃ a0 a1 a2 a3 : Int, v = .agg #[.int .i64 a0, .int .i64 a1, .int .i64 a2, .int .i64 a3] := by
  obtain ⟨cs, rfl, hsz⟩ := okWide_arr4 Try.underlying48 hv
  obtain ⟨c0, c1, c2, c3, rfl⟩ := array4 (hsz.trans cells48)
  obtain ⟨fuel, hf⟩ := h
  obtain ⟨y0, y1, y2, y3, n, _, h0, h1, h2, h3⟩ := trod_array4 Try.underlying48 cells3 hf
  obtain ⟨z0, e0, _, _⟩ := DataW.trod_int Try.underlying3 h0
  obtain ⟨z1, e1, _, _⟩ := DataW.trod_int Try.underlying3 h1
  obtain ⟨z2, e2, _, _⟩ := DataW.trod_int Try.underlying3 h2
  obtain ⟨z3, e3, _, _⟩ := DataW.trod_int Try.underlying3 h3
  obtain rfl : c0 = .int .i64 z0 := by simpa using e0
  obtain rfl : c1 = .int .i64 z1 := by simpa using e1
  obtain rfl : c2 = .int .i64 z2 := by simpa using e2
  obtain rfl : c3 = .int .i64 z3 := by simpa using e3
  exact ⟨z0, z1, z2, z3, rfl⟩
end
end Go.Proofs.Ythleekdkbgnabaa
