/-
  What two numbers in an array that came in are in memory; two numbers in a box.
-/
import Derived.Test.YthleekdkbgnabaaKa
namespace Go.Proofs.Ythleekdkbgnabaa
open Go.Joins Go.ChangeShapes Go.WideShapes Go.ChangeAt Go.RowKit Go.Deep M
set_option linter.unusedVariables false
set_option linter.unusedSimpArgs false

theorem cells62 : Try.prog.cellsOf 62 = 2 := by kernel_rfl
theorem cells56 : Try.prog.cellsOf 56 = 1 := by kernel_rfl
section
variable {H : Type} {enc : TypeId × Value → H} {P : Program} {W : World} {base : Nat} {spare : Nat → Bool} {held : Bool} {v : Value}
theorem trod_arr2 {t e : TypeId} {fuel : Nat} {c0 c1 : Value} {x : DataW H × List MemPlace} (ht : P.underlying t = some (.array 2 e)) (hce : P.cellsOf e = 1)
    (h : DataW.trod enc P W base spare held fuel t [c0, c1] = some x) :
    ∃ y0 y1 n, DataW.trod enc P W base spare held n e [c0] = some y0 ∧ DataW.trod enc P W base spare held n e [c1] = some y1 := by
  cases fuel with
  | zero => simp [DataW.trod] at h
  | succ n =>
    unfold DataW.trod at h
    rw [ht] at h
    have r2 : List.range 2 = [0, 1] := rfl
    simp [r2, hce] at h
    obtain ⟨_, h⟩ := h
    cases h0 : DataW.trod enc P W base spare held n e [c0] with
    | none => simp [h0] at h
    | some y0 =>
      cases h1 : DataW.trod enc P W base spare held n e [c1] with
      | none => simp [h0, h1] at h
      | some y1 => exact ⟨y0, y1, n, h0, h1⟩
end
section
variable {H : Type} {enc : TypeId × Value → H} {W : World} {v : Value}
set_option maxRecDepth 100000 in
/-- TWO SMALL NUMBERS THAT CAME IN. -/
theorem arr2u_in {d : DataW H} {p : List MemPlace} {b0 : Nat} (hv : Value.okWide Try.prog W .any b0 62 v) (h : DataW.Trod enc Try.prog W 0 (fun _ => true) true 62 v d p) :
    ∃ a0 a1 : Int, v = .agg #[.int .u16 a0, .int .u16 a1] ∧ (0 ≤ a0 ∧ a0 ≤ 65535) ∧ (0 ≤ a1 ∧ a1 ≤ 65535) := by
  obtain ⟨cs, rfl, hsz⟩ := okWide_arr4 Try.underlying62 hv
  obtain ⟨l, rfl⟩ : ∃ l : List Value, cs = l.toArray := ⟨cs.toList, by simp⟩
  have hl : l.length = 2 := by simpa using hsz.trans cells62
  obtain ⟨c0, c1, rfl⟩ : ∃ c0 c1, l = [c0, c1] := by
    match l, hl with
    | [c0, c1], _ => exact ⟨c0, c1, rfl⟩
  obtain ⟨fuel, hf⟩ := h
  obtain ⟨y0, y1, n, h0, h1⟩ := trod_arr2 Try.underlying62 cells56 hf
  obtain ⟨z0, e0, _, w0⟩ := DataW.trod_int Try.underlying56 h0
  obtain ⟨z1, e1, _, w1⟩ := DataW.trod_int Try.underlying56 h1
  obtain rfl : c0 = .int .u16 z0 := by simpa using e0
  obtain rfl : c1 = .int .u16 z1 := by simpa using e1
  exact ⟨z0, z1, rfl, u16_range w0, u16_range w1⟩
end
end Go.Proofs.Ythleekdkbgnabaa
