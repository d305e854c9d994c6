/-
  A pair of bytes that came in at the door.
-/
import Derived.Test.YtnbgjgiknfcdkaaDoorQ
import Derived.Test.YtnbgjgiknfcdkaaDoorR
namespace Go.Proofs.YtnbgjgiknfcdkaaDoor
open Go.ChangeShapes Go.WideShapes Go.ChangeAt Go.RowKit Go.Deep M
set_option linter.unusedVariables false
set_option linter.unusedSimpArgs false

theorem Row.up {w w' : World} {A : Option Addr} {l : List Int} (h : Row w w.heap.size A l) (hb : Below w.heap.size w w') : Row w' w'.heap.size A l := (h.below hb).more hb.size
theorem Tri.up {w w' : World} {b : Nat} {x y z : Value} (h : Tri w b x y z) (hb : Below w.heap.size w w') : Tri w' b x y z := h.below hb h.lt

theorem und59 : Tryd.prog.underlying 59 = some (.array 2 5) := by kernel_rfl
theorem und5 : Tryd.prog.underlying 5 = some (.int .u8) := by kernel_rfl
theorem size59 : Tryd.prog.cellsOf 59 = 2 := by kernel_rfl
theorem size5 : Tryd.prog.cellsOf 5 = 1 := by kernel_rfl

theorem byte_of {z : Int} (h : (Lit.int IntKind.u8 z).wf = true) : ∃ n : Nat, z = n ∧ n ≤ 255 := by
  have h2 : 0 ≤ z ∧ z ≤ 255 := by
    simp [Lit.wf] at h
    exact ⟨h.1, h.2⟩
  exact ⟨z.toNat, by omega, by omega⟩

set_option maxRecDepth 100000 in
theorem pair_in {H : Type} {enc : TypeId × Value → H} {W : World} {v : Value} {d : DataW H} {p : List MemPlace} {b0 : Nat} (hv : Value.okWide Tryd.prog W .any b0 59 v) (h : DataW.Trod enc Tryd.prog W 0 (fun _ => true) true 59 v d p) :
    ∃ n m : Nat, v = .agg #[.int .u8 n, .int .u8 m] ∧ n ≤ 255 ∧ m ≤ 255 := by
  simp only [Value.okWide, und59] at hv
  obtain ⟨cs, rfl, hsz, _⟩ := hv
  rw [size59] at hsz
  obtain ⟨fuel, hf⟩ := h
  obtain ⟨xs, m1, _, _, hlen, hn, hel⟩ := DataW.trod_array und59 hf
  match cs, hsz with
  | ⟨[a, b]⟩, _ =>
    have h0 := hel 0 (by omega)
    have h1 := hel 1 (by omega)
    rw [size5] at h0 h1
    have k0 : xs[0]? = some (xs[0]'(by omega)) := List.getElem?_eq_getElem (by omega)
    have k1 : xs[1]? = some (xs[1]'(by omega)) := List.getElem?_eq_getElem (by omega)
    obtain ⟨z0, e0, _, w0⟩ := DataW.trod_int und5 (h0.trans k0)
    obtain ⟨z1, e1, _, w1⟩ := DataW.trod_int und5 (h1.trans k1)
    obtain ⟨n, rfl, hn0⟩ := byte_of w0
    obtain ⟨m, rfl, hm0⟩ := byte_of w1
    simp [Value.cells] at e0 e1
    exact ⟨n, m, by rw [e0, e1], hn0, hm0⟩
end Go.Proofs.YtnbgjgiknfcdkaaDoor
