/-
  Swap and Next for any list; a list of integers that came in, and how much room it has.
-/
import Derived.Test.YtgjgpcpghglnnaaMe
import Derived.Test.YtgjgpcpghglnnaaZa
namespace Go.Proofs.Ytgjgpcpghglnnaa
open Go.Joins Go.ChangeShapes Go.WideShapes Go.ChangeAt Go.RowKit Go.Deep M
set_option linter.unusedVariables false
set_option linter.unusedSimpArgs false
section
variable (B : Nat) (A Ao : Option Addr) (c co : Nat) (D : List Bc) (o : List Int) (z : Int) (w : World) (h : Bcs w B A D) (ho : Row w B Ao o) (hB : B ≤ w.heap.size) (hL : ∀ i, i < D.length → (be (bl D) i).length ≤ 100)
include h ho hB hL
theorem Swap_any (hz : -9223372036854775808 ≤ z ∧ z ≤ 9223372036854775807) : Calls Try.prog 39 #[.slice A D.length c, .slice Ao o.length co, .int .i64 z] w (SwP (swR (bl D) o z) w) := by
  by_cases he : swE (bl D) o z = 0
  · obtain ⟨h1, a, rfl, ha, hne, hR⟩ := swE_ok he
    rw [hR]
    exact Swap_any_ok B A Ao c co D o a w h ho hB hL h1 ha hne
  · exact Swap_any_bad B A Ao c co D o z w h ho hB hL hz he
theorem Swap_ref (hz : -9223372036854775808 ≤ z ∧ z ≤ 9223372036854775807) : Calls Try.prog 40 #[.slice A D.length c, .slice Ao o.length co, .int .i64 z] w (SwP (swR (bl D) o z) w) := by
  by_cases he : swE (bl D) o z = 0
  · obtain ⟨h1, a, rfl, ha, hne, hR⟩ := swE_ok he
    rw [hR]
    exact Swap_ref_ok B A Ao c co D o a w h ho hB hL h1 ha hne
  · exact Swap_ref_bad B A Ao c co D o z w h ho hB hL hz he
theorem Next_ref (hco : o.length ≤ co) : Calls Try.prog 42 #[.slice A D.length c, .slice Ao o.length co] w (NxP (nxR (bl D) o) w) := by
  by_cases he : errO (bl D) o = 0
  · exact Next_ref_ok B A Ao c co D o w h ho hB hL hco he
  · exact Next_ref_bad B A Ao c co D o w h ho hB hL he
end
section
variable {H : Type} {enc : TypeId × Value → H} {W : World} {fuel : Nat} {v : Value} {x : DataW H × List MemPlace}
set_option maxRecDepth 100000 in
theorem row_cap (hf : DataW.trod enc Try.prog W 0 (fun _ => true) true fuel 23 [v] = some x) : ∃ A len cap l, v = .slice A len cap ∧ l.length = len ∧ Row W W.heap.size A l ∧ len ≤ cap := by
  obtain ⟨A, len, cap, l, hv, hl, hr⟩ := row_of hf
  refine ⟨A, len, cap, l, hv, hl, hr, ?_⟩
  rcases open_slice Try.underlying23 hf with ⟨hcs, hx⟩ | ⟨a, len', cap', m, n, D, Pl, hcs, _, hl', hm, hmm, hx, hi⟩
  · have : v = .slice none 0 0 := by simpa using hcs
    rw [hv] at this
    injection this with _ h1 h2
    omega
  · have : v = .slice (some a) len' cap' := by simpa using hcs
    rw [hv] at this
    injection this with _ h1 h2
    have hm' : m = cap' := by simpa using hmm
    omega
end
end Go.Proofs.Ytgjgpcpghglnnaa
