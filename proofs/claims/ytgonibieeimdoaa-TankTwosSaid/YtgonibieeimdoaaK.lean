/-
  What numbers, lists of numbers, deeds and lists of deeds that came in are in memory.
-/
import Derived.Test.YtgonibieeimdoaaRows
import Derived.Test.YtgonibieeimdoaaA
import Derived.ProofKit
import Derived.OpenShut
import Derived.ShutString
import Derived.ChangeOld
import Derived.Below
import Derived.Stop.Joined
import Derived.Lib.SmallJoins
namespace Go.Proofs.Ytgonibieeimdoaa
open Go.Joins Go.ChangeShapes Go.WideShapes Go.ChangeAt Go.RowKit Go.Deep M
set_option linter.unusedVariables false
set_option linter.unusedSimpArgs false

theorem own : ownKnob Try.prog.godebug = none := by kernel_rfl
theorem laidOut : laidOutB Try.prog = true := by kernel_rfl
theorem cells3 : Try.prog.cellsOf 3 = 1 := by kernel_rfl
theorem cells24 : Try.prog.cellsOf 24 = 3 := by kernel_rfl

/-- A slice whose cells are known: its address is plain, and lies below the heap's end. -/
theorem addr_plain {w : World} {a : Addr} {v : Value} (h : w.cell? (a.add 0) = some v) : ∃ b o, a = ⟨b, o, none⟩ ∧ b < w.heap.size ∧ ∀ i, a.add i = ⟨b, o + i, none⟩ := by
  obtain ⟨b, o, s⟩ := a
  have h0 : w.cell? ⟨b, o, s⟩ = some v := by simpa [Addr.add] using h
  have hs : s = none := by simpa using World.cell?_spot h0
  subst hs
  exact ⟨b, o, rfl, World.block_lt_of_cell? _ _ h0, fun i => by unfold Addr.add; split <;> simp_all⟩
def readI (w : World) (a : Addr) (i : Nat) : Int := match w.cell? (a.add i) with | some (.int _ n) => n | _ => 0
def mkI (f : Nat → Int) (n : Nat) : List Int := (List.range n).map f
theorem mkI_len (f : Nat → Int) (n : Nat) : (mkI f n).length = n := by simp [mkI]
theorem mkI_el (f : Nat → Int) (n i : Nat) (h : i < n) : el (mkI f n) i = f i := by unfold el mkI; simp [List.getD, h]
def mkD (f : Nat → Dd) (n : Nat) : List Dd := (List.range n).map f
theorem mkD_len (f : Nat → Dd) (n : Nat) : (mkD f n).length = n := by simp [mkD]
theorem mkD_el (f : Nat → Dd) (n i : Nat) (h : i < n) : dd (mkD f n) i = f i := by unfold dd mkD; simp [List.getD, h]

section
variable {H : Type} {enc : TypeId × Value → H} {W : World} {fuel : Nat} {v : Value} {x : DataW H × List MemPlace}

theorem row_of (hf : DataW.trod enc Try.prog W 0 (fun _ => true) true fuel 22 [v] = some x) : ∃ A len cap l, v = .slice A len cap ∧ l.length = len ∧ Row W W.heap.size A l := by
  rcases open_slice Try.underlying22 hf with ⟨hcs, hx⟩ | ⟨a, len, cap, m, n, D, Pl, hcs, _, hl, hm, hmm, hx, hi⟩
  · obtain rfl : v = .slice none 0 0 := by simpa using hcs
    exact ⟨none, 0, 0, [], rfl, rfl, row_nil _ _ _⟩
  · obtain rfl : v = .slice (some a) len cap := by simpa using hcs
    have hm' : m = cap := by simpa using hmm
    subst hm'
    have hc : ∀ i, i < len → ∃ z, W.cell? (a.add i) = some (.int .i64 z) := fun i hil => by
      obtain ⟨cs', hc, ht⟩ := hi i (by omega)
      rw [cells3] at hc
      obtain ⟨z, rfl, _, _⟩ := DataW.trod_int Try.underlying3 ht
      obtain ⟨_, hcl, hat⟩ := World.cells?_some hc
      have := hat 0 (by omega)
      rw [Go.Deep.add_add, Nat.mul_one, Nat.add_zero] at this
      exact ⟨z, this⟩
    unfold maxLen at hm
    refine ⟨some a, len, m, mkI (readI W a) len, rfl, mkI_len _ _, by rw [mkI_len]; omega, fun hn => ?_⟩
    rw [mkI_len] at hn
    obtain ⟨z, hz⟩ := hc 0 hn
    obtain ⟨b, o, rfl, hb, hadd⟩ := addr_plain hz
    refine ⟨b, o, rfl, hb, fun i hil => ?_⟩
    rw [mkI_len] at hil
    obtain ⟨z, hz⟩ := hc i hil
    rw [mkI_el _ _ _ hil]
    have hr : readI W ⟨b, o, none⟩ i = z := by unfold readI; rw [hz]
    rw [hr, ← hadd i]; exact hz

set_option maxRecDepth 100000 in
/-- DEEDS THAT CAME IN. -/
theorem dls_of (hf : DataW.trod enc Try.prog W 0 (fun _ => true) true fuel 32 [v] = some x) : ∃ A len cap D, v = .slice A len cap ∧ D.length = len ∧ Dls W W.heap.size A D := by
  rcases open_slice Try.underlying32 hf with ⟨hcs, hx⟩ | ⟨a, len, cap, m, n, D, Pl, hcs, _, hl, hm, hmm, hx, hi⟩
  · obtain rfl : v = .slice none 0 0 := by simpa using hcs
    exact ⟨none, 0, 0, [], rfl, rfl, dls_nil _ _ _⟩
  · obtain rfl : v = .slice (some a) len cap := by simpa using hcs
    have hm' : m = cap := by simpa using hmm
    subst hm'
    have hc : ∀ i, i < len → ∃ x y z : Int, W.cell? (a.add (i * 3)) = some (.int .i64 x) ∧ W.cell? (a.add (i * 3 + 1)) = some (.int .i64 y) ∧ W.cell? (a.add (i * 3 + 2)) = some (.int .i64 z) := fun i hil => by
      obtain ⟨cs', hc, ht⟩ := hi i (by omega)
      rw [cells24] at hc
      obtain ⟨_, hcl, hat⟩ := World.cells?_some hc
      obtain ⟨y0, y1, y2, n', hx', hlen, h0, h1, h2⟩ := trod_struct3 Try.underlying24 ht
      have a0 := hat 0 (by omega)
      have a1 := hat 1 (by omega)
      have a2 := hat 2 (by omega)
      rw [Go.Deep.add_add] at a0 a1 a2
      match cs', hcl with
      | [c0, c1, c2], _ =>
        obtain ⟨z0, e0, _, _⟩ := DataW.trod_int Try.underlying3 h0
        obtain ⟨z1, e1, _, _⟩ := DataW.trod_int Try.underlying3 h1
        obtain ⟨z2, e2, _, _⟩ := DataW.trod_int Try.underlying3 h2
        obtain rfl : c0 = .int .i64 z0 := by simpa [cells3] using e0
        obtain rfl : c1 = .int .i64 z1 := by simpa [cells3] using e1
        obtain rfl : c2 = .int .i64 z2 := by simpa [cells3] using e2
        exact ⟨z0, z1, z2, a0, a1, a2⟩
    unfold maxLen at hm
    refine ⟨some a, len, m, mkD (fun i => ⟨readI W a (i * 3), readI W a (i * 3 + 1), readI W a (i * 3 + 2)⟩) len, rfl, mkD_len _ _, by rw [mkD_len]; omega, fun hn => ?_⟩
    rw [mkD_len] at hn
    obtain ⟨z, _, _, hz, _, _⟩ := hc 0 hn
    obtain ⟨b, o, rfl, hb, hadd⟩ := addr_plain (by simpa using hz)
    refine ⟨b, o, rfl, hb, fun i hil => ?_⟩
    rw [mkD_len] at hil
    obtain ⟨z0, z1, z2, q0, q1, q2⟩ := hc i hil
    rw [mkD_el _ _ _ hil]
    have hr0 : readI W ⟨b, o, none⟩ (i * 3) = z0 := by unfold readI; rw [q0]
    have hr1 : readI W ⟨b, o, none⟩ (i * 3 + 1) = z1 := by unfold readI; rw [q1]
    have hr2 : readI W ⟨b, o, none⟩ (i * 3 + 2) = z2 := by unfold readI; rw [q2]
    simp only [hr0, hr1, hr2]
    rw [hadd] at q0 q1 q2
    exact ⟨q0, q1, q2⟩

set_option maxRecDepth 100000 in
/-- A DEED THAT CAME IN. -/
theorem deed_in {d : DataW H} {p : List MemPlace} {b0 : Nat} (hv : Value.okWide Try.prog W .any b0 24 v) (h : DataW.Trod enc Try.prog W 0 (fun _ => true) true 24 v d p) :
    ∃ x : Dd, v = .agg #[.int .i64 x.d, .int .i64 x.f, .int .i64 x.t] := by
  obtain ⟨v0, v1, v2, y0, y1, y2, m, rfl, _, _, h0, h1, h2⟩ := open_agg3 Try.underlying24 (by kernel_rfl) cells24 hv h
  obtain ⟨z0, e0, _, _⟩ := DataW.trod_int Try.underlying3 h0
  obtain ⟨z1, e1, _, _⟩ := DataW.trod_int Try.underlying3 h1
  obtain ⟨z2, e2, _, _⟩ := DataW.trod_int Try.underlying3 h2
  obtain rfl : v0 = .int .i64 z0 := by simpa using e0
  obtain rfl : v1 = .int .i64 z1 := by simpa using e1
  obtain rfl : v2 = .int .i64 z2 := by simpa using e2
  exact ⟨⟨z0, z1, z2⟩, rfl⟩
end

/-- The range of an int, and of a uint8, that came in. -/
theorem i64_range {x : Int} (h : (Lit.int .i64 x).wf = true) : -9223372036854775808 ≤ x ∧ x ≤ 9223372036854775807 := bounds_i64 h
end Go.Proofs.Ytgonibieeimdoaa
