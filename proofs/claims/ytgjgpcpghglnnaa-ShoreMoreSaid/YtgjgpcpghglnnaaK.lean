/-
  What jobs that came in are in memory.
-/
import Derived.Test.YtgjgpcpghglnnaaRows
import Derived.Test.YtgjgpcpghglnnaaData
import Derived.ProofKit
import Derived.OpenShut
import Derived.ShutString
import Derived.ChangeOld
import Derived.Below
import Derived.Stop.Joined
import Derived.Lib.SmallJoins
namespace Go.Proofs.Ytgjgpcpghglnnaa
open Go.Joins Go.ChangeShapes Go.WideShapes Go.ChangeAt Go.RowKit Go.Deep M
set_option linter.unusedVariables false
set_option linter.unusedSimpArgs false

theorem own : ownKnob Try.prog.godebug = none := by kernel_rfl
theorem laidOut : laidOutB Try.prog = true := by kernel_rfl
theorem cells3 : Try.prog.cellsOf 3 = 1 := by kernel_rfl
theorem cells54 : Try.prog.cellsOf 54 = 2 := by kernel_rfl

/-- A slice whose cells are known: its address is plain, and lies below the heap's end. -/
theorem addr_plain {w : World} {a : Addr} {v : Value} (h : w.cell? (a.add 0) = some v) : ∃ b o, a = ⟨b, o, none⟩ ∧ b < w.heap.size ∧ ∀ i, a.add i = ⟨b, o + i, none⟩ := by
  obtain ⟨b, o, s⟩ := a
  have h0 : w.cell? ⟨b, o, s⟩ = some v := by simpa [Addr.add] using h
  have hs : s = none := by simpa using World.cell?_spot h0
  subst hs
  exact ⟨b, o, rfl, World.block_lt_of_cell? _ _ h0, fun i => by unfold Addr.add; split <;> simp_all⟩
def mkJ (F : Nat → Jb) (n : Nat) : List Jb := (List.range n).map F
theorem mkJ_len (F : Nat → Jb) (n : Nat) : (mkJ F n).length = n := by simp [mkJ]
theorem mkJ_el (F : Nat → Jb) (n i : Nat) (h : i < n) : jb (mkJ F n) i = F i := by rw [jb_eq _ _ (by rw [mkJ_len]; exact h)]; simp [mkJ]
def readI (w : World) (a : Addr) (i : Nat) : Int := match w.cell? (a.add i) with | some (.int _ n) => n | _ => 0
section
variable {H : Type} {enc : TypeId × Value → H} {W : World} {fuel : Nat} {v : Value} {x : DataW H × List MemPlace}

set_option maxRecDepth 100000 in
/-- JOBS THAT CAME IN. -/
theorem jbs_of (hf : DataW.trod enc Try.prog W 0 (fun _ => true) true fuel 51 [v] = some x) : ∃ A len cap D, v = .slice A len cap ∧ D.length = len ∧ Jbs W W.heap.size A D ∧ len ≤ cap := by
  rcases open_slice Try.underlying51 hf with ⟨hcs, hx⟩ | ⟨a, len, cap, m, n, D, Pl, hcs, _, hl, hm, hmm, hx, hi⟩
  · obtain rfl : v = .slice none 0 0 := by simpa using hcs
    exact ⟨none, 0, 0, [], rfl, rfl, jbs_nil _ _ _, Nat.le_refl _⟩
  · obtain rfl : v = .slice (some a) len cap := by simpa using hcs
    have hm' : m = cap := by simpa using hmm
    subst hm'
    have hc : ∀ i, i < len → ∃ x y : Int, W.cell? (a.add (i * 2)) = some (.int .i64 x) ∧ W.cell? (a.add (i * 2 + 1)) = some (.int .i64 y) := fun i hil => by
      obtain ⟨cs', hc, ht⟩ := hi i (by omega)
      rw [cells54] at hc
      obtain ⟨_, hcl, hat⟩ := World.cells?_some hc
      obtain ⟨y0, y1, n', hx', hlen, h0, h1⟩ := trod_struct2 Try.underlying54 ht
      have a0 := hat 0 (by omega)
      have a1 := hat 1 (by omega)
      rw [Go.Deep.add_add] at a0 a1
      match cs', hcl with
      | [c0, c1], _ =>
        obtain ⟨z0, e0, _, _⟩ := DataW.trod_int Try.underlying3 h0
        obtain ⟨z1, e1, _, _⟩ := DataW.trod_int Try.underlying3 h1
        obtain rfl : c0 = .int .i64 z0 := by simpa [cells3] using e0
        obtain rfl : c1 = .int .i64 z1 := by simpa [cells3] using e1
        exact ⟨z0, z1, a0, a1⟩
    unfold maxLen at hm
    refine ⟨some a, len, m, mkJ (fun i => ⟨readI W a (i * 2), readI W a (i * 2 + 1)⟩) len, rfl, mkJ_len _ _, ⟨by rw [mkJ_len]; omega, fun hn => ?_⟩, by omega⟩
    rw [mkJ_len] at hn
    obtain ⟨z, _, hz, _⟩ := hc 0 hn
    obtain ⟨b, o, rfl, hb, hadd⟩ := addr_plain (by simpa using hz)
    refine ⟨b, o, rfl, hb, fun i hil => ?_⟩
    rw [mkJ_len] at hil
    obtain ⟨z0, z1, q0, q1⟩ := hc i hil
    rw [mkJ_el _ _ _ hil]
    have hr0 : readI W ⟨b, o, none⟩ (i * 2) = z0 := by unfold readI; rw [q0]
    have hr1 : readI W ⟨b, o, none⟩ (i * 2 + 1) = z1 := by unfold readI; rw [q1]
    simp only [hr0, hr1]
    rw [hadd] at q0 q1
    exact ⟨q0, q1⟩
end
theorem cells51 : Try.prog.cellsOf 51 = 1 := by kernel_rfl
theorem choose_fun {n : Nat} {P : Nat → Bc → Prop} (h : ∀ i, i < n → ∃ z, P i z) : ∃ f : Nat → Bc, ∀ i, i < n → P i (f i) :=
  ⟨fun i => if hi : i < n then Classical.choose (h i hi) else ⟨[], none, 0⟩, fun i hi => by
    simp only [dif_pos hi]; exact Classical.choose_spec (h i hi)⟩
def mkB (f : Nat → Bc) (n : Nat) : List Bc := (List.range n).map f
theorem mkB_len (f : Nat → Bc) (n : Nat) : (mkB f n).length = n := by simp [mkB]
theorem mkB_at (f : Nat → Bc) (n i : Nat) (h : i < n) : bc (mkB f n) i = f i := by simp [bc, mkB, List.getD, h]
section
variable {H : Type} {enc : TypeId × Value → H} {W : World} {fuel : Nat} {v : Value} {x : DataW H × List MemPlace}
set_option maxRecDepth 100000 in
/-- BEACHES THAT CAME IN. -/
theorem bcs_of (hf : DataW.trod enc Try.prog W 0 (fun _ => true) true fuel 22 [v] = some x) : ∃ A len cap D, v = .slice A len cap ∧ D.length = len ∧ Bcs W W.heap.size A D := by
  rcases open_slice Try.underlying22 hf with ⟨hcs, hx⟩ | ⟨a, len, cap, m, n, D, Pl, hcs, _, hl, hm, hmm, hx, hi⟩
  · obtain rfl : v = .slice none 0 0 := by simpa using hcs
    exact ⟨none, 0, 0, [], rfl, rfl, by simp, fun h => absurd h (by simp), fun i hi => absurd hi (by simp)⟩
  · obtain rfl : v = .slice (some a) len cap := by simpa using hcs
    have hm' : m = cap := by simpa using hmm
    subst hm'
    have hc : ∀ i, i < len → ∃ z : Bc, W.cell? (a.add i) = some (.slice z.A z.l.length z.c) ∧ Jbs W W.heap.size z.A z.l ∧ z.l.length ≤ z.c := fun i hil => by
      obtain ⟨cs', hc, ht⟩ := hi i (by omega)
      rw [cells51] at hc
      obtain ⟨_, hcl, hat⟩ := World.cells?_some hc
      have a0 := hat 0 (by omega)
      rw [Go.Deep.add_add, Nat.mul_one, Nat.add_zero] at a0
      match cs', hcl with
      | [c0], _ =>
        obtain ⟨A, n', c, l, e1, e2, hl', hcap⟩ := jbs_of (show DataW.trod enc Try.prog W 0 (fun _ => true) true _ 51 [c0] = some _ by simpa using ht)
        subst e1
        subst e2
        exact ⟨⟨l, A, c⟩, a0, hl', hcap⟩
    unfold maxLen at hm
    obtain ⟨f, hfs⟩ := choose_fun hc
    refine ⟨some a, len, m, mkB f len, rfl, mkB_len _ _, by rw [mkB_len]; omega, fun hn => ?_, fun i hil => ?_⟩
    · rw [mkB_len] at hn
      obtain ⟨hz, _⟩ := hfs 0 hn
      obtain ⟨b, o, rfl, hb, hadd⟩ := addr_plain hz
      refine ⟨b, o, rfl, hb, fun i hil => ?_⟩
      rw [mkB_len] at hil
      obtain ⟨q0, q1, q2⟩ := hfs i hil
      rw [bl_at, mkB_at _ _ _ hil]
      rw [hadd] at q0
      exact ⟨q0, q1⟩
    · rw [mkB_len] at hil
      obtain ⟨q0, q1, q2⟩ := hfs i hil
      rw [bl_at, mkB_at _ _ _ hil]
      exact q2
end
/-- The range of an int that came in. -/
theorem i64_range {x : Int} (h : (Lit.int .i64 x).wf = true) : -9223372036854775808 ≤ x ∧ x ≤ 9223372036854775807 := bounds_i64 h
end Go.Proofs.Ytgjgpcpghglnnaa
