/-
  What lists of integers, of jobs and of beaches are in memory, and how each is kept while new memory is made.
-/
import Derived.Test.YtgjgpcpghglnnaaChecked
import Derived.Test.YtgjgpcpghglnnaaMath
import Derived.WalkKit
import Derived.WalkSpells
import Derived.Handy
import Derived.Lib.Hide
import Derived.Deep.Draws
import Derived.Deep.QuietTactic
import Derived.BigQuiet
import Derived.BigRegion
import Derived.Deep.LoopGhost
import Derived.Deep.RegionWith
import Derived.Deep.RegionHeld3
import Derived.Deep.OwnRows
import Derived.Deep.Slices
import Derived.ChangeKeysEq
import Derived.Deep.AppendLies
import Derived.Deep.RegionHeldLaw
import Derived.Maps.AppendAt
namespace Go.Proofs.Ytgjgpcpghglnnaa
set_option linter.unusedSimpArgs false
open Go.RowKit Go.Deep M

/-- A slice of integers that reads as 'l'; all its cells lie below block B. -/
def Row (w : World) (B : Nat) (A : Option Addr) (l : List Int) : Prop :=
  l.length ≤ 9223372036854775807 ∧ (0 < l.length → ∃ b o, A = some ⟨b, o, none⟩ ∧ b < B ∧ ∀ i, i < l.length → w.cell? ⟨b, o + i, none⟩ = some (.int .i64 (el l i)))
/-- A slice of jobs. -/
def Jbs (w : World) (B : Nat) (A : Option Addr) (D : List Jb) : Prop :=
  D.length ≤ 9223372036854775807 ∧ (0 < D.length → ∃ b o, A = some ⟨b, o, none⟩ ∧ b < B ∧ ∀ i, i < D.length → w.cell? ⟨b, o + i * 2, none⟩ = some (.int .i64 (jb D i).h) ∧ w.cell? ⟨b, o + i * 2 + 1, none⟩ = some (.int .i64 (jb D i).m))

theorem Row.keep {w w' : World} {B : Nat} {A : Option Addr} {l : List Int} (h : Row w B A l) (hk : ∀ p : Addr, p.block < B → w'.cell? p = w.cell? p) : Row w' B A l :=
  ⟨h.1, fun hn => by
    obtain ⟨b, o, e, hb, hc⟩ := h.2 hn
    exact ⟨b, o, e, hb, fun i hi => (hk _ hb).trans (hc i hi)⟩⟩
theorem Row.below {w w' : World} {B : Nat} {A : Option Addr} {l : List Int} (h : Row w B A l) (hb : Below B w w') : Row w' B A l := h.keep fun _ hp => hb.cell hp
theorem Row.more {w : World} {B B' : Nat} {A : Option Addr} {l : List Int} (h : Row w B A l) (hB : B ≤ B') : Row w B' A l :=
  ⟨h.1, fun hn => by
    obtain ⟨b, o, e, hb, hc⟩ := h.2 hn
    exact ⟨b, o, e, by omega, hc⟩⟩
theorem Row.at_ {w : World} {B : Nat} {A : Option Addr} {l : List Int} (h : Row w B A l) (k : Nat) (hk : k < l.length) : ∃ b o, A = some ⟨b, o, none⟩ ∧ b < B ∧ w.cell? ⟨b, o + k, none⟩ = some (.int .i64 (el l k)) := by
  obtain ⟨b, o, e, hb, hc⟩ := h.2 (by omega)
  exact ⟨b, o, e, hb, hc k hk⟩
theorem Jbs.keep {w w' : World} {B : Nat} {A : Option Addr} {D : List Jb} (h : Jbs w B A D) (hk : ∀ p : Addr, p.block < B → w'.cell? p = w.cell? p) : Jbs w' B A D :=
  ⟨h.1, fun hn => by
    obtain ⟨b, o, e, hb, hc⟩ := h.2 hn
    exact ⟨b, o, e, hb, fun i hi => ⟨(hk _ hb).trans (hc i hi).1, (hk _ hb).trans (hc i hi).2⟩⟩⟩
theorem Jbs.below {w w' : World} {B : Nat} {A : Option Addr} {D : List Jb} (h : Jbs w B A D) (hb : Below B w w') : Jbs w' B A D := h.keep fun _ hp => hb.cell hp
theorem Jbs.more {w : World} {B B' : Nat} {A : Option Addr} {D : List Jb} (h : Jbs w B A D) (hB : B ≤ B') : Jbs w B' A D :=
  ⟨h.1, fun hn => by
    obtain ⟨b, o, e, hb, hc⟩ := h.2 hn
    exact ⟨b, o, e, by omega, hc⟩⟩
theorem Jbs.at_ {w : World} {B : Nat} {A : Option Addr} {D : List Jb} (h : Jbs w B A D) (k : Nat) (hk : k < D.length) : ∃ b o, A = some ⟨b, o, none⟩ ∧ b < B ∧ w.cell? ⟨b, o + k * 2, none⟩ = some (.int .i64 (jb D k).h) ∧ w.cell? ⟨b, o + k * 2 + 1, none⟩ = some (.int .i64 (jb D k).m) := by
  obtain ⟨b, o, e, hb, hc⟩ := h.2 (by omega)
  exact ⟨b, o, e, hb, hc k hk⟩
theorem row_nil (w : World) (B : Nat) (A : Option Addr) : Row w B A [] := ⟨by simp, fun h => absurd h (by simp)⟩
theorem jbs_nil (w : World) (B : Nat) (A : Option Addr) : Jbs w B A [] := ⟨by simp, fun h => absurd h (by simp)⟩
theorem Row.up {w w' : World} {A : Option Addr} {l : List Int} (h : Row w w.heap.size A l) (hb : Below w.heap.size w w') : Row w' w'.heap.size A l := (h.below hb).more hb.size
theorem Jbs.up {w w' : World} {A : Option Addr} {D : List Jb} (h : Jbs w w.heap.size A D) (hb : Below w.heap.size w w') : Jbs w' w'.heap.size A D := (h.below hb).more hb.size

theorem below_drewN {B : Nat} {a w : World} (h : Below B a w) (n : Nat) : Below B a (w.drewN n) := ⟨h.os, h.tape, h.output, h.size, h.block⟩
theorem ret_int {k : IntKind} {a b : Int} (h : a = b) : Ending.returned (.int k a) = .returned (.int k b) := by rw [h]
theorem ret_bool {a b : Bool} (h : a = b) : Ending.returned (.bool a) = .returned (.bool b) := by rw [h]
theorem blk_lt {w : World} {b : Nat} {o : Obj} (h : w.heap[b]? = some o) : b < w.heap.size := by
  rcases Nat.lt_or_ge b w.heap.size with hlt | hge
  · exact hlt
  · rw [Array.getElem?_eq_none hge] at h; cases h
theorem ba1 (w : World) (o : Obj) : Below w.heap.size w (w.alloc o) := (Below.refl _ _).alloc (Nat.le_refl _) _
theorem ba {w w' : World} {B : Nat} (h : Below B w w') (hB : B ≤ w'.heap.size) (o : Obj) : Below B w (w'.alloc o) := h.alloc hB o
theorem add_pl (b o j : Nat) : (⟨b, o, none⟩ : Addr).add j = ⟨b, o + j, none⟩ := by unfold Addr.add; split <;> simp_all

theorem bel_trans {w X Y : World} (h : Below w.heap.size w X) (hb : Below X.heap.size X Y) : Below w.heap.size w Y := h.trans (hb.mono h.size)
/-- A beach, and where its jobs lie. -/
structure Bc where
  l : List Jb
  A : Option Addr
  c : Nat
def bc (D : List Bc) (i : Nat) : Bc := D.getD i ⟨[], none, 0⟩
/-- The jobs of beaches. -/
def bl (D : List Bc) : List (List Jb) := D.map (·.l)
theorem bl_len (D : List Bc) : (bl D).length = D.length := by simp [bl]
theorem bl_at (D : List Bc) (i : Nat) : be (bl D) i = (bc D i).l := by
  unfold be bc bl
  simp only [List.getD_eq_getElem?_getD, List.getElem?_map]
  cases D[i]? <;> rfl
/-- A slice of beaches. -/
def Bcs (w : World) (B : Nat) (A : Option Addr) (D : List Bc) : Prop :=
  D.length ≤ 9223372036854775807 ∧ (0 < D.length → ∃ b o, A = some ⟨b, o, none⟩ ∧ b < B ∧ ∀ i, i < D.length → w.cell? ⟨b, o + i, none⟩ = some (.slice (bc D i).A (be (bl D) i).length (bc D i).c) ∧ Jbs w B (bc D i).A (be (bl D) i)) ∧ ∀ i, i < D.length → (be (bl D) i).length ≤ (bc D i).c
theorem Bcs.keep {w w' : World} {B : Nat} {A : Option Addr} {D : List Bc} (h : Bcs w B A D) (hk : ∀ p : Addr, p.block < B → w'.cell? p = w.cell? p) : Bcs w' B A D :=
  ⟨h.1, fun hn => by
    obtain ⟨b, o, e, hb, hc⟩ := h.2.1 hn
    exact ⟨b, o, e, hb, fun i hi => ⟨(hk _ hb).trans (hc i hi).1, (hc i hi).2.keep hk⟩⟩, h.2.2⟩
theorem Bcs.below {w w' : World} {B : Nat} {A : Option Addr} {D : List Bc} (h : Bcs w B A D) (hb : Below B w w') : Bcs w' B A D := h.keep fun _ hp => hb.cell hp
theorem Bcs.more {w : World} {B B' : Nat} {A : Option Addr} {D : List Bc} (h : Bcs w B A D) (hB : B ≤ B') : Bcs w B' A D :=
  ⟨h.1, fun hn => by
    obtain ⟨b, o, e, hb, hc⟩ := h.2.1 hn
    exact ⟨b, o, e, by omega, fun i hi => ⟨(hc i hi).1, (hc i hi).2.more hB⟩⟩, h.2.2⟩
theorem Bcs.up {w w' : World} {A : Option Addr} {D : List Bc} (h : Bcs w w.heap.size A D) (hb : Below w.heap.size w w') : Bcs w' w'.heap.size A D := (h.below hb).more hb.size
theorem Bcs.at_ {w : World} {B : Nat} {A : Option Addr} {D : List Bc} (h : Bcs w B A D) (k : Nat) (hk : k < D.length) : ∃ b o, A = some ⟨b, o, none⟩ ∧ b < B ∧ w.cell? ⟨b, o + k, none⟩ = some (.slice (bc D k).A (be (bl D) k).length (bc D k).c) ∧ Jbs w B (bc D k).A (be (bl D) k) := by
  obtain ⟨b, o, e, hb, hc⟩ := h.2.1 (by omega)
  exact ⟨b, o, e, hb, hc k hk⟩
end Go.Proofs.Ytgjgpcpghglnnaa
