/-
  What lists of integers and of ratios are in memory, and how each is kept while new memory is made.
-/
import Derived.Test.YthleekdkbgnabaaChecked
import Derived.Test.YthleekdkbgnabaaMathB
import Derived.WalkKit
import Derived.WalkSpells
import Derived.Handy
import Derived.Lib.Hide
import Derived.Deep.Draws
import Derived.Deep.QuietTactic
import Derived.BigQuiet
import Derived.BigRegion
import Derived.Deep.LoopGhost
import Derived.Deep.RegionWith
import Derived.Deep.RegionHeld3
import Derived.Deep.OwnRows
import Derived.Deep.Slices
import Derived.ChangeKeysEq
import Derived.Deep.AppendLies
import Derived.Deep.RegionHeldLaw
import Derived.Maps.AppendAt
namespace Go.Proofs.Ythleekdkbgnabaa
set_option linter.unusedSimpArgs false
open Go.RowKit Go.Deep M

/-- A slice of integers that reads as 'l'; all its cells lie below block B. -/
def Row (w : World) (B : Nat) (A : Option Addr) (l : List Int) : Prop :=
  l.length ≤ 9223372036854775807 ∧ (0 < l.length → ∃ b o, A = some ⟨b, o, none⟩ ∧ b < B ∧ ∀ i, i < l.length → w.cell? ⟨b, o + i, none⟩ = some (.int .i64 (el l i)))
/-- A slice of ratios. -/
def Rts (w : World) (B : Nat) (A : Option Addr) (D : List Rt) : Prop :=
  D.length ≤ 9223372036854775807 ∧ (0 < D.length → ∃ b o, A = some ⟨b, o, none⟩ ∧ b < B ∧ ∀ i, i < D.length → w.cell? ⟨b, o + i * 2, none⟩ = some (.int .i64 (rt D i).n) ∧ w.cell? ⟨b, o + i * 2 + 1, none⟩ = some (.int .i64 (rt D i).d))

theorem Row.keep {w w' : World} {B : Nat} {A : Option Addr} {l : List Int} (h : Row w B A l) (hk : ∀ p : Addr, p.block < B → w'.cell? p = w.cell? p) : Row w' B A l :=
  ⟨h.1, fun hn => by
    obtain ⟨b, o, e, hb, hc⟩ := h.2 hn
    exact ⟨b, o, e, hb, fun i hi => (hk _ hb).trans (hc i hi)⟩⟩
theorem Row.below {w w' : World} {B : Nat} {A : Option Addr} {l : List Int} (h : Row w B A l) (hb : Below B w w') : Row w' B A l := h.keep fun _ hp => hb.cell hp
theorem Row.more {w : World} {B B' : Nat} {A : Option Addr} {l : List Int} (h : Row w B A l) (hB : B ≤ B') : Row w B' A l :=
  ⟨h.1, fun hn => by
    obtain ⟨b, o, e, hb, hc⟩ := h.2 hn
    exact ⟨b, o, e, by omega, hc⟩⟩
theorem Row.at_ {w : World} {B : Nat} {A : Option Addr} {l : List Int} (h : Row w B A l) (k : Nat) (hk : k < l.length) : ∃ b o, A = some ⟨b, o, none⟩ ∧ b < B ∧ w.cell? ⟨b, o + k, none⟩ = some (.int .i64 (el l k)) := by
  obtain ⟨b, o, e, hb, hc⟩ := h.2 (by omega)
  exact ⟨b, o, e, hb, hc k hk⟩
theorem Rts.keep {w w' : World} {B : Nat} {A : Option Addr} {D : List Rt} (h : Rts w B A D) (hk : ∀ p : Addr, p.block < B → w'.cell? p = w.cell? p) : Rts w' B A D :=
  ⟨h.1, fun hn => by
    obtain ⟨b, o, e, hb, hc⟩ := h.2 hn
    exact ⟨b, o, e, hb, fun i hi => ⟨(hk _ hb).trans (hc i hi).1, (hk _ hb).trans (hc i hi).2⟩⟩⟩
theorem Rts.below {w w' : World} {B : Nat} {A : Option Addr} {D : List Rt} (h : Rts w B A D) (hb : Below B w w') : Rts w' B A D := h.keep fun _ hp => hb.cell hp
theorem Rts.more {w : World} {B B' : Nat} {A : Option Addr} {D : List Rt} (h : Rts w B A D) (hB : B ≤ B') : Rts w B' A D :=
  ⟨h.1, fun hn => by
    obtain ⟨b, o, e, hb, hc⟩ := h.2 hn
    exact ⟨b, o, e, by omega, hc⟩⟩
theorem Rts.at_ {w : World} {B : Nat} {A : Option Addr} {D : List Rt} (h : Rts w B A D) (k : Nat) (hk : k < D.length) : ∃ b o, A = some ⟨b, o, none⟩ ∧ b < B ∧ w.cell? ⟨b, o + k * 2, none⟩ = some (.int .i64 (rt D k).n) ∧ w.cell? ⟨b, o + k * 2 + 1, none⟩ = some (.int .i64 (rt D k).d) := by
  obtain ⟨b, o, e, hb, hc⟩ := h.2 (by omega)
  exact ⟨b, o, e, hb, hc k hk⟩
theorem row_nil (w : World) (B : Nat) (A : Option Addr) : Row w B A [] := ⟨by simp, fun h => absurd h (by simp)⟩
theorem rts_nil (w : World) (B : Nat) (A : Option Addr) : Rts w B A [] := ⟨by simp, fun h => absurd h (by simp)⟩
theorem Row.up {w w' : World} {A : Option Addr} {l : List Int} (h : Row w w.heap.size A l) (hb : Below w.heap.size w w') : Row w' w'.heap.size A l := (h.below hb).more hb.size
theorem Rts.up {w w' : World} {A : Option Addr} {D : List Rt} (h : Rts w w.heap.size A D) (hb : Below w.heap.size w w') : Rts w' w'.heap.size A D := (h.below hb).more hb.size

theorem below_drewN {B : Nat} {a w : World} (h : Below B a w) (n : Nat) : Below B a (w.drewN n) := ⟨h.os, h.tape, h.output, h.size, h.block⟩
theorem ret_int {k : IntKind} {a b : Int} (h : a = b) : Ending.returned (.int k a) = .returned (.int k b) := by rw [h]
theorem ret_bool {a b : Bool} (h : a = b) : Ending.returned (.bool a) = .returned (.bool b) := by rw [h]
theorem blk_lt {w : World} {b : Nat} {o : Obj} (h : w.heap[b]? = some o) : b < w.heap.size := by
  rcases Nat.lt_or_ge b w.heap.size with hlt | hge
  · exact hlt
  · rw [Array.getElem?_eq_none hge] at h; cases h
theorem ba1 (w : World) (o : Obj) : Below w.heap.size w (w.alloc o) := (Below.refl _ _).alloc (Nat.le_refl _) _
theorem ba {w w' : World} {B : Nat} (h : Below B w w') (hB : B ≤ w'.heap.size) (o : Obj) : Below B w (w'.alloc o) := h.alloc hB o
theorem add_pl (b o j : Nat) : (⟨b, o, none⟩ : Addr).add j = ⟨b, o + j, none⟩ := by unfold Addr.add; split <;> simp_all
theorem bel_trans {w X Y : World} (h : Below w.heap.size w X) (hb : Below X.heap.size X Y) : Below w.heap.size w Y := h.trans (hb.mono h.size)

/-- A box of a ratio. -/
def Bxr (w : World) (b : Nat) (n d : Int) : Prop := w.heap[b]? = some (.cells #[.int .i64 n, .int .i64 d] 37 (0, 0))
theorem Bxr.new (w : World) (n d : Int) : Bxr (w.alloc (.cells #[.int .i64 n, .int .i64 d] 37)) w.heap.size n d := heap_alloc_new w _
theorem Bxr.lt {w : World} {b : Nat} {n d : Int} (h : Bxr w b n d) : b < w.heap.size := blk_lt h
theorem Bxr.c0 {w : World} {b : Nat} {n d : Int} (h : Bxr w b n d) : w.cell? ⟨b, 0, none⟩ = some (.int .i64 n) := by simp [World.cell?, show w.heap[b]? = _ from h]
theorem Bxr.c1 {w : World} {b : Nat} {n d : Int} (h : Bxr w b n d) : w.cell? ⟨b, 1, none⟩ = some (.int .i64 d) := by simp [World.cell?, show w.heap[b]? = _ from h]
theorem Bxr.fz {w : World} {b : Nat} {n d : Int} (h : Bxr w b n d) (k : Nat) : w.frozen? ⟨b, k, none⟩ = false := by simp [World.frozen?, show w.heap[b]? = _ from h]
theorem Bxr.to {w w' : World} {b : Nat} {n d : Int} (h : Bxr w b n d) (hb : w'.heap[b]? = w.heap[b]?) : Bxr w' b n d := hb.trans h
theorem Bxr.up {w w' : World} {b : Nat} {n d : Int} (h : Bxr w b n d) (hb : Below w.heap.size w w') : Bxr w' b n d := h.to (hb.block b h.lt)
theorem Bxr.set {w : World} {b : Nat} {n d : Int} (h : Bxr w b n d) (n' d' : Int) : Bxr ((w.setCell ⟨b, 0, none⟩ (.int .i64 n')).setCell ⟨b, 1, none⟩ (.int .i64 d')) b n' d' := by
  unfold Bxr at *
  simp [World.setCell, Array.getElem?_modify, h]
theorem setCell_far {X : World} {g b k : Nat} {v : Value} (h : g ≠ b) : (X.setCell ⟨b, k, none⟩ v).heap[g]? = X.heap[g]? := by
  have h' : ¬ b = g := fun e => h e.symm
  simp [World.setCell, Array.getElem?_modify, h']
theorem set2_far {X : World} {b g : Nat} (h : g ≠ b) (v0 v1 : Value) : ((X.setCell ⟨b, 0, none⟩ v0).setCell ⟨b, 1, none⟩ v1).heap[g]? = X.heap[g]? := by
  have h' : ¬ b = g := fun e => h e.symm
  simp [World.setCell, Array.getElem?_modify, h']
theorem set2_below {B : Nat} {w X : World} {b : Nat} (h : Below B w X) (hb : B ≤ b) (v0 v1 : Value) : Below B w ((X.setCell ⟨b, 0, none⟩ v0).setCell ⟨b, 1, none⟩ v1) := (h.setCell hb v0).setCell hb v1
/-- A ratio as a value. -/
def rtV (x : Rt) : Value := .agg #[.int .i64 x.n, .int .i64 x.d]
end Go.Proofs.Ythleekdkbgnabaa
