/-
  What lists of integers and of rounds are in memory, and how each is kept while new memory is made; boxes of a round.
-/
import Derived.Test.YtlnpnfjdcnijhaaChecked
import Derived.Test.YtlnpnfjdcnijhaaMath
import Derived.WalkKit
import Derived.WalkSpells
import Derived.Handy
import Derived.Lib.Hide
import Derived.Deep.Draws
import Derived.Deep.QuietTactic
import Derived.BigQuiet
import Derived.BigRegion
import Derived.Deep.LoopGhost
import Derived.Deep.RegionWith
import Derived.Deep.RegionHeld3
import Derived.Deep.OwnRows
import Derived.Deep.Slices
import Derived.ChangeKeysEq
import Derived.Deep.AppendLies
import Derived.Deep.RegionHeldLaw
import Derived.Maps.AppendAt
namespace Go.Proofs.Ytlnpnfjdcnijhaa
set_option linter.unusedSimpArgs false
open Go.RowKit Go.Deep M

/-- A slice of integers that reads as 'l'; all its cells lie below block B. -/
def Row (w : World) (B : Nat) (A : Option Addr) (l : List Int) : Prop :=
  l.length ≤ 9223372036854775807 ∧ (0 < l.length → ∃ b o, A = some ⟨b, o, none⟩ ∧ b < B ∧ ∀ i, i < l.length → w.cell? ⟨b, o + i, none⟩ = some (.int .i64 (el l i)))
/-- A slice of rounds. -/
def Rds (w : World) (B : Nat) (A : Option Addr) (D : List Rd) : Prop :=
  D.length ≤ 9223372036854775807 ∧ (0 < D.length → ∃ b o, A = some ⟨b, o, none⟩ ∧ b < B ∧ ∀ i, i < D.length → w.cell? ⟨b, o + i * 2, none⟩ = some (.int .i64 (rd D i).a) ∧ w.cell? ⟨b, o + i * 2 + 1, none⟩ = some (.int .i64 (rd D i).e))

theorem Row.keep {w w' : World} {B : Nat} {A : Option Addr} {l : List Int} (h : Row w B A l) (hk : ∀ p : Addr, p.block < B → w'.cell? p = w.cell? p) : Row w' B A l :=
  ⟨h.1, fun hn => by
    obtain ⟨b, o, e, hb, hc⟩ := h.2 hn
    exact ⟨b, o, e, hb, fun i hi => (hk _ hb).trans (hc i hi)⟩⟩
theorem Row.below {w w' : World} {B : Nat} {A : Option Addr} {l : List Int} (h : Row w B A l) (hb : Below B w w') : Row w' B A l := h.keep fun _ hp => hb.cell hp
theorem Row.more {w : World} {B B' : Nat} {A : Option Addr} {l : List Int} (h : Row w B A l) (hB : B ≤ B') : Row w B' A l :=
  ⟨h.1, fun hn => by
    obtain ⟨b, o, e, hb, hc⟩ := h.2 hn
    exact ⟨b, o, e, by omega, hc⟩⟩
theorem Row.at_ {w : World} {B : Nat} {A : Option Addr} {l : List Int} (h : Row w B A l) (k : Nat) (hk : k < l.length) : ∃ b o, A = some ⟨b, o, none⟩ ∧ b < B ∧ w.cell? ⟨b, o + k, none⟩ = some (.int .i64 (el l k)) := by
  obtain ⟨b, o, e, hb, hc⟩ := h.2 (by omega)
  exact ⟨b, o, e, hb, hc k hk⟩
theorem Rds.keep {w w' : World} {B : Nat} {A : Option Addr} {D : List Rd} (h : Rds w B A D) (hk : ∀ p : Addr, p.block < B → w'.cell? p = w.cell? p) : Rds w' B A D :=
  ⟨h.1, fun hn => by
    obtain ⟨b, o, e, hb, hc⟩ := h.2 hn
    exact ⟨b, o, e, hb, fun i hi => ⟨(hk _ hb).trans (hc i hi).1, (hk _ hb).trans (hc i hi).2⟩⟩⟩
theorem Rds.below {w w' : World} {B : Nat} {A : Option Addr} {D : List Rd} (h : Rds w B A D) (hb : Below B w w') : Rds w' B A D := h.keep fun _ hp => hb.cell hp
theorem Rds.more {w : World} {B B' : Nat} {A : Option Addr} {D : List Rd} (h : Rds w B A D) (hB : B ≤ B') : Rds w B' A D :=
  ⟨h.1, fun hn => by
    obtain ⟨b, o, e, hb, hc⟩ := h.2 hn
    exact ⟨b, o, e, by omega, hc⟩⟩
theorem Rds.at_ {w : World} {B : Nat} {A : Option Addr} {D : List Rd} (h : Rds w B A D) (k : Nat) (hk : k < D.length) : ∃ b o, A = some ⟨b, o, none⟩ ∧ b < B ∧ w.cell? ⟨b, o + k * 2, none⟩ = some (.int .i64 (rd D k).a) ∧ w.cell? ⟨b, o + k * 2 + 1, none⟩ = some (.int .i64 (rd D k).e) := by
  obtain ⟨b, o, e, hb, hc⟩ := h.2 (by omega)
  exact ⟨b, o, e, hb, hc k hk⟩
theorem row_nil (w : World) (B : Nat) (A : Option Addr) : Row w B A [] := ⟨by simp, fun h => absurd h (by simp)⟩
theorem rds_nil (w : World) (B : Nat) (A : Option Addr) : Rds w B A [] := ⟨by simp, fun h => absurd h (by simp)⟩
theorem Row.up {w w' : World} {A : Option Addr} {l : List Int} (h : Row w w.heap.size A l) (hb : Below w.heap.size w w') : Row w' w'.heap.size A l := (h.below hb).more hb.size
theorem Rds.up {w w' : World} {A : Option Addr} {D : List Rd} (h : Rds w w.heap.size A D) (hb : Below w.heap.size w w') : Rds w' w'.heap.size A D := (h.below hb).more hb.size

theorem below_drewN {B : Nat} {a w : World} (h : Below B a w) (n : Nat) : Below B a (w.drewN n) := ⟨h.os, h.tape, h.output, h.size, h.block⟩
theorem ret_int {k : IntKind} {a b : Int} (h : a = b) : Ending.returned (.int k a) = .returned (.int k b) := by rw [h]
theorem ret_bool {a b : Bool} (h : a = b) : Ending.returned (.bool a) = .returned (.bool b) := by rw [h]
theorem blk_lt {w : World} {b : Nat} {o : Obj} (h : w.heap[b]? = some o) : b < w.heap.size := by
  rcases Nat.lt_or_ge b w.heap.size with hlt | hge
  · exact hlt
  · rw [Array.getElem?_eq_none hge] at h; cases h
theorem ba1 (w : World) (o : Obj) : Below w.heap.size w (w.alloc o) := (Below.refl _ _).alloc (Nat.le_refl _) _
theorem ba {w w' : World} {B : Nat} (h : Below B w w') (hB : B ≤ w'.heap.size) (o : Obj) : Below B w (w'.alloc o) := h.alloc hB o
theorem add_pl (b o j : Nat) : (⟨b, o, none⟩ : Addr).add j = ⟨b, o + j, none⟩ := by unfold Addr.add; split <;> simp_all

/-- A box of a round. -/
def Bx2 (w : World) (b : Nat) (x : Rd) : Prop := w.heap[b]? = some (.cells #[.int .i64 x.a, .int .i64 x.e] 68 (0, 0))
theorem Bx2.new (w : World) (x : Rd) : Bx2 (w.alloc (.cells #[.int .i64 x.a, .int .i64 x.e] 68)) w.heap.size x := heap_alloc_new w _
theorem Bx2.lt {w : World} {b : Nat} {x : Rd} (h : Bx2 w b x) : b < w.heap.size := blk_lt h
theorem Bx2.c0 {w : World} {b : Nat} {x : Rd} (h : Bx2 w b x) : w.cell? ⟨b, 0, none⟩ = some (.int .i64 x.a) := by simp [World.cell?, show w.heap[b]? = _ from h]
theorem Bx2.c1 {w : World} {b : Nat} {x : Rd} (h : Bx2 w b x) : w.cell? ⟨b, 1, none⟩ = some (.int .i64 x.e) := by simp [World.cell?, show w.heap[b]? = _ from h]
theorem Bx2.fz {w : World} {b : Nat} {x : Rd} (h : Bx2 w b x) (k : Nat) : w.frozen? ⟨b, k, none⟩ = false := by simp [World.frozen?, show w.heap[b]? = _ from h]
theorem Bx2.to {w w' : World} {b : Nat} {x : Rd} (h : Bx2 w b x) (hb : w'.heap[b]? = w.heap[b]?) : Bx2 w' b x := hb.trans h
theorem Bx2.up {w w' : World} {b : Nat} {x : Rd} (h : Bx2 w b x) (hb : Below w.heap.size w w') : Bx2 w' b x := h.to (hb.block b h.lt)
theorem Bx2.set {w : World} {b : Nat} {x : Rd} (h : Bx2 w b x) (y : Rd) :
    Bx2 ((w.setCell ⟨b, 0, none⟩ (.int .i64 y.a)).setCell ⟨b, 1, none⟩ (.int .i64 y.e)) b y := by
  unfold Bx2 at *
  simp [World.setCell, Array.getElem?_modify, h]
def rdV (x : Rd) : Value := .agg #[.int .i64 x.a, .int .i64 x.e]
end Go.Proofs.Ytlnpnfjdcnijhaa
