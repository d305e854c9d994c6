/-
  What lists of integers, of bools and of five sixteenths are in memory: 'Row', 'Bools', 'Arr'; how each is kept while new memory is made.
-/
import Derived.Test.YtnbgjgiknfcdkaaDoorChecked
import Derived.Test.YtnbgjgiknfcdkaaDoorMath
import Derived.WalkKit
import Derived.WalkSpells
import Derived.Handy
import Derived.Lib.Hide
import Derived.Deep.Draws
import Derived.Deep.QuietTactic
import Derived.BigQuiet
import Derived.BigRegion
import Derived.Deep.LoopGhost
import Derived.Deep.RegionWith
import Derived.Deep.RegionHeld3
import Derived.Deep.OwnRows
import Derived.Deep.Slices
import Derived.ChangeKeysEq
namespace Go.Proofs.YtnbgjgiknfcdkaaDoor
set_option linter.unusedSimpArgs false
open Go.RowKit Go.Deep M

/-- A slice of integers that reads as 'l'; all its cells lie below block B. -/
def Row (w : World) (B : Nat) (A : Option Addr) (l : List Int) : Prop :=
  l.length ≤ 9223372036854775807 ∧ (0 < l.length → ∃ b o, A = some ⟨b, o, none⟩ ∧ b < B ∧ ∀ i, i < l.length → w.cell? ⟨b, o + i, none⟩ = some (.int .i64 (el l i)))
/-- A slice of bools. -/
def Bools (w : World) (B : Nat) (A : Option Addr) (l : List Bool) : Prop :=
  l.length ≤ 9223372036854775807 ∧ (0 < l.length → ∃ b o, A = some ⟨b, o, none⟩ ∧ b < B ∧ ∀ i, i < l.length → w.cell? ⟨b, o + i, none⟩ = some (.bool (bl l i)))
/-- A slice of n lists of five integers: all their numbers in one list. -/
def Arr (w : World) (B : Nat) (A : Option Addr) (n : Nat) (S : List Int) : Prop :=
  n ≤ 9223372036854775807 ∧ S.length = n * 5 ∧ (0 < n → ∃ b o, A = some ⟨b, o, none⟩ ∧ b < B ∧ ∀ i k, i < n → k < 5 → w.cell? ⟨b, o + i * 5 + k, none⟩ = some (.int .i64 (sh S i k)))

theorem Row.keep {w w' : World} {B : Nat} {A : Option Addr} {l : List Int} (h : Row w B A l) (hk : ∀ p : Addr, p.block < B → w'.cell? p = w.cell? p) : Row w' B A l :=
  ⟨h.1, fun hn => by
    obtain ⟨b, o, e, hb, hc⟩ := h.2 hn
    exact ⟨b, o, e, hb, fun i hi => (hk _ hb).trans (hc i hi)⟩⟩
theorem Row.below {w w' : World} {B : Nat} {A : Option Addr} {l : List Int} (h : Row w B A l) (hb : Below B w w') : Row w' B A l := h.keep fun _ hp => hb.cell hp
theorem Row.more {w : World} {B B' : Nat} {A : Option Addr} {l : List Int} (h : Row w B A l) (hB : B ≤ B') : Row w B' A l :=
  ⟨h.1, fun hn => by
    obtain ⟨b, o, e, hb, hc⟩ := h.2 hn
    exact ⟨b, o, e, by omega, hc⟩⟩
theorem Row.at_ {w : World} {B : Nat} {A : Option Addr} {l : List Int} (h : Row w B A l) (k : Nat) (hk : k < l.length) : ∃ b o, A = some ⟨b, o, none⟩ ∧ b < B ∧ w.cell? ⟨b, o + k, none⟩ = some (.int .i64 (el l k)) := by
  obtain ⟨b, o, e, hb, hc⟩ := h.2 (by omega)
  exact ⟨b, o, e, hb, hc k hk⟩
theorem Bools.keep {w w' : World} {B : Nat} {A : Option Addr} {l : List Bool} (h : Bools w B A l) (hk : ∀ p : Addr, p.block < B → w'.cell? p = w.cell? p) : Bools w' B A l :=
  ⟨h.1, fun hn => by
    obtain ⟨b, o, e, hb, hc⟩ := h.2 hn
    exact ⟨b, o, e, hb, fun i hi => (hk _ hb).trans (hc i hi)⟩⟩
theorem Bools.below {w w' : World} {B : Nat} {A : Option Addr} {l : List Bool} (h : Bools w B A l) (hb : Below B w w') : Bools w' B A l := h.keep fun _ hp => hb.cell hp
theorem Bools.more {w : World} {B B' : Nat} {A : Option Addr} {l : List Bool} (h : Bools w B A l) (hB : B ≤ B') : Bools w B' A l :=
  ⟨h.1, fun hn => by
    obtain ⟨b, o, e, hb, hc⟩ := h.2 hn
    exact ⟨b, o, e, by omega, hc⟩⟩
theorem Bools.at_ {w : World} {B : Nat} {A : Option Addr} {l : List Bool} (h : Bools w B A l) (k : Nat) (hk : k < l.length) : ∃ b o, A = some ⟨b, o, none⟩ ∧ b < B ∧ w.cell? ⟨b, o + k, none⟩ = some (.bool (bl l k)) := by
  obtain ⟨b, o, e, hb, hc⟩ := h.2 (by omega)
  exact ⟨b, o, e, hb, hc k hk⟩
theorem Arr.keep {w w' : World} {B : Nat} {A : Option Addr} {n : Nat} {S : List Int} (h : Arr w B A n S) (hk : ∀ p : Addr, p.block < B → w'.cell? p = w.cell? p) : Arr w' B A n S :=
  ⟨h.1, h.2.1, fun hn => by
    obtain ⟨b, o, e, hb, hc⟩ := h.2.2 hn
    exact ⟨b, o, e, hb, fun i k hi hk5 => (hk _ hb).trans (hc i k hi hk5)⟩⟩
theorem Arr.below {w w' : World} {B : Nat} {A : Option Addr} {n : Nat} {S : List Int} (h : Arr w B A n S) (hb : Below B w w') : Arr w' B A n S := h.keep fun _ hp => hb.cell hp
theorem Arr.more {w : World} {B B' : Nat} {A : Option Addr} {n : Nat} {S : List Int} (h : Arr w B A n S) (hB : B ≤ B') : Arr w B' A n S :=
  ⟨h.1, h.2.1, fun hn => by
    obtain ⟨b, o, e, hb, hc⟩ := h.2.2 hn
    exact ⟨b, o, e, by omega, hc⟩⟩
theorem Arr.at_ {w : World} {B : Nat} {A : Option Addr} {n : Nat} {S : List Int} (h : Arr w B A n S) (i : Nat) (hi : i < n) : ∃ b o, A = some ⟨b, o, none⟩ ∧ b < B ∧
    w.cell? ⟨b, o + i * 5, none⟩ = some (.int .i64 (sh S i 0)) ∧ w.cell? ⟨b, o + i * 5 + 1, none⟩ = some (.int .i64 (sh S i 1)) ∧ w.cell? ⟨b, o + i * 5 + 2, none⟩ = some (.int .i64 (sh S i 2)) ∧
    w.cell? ⟨b, o + i * 5 + 3, none⟩ = some (.int .i64 (sh S i 3)) ∧ w.cell? ⟨b, o + i * 5 + 4, none⟩ = some (.int .i64 (sh S i 4)) := by
  obtain ⟨b, o, e, hb, hc⟩ := h.2.2 (by omega)
  exact ⟨b, o, e, hb, hc i 0 hi (by omega), hc i 1 hi (by omega), hc i 2 hi (by omega), hc i 3 hi (by omega), hc i 4 hi (by omega)⟩
/-- A bay's two lists. -/
structure BayIn (w : World) (B : Nat) (aL : Option Addr) (L : List Bool) (aS : Option Addr) (n : Nat) (S : List Int) : Prop where
  land : Bools w B aL L
  share : Arr w B aS n S
theorem BayIn.below {w w' : World} {B : Nat} {aL aS : Option Addr} {L : List Bool} {n : Nat} {S : List Int} (h : BayIn w B aL L aS n S) (hb : Below B w w') : BayIn w' B aL L aS n S := ⟨h.land.below hb, h.share.below hb⟩
theorem BayIn.more {w : World} {B B' : Nat} {aL aS : Option Addr} {L : List Bool} {n : Nat} {S : List Int} (h : BayIn w B aL L aS n S) (hB : B ≤ B') : BayIn w B' aL L aS n S := ⟨h.land.more hB, h.share.more hB⟩

theorem below_drewN {B : Nat} {a w : World} (h : Below B a w) (n : Nat) : Below B a (w.drewN n) := ⟨h.os, h.tape, h.output, h.size, h.block⟩
theorem ret_int {k : IntKind} {a b : Int} (h : a = b) : Ending.returned (.int k a) = .returned (.int k b) := by rw [h]
theorem ret_bool {a b : Bool} (h : a = b) : Ending.returned (.bool a) = .returned (.bool b) := by rw [h]
theorem ret_two {k j : IntKind} {a b c d : Int} (h : a = b) (g : c = d) : Ending.returned (.tuple #[.int k a, .int j c]) = .returned (.tuple #[.int k b, .int j d]) := by rw [h, g]
theorem blk_lt {w : World} {b : Nat} {o : Obj} (h : w.heap[b]? = some o) : b < w.heap.size := by
  rcases Nat.lt_or_ge b w.heap.size with hlt | hge
  · exact hlt
  · rw [Array.getElem?_eq_none hge] at h; cases h

/-- An element of five that lie in temporaries. -/
theorem run_idx (w : World) (xs : Array Value) (k : Int) (v : Value) (h0 : 0 ≤ k) (h5 : k < 5) (hx : xs[k.toNat]? = some v) : (Instr.index 74 (.agg xs) (.int .i64 k)).run Tryd.prog w = .ok v w := by
  simp [Instr.index, asIntOf, run_underlying Tryd.underlying74, h0, h5, go_sem]
  rw [hx]; rfl
theorem run_idx0 (w : World) (a b c d e : Value) : (Instr.index 74 (.agg #[a, b, c, d, e]) (.int .i64 0)).run Tryd.prog w = .ok a w := run_idx w _ _ _ (by omega) (by omega) rfl
theorem run_idx1 (w : World) (a b c d e : Value) : (Instr.index 74 (.agg #[a, b, c, d, e]) (.int .i64 1)).run Tryd.prog w = .ok b w := run_idx w _ _ _ (by omega) (by omega) rfl
theorem run_idx2 (w : World) (a b c d e : Value) : (Instr.index 74 (.agg #[a, b, c, d, e]) (.int .i64 2)).run Tryd.prog w = .ok c w := run_idx w _ _ _ (by omega) (by omega) rfl
theorem run_idx3 (w : World) (a b c d e : Value) : (Instr.index 74 (.agg #[a, b, c, d, e]) (.int .i64 3)).run Tryd.prog w = .ok d w := run_idx w _ _ _ (by omega) (by omega) rfl
theorem run_idx4 (w : World) (a b c d e : Value) : (Instr.index 74 (.agg #[a, b, c, d, e]) (.int .i64 4)).run Tryd.prog w = .ok e w := run_idx w _ _ _ (by omega) (by omega) rfl

/-- Are two lists of five equal? -/
def e5 (a0 a1 a2 a3 a4 b0 b1 b2 b3 b4 : Int) : Bool := decide (a0 = b0 ∧ a1 = b1 ∧ a2 = b2 ∧ a3 = b3 ∧ a4 = b4)
set_option maxRecDepth 10000 in
theorem run_eq5 (w : World) (a0 a1 a2 a3 a4 b0 b1 b2 b3 b4 : Int) :
    (Op.equalIn 10000 74 (.agg #[.int .i64 a0, .int .i64 a1, .int .i64 a2, .int .i64 a3, .int .i64 a4]) (.agg #[.int .i64 b0, .int .i64 b1, .int .i64 b2, .int .i64 b3, .int .i64 b4])).run Tryd.prog w =
      .ok (e5 a0 a1 a2 a3 a4 b0 b1 b2 b3 b4) w := by
  unfold e5
  obtain ⟨i, hi⟩ : ∃ i, Tryd.prog.info? 3 = some i := by
    have : (Tryd.prog.info? 3).map (fun i => i.size) = some 1 := by kernel_rfl
    cases h : Tryd.prog.info? 3 with
    | none => rw [h] at this; cases this
    | some i => exact ⟨i, rfl⟩
  have c3 : Tryd.prog.cellsOf 3 = 1 := by kernel_rfl
  have p : ∀ (xs : Array Value) (k : Nat) (v : Value), xs[k]? = some v → (part 3 xs k).run Tryd.prog w = .ok v w := fun xs k v h => run_part_plain (P := Tryd.prog) (e := 3) w (by kernel_rfl) h
  have p0 : ∀ (v0 v1 v2 v3 v4 : Value), (part 3 #[v0, v1, v2, v3, v4] 0).run Tryd.prog w = .ok v0 w := fun _ _ _ _ _ => p _ 0 _ rfl
  have p1 : ∀ (v0 v1 v2 v3 v4 : Value), (part 3 #[v0, v1, v2, v3, v4] 1).run Tryd.prog w = .ok v1 w := fun _ _ _ _ _ => p _ 1 _ rfl
  have p2 : ∀ (v0 v1 v2 v3 v4 : Value), (part 3 #[v0, v1, v2, v3, v4] 2).run Tryd.prog w = .ok v2 w := fun _ _ _ _ _ => p _ 2 _ rfl
  have p3 : ∀ (v0 v1 v2 v3 v4 : Value), (part 3 #[v0, v1, v2, v3, v4] 3).run Tryd.prog w = .ok v3 w := fun _ _ _ _ _ => p _ 3 _ rfl
  have p4 : ∀ (v0 v1 v2 v3 v4 : Value), (part 3 #[v0, v1, v2, v3, v4] 4).run Tryd.prog w = .ok v4 w := fun _ _ _ _ _ => p _ 4 _ rfl
  have q : ∀ a b : Int, (Op.equalIn 9999 3 (.int .i64 a) (.int .i64 b)).run Tryd.prog w = .ok (a == b) w := fun a b => run_equalIn_int w 9998 3 .i64 .i64 a b Tryd.underlying3
  have r : List.range 5 = [0, 1, 2, 3, 4] := rfl
  rw [run_equalIn_array (P := Tryd.prog) w 9999 _ _ Tryd.underlying74 hi, c3, r]
  simp only [Op.eqItems, Nat.mul_one, Sem.run_bind, p0, p1, p2, p3, p4, Result.andThen_ok, q]
  by_cases h0 : a0 = b0 <;> by_cases h1 : a1 = b1 <;> by_cases h2 : a2 = b2 <;> by_cases h3 : a3 = b3 <;> by_cases h4 : a4 = b4 <;> simp [h0, h1, h2, h3, h4, p0, p1, p2, p3, p4, q, go_sem]

end Go.Proofs.YtnbgjgiknfcdkaaDoor
