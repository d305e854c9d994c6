/-
  What a bay, a slick, lists and small numbers that came in are in memory; the table of directions.
-/
import Derived.Test.YtnbgjgiknfcdkaaDoorRows
import Derived.Test.YtnbgjgiknfcdkaaDoorL
import Derived.ProofKit
import Derived.OpenShut
import Derived.ShutString
import Derived.ChangeOld
import Derived.Below
import Derived.LaidMore
import Derived.Stop.Joined
import Derived.Lib.SmallJoins
namespace Go.Proofs.YtnbgjgiknfcdkaaDoor
open Go.Joins Go.ChangeShapes Go.WideShapes Go.ChangeAt Go.RowKit Go.Deep M
set_option linter.unusedVariables false
set_option linter.unusedSimpArgs false

theorem own : ownKnob Tryd.prog.godebug = none := by kernel_rfl
theorem laidOut : laidOutB Tryd.prog = true := by kernel_rfl
theorem cells3 : Tryd.prog.cellsOf 3 = 1 := by kernel_rfl
theorem cells4 : Tryd.prog.cellsOf 4 = 1 := by kernel_rfl
theorem cells74 : Tryd.prog.cellsOf 74 = 5 := by kernel_rfl
theorem cells110 : Tryd.prog.cellsOf 110 = 2 := by kernel_rfl
theorem cells111 : Tryd.prog.cellsOf 111 = 10 := by kernel_rfl
theorem cells25 : Tryd.prog.cellsOf 25 = 4 := by kernel_rfl
theorem cells28 : Tryd.prog.cellsOf 28 = 3 := by kernel_rfl

/-- A slice whose cells are known: its address is plain, and lies below the heap's end. -/
theorem addr_plain {w : World} {a : Addr} {v : Value} (h : w.cell? (a.add 0) = some v) : ∃ b o, a = ⟨b, o, none⟩ ∧ b < w.heap.size ∧ ∀ i, a.add i = ⟨b, o + i, none⟩ := by
  obtain ⟨b, o, s⟩ := a
  have h0 : w.cell? ⟨b, o, s⟩ = some v := by simpa [Addr.add] using h
  have hs : s = none := by simpa using World.cell?_spot h0
  subst hs
  exact ⟨b, o, rfl, World.block_lt_of_cell? _ _ h0, fun i => by unfold Addr.add; split <;> simp_all⟩
def readI (w : World) (a : Addr) (i : Nat) : Int := match w.cell? (a.add i) with | some (.int _ n) => n | _ => 0
def readB (w : World) (a : Addr) (i : Nat) : Bool := match w.cell? (a.add i) with | some (.bool b) => b | _ => false

section
variable {H : Type} {enc : TypeId × Value → H} {W : World} {fuel : Nat} {v : Value} {x : DataW H × List MemPlace}

theorem row_of (hf : DataW.trod enc Tryd.prog W 0 (fun _ => true) true fuel 26 [v] = some x) : ∃ A len cap l, v = .slice A len cap ∧ l.length = len ∧ Row W W.heap.size A l := by
  rcases open_slice Tryd.underlying26 hf with ⟨hcs, hx⟩ | ⟨a, len, cap, m, n, D, Pl, hcs, _, hl, hm, hmm, hx, hi⟩
  · obtain rfl : v = .slice none 0 0 := by simpa using hcs
    exact ⟨none, 0, 0, [], rfl, rfl, row_nil _ _ _⟩
  · obtain rfl : v = .slice (some a) len cap := by simpa using hcs
    have hm' : m = cap := by simpa using hmm
    subst hm'
    have hc : ∀ i, i < len → ∃ z, W.cell? (a.add i) = some (.int .i64 z) := fun i hil => by
      obtain ⟨cs', hc, ht⟩ := hi i (by omega)
      rw [cells3] at hc
      obtain ⟨z, rfl, _, _⟩ := DataW.trod_int Tryd.underlying3 ht
      obtain ⟨_, hcl, hat⟩ := World.cells?_some hc
      have := hat 0 (by omega)
      rw [Go.Deep.add_add, Nat.mul_one, Nat.add_zero] at this
      exact ⟨z, this⟩
    unfold maxLen at hm
    refine ⟨some a, len, m, mk (readI W a) len, rfl, mk_len _ _, by rw [mk_len]; omega, fun hn => ?_⟩
    rw [mk_len] at hn
    obtain ⟨z, hz⟩ := hc 0 hn
    obtain ⟨b, o, rfl, hb, hadd⟩ := addr_plain hz
    refine ⟨b, o, rfl, hb, fun i hil => ?_⟩
    rw [mk_len] at hil
    obtain ⟨z, hz⟩ := hc i hil
    rw [mk_el _ _ _ hil]
    have hr : readI W ⟨b, o, none⟩ i = z := by unfold readI; rw [hz]
    rw [hr, ← hadd i]; exact hz

theorem bools_of (hf : DataW.trod enc Tryd.prog W 0 (fun _ => true) true fuel 22 [v] = some x) : ∃ A len cap l, v = .slice A len cap ∧ l.length = len ∧ Bools W W.heap.size A l := by
  rcases open_slice Tryd.underlying22 hf with ⟨hcs, hx⟩ | ⟨a, len, cap, m, n, D, Pl, hcs, _, hl, hm, hmm, hx, hi⟩
  · obtain rfl : v = .slice none 0 0 := by simpa using hcs
    exact ⟨none, 0, 0, [], rfl, rfl, by simp, fun h => absurd h (by simp)⟩
  · obtain rfl : v = .slice (some a) len cap := by simpa using hcs
    have hm' : m = cap := by simpa using hmm
    subst hm'
    have hc : ∀ i, i < len → ∃ z, W.cell? (a.add i) = some (.bool z) := fun i hil => by
      obtain ⟨cs', hc, ht⟩ := hi i (by omega)
      rw [cells4] at hc
      obtain ⟨z, rfl, _⟩ := DataW.trod_bool Tryd.underlying4 ht
      obtain ⟨_, hcl, hat⟩ := World.cells?_some hc
      have := hat 0 (by omega)
      rw [Go.Deep.add_add, Nat.mul_one, Nat.add_zero] at this
      exact ⟨z, this⟩
    unfold maxLen at hm
    refine ⟨some a, len, m, mkB (readB W a) len, rfl, mkB_len _ _, by rw [mkB_len]; omega, fun hn => ?_⟩
    rw [mkB_len] at hn
    obtain ⟨z, hz⟩ := hc 0 hn
    obtain ⟨b, o, rfl, hb, hadd⟩ := addr_plain hz
    refine ⟨b, o, rfl, hb, fun i hil => ?_⟩
    rw [mkB_len] at hil
    obtain ⟨z, hz⟩ := hc i hil
    rw [mkB_bl _ _ _ hil]
    have hr : readB W ⟨b, o, none⟩ i = z := by unfold readB; rw [hz]
    rw [hr, ← hadd i]; exact hz

theorem arr_of (hf : DataW.trod enc Tryd.prog W 0 (fun _ => true) true fuel 23 [v] = some x) : ∃ A len cap S, v = .slice A len cap ∧ Arr W W.heap.size A len S := by
  rcases open_slice Tryd.underlying23 hf with ⟨hcs, hx⟩ | ⟨a, len, cap, m, n, D, Pl, hcs, _, hl, hm, hmm, hx, hi⟩
  · obtain rfl : v = .slice none 0 0 := by simpa using hcs
    exact ⟨none, 0, 0, [], rfl, by omega, rfl, fun h => absurd h (by omega)⟩
  · obtain rfl : v = .slice (some a) len cap := by simpa using hcs
    have hm' : m = cap := by simpa using hmm
    subst hm'
    have hc : ∀ i k, i < len → k < 5 → ∃ z, W.cell? (a.add (i * 5 + k)) = some (.int .i64 z) := fun i k hil hk => by
      obtain ⟨cs', hc, ht⟩ := hi i (by omega)
      rw [cells74] at hc
      obtain ⟨_, hcl, hat⟩ := World.cells?_some hc
      obtain ⟨xs, m1, _, _, hlen, hn5, hel⟩ := DataW.trod_array Tryd.underlying74 ht
      have h1 := hel k hk
      rw [cells3, Nat.mul_one] at h1
      have hkx : xs[k]? = some (xs[k]'(by omega)) := List.getElem?_eq_getElem (by omega)
      obtain ⟨z, hz, _, _⟩ := DataW.trod_int Tryd.underlying3 (h1.trans hkx)
      have h2 := hat k (by omega)
      rw [Go.Deep.add_add] at h2
      have h3 : cs'[k]? = some (.int .i64 z) := by
        have : (cs'.drop k).take 1 = [cs'[k]'(by omega)] := by
          rw [List.drop_eq_getElem_cons (by omega)]; rfl
        rw [this] at hz
        rw [List.getElem?_eq_getElem (by omega)]
        simpa using hz
      exact ⟨z, h2.trans h3⟩
    unfold maxLen at hm
    refine ⟨some a, len, m, mk (readI W a) (len * 5), rfl, by omega, mk_len _ _, fun hn => ?_⟩
    obtain ⟨z, hz⟩ := hc 0 0 hn (by omega)
    obtain ⟨b, o, rfl, hb, hadd⟩ := addr_plain (by simpa using hz)
    refine ⟨b, o, rfl, hb, fun i k hil hk => ?_⟩
    obtain ⟨z, hz⟩ := hc i k hil hk
    unfold sh
    rw [mk_el _ _ _ (by omega)]
    have hr : readI W ⟨b, o, none⟩ (i * 5 + k) = z := by unfold readI; rw [hz]
    rw [hr, Nat.add_assoc, ← hadd (i * 5 + k)]; exact hz

set_option maxRecDepth 100000 in
/-- A BAY THAT CAME IN. -/
theorem bay_in {d : DataW H} {p : List MemPlace} {b0 : Nat} (hv : Value.okWide Tryd.prog W .any b0 25 v) (h : DataW.Trod enc Tryd.prog W 0 (fun _ => true) true 25 v d p) :
    ∃ (Wd Hd : Int) (aL aS : Option Addr) (cL cS n : Nat) (L : List Bool) (S : List Int), v = .agg #[.int .i64 Wd, .int .i64 Hd, .slice aL L.length cL, .slice aS n cS] ∧ BayIn W W.heap.size aL L aS n S := by
  obtain ⟨v0, v1, v2, v3, y0, y1, y2, y3, m, rfl, _, _, h0, h1, h2, h3⟩ := open_agg4 Tryd.underlying25 (by kernel_rfl) cells25 hv h
  obtain ⟨Wd, e0, _, _⟩ := DataW.trod_int Tryd.underlying3 h0
  obtain ⟨Hd, e1, _, _⟩ := DataW.trod_int Tryd.underlying3 h1
  obtain rfl : v0 = .int .i64 Wd := by simpa using e0
  obtain rfl : v1 = .int .i64 Hd := by simpa using e1
  obtain ⟨aL, nL, cL, L, rfl, rfl, hL⟩ := bools_of h2
  obtain ⟨aS, n, cS, S, rfl, hS⟩ := arr_of h3
  exact ⟨Wd, Hd, aL, aS, cL, cS, n, L, S, rfl, hL, hS⟩
set_option maxRecDepth 100000 in
/-- A SLICK THAT CAME IN. -/
theorem slick_in {d : DataW H} {p : List MemPlace} {b0 : Nat} (hv : Value.okWide Tryd.prog W .any b0 28 v) (h : DataW.Trod enc Tryd.prog W 0 (fun _ => true) true 28 v d p) :
    ∃ (K aw : Int) (aO : Option Addr) (cO : Nat) (O : List Int), v = .agg #[.int .i64 K, .slice aO O.length cO, .int .i64 aw] ∧ Row W W.heap.size aO O := by
  obtain ⟨v0, v1, v2, y0, y1, y2, m, rfl, _, _, h0, h1, h2⟩ := open_agg3 Tryd.underlying28 (by kernel_rfl) cells28 hv h
  obtain ⟨K, e0, _, _⟩ := DataW.trod_int Tryd.underlying3 h0
  obtain ⟨aw, e2, _, _⟩ := DataW.trod_int Tryd.underlying3 h2
  obtain rfl : v0 = .int .i64 K := by simpa using e0
  obtain rfl : v2 = .int .i64 aw := by simpa using e2
  obtain ⟨aO, nO, cO, O, rfl, rfl, hO⟩ := row_of h1
  exact ⟨K, aw, aO, cO, O, rfl, hO⟩
end

/-! ### the table of directions -/
def laidV : List (String × DataW Unit) := [("skimmer/slick.directions", Rows.laid_skimmer_slick_directions)]
theorem gDirs : Tryd.prog.globalNamed "skimmer/slick.directions" = some 0 := by kernel_rfl
theorem tDirs : (Tryd.prog.globals[0]?).map (·.type) = some 111 := by kernel_rfl
set_option maxRecDepth 100000 in
theorem step_of {H : Type} {enc : TypeId × Value → H} {W : World} {sp : Nat → Bool} {held : Bool} {fuel : Nat} {c0 c1 : Value} {a b : Int} {pl : List MemPlace} (h : DataW.trod enc Tryd.prog W 0 sp held fuel 110 [c0, c1] = some (.agg [.lit (.int .i64 a), .lit (.int .i64 b)], pl)) : c0 = .int .i64 a ∧ c1 = .int .i64 b := by
  obtain ⟨xs, n, _, hx, _, hlen, hf⟩ := DataW.trod_struct Tryd.underlying110 h
  have f0 := hf 0 _ rfl
  have f1 := hf 1 _ rfl
  simp only [Prod.mk.injEq, DataW.agg.injEq] at hx
  obtain ⟨hx1, _⟩ := hx
  match xs, hlen, hx1, f0, f1 with
  | [x0, x1], _, hx1, f0, f1 =>
    simp only [List.map_cons, List.map_nil, List.cons.injEq] at hx1
    obtain ⟨k, e1, e2, _⟩ := DataW.trod_int Tryd.underlying3 (show DataW.trod _ Tryd.prog W 0 _ _ n 3 [c0] = some x0 from f0)
    obtain ⟨j, e3, e4, _⟩ := DataW.trod_int Tryd.underlying3 (show DataW.trod _ Tryd.prog W 0 _ _ n 3 [c1] = some x1 from f1)
    rw [e2, e4] at hx1
    simp at hx1 e1 e3
    obtain ⟨h1, h2⟩ := hx1
    exact ⟨by rw [e1, h1], by rw [e3, h2]⟩
set_option maxRecDepth 100000 in
theorem dirs_of {W : World} (h : laidMetH Tryd.prog laidV W) : Dirs W := by
  rw [MakeChecks.laidMetH_plain _ _ _ (by kernel_rfl)] at h
  obtain ⟨ps, ⟨g0, t0, cs0, f0, p0, q0, hg0, ht0, hv0, hd0, _, _⟩, _, _⟩ := h
  obtain rfl := Option.some.inj (gDirs.symm.trans hg0)
  obtain rfl := Option.some.inj (tDirs.symm.trans ht0)
  obtain ⟨xs, m1, _, hx1, hlen, hn5, hel⟩ := DataW.trod_array Tryd.underlying111 hd0
  rw [cells111] at hlen
  have hcell := fun k => World.var?_cell hg0 hv0 k
  simp only [Prod.mk.injEq] at hx1
  obtain ⟨l⟩ := cs0
  match l, hlen, hel, hcell with
  | [c0, c1, c2, c3, c4, c5, c6, c7, c8, c9], _, hel, hcell =>
    have e0 := hel 0 (by decide)
    have e1 := hel 1 (by decide)
    have e2 := hel 2 (by decide)
    have e3 := hel 3 (by decide)
    have e4 := hel 4 (by decide)
    rw [cells110] at e0 e1 e2 e3 e4
    match xs, hn5, hx1, e0, e1, e2, e3, e4 with
    | [x0, x1, x2, x3, x4], _, hx1, e0, e1, e2, e3, e4 =>
      have hx := hx1.1
      unfold Rows.laid_skimmer_slick_directions at hx
      simp only [DataW.agg.injEq, List.map_cons, List.map_nil, List.cons.injEq] at hx
      obtain ⟨i0, i1, i2, i3, i4, _⟩ := hx
      obtain ⟨y0, z0⟩ := x0
      obtain ⟨y1, z1⟩ := x1
      obtain ⟨y2, z2⟩ := x2
      obtain ⟨y3, z3⟩ := x3
      obtain ⟨y4, z4⟩ := x4
      dsimp only at i0 i1 i2 i3 i4
      subst i0 i1 i2 i3 i4
      obtain ⟨rfl, rfl⟩ := step_of (show DataW.trod _ Tryd.prog W 0 _ _ m1 110 [c0, c1] = some _ from e0)
      obtain ⟨rfl, rfl⟩ := step_of (show DataW.trod _ Tryd.prog W 0 _ _ m1 110 [c2, c3] = some _ from e1)
      obtain ⟨rfl, rfl⟩ := step_of (show DataW.trod _ Tryd.prog W 0 _ _ m1 110 [c4, c5] = some _ from e2)
      obtain ⟨rfl, rfl⟩ := step_of (show DataW.trod _ Tryd.prog W 0 _ _ m1 110 [c6, c7] = some _ from e3)
      obtain ⟨rfl, rfl⟩ := step_of (show DataW.trod _ Tryd.prog W 0 _ _ m1 110 [c8, c9] = some _ from e4)
      have hc0 : W.cell? ⟨0, 0, none⟩ = some (.int .i64 0) := by simpa using hcell 0
      refine ⟨by have := World.block_lt_of_cell? _ _ hc0; exact this, fun k hk => ?_⟩
      have hk' : k = 0 ∨ k = 1 ∨ k = 2 ∨ k = 3 ∨ k = 4 := by omega
      rcases hk' with rfl | rfl | rfl | rfl | rfl
      · exact ⟨(hcell 0).trans rfl, (hcell 1).trans rfl⟩
      · exact ⟨(hcell 2).trans rfl, (hcell 3).trans rfl⟩
      · exact ⟨(hcell 4).trans rfl, (hcell 5).trans rfl⟩
      · exact ⟨(hcell 6).trans rfl, (hcell 7).trans rfl⟩
      · exact ⟨(hcell 8).trans rfl, (hcell 9).trans rfl⟩
end Go.Proofs.YtnbgjgiknfcdkaaDoor
