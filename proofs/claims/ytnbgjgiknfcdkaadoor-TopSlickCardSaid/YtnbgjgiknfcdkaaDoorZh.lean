/-
  'share' of the specification: how many sixteenths go which way, and the cell.
-/
import Derived.Test.YtnbgjgiknfcdkaaDoorMn
import Derived.Test.YtnbgjgiknfcdkaaDoorT
import Derived.Deep.DeepCutAuto
namespace Go.Proofs.YtnbgjgiknfcdkaaDoor
open Go.RowKit Go.Deep M
set_option linter.unusedVariables false
set_option linter.unusedSimpArgs false

set_option maxRecDepth 100000 in
set_option maxHeartbeats 4000000 in
theorem Share_out (B wn hn : Nat) (aL aS : Option Addr) (cL cS : Nat) (L : List Bool) (S : List Int) (x y : Int) (k : Nat) (w : World) (hx : -7 ≤ x ∧ x ≤ 7) (hy : -7 ≤ y ∧ y ≤ 7) (hw : wn ≤ 6) (hh : hn ≤ 6) (ho : x < 0 ∨ (wn : Int) ≤ x ∨ y < 0 ∨ (hn : Int) ≤ y) :
    Calls Tryd.prog 96 #[.agg #[.int .i64 (wn : Nat), .int .i64 (hn : Nat), .slice aL (wn * hn) cL, .slice aS (wn * hn) cS], .int .i64 x, .int .i64 y, .int .i64 (k : Nat)] w fun e w' => e = .returned (.tuple #[.int .i64 0, .int .i64 0]) ∧ Below w.heap.size w w' := by
  have hb0 := ba1 w (.cells #[.int .i64 (wn : Nat), .int .i64 (hn : Nat), .slice aL (wn * hn) cL, .slice aS (wn * hn) cS] 25)
  have t := Quad.new w (.int .i64 (wn : Nat)) (.int .i64 (hn : Nat)) (.slice aL (wn * hn) cL) (.slice aS (wn * hn) cS)
  have q0 := t.c0
  have q1 := t.c1
  clear t
  by_cases h1 : x < 0
  · clear ho
    go_enter Tryd.func96, Tryd.ntmps96
    go_wp2
    go_ret2
    exact ⟨rfl, hb0⟩
  by_cases h2 : (wn : Int) ≤ x
  · clear ho
    go_enter Tryd.func96, Tryd.ntmps96
    go_wp2
    go_ret2
    exact ⟨rfl, hb0⟩
  by_cases h3 : y < 0
  · clear ho
    go_enter Tryd.func96, Tryd.ntmps96
    go_wp2
    go_ret2
    exact ⟨rfl, hb0⟩
  have h4 : (hn : Int) ≤ y := by omega
  clear ho
  go_enter Tryd.func96, Tryd.ntmps96
  go_wp2
  go_ret2
  exact ⟨rfl, hb0⟩

set_option maxRecDepth 100000 in
set_option maxHeartbeats 4000000 in
theorem Share_in (B wn hn : Nat) (aL aS : Option Addr) (cL cS : Nat) (L : List Bool) (S : List Int) (x y k : Nat) (w : World) (h : BayIn w B aL L aS (wn * hn) S) (hB : B ≤ w.heap.size) (hw : wn ≤ 6) (hh : hn ≤ 6) (hx : x < wn) (hy : y < hn) (hk : k < 5) :
    Calls Tryd.prog 96 #[.agg #[.int .i64 (wn : Nat), .int .i64 (hn : Nat), .slice aL (wn * hn) cL, .slice aS (wn * hn) cS], .int .i64 (x : Nat), .int .i64 (y : Nat), .int .i64 (k : Nat)] w fun e w' => e = .returned (.tuple #[.int .i64 (sh S (y * wn + x) k), .int .i64 ((y * wn + x : Nat) : Int)]) ∧ Below w.heap.size w w' := by
  have hb0 := ba1 w (.cells #[.int .i64 (wn : Nat), .int .i64 (hn : Nat), .slice aL (wn * hn) cL, .slice aS (wn * hn) cS] 25)
  have t := Quad.new w (.int .i64 (wn : Nat)) (.int .i64 (hn : Nat)) (.slice aL (wn * hn) cL) (.slice aS (wn * hn) cS)
  have hin := cell_lt hx hy
  obtain ⟨b, o, rfl, hb, hs⟩ := h.share.2.2 (by omega)
  have hc := (hb0.mono hB).cell (p := ⟨b, o + (y * wn + x) * 5 + k, none⟩) hb |>.trans (hs _ k hin hk)
  have hn36 : wn * hn ≤ 36 := Nat.mul_le_mul hw hh
  have hp6 : y * wn ≤ 36 := Nat.le_trans (Nat.mul_le_mul (show y ≤ 6 by omega) hw) (by omega)
  have e1 : IntKind.i64.wrap ((y : Int) * wn) = ((y * wn : Nat) : Int) := by
    rw [← Int.natCast_mul]
    exact IntWalk.i64_in _ (by omega)
  generalize hN : wn * hn = nn at *
  generalize hP : y * wn = pp at *
  obtain ⟨ii, hI⟩ : ∃ ii, ii = pp + x := ⟨_, rfl⟩
  rw [← hI] at hc hin ⊢
  have e2 : IntKind.i64.wrap ((pp : Int) + x) = (ii : Int) := by
    rw [hI, ← Int.natCast_add]
    exact IntWalk.i64_in _ (by omega)
  clear hI hP hs hp6 h
  generalize sh S ii k = v at *
  have q0 := t.c0
  have q1 := t.c1
  have q3 := t.c3
  clear t
  have x0 : ¬ ((x : Int) < 0) := by omega
  have y0 : ¬ ((y : Int) < 0) := by omega
  have x1 : ¬ ((wn : Int) ≤ x) := by omega
  have y1 : ¬ ((hn : Int) ≤ y) := by omega
  go_enter Tryd.func96, Tryd.ntmps96
  go_upto_region 3 with fail
  go_quiet (fail)
  go_wp2
  go_ret2
  exact ⟨rfl, below_drewN hb0 _⟩
theorem Share_any (B wn hn : Nat) (aL aS : Option Addr) (cL cS : Nat) (L : List Bool) (S : List Int) (x y : Int) (k : Nat) (w : World) (h : BayIn w B aL L aS (wn * hn) S) (hB : B ≤ w.heap.size) (hw : wn ≤ 6) (hh : hn ≤ 6) (hx : -7 ≤ x ∧ x ≤ 7) (hy : -7 ≤ y ∧ y ≤ 7) (hk : k < 5) :
    Calls Tryd.prog 96 #[.agg #[.int .i64 (wn : Nat), .int .i64 (hn : Nat), .slice aL (wn * hn) cL, .slice aS (wn * hn) cS], .int .i64 x, .int .i64 y, .int .i64 (k : Nat)] w fun e w' => e = .returned (.tuple #[.int .i64 (shP wn hn S x y k).1, .int .i64 (shP wn hn S x y k).2]) ∧ Below w.heap.size w w' := by
  by_cases ho : x < 0 ∨ (wn : Int) ≤ x ∨ y < 0 ∨ (hn : Int) ≤ y
  · have e : shP wn hn S x y k = (0, 0) := by unfold shP; rw [if_pos ho]
    rw [e]
    exact Share_out B wn hn aL aS cL cS L S x y k w hx hy hw hh ho
  · obtain ⟨x', rfl⟩ : ∃ x' : Nat, x = x' := ⟨x.toNat, by omega⟩
    obtain ⟨y', rfl⟩ : ∃ y' : Nat, y = y' := ⟨y.toNat, by omega⟩
    have hx' : x' < wn := by omega
    have hy' : y' < hn := by omega
    rw [shP_in hx' hy']
    exact Share_in B wn hn aL aS cL cS L S x' y' k w h hB hw hh hx' hy' hk
end Go.Proofs.YtnbgjgiknfcdkaaDoor
