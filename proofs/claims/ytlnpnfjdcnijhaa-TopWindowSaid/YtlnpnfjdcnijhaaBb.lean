/-
  The plain opening: does it repeat itself after so many hours; the opening with its least period.
-/
import Derived.Test.YtlnpnfjdcnijhaaBc
namespace Go.Proofs.Ytlnpnfjdcnijhaa
open Go.RowKit Go.Deep M
set_option linter.unusedVariables false
set_option linter.unusedSimpArgs false
attribute [local go_sem high] run_fld

theorem BxO.cells {w : World} {b : Nat} {p : Int} {F : Value} (h : BxO w b p F) : w.cell? ⟨b, 0, none⟩ = some (.int .i64 p) ∧ w.cell? ⟨b, 1, none⟩ = some F := ⟨h.c0, h.c1⟩
/-- A world in which an opening's box lies. -/
structure OpX (w : World) (p : Int) (F : Value) (X : World) : Prop where
  below : Below w.heap.size w X
  box : BxO X w.heap.size p F
theorem OpX.up {w X Y : World} {p : Int} {F : Value} (h : OpX w p F X) (hb : Below X.heap.size X Y) : OpX w p F Y := ⟨h.below.trans (hb.mono h.below.size), h.box.up hb⟩
theorem OpX.drew {w X : World} {p : Int} {F : Value} (h : OpX w p F X) : OpX w p F X.drew := ⟨below_drew h.below, h.box⟩
theorem OpX.cell {w X : World} {p : Int} {F : Value} (h : OpX w p F X) : X.cell? ⟨w.heap.size, 1, none⟩ = some F := h.box.c1

theorem BxO.fz {w : World} {b : Nat} {p : Int} {F : Value} (h : BxO w b p F) (k : Nat) : w.frozen? ⟨b, k, none⟩ = false := by simp [World.frozen?, show w.heap[b]? = _ from h]
/-- The world in which plain runs. -/
structure PlX (w : World) (p : Int) (F : Value) (X : World) : Prop where
  below : Below w.heap.size w X
  box : BxO X w.heap.size p F
  res : BxO X (w.heap.size + 1) 0 .nilFunc
theorem PlX.up {w X Y : World} {p : Int} {F : Value} (h : PlX w p F X) (hb : Below X.heap.size X Y) : PlX w p F Y := ⟨h.below.trans (hb.mono h.below.size), h.box.up hb, h.res.up hb⟩

set_option maxRecDepth 100000 in
set_option maxHeartbeats 2000000 in
theorem repeats_any (B : Nat) (p k : Nat) (F : Value) (f : Int → Bool) (w : World) (hO : Opn w B F f) (hB : B ≤ w.heap.size) (hp : p ≤ 4000) (hk : k ≤ 4000) :
    Calls Try.prog 106 #[.agg #[.int .i64 p, F], .int .i64 k] w fun e w' => e = .returned (.bool (repB p f k)) ∧ Below w.heap.size w w' := by
  obtain ⟨g, caps, rfl, hen, hcall⟩ := hO
  have hx := BxO.new w p (.func (Fn.func g) #[] caps)
  have c0 := hx.c0
  have hW : OpX w p (.func (Fn.func g) #[] caps) (w.alloc (.cells #[.int .i64 p, .func (Fn.func g) #[] caps] 74)) := ⟨ba1 _ _, hx⟩
  have hno := fun n => @repB_no p f k n
  have hyy : Rep p f k p → repB p f k = true := fun h => decide_eq_true h
  generalize repB p f k = R at *
  have hc : ∀ X, OpX w p (.func (Fn.func g) #[] caps) X → ∀ h : Int, (-4000000000000000000 ≤ h ∧ h ≤ 4000000000000000000) → Calls Try.prog g (#[.int .i64 h] ++ caps) X fun e X' => e = .returned (.bool (f h)) ∧ OpX w p (.func (Fn.func g) #[] caps) X' := fun X hX h hh =>
    (hcall X (hX.below.mono hB) (Nat.le_trans hB hX.below.size) h hh).mono fun e w' ⟨he, hb⟩ => ⟨he, hX.up hb⟩
  clear hcall
  replace hx := Lib.hid hx
  replace hW := Lib.hid hW
  replace hno := Lib.hid hno
  replace hyy := Lib.hid hyy
  replace hc := Lib.hid hc
  go_enter Try.func106, Try.ntmps106
  go_wp2
  clear c0
  go_loopw [8] (fun i X => ∃ n : Nat, n ≤ p ∧ i = .int .i64 (n : Nat) ∧ Rep p f k n ∧ OpX w p (.func (Fn.func g) #[] caps) X) (fun i _ => p - (intOf i).toNat)
  case atStart => exact ⟨0, Nat.zero_le _, rfl, rep_zero p f k, hW.out⟩
  case round =>
    obtain ⟨n, hn, rfl, hr, hX⟩ := hrel
    by_cases hlt : n < p
    · have hXd := hX.drew
      have hst := fun hh => rep_succ (k := k) hr hh
      have hn0 := hno.out n hlt
      have ha := fun X hX => hc.out X hX n (by omega)
      have hb := fun X hX => hc.out X hX ((n : Int) + k) (by omega)
      generalize f (n : Int) = q1 at *
      generalize f ((n : Int) + k) = q2 at *
      have wr1 : IntKind.i64.wrap ((n : Int) + k) = (n : Int) + k := IntWalk.i64_in _ (by omega)
      replace hr := Lib.hid hr
      replace hX := Lib.hid hX
      replace ha := Lib.hid ha
      replace hb := Lib.hid hb
      by_cases hq : q1 = q2
      · subst hq
        have hs := Lib.hid (hst rfl)
        clear hst hn0
        go_wp2_with fail
        go_region_held3 (fun X => X.cell? ⟨w.heap.size, 1, none⟩ = some (.func (Fn.func g) #[] caps))
          (first | with_reducible exact OpX.cell (by assumption))
          (first | (with_reducible refine (ha.out _ (by assumption)).mono ?_; rintro e X1 ⟨rfl, hX1⟩) | (with_reducible refine (hb.out _ (by assumption)).mono ?_; rintro e X2 ⟨rfl, hX2⟩))
        all_goals
          have hXe := Lib.hid (show OpX w p (.func (Fn.func g) #[] caps) _ by assumption)
          go_wp2
          go_roundw
          case rel => exact ⟨n + 1, by omega, by go_num, hs.out, by assumption⟩
          case measure => simp [intOf]; omega
      · have hR := hn0 hq
        subst hR
        clear hst hn0
        have hne : (q1 == q2) = false := by simpa using hq
        replace hq := Lib.hid hq
        go_wp2_with fail
        go_region_held3 (fun X => X.cell? ⟨w.heap.size, 1, none⟩ = some (.func (Fn.func g) #[] caps))
          (first | with_reducible exact OpX.cell (by assumption))
          (first | (with_reducible refine (ha.out _ (by assumption)).mono ?_; rintro e X1 ⟨rfl, hX1⟩) | (with_reducible refine (hb.out _ (by assumption)).mono ?_; rintro e X2 ⟨rfl, hX2⟩))
        all_goals
          go_wp2
          go_ret
          first | exact ⟨rfl, hX2.below⟩ | exact ⟨rfl, hX1.below⟩
    · have hn' : n = p := by omega
      subst hn'
      have hR := hyy.out hr
      subst hR
      replace hr := Lib.hid hr
      replace hX := Lib.hid hX
      go_wp2
      go_ret
      exact ⟨rfl, hX.out.below⟩

end Go.Proofs.Ytlnpnfjdcnijhaa
