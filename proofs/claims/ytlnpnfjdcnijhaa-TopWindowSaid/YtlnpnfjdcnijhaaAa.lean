/-
  Openings that are made of others: not, shifted, both, one of two, always.
-/
import Derived.Test.YtlnpnfjdcnijhaaV
namespace Go.Proofs.Ytlnpnfjdcnijhaa
open Go.RowKit Go.Deep M
set_option linter.unusedVariables false
set_option linter.unusedSimpArgs false

theorem enter101 (args : Array Value) (w : World) : (callFunc 101 args).run Try.prog w = .ok (.enter 101 args) w := enter_of Try.func101 (by kernel_rfl) rfl args w
theorem enter103 (args : Array Value) (w : World) : (callFunc 103 args).run Try.prog w = .ok (.enter 103 args) w := enter_of Try.func103 (by kernel_rfl) rfl args w
theorem enter104 (args : Array Value) (w : World) : (callFunc 104 args).run Try.prog w = .ok (.enter 104 args) w := enter_of Try.func104 (by kernel_rfl) rfl args w
theorem enter105 (args : Array Value) (w : World) : (callFunc 105 args).run Try.prog w = .ok (.enter 105 args) w := enter_of Try.func105 (by kernel_rfl) rfl args w
theorem enter112 (args : Array Value) (w : World) : (callFunc 112 args).run Try.prog w = .ok (.enter 112 args) w := enter_of Try.func112 (by kernel_rfl) rfl args w

/-- .. for small hours. -/
def OpnS (w : World) (B : Nat) (F : Value) (f : Int → Bool) : Prop :=
  ∃ g caps, F = .func (Fn.func g) #[] caps ∧ (∀ (args : Array Value) (w : World), (callFunc g args).run Try.prog w = .ok (.enter g args) w) ∧
    ∀ X, Below B w X → B ≤ X.heap.size → ∀ h : Int, (-2000000000 ≤ h ∧ h ≤ 2000000000) → Calls Try.prog g (#[.int .i64 h] ++ caps) X fun e X' => e = .returned (.bool (f h)) ∧ Below X.heap.size X X'
theorem Opn.small {w : World} {B : Nat} {F : Value} {f : Int → Bool} (h : Opn w B F f) : OpnS w B F f := by
  obtain ⟨g, caps, h1, h2, h3⟩ := h
  exact ⟨g, caps, h1, h2, fun X hX hB h hh => h3 X hX hB h (by omega)⟩
theorem OpnS.up {w w' : World} {B : Nat} {F : Value} {f : Int → Bool} (h : OpnS w B F f) (hb : Below B w w') : OpnS w' B F f := by
  obtain ⟨g, caps, h1, h2, h3⟩ := h
  exact ⟨g, caps, h1, h2, fun X hX hBX => h3 X (hb.trans hX) hBX⟩

theorem always1 (h : Int) (w : World) : Calls Try.prog 112 #[.int .i64 h] w fun e w' => e = .returned (.bool true) ∧ Below w.heap.size w w' := by
  go_enter Try.func112, Try.ntmps112
  go_wp2
  go_ret
  exact ⟨rfl, Below.refl _ _⟩

set_option maxHeartbeats 1000000 in
theorem not1 (b : Nat) (p : Int) (F : Value) (f : Int → Bool) (B : Nat) (h : Int) (w : World) (hx : BxO w b p F) (hO : Opn w B F f) (hB : B ≤ w.heap.size) (hh : -4000000000000000000 ≤ h ∧ h ≤ 4000000000000000000) :
    Calls Try.prog 104 #[.int .i64 h, .pointer (some ⟨b, 0, none⟩)] w fun e w' => e = .returned (.bool (!f h)) ∧ Below w.heap.size w w' := by
  obtain ⟨g, caps, rfl, hen, hcall⟩ := hO
  have hc := hcall w (Below.refl _ _) hB h hh
  have c1 := hx.c1
  have hlt := hx.lt
  generalize f h = q at *
  clear hcall
  replace hc := Lib.hid hc
  replace hx := Lib.hid hx
  go_enter Try.func104, Try.ntmps104
  go_wp2_with fail
  refine hc.out.mono ?_
  rintro e w1 ⟨rfl, hb1⟩
  cases q with
  | true =>
    go_wp2
    go_ret
    exact ⟨rfl, hb1⟩
  | false =>
    go_wp2
    go_ret
    exact ⟨rfl, hb1⟩

set_option maxHeartbeats 1000000 in
theorem shifted1 (b b2 : Nat) (p by_ : Int) (F : Value) (f : Int → Bool) (B : Nat) (h : Int) (w : World) (hx : BxO w b p F) (hy : w.cell? ⟨b2, 0, none⟩ = some (.int .i64 by_)) (hy2 : b2 < w.heap.size) (hO : Opn w B F f) (hB : B ≤ w.heap.size) (hby : -1000000 ≤ by_ ∧ by_ ≤ 1000000) (hh : -2000000000 ≤ h ∧ h ≤ 2000000000) :
    Calls Try.prog 105 #[.int .i64 h, .pointer (some ⟨b, 0, none⟩), .pointer (some ⟨b2, 0, none⟩)] w fun e w' => e = .returned (.bool (f (h + by_))) ∧ Below w.heap.size w w' := by
  obtain ⟨g, caps, rfl, hen, hcall⟩ := hO
  have hc := hcall w (Below.refl _ _) hB (h + by_) (by omega)
  have c1 := hx.c1
  have hlt := hx.lt
  have wr : IntKind.i64.wrap (h + by_) = h + by_ := IntWalk.i64_in _ (by omega)
  generalize f (h + by_) = q at *
  clear hcall hby hh
  replace hc := Lib.hid hc
  replace hx := Lib.hid hx
  go_enter Try.func105, Try.ntmps105
  go_wp2_with fail
  refine hc.out.mono ?_
  rintro e w1 ⟨rfl, hb1⟩
  go_wp2
  go_ret
  exact ⟨rfl, hb1⟩

set_option maxHeartbeats 1000000 in
theorem both1 (b b2 : Nat) (p p2 : Int) (F F2 : Value) (f f2 : Int → Bool) (B : Nat) (h : Int) (w : World) (hx : BxO w b p F) (hy : BxO w b2 p2 F2) (hO : Opn w B F f) (hO2 : Opn w B F2 f2) (hB : B ≤ w.heap.size) (hh : -4000000000000000000 ≤ h ∧ h ≤ 4000000000000000000) :
    Calls Try.prog 101 #[.int .i64 h, .pointer (some ⟨b, 0, none⟩), .pointer (some ⟨b2, 0, none⟩)] w fun e w' => e = .returned (.bool (f h && f2 h)) ∧ Below w.heap.size w w' := by
  obtain ⟨g, caps, rfl, hen, hcall⟩ := hO
  obtain ⟨g2, caps2, rfl, hen2, hcall2⟩ := hO2
  have hc := hcall w (Below.refl _ _) hB h hh
  have hc2 : ∀ X, Below w.heap.size w X → _ := fun X hX => hcall2 X (hX.mono hB) (Nat.le_trans hB hX.size) h hh
  have c1 := hx.c1
  have d1 := hy.c1
  have hlt := hx.lt
  have hlt2 := hy.lt
  generalize f h = q at *
  generalize f2 h = q2 at *
  clear hcall hcall2
  replace hc := Lib.hid hc
  replace hc2 := Lib.hid hc2
  replace hx := Lib.hid hx
  replace hy := Lib.hid hy
  cases q with
  | false =>
    go_enter Try.func101, Try.ntmps101
    go_wp2_with fail
    refine hc.out.mono ?_
    rintro e w1 ⟨rfl, hb1⟩
    go_wp2
    go_ret
    exact ⟨rfl, hb1⟩
  | true =>
    go_enter Try.func101, Try.ntmps101
    go_wp2_with fail
    refine hc.out.mono ?_
    rintro e w1 ⟨rfl, hb1⟩
    have e1 := (hy.out.up hb1).c1
    go_wp2_with fail
    refine (hc2.out _ hb1).mono ?_
    rintro e w2 ⟨rfl, hb2⟩
    go_wp2
    go_ret
    exact ⟨rfl, hb1.trans (hb2.mono hb1.size)⟩

set_option maxHeartbeats 1000000 in
theorem either1 (b b2 : Nat) (p p2 : Int) (F F2 : Value) (f f2 : Int → Bool) (B : Nat) (h : Int) (w : World) (hx : BxO w b p F) (hy : BxO w b2 p2 F2) (hO : Opn w B F f) (hO2 : Opn w B F2 f2) (hB : B ≤ w.heap.size) (hh : -4000000000000000000 ≤ h ∧ h ≤ 4000000000000000000) :
    Calls Try.prog 103 #[.int .i64 h, .pointer (some ⟨b, 0, none⟩), .pointer (some ⟨b2, 0, none⟩)] w fun e w' => e = .returned (.bool (f h || f2 h)) ∧ Below w.heap.size w w' := by
  obtain ⟨g, caps, rfl, hen, hcall⟩ := hO
  obtain ⟨g2, caps2, rfl, hen2, hcall2⟩ := hO2
  have hc := hcall w (Below.refl _ _) hB h hh
  have hc2 : ∀ X, Below w.heap.size w X → _ := fun X hX => hcall2 X (hX.mono hB) (Nat.le_trans hB hX.size) h hh
  have c1 := hx.c1
  have d1 := hy.c1
  have hlt := hx.lt
  have hlt2 := hy.lt
  generalize f h = q at *
  generalize f2 h = q2 at *
  clear hcall hcall2
  replace hc := Lib.hid hc
  replace hc2 := Lib.hid hc2
  replace hx := Lib.hid hx
  replace hy := Lib.hid hy
  cases q with
  | true =>
    go_enter Try.func103, Try.ntmps103
    go_wp2_with fail
    refine hc.out.mono ?_
    rintro e w1 ⟨rfl, hb1⟩
    go_wp2
    go_ret
    exact ⟨rfl, hb1⟩
  | false =>
    go_enter Try.func103, Try.ntmps103
    go_wp2_with fail
    refine hc.out.mono ?_
    rintro e w1 ⟨rfl, hb1⟩
    have e1 := (hy.out.up hb1).c1
    go_wp2_with fail
    refine (hc2.out _ hb1).mono ?_
    rintro e w2 ⟨rfl, hb2⟩
    go_wp2
    go_ret
    exact ⟨rfl, hb1.trans (hb2.mono hb1.size)⟩
end Go.Proofs.Ytlnpnfjdcnijhaa
