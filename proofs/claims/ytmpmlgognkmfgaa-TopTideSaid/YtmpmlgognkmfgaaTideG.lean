/-
  The contracts of Beat, Once and Same, of the program and of the specification.
-/
import Derived.Test.YtmpmlgognkmfgaaBeatRef
import Derived.Test.YtmpmlgognkmfgaaTideF
namespace Go.Proofs.Ytmpmlgognkmfgaa
open Go.RowKit Go.Deep M
set_option linter.unusedVariables false
set_option linter.unusedSimpArgs false

def beatR (T : List (List Int)) : Int × Int := two (validB T) true (bt T)
def onceR (T : List (List Int)) : List Int × Int := if validB T then (spdL T (bt T), 0) else ([], 10)
/-- What a function with a new list and an error returns. -/
def NewRowE (w : World) (p : List Int × Int) (e : Ending) (w' : World) : Prop := ∃ A c, e = .returned (.tuple #[.slice A p.1.length c, .int .i64 p.2]) ∧ Below w.heap.size w w' ∧ Row w' w'.heap.size A p.1
theorem newRow_none (w : World) (x : Int) {p : List Int × Int} (h : p = ([], x)) : NewRowE w p (.returned (.tuple #[.slice none 0 0, .int .i64 x])) w := by
  subst h
  exact ⟨none, 0, rfl, Below.refl _ _, by simp, fun h => absurd h (by simp)⟩
theorem enter65 (args : Array Value) (w : World) : (callFunc 65 args).run Try.prog w = .ok (.enter 65 args) w := enter_of Try.func65 (by kernel_rfl) rfl args w
theorem enter68 (args : Array Value) (w : World) : (callFunc 68 args).run Try.prog w = .ok (.enter 68 args) w := enter_of Try.func68 (by kernel_rfl) rfl args w

theorem Beat_any (B : Nat) (A : Option Addr) (c : Nat) (T : List (List Int)) (w : World) (h : Mat w B A T) (hB : B ≤ w.heap.size) :
    Calls Try.prog 27 #[.slice A T.length c] w fun e w' => e = R2 (beatR T) ∧ Below w.heap.size w w' := by
  have h3 : Calls Try.prog 49 #[.slice A T.length c, .func (Fn.func 65) #[] #[], .slice none 0 0] w fun e w' => e = R2 (beatR T) ∧ Below w.heap.size w w' := by
    refine told_int0 B A c T 65 _ 0 [] _ w h (bools_none w) enter65 (fun hv => ?_) (fun hv ha => ?_) (fun hv ha => ?_)
    · exact ⟨R2_of (by unfold beatR; rw [hv]; rfl), Below.refl _ _⟩
    · rw [allB_none] at ha; cases ha
    · refine (beat_any B A c T w h hB (val_of hv)).mono ?_
      rintro e w' ⟨rfl, hb⟩
      exact ⟨_, rfl, R2_of (by unfold beatR; rw [hv]; rfl), hb⟩
  generalize beatR T = p at h3 ⊢
  obtain ⟨x, y⟩ := p
  replace h3 := Lib.hid h3
  go_enter Try.func27, Try.ntmps27
  go_wp2_with fail
  refine h3.out.mono ?_
  rintro e w' ⟨rfl, hb⟩
  unfold R2
  go_wp2
  go_ret2
  exact ⟨rfl, hb⟩
theorem Beat_ref (B : Nat) (A : Option Addr) (c : Nat) (T : List (List Int)) (w : World) (h : Mat w B A T) (hB : B ≤ w.heap.size) :
    Calls Try.prog 28 #[.slice A T.length c] w fun e w' => e = R2 (beatR T) ∧ Below w.heap.size w w' := by
  cases hv : validB T with
  | false =>
    have hr := Lib.hid (show beatR T = (0, 10) by unfold beatR; rw [hv]; rfl)
    replace hv := Lib.hid hv
    go_enter Try.func28, Try.ntmps28
    go_wp2_with fail
    refine (valid_ref B _ _ _ _ h).mono ?_
    rintro e w' ⟨rfl, rfl⟩
    rw [hv.out]
    go_wp2
    go_ret2
    exact ⟨R2_of hr.out, Below.refl _ _⟩
  | true =>
    have hr := Lib.hid (show beatR T = ((bt T : Int), 0) by unfold beatR; rw [hv]; rfl)
    have hc := Lib.hid (beat_ref B A c T w h hB (val_of hv))
    replace hv := Lib.hid hv
    go_enter Try.func28, Try.ntmps28
    go_wp2_with fail
    refine (valid_ref B _ _ _ _ h).mono ?_
    rintro e w' ⟨rfl, rfl⟩
    rw [hv.out]
    go_wp2_with fail
    refine hc.out.mono ?_
    rintro e w' ⟨rfl, hb⟩
    go_wp2
    go_ret2
    exact ⟨R2_of hr.out, hb⟩

theorem Once_any (B : Nat) (A : Option Addr) (c : Nat) (T : List (List Int)) (w : World) (h : Mat w B A T) (hB : B ≤ w.heap.size) :
    Calls Try.prog 29 #[.slice A T.length c] w (NewRowE w (onceR T)) := by
  have h3 : Calls Try.prog 67 #[.slice A T.length c, .func (Fn.func 68) #[] #[], .slice none 0 0] w (NewRowE w (onceR T)) := by
    refine told_ints0 B A c T 68 _ 0 [] _ w h (bools_none w) enter68 (fun hv => ?_) (fun hv ha => ?_) (fun hv ha => ?_)
    · exact newRow_none w 10 (by unfold onceR; rw [hv]; rfl)
    · rw [allB_none] at ha; cases ha
    · refine (once_any B A c T w h hB (val_of hv)).mono ?_
      rintro e w' ⟨A', c', rfl, hb, hrow⟩
      have : onceR T = (spdL T (bt T), 0) := by unfold onceR; rw [hv]; rfl
      exact ⟨_, rfl, A', c', by rw [this], hb, by rw [this]; exact hrow.row⟩
  generalize onceR T = p at h3 ⊢
  obtain ⟨U, x⟩ := p
  replace h3 := Lib.hid h3
  go_enter Try.func29, Try.ntmps29
  go_wp2_with fail
  refine h3.out.mono ?_
  rintro e w' ⟨A', c', rfl, hb, hrow⟩
  go_wp2
  go_ret2
  exact ⟨A', c', rfl, hb, hrow⟩
theorem Once_ref (B : Nat) (A : Option Addr) (c : Nat) (T : List (List Int)) (w : World) (h : Mat w B A T) (hB : B ≤ w.heap.size) :
    Calls Try.prog 30 #[.slice A T.length c] w (NewRowE w (onceR T)) := by
  cases hv : validB T with
  | false =>
    have hr := Lib.hid (newRow_none w 10 (p := onceR T) (by unfold onceR; rw [hv]; rfl))
    replace hv := Lib.hid hv
    go_enter Try.func30, Try.ntmps30
    go_wp2_with fail
    refine (valid_ref B _ _ _ _ h).mono ?_
    rintro e w' ⟨rfl, rfl⟩
    rw [hv.out]
    go_wp2
    go_ret2
    exact hr.out
  | true =>
    have hV := val_of hv
    have hr : onceR T = (spdL T (bt T), 0) := by unfold onceR; rw [hv]; rfl
    obtain ⟨r1, r2⟩ := rnd_bound hV
    obtain ⟨b1, b2, _, _⟩ := bt_spec r1
    have hc := Lib.hid (beat_ref B A c T w h hB hV)
    have hc2 := Lib.hid (fun W (h1 : Mat W B A T) (h2 : B ≤ W.heap.size) => speeds_ref B A c T (bt T) W h1 h2 hV (by omega))
    rw [hr]
    generalize spdL T (bt T) = L at hc2 ⊢
    clear hr
    replace hv := Lib.hid hv
    go_enter Try.func30, Try.ntmps30
    go_wp2_with fail
    refine (valid_ref B _ _ _ _ h).mono ?_
    rintro e w' ⟨rfl, rfl⟩
    rw [hv.out]
    go_wp2_with fail
    refine hc.out.mono ?_
    rintro e w1 ⟨rfl, hb1⟩
    go_wp2_with fail
    refine (hc2.out w1 (h.below (hb1.mono hB)) (by have := hb1.size; omega)).mono ?_
    rintro e w2 ⟨A2, rfl, hb2, hr2⟩
    have hb02 := hb1.trans (hb2.mono hb1.size)
    have hr02 := hr2.row
    go_wp2
    go_ret2
    exact ⟨A2, _, rfl, hb02, hr02⟩

end Go.Proofs.Ytmpmlgognkmfgaa
