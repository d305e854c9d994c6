/-
  The contracts of the program's functions: what is told of a tide; speeds, drifts, rounds.
-/
import Derived.Test.YtmpmlgognkmfgaaTideA
namespace Go.Proofs.Ytmpmlgognkmfgaa
open Go.RowKit M
set_option linter.unusedVariables false
set_option linter.unusedSimpArgs false

set_option maxHeartbeats 1000000 in
set_option maxRecDepth 100000 in
theorem told_int0 (B : Nat) (A : Option Addr) (c : Nat) (T : List (List Int)) (g : FuncId) (Fa : Option Addr) (Fc : Nat) (fs : List Bool) (Post : Ending → World → Prop) (w : World) (h : Mat w B A T) (hf : Bools w Fa fs)
    (hen : ∀ (args : Array Value) (w : World), (callFunc g args).run Try.prog w = .ok (.enter g args) w)
    (h10 : validB T = false → Post (.returned (.tuple #[.int .i64 0, .int .i64 10])) w)
    (h2 : validB T = true → allB fs = false → Post (.returned (.tuple #[.int .i64 0, .int .i64 2])) w)
    (h0 : validB T = true → allB fs = true → Calls Try.prog g #[.slice A T.length c] w fun e w' => ∃ v, e = .returned v ∧ Post (.returned (.tuple #[v, .int .i64 0])) w') :
    Calls Try.prog 49 #[.slice A T.length c, .func (Fn.func g) #[] #[], .slice Fa fs.length Fc] w Post := by
  cases hv : validB T with
  | false =>
    replace h10 := Lib.hid (h10 hv)
    replace hv := Lib.hid hv
    clear h2 h0
    go_enter Try.func49, Try.ntmps49
    go_wp2_with fail
    refine (valid_any B _ _ _ _ h).mono ?_
    rintro e w' ⟨rfl, rfl⟩
    rw [hv.out]
    go_wp2
    exact h10.out
  | true =>
    cases ha : allB fs with
    | false =>
      replace h2 := Lib.hid (h2 hv ha)
      replace hv := Lib.hid hv
      replace ha := Lib.hid ha
      clear h0 h10
      go_enter Try.func49, Try.ntmps49
      go_wp2_with fail
      refine (valid_any B _ _ _ _ h).mono ?_
      rintro e w' ⟨rfl, rfl⟩
      rw [hv.out]
      go_wp2_with fail
      refine (containsFalse _ _ _ _ hf).mono ?_
      rintro e w' ⟨rfl, rfl⟩
      rw [ha.out]
      go_wp2
      exact h2.out
    | true =>
      replace h0 := Lib.hid (h0 hv ha)
      replace hv := Lib.hid hv
      replace ha := Lib.hid ha
      clear h2 h10
      go_enter Try.func49, Try.ntmps49
      go_wp2_with fail
      refine (valid_any B _ _ _ _ h).mono ?_
      rintro e w' ⟨rfl, rfl⟩
      rw [hv.out]
      go_wp2_with fail
      refine (containsFalse _ _ _ _ hf).mono ?_
      rintro e w' ⟨rfl, rfl⟩
      rw [ha.out]
      go_wp2_with fail
      refine h0.out.mono ?_
      rintro e w' ⟨v, rfl, hb⟩
      go_wp2
      exact hb

set_option maxHeartbeats 1000000 in
set_option maxRecDepth 100000 in
theorem told_int1 (B : Nat) (A : Option Addr) (c : Nat) (T : List (List Int)) (g : FuncId) (p : Value) (Fa : Option Addr) (Fc : Nat) (fs : List Bool) (Post : Ending → World → Prop) (w : World) (h : Mat w B A T) (hf : Bools w Fa fs)
    (hen : ∀ (args : Array Value) (w : World), (callFunc g args).run Try.prog w = .ok (.enter g args) w)
    (h10 : validB T = false → Post (.returned (.tuple #[.int .i64 0, .int .i64 10])) w)
    (h2 : validB T = true → allB fs = false → Post (.returned (.tuple #[.int .i64 0, .int .i64 2])) w)
    (h0 : validB T = true → allB fs = true → Calls Try.prog g #[.slice A T.length c, p] w fun e w' => ∃ v, e = .returned v ∧ Post (.returned (.tuple #[v, .int .i64 0])) w') :
    Calls Try.prog 49 #[.slice A T.length c, .func (Fn.func g) #[] #[p], .slice Fa fs.length Fc] w Post := by
  cases hv : validB T with
  | false =>
    replace h10 := Lib.hid (h10 hv)
    replace hv := Lib.hid hv
    clear h2 h0
    go_enter Try.func49, Try.ntmps49
    go_wp2_with fail
    refine (valid_any B _ _ _ _ h).mono ?_
    rintro e w' ⟨rfl, rfl⟩
    rw [hv.out]
    go_wp2
    exact h10.out
  | true =>
    cases ha : allB fs with
    | false =>
      replace h2 := Lib.hid (h2 hv ha)
      replace hv := Lib.hid hv
      replace ha := Lib.hid ha
      clear h0 h10
      go_enter Try.func49, Try.ntmps49
      go_wp2_with fail
      refine (valid_any B _ _ _ _ h).mono ?_
      rintro e w' ⟨rfl, rfl⟩
      rw [hv.out]
      go_wp2_with fail
      refine (containsFalse _ _ _ _ hf).mono ?_
      rintro e w' ⟨rfl, rfl⟩
      rw [ha.out]
      go_wp2
      exact h2.out
    | true =>
      replace h0 := Lib.hid (h0 hv ha)
      replace hv := Lib.hid hv
      replace ha := Lib.hid ha
      clear h2 h10
      go_enter Try.func49, Try.ntmps49
      go_wp2_with fail
      refine (valid_any B _ _ _ _ h).mono ?_
      rintro e w' ⟨rfl, rfl⟩
      rw [hv.out]
      go_wp2_with fail
      refine (containsFalse _ _ _ _ hf).mono ?_
      rintro e w' ⟨rfl, rfl⟩
      rw [ha.out]
      go_wp2_with fail
      refine h0.out.mono ?_
      rintro e w' ⟨v, rfl, hb⟩
      go_wp2
      exact hb

set_option maxHeartbeats 1000000 in
set_option maxRecDepth 100000 in
theorem told_int2 (B : Nat) (A : Option Addr) (c : Nat) (T : List (List Int)) (g : FuncId) (p : Value) (q : Value) (Fa : Option Addr) (Fc : Nat) (fs : List Bool) (Post : Ending → World → Prop) (w : World) (h : Mat w B A T) (hf : Bools w Fa fs)
    (hen : ∀ (args : Array Value) (w : World), (callFunc g args).run Try.prog w = .ok (.enter g args) w)
    (h10 : validB T = false → Post (.returned (.tuple #[.int .i64 0, .int .i64 10])) w)
    (h2 : validB T = true → allB fs = false → Post (.returned (.tuple #[.int .i64 0, .int .i64 2])) w)
    (h0 : validB T = true → allB fs = true → Calls Try.prog g #[.slice A T.length c, p, q] w fun e w' => ∃ v, e = .returned v ∧ Post (.returned (.tuple #[v, .int .i64 0])) w') :
    Calls Try.prog 49 #[.slice A T.length c, .func (Fn.func g) #[] #[p, q], .slice Fa fs.length Fc] w Post := by
  cases hv : validB T with
  | false =>
    replace h10 := Lib.hid (h10 hv)
    replace hv := Lib.hid hv
    clear h2 h0
    go_enter Try.func49, Try.ntmps49
    go_wp2_with fail
    refine (valid_any B _ _ _ _ h).mono ?_
    rintro e w' ⟨rfl, rfl⟩
    rw [hv.out]
    go_wp2
    exact h10.out
  | true =>
    cases ha : allB fs with
    | false =>
      replace h2 := Lib.hid (h2 hv ha)
      replace hv := Lib.hid hv
      replace ha := Lib.hid ha
      clear h0 h10
      go_enter Try.func49, Try.ntmps49
      go_wp2_with fail
      refine (valid_any B _ _ _ _ h).mono ?_
      rintro e w' ⟨rfl, rfl⟩
      rw [hv.out]
      go_wp2_with fail
      refine (containsFalse _ _ _ _ hf).mono ?_
      rintro e w' ⟨rfl, rfl⟩
      rw [ha.out]
      go_wp2
      exact h2.out
    | true =>
      replace h0 := Lib.hid (h0 hv ha)
      replace hv := Lib.hid hv
      replace ha := Lib.hid ha
      clear h2 h10
      go_enter Try.func49, Try.ntmps49
      go_wp2_with fail
      refine (valid_any B _ _ _ _ h).mono ?_
      rintro e w' ⟨rfl, rfl⟩
      rw [hv.out]
      go_wp2_with fail
      refine (containsFalse _ _ _ _ hf).mono ?_
      rintro e w' ⟨rfl, rfl⟩
      rw [ha.out]
      go_wp2_with fail
      refine h0.out.mono ?_
      rintro e w' ⟨v, rfl, hb⟩
      go_wp2
      exact hb

set_option maxHeartbeats 1000000 in
set_option maxRecDepth 100000 in
theorem told_ints0 (B : Nat) (A : Option Addr) (c : Nat) (T : List (List Int)) (g : FuncId) (Fa : Option Addr) (Fc : Nat) (fs : List Bool) (Post : Ending → World → Prop) (w : World) (h : Mat w B A T) (hf : Bools w Fa fs)
    (hen : ∀ (args : Array Value) (w : World), (callFunc g args).run Try.prog w = .ok (.enter g args) w)
    (h10 : validB T = false → Post (.returned (.tuple #[.slice none 0 0, .int .i64 10])) w)
    (h2 : validB T = true → allB fs = false → Post (.returned (.tuple #[.slice none 0 0, .int .i64 2])) w)
    (h0 : validB T = true → allB fs = true → Calls Try.prog g #[.slice A T.length c] w fun e w' => ∃ v, e = .returned v ∧ Post (.returned (.tuple #[v, .int .i64 0])) w') :
    Calls Try.prog 67 #[.slice A T.length c, .func (Fn.func g) #[] #[], .slice Fa fs.length Fc] w Post := by
  cases hv : validB T with
  | false =>
    replace h10 := Lib.hid (h10 hv)
    replace hv := Lib.hid hv
    clear h2 h0
    go_enter Try.func67, Try.ntmps67
    go_wp2_with fail
    refine (valid_any B _ _ _ _ h).mono ?_
    rintro e w' ⟨rfl, rfl⟩
    rw [hv.out]
    go_wp2
    exact h10.out
  | true =>
    cases ha : allB fs with
    | false =>
      replace h2 := Lib.hid (h2 hv ha)
      replace hv := Lib.hid hv
      replace ha := Lib.hid ha
      clear h0 h10
      go_enter Try.func67, Try.ntmps67
      go_wp2_with fail
      refine (valid_any B _ _ _ _ h).mono ?_
      rintro e w' ⟨rfl, rfl⟩
      rw [hv.out]
      go_wp2_with fail
      refine (containsFalse _ _ _ _ hf).mono ?_
      rintro e w' ⟨rfl, rfl⟩
      rw [ha.out]
      go_wp2
      exact h2.out
    | true =>
      replace h0 := Lib.hid (h0 hv ha)
      replace hv := Lib.hid hv
      replace ha := Lib.hid ha
      clear h2 h10
      go_enter Try.func67, Try.ntmps67
      go_wp2_with fail
      refine (valid_any B _ _ _ _ h).mono ?_
      rintro e w' ⟨rfl, rfl⟩
      rw [hv.out]
      go_wp2_with fail
      refine (containsFalse _ _ _ _ hf).mono ?_
      rintro e w' ⟨rfl, rfl⟩
      rw [ha.out]
      go_wp2_with fail
      refine h0.out.mono ?_
      rintro e w' ⟨v, rfl, hb⟩
      go_wp2
      exact hb

set_option maxHeartbeats 1000000 in
set_option maxRecDepth 100000 in
theorem told_rows0 (B : Nat) (A : Option Addr) (c : Nat) (T : List (List Int)) (g : FuncId) (Fa : Option Addr) (Fc : Nat) (fs : List Bool) (Post : Ending → World → Prop) (w : World) (h : Mat w B A T) (hf : Bools w Fa fs)
    (hen : ∀ (args : Array Value) (w : World), (callFunc g args).run Try.prog w = .ok (.enter g args) w)
    (h10 : validB T = false → Post (.returned (.tuple #[.slice none 0 0, .int .i64 10])) w)
    (h2 : validB T = true → allB fs = false → Post (.returned (.tuple #[.slice none 0 0, .int .i64 2])) w)
    (h0 : validB T = true → allB fs = true → Calls Try.prog g #[.slice A T.length c] w fun e w' => ∃ v, e = .returned v ∧ Post (.returned (.tuple #[v, .int .i64 0])) w') :
    Calls Try.prog 76 #[.slice A T.length c, .func (Fn.func g) #[] #[], .slice Fa fs.length Fc] w Post := by
  cases hv : validB T with
  | false =>
    replace h10 := Lib.hid (h10 hv)
    replace hv := Lib.hid hv
    clear h2 h0
    go_enter Try.func76, Try.ntmps76
    go_wp2_with fail
    refine (valid_any B _ _ _ _ h).mono ?_
    rintro e w' ⟨rfl, rfl⟩
    rw [hv.out]
    go_wp2
    exact h10.out
  | true =>
    cases ha : allB fs with
    | false =>
      replace h2 := Lib.hid (h2 hv ha)
      replace hv := Lib.hid hv
      replace ha := Lib.hid ha
      clear h0 h10
      go_enter Try.func76, Try.ntmps76
      go_wp2_with fail
      refine (valid_any B _ _ _ _ h).mono ?_
      rintro e w' ⟨rfl, rfl⟩
      rw [hv.out]
      go_wp2_with fail
      refine (containsFalse _ _ _ _ hf).mono ?_
      rintro e w' ⟨rfl, rfl⟩
      rw [ha.out]
      go_wp2
      exact h2.out
    | true =>
      replace h0 := Lib.hid (h0 hv ha)
      replace hv := Lib.hid hv
      replace ha := Lib.hid ha
      clear h2 h10
      go_enter Try.func76, Try.ntmps76
      go_wp2_with fail
      refine (valid_any B _ _ _ _ h).mono ?_
      rintro e w' ⟨rfl, rfl⟩
      rw [hv.out]
      go_wp2_with fail
      refine (containsFalse _ _ _ _ hf).mono ?_
      rintro e w' ⟨rfl, rfl⟩
      rw [ha.out]
      go_wp2_with fail
      refine h0.out.mono ?_
      rintro e w' ⟨v, rfl, hb⟩
      go_wp2
      exact hb

set_option maxHeartbeats 1000000 in
set_option maxRecDepth 100000 in
theorem told_rows1 (B : Nat) (A : Option Addr) (c : Nat) (T : List (List Int)) (g : FuncId) (p : Value) (Fa : Option Addr) (Fc : Nat) (fs : List Bool) (Post : Ending → World → Prop) (w : World) (h : Mat w B A T) (hf : Bools w Fa fs)
    (hen : ∀ (args : Array Value) (w : World), (callFunc g args).run Try.prog w = .ok (.enter g args) w)
    (h10 : validB T = false → Post (.returned (.tuple #[.slice none 0 0, .int .i64 10])) w)
    (h2 : validB T = true → allB fs = false → Post (.returned (.tuple #[.slice none 0 0, .int .i64 2])) w)
    (h0 : validB T = true → allB fs = true → Calls Try.prog g #[.slice A T.length c, p] w fun e w' => ∃ v, e = .returned v ∧ Post (.returned (.tuple #[v, .int .i64 0])) w') :
    Calls Try.prog 76 #[.slice A T.length c, .func (Fn.func g) #[] #[p], .slice Fa fs.length Fc] w Post := by
  cases hv : validB T with
  | false =>
    replace h10 := Lib.hid (h10 hv)
    replace hv := Lib.hid hv
    clear h2 h0
    go_enter Try.func76, Try.ntmps76
    go_wp2_with fail
    refine (valid_any B _ _ _ _ h).mono ?_
    rintro e w' ⟨rfl, rfl⟩
    rw [hv.out]
    go_wp2
    exact h10.out
  | true =>
    cases ha : allB fs with
    | false =>
      replace h2 := Lib.hid (h2 hv ha)
      replace hv := Lib.hid hv
      replace ha := Lib.hid ha
      clear h0 h10
      go_enter Try.func76, Try.ntmps76
      go_wp2_with fail
      refine (valid_any B _ _ _ _ h).mono ?_
      rintro e w' ⟨rfl, rfl⟩
      rw [hv.out]
      go_wp2_with fail
      refine (containsFalse _ _ _ _ hf).mono ?_
      rintro e w' ⟨rfl, rfl⟩
      rw [ha.out]
      go_wp2
      exact h2.out
    | true =>
      replace h0 := Lib.hid (h0 hv ha)
      replace hv := Lib.hid hv
      replace ha := Lib.hid ha
      clear h2 h10
      go_enter Try.func76, Try.ntmps76
      go_wp2_with fail
      refine (valid_any B _ _ _ _ h).mono ?_
      rintro e w' ⟨rfl, rfl⟩
      rw [hv.out]
      go_wp2_with fail
      refine (containsFalse _ _ _ _ hf).mono ?_
      rintro e w' ⟨rfl, rfl⟩
      rw [ha.out]
      go_wp2_with fail
      refine h0.out.mono ?_
      rintro e w' ⟨v, rfl, hb⟩
      go_wp2
      exact hb

end Go.Proofs.Ytmpmlgognkmfgaa
