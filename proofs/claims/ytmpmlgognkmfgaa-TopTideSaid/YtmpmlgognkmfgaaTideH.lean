/-
  The contracts of Same, of the program and of the specification.
-/
import Derived.Test.YtmpmlgognkmfgaaMathD
namespace Go.Proofs.Ytmpmlgognkmfgaa
open Go.RowKit Go.Deep M
set_option linter.unusedVariables false
set_option linter.unusedSimpArgs false

def likeB (T U : List (List Int)) : Bool := decide (spdL T (bt T) = spdL U (bt U))
def sameR (T U : List (List Int)) : Bool × Int := if validB T && validB U then (likeB T U, 0) else (false, 10)
/-- What a function with a bool and an error returns. -/
def RB (p : Bool × Int) : Ending := .returned (.tuple #[.bool p.1, .int .i64 p.2])
theorem RB_of {p : Bool × Int} {a : Bool} {b : Int} (h : p = (a, b)) : Ending.returned (.tuple #[.bool a, .int .i64 b]) = RB p := by rw [h]; rfl

set_option maxHeartbeats 1000000 in
theorem Same_any (B : Nat) (A A' : Option Addr) (c c' : Nat) (T U : List (List Int)) (w : World) (h : Mat w B A T) (h' : Mat w B A' U) (hB : B ≤ w.heap.size) :
    Calls Try.prog 45 #[.slice A T.length c, .slice A' U.length c'] w fun e w' => e = RB (sameR T U) ∧ Below w.heap.size w w' := by
  cases hv : validB T with
  | false =>
    have hr := Lib.hid (show sameR T U = (false, 10) by unfold sameR; rw [hv]; rfl)
    replace hv := Lib.hid hv
    go_enter Try.func45, Try.ntmps45
    go_wp2_with fail
    refine (valid_any B _ _ _ _ h).mono ?_
    rintro e w' ⟨rfl, rfl⟩
    rw [hv.out]
    go_wp2
    go_ret2
    exact ⟨RB_of hr.out, Below.refl _ _⟩
  | true =>
    cases hu : validB U with
    | false =>
      have hr := Lib.hid (show sameR T U = (false, 10) by unfold sameR; rw [hv, hu]; rfl)
      replace hv := Lib.hid hv
      replace hu := Lib.hid hu
      go_enter Try.func45, Try.ntmps45
      go_wp2_with fail
      refine (valid_any B _ _ _ _ h).mono ?_
      rintro e w' ⟨rfl, rfl⟩
      rw [hv.out]
      go_wp2_with fail
      refine (valid_any B _ _ _ _ h').mono ?_
      rintro e w' ⟨rfl, rfl⟩
      rw [hu.out]
      go_wp2
      go_ret2
      exact ⟨RB_of hr.out, Below.refl _ _⟩
    | true =>
      have hr := Lib.hid (show sameR T U = (likeB T U, 0) by unfold sameR; rw [hv, hu]; rfl)
      have hVT := val_of hv
      have hVU := val_of hu
      have c1 := once_any B A c T w h hB hVT
      have c2 := fun W (g1 : Mat W B A' U) (g2 : B ≤ W.heap.size) => once_any B A' c' U W g1 g2 hVU
      have hl := Lib.hid (show likeB T U = decide (spdL T (bt T) = spdL U (bt U)) from rfl)
      generalize spdL T (bt T) = L at c1 hl
      generalize spdL U (bt U) = N at c2 hl
      replace c1 := Lib.hid c1
      replace c2 := Lib.hid c2
      replace hv := Lib.hid hv
      replace hu := Lib.hid hu
      go_enter Try.func45, Try.ntmps45
      go_wp2_with fail
      refine (valid_any B _ _ _ _ h).mono ?_
      rintro e w' ⟨rfl, rfl⟩
      rw [hv.out]
      go_wp2_with fail
      refine (valid_any B _ _ _ _ h').mono ?_
      rintro e w' ⟨rfl, rfl⟩
      rw [hu.out]
      go_wp2_with fail
      refine c1.out.mono ?_
      rintro e w1 ⟨A1, k1, rfl, hb1, hr1⟩
      go_wp2_with fail
      refine (c2.out w1 (h'.below (hb1.mono hB)) (by have := hb1.size; omega)).mono ?_
      rintro e w2 ⟨A2, k2, rfl, hb2, hr2⟩
      have hb02 := hb1.trans (hb2.mono hb1.size)
      have hr1' := (hr1.below hb2 (Nat.le_refl _)).row
      have hr2' := hr2.row
      go_wp2_with fail
      refine (equalInts w2.heap.size A1 A2 k1 k2 L N w2 hr1' hr2').mono ?_
      rintro e w3 ⟨rfl, m, rfl⟩
      rw [← hl.out]
      go_wp2
      go_ret2
      exact ⟨RB_of hr.out, below_drewN hb02 m⟩

set_option maxHeartbeats 1000000 in
theorem Same_ref (B : Nat) (A A' : Option Addr) (c c' : Nat) (T U : List (List Int)) (w : World) (h : Mat w B A T) (h' : Mat w B A' U) :
    Calls Try.prog 46 #[.slice A T.length c, .slice A' U.length c'] w fun e w' => e = RB (sameR T U) ∧ w = w' := by
  cases hv : validB T with
  | false =>
    have hr := Lib.hid (show sameR T U = (false, 10) by unfold sameR; rw [hv]; rfl)
    replace hv := Lib.hid hv
    go_enter Try.func46, Try.ntmps46
    go_wp2_with fail
    refine (valid_ref B _ _ _ _ h).mono ?_
    rintro e w' ⟨rfl, rfl⟩
    rw [hv.out]
    go_wp2
    go_ret2
    exact ⟨RB_of hr.out, rfl⟩
  | true =>
    cases hu : validB U with
    | false =>
      have hr := Lib.hid (show sameR T U = (false, 10) by unfold sameR; rw [hv, hu]; rfl)
      replace hv := Lib.hid hv
      replace hu := Lib.hid hu
      go_enter Try.func46, Try.ntmps46
      go_wp2_with fail
      refine (valid_ref B _ _ _ _ h).mono ?_
      rintro e w' ⟨rfl, rfl⟩
      rw [hv.out]
      go_wp2_with fail
      refine (valid_ref B _ _ _ _ h').mono ?_
      rintro e w' ⟨rfl, rfl⟩
      rw [hu.out]
      go_wp2
      go_ret2
      exact ⟨RB_of hr.out, rfl⟩
    | true =>
      have hr : sameR T U = (likeB T U, 0) := by unfold sameR; rw [hv, hu]; rfl
      have hVT := val_of hv
      have hVU := val_of hu
      have hyes := Lib.hid (fun (g : ∀ k : Nat, k < 27720 → spd T ((k : Nat) : Int) = spd U (k : Int)) => show sameR T U = (true, 0) by
        rw [hr]; congr 1; exact decide_eq_true ((once_same hVT hVU).2 (all_of hVT hVU g)))
      have hno := Lib.hid (fun k (g : ¬ spd T ((k : Nat) : Int) = spd U (k : Int)) => show sameR T U = (false, 0) by
        rw [hr]; congr 1; exact decide_eq_false (fun hh => g ((once_same hVT hVU).1 hh k)))
      clear hr
      replace hv := Lib.hid hv
      replace hu := Lib.hid hu
      go_enter Try.func46, Try.ntmps46
      go_wp2_with fail
      refine (valid_ref B _ _ _ _ h).mono ?_
      rintro e w' ⟨rfl, rfl⟩
      rw [hv.out]
      go_wp2_with fail
      refine (valid_ref B _ _ _ _ h').mono ?_
      rintro e w' ⟨rfl, rfl⟩
      rw [hu.out]
      obtain ⟨N, hN⟩ : ∃ N : Nat, N = 27720 := ⟨_, rfl⟩
      replace hN := Lib.hid hN
      go_wp2
      go_loop [15] (fun i => ∃ k : Nat, k ≤ N ∧ i = .int .i64 k ∧ ∀ j, j < k → spd T (j : Int) = spd U (j : Int)) (fun i => N - (intOf i).toNat)
      case atStart => exact ⟨0, Nat.zero_le _, rfl, fun j hj => absurd hj (Nat.not_lt_zero _)⟩
      case round =>
        obtain ⟨k, hk, rfl, hall⟩ := hrel
        replace hall := Lib.hid hall
        by_cases hlt : k < N
        · have hlt' : (k : Int) < 27720 := by have := hN.out; omega
          have c1 := speed_ref B A c T k w h hVT (by omega)
          have c2 := speed_ref B A' c' U k w h' hVU (by omega)
          by_cases he : spd T (k : Int) = spd U (k : Int)
          · have heq := Lib.hid he
            rw [← he] at c2
            generalize spd T (k : Int) = x at c1 c2
            replace c1 := Lib.hid c1
            replace c2 := Lib.hid c2
            go_wp2_with fail
            refine c1.out.mono ?_
            rintro e w' ⟨rfl, rfl⟩
            go_wp2_with fail
            refine c2.out.mono ?_
            rintro e w' ⟨rfl, rfl⟩
            clear he
            go_wp2
            go_round
            case rel => exact ⟨k + 1, by omega, by go_num, fun j hj => by
              rcases Nat.lt_succ_iff_lt_or_eq.1 hj with h3 | rfl
              · exact hall.out j h3
              · exact heq.out⟩
            case measure => simp [intOf]; omega
          · have hres := Lib.hid (hno.out k he)
            have ht : (spd T (k : Int) != spd U (k : Int)) = true := by simpa using he
            generalize spd T (k : Int) = x at c1 ht
            generalize spd U (k : Int) = y at c2 ht
            replace c1 := Lib.hid c1
            replace c2 := Lib.hid c2
            clear he
            go_wp2_with fail
            refine c1.out.mono ?_
            rintro e w' ⟨rfl, rfl⟩
            go_wp2_with fail
            refine c2.out.mono ?_
            rintro e w' ⟨rfl, rfl⟩
            go_wp2
            go_ret2
            exact ⟨RB_of hres.out, rfl⟩
        · have hlt' : ¬ (k : Int) < 27720 := by have := hN.out; omega
          have hres := Lib.hid (hyes.out (fun j hj => hall.out j (by have := hN.out; omega)))
          go_wp2
          go_ret2
          exact ⟨RB_of hres.out, rfl⟩

end Go.Proofs.Ytmpmlgognkmfgaa
