/-
  Which lists are awards, and whether they share the estate: the program's functions.
-/
import Derived.Test.YthleekdkbgnabaaAe
import Derived.Test.YthleekdkbgnabaaF
import Derived.Test.YthleekdkbgnabaaQ
namespace Go.Proofs.Ythleekdkbgnabaa
open Go.RowKit Go.Deep M
set_option linter.unusedVariables false
set_option linter.unusedSimpArgs false

namespace M
/-- A given award within its limits. -/
def okW (a : Rt) : Prop := (-1000000000 ≤ a.n ∧ a.n ≤ 1000000000) ∧ 1 ≤ a.d ∧ a.d ≤ 1000000
instance (a : Rt) : Decidable (okW a) := by unfold okW; infer_instance
def Okw (D : List Rt) (k : Nat) : Prop := ∀ i, i < k → okW (rt D i)
instance (D : List Rt) (k : Nat) : Decidable (Okw D k) := by unfold Okw; infer_instance
theorem okw_zero (D : List Rt) : Okw D 0 := fun _ h => absurd h (Nat.not_lt_zero _)
theorem okw_succ {D : List Rt} {k : Nat} (h : Okw D k) (h1 : okW (rt D k)) : Okw D (k + 1) := fun j hj => by
  rcases Nat.lt_succ_iff_lt_or_eq.1 hj with hlt | rfl
  · exact h j hlt
  · exact h1
theorem okw_ex {D : List Rt} {k : Nat} (hk : k < D.length) (h : ¬ okW (rt D k)) : ¬ Okw D D.length := fun hh => h (hh k hk)
/-- Awards as described for claims. -/
def isA (l : List Int) (D : List Rt) : Prop := D.length = l.length ∧ Okw D D.length
instance (l : List Int) (D : List Rt) : Decidable (isA l D) := by unfold isA; infer_instance
def okA (l : List Int) (e : Int) (D : List Rt) : Prop := okE l e ∧ isA l D
instance (l : List Int) (e : Int) (D : List Rt) : Decidable (okA l e D) := by unfold okA; infer_instance
def errA (l : List Int) (e : Int) (D : List Rt) : Int := if okE l e then if isA l D then 0 else 2 else errC l e
theorem errA_ok {l : List Int} {e : Int} {D : List Rt} (h : okA l e D) : errA l e D = 0 := by unfold errA; rw [if_pos h.1, if_pos h.2]
/-- Each award between 0 and its claim. -/
def bwA (l : List Int) (D : List Rt) (k : Nat) : Prop := ∀ i, i < k → 0 ≤ (rt D i).n ∧ (rt D i).n ≤ el l i * (rt D i).d
instance (l : List Int) (D : List Rt) (k : Nat) : Decidable (bwA l D k) := by unfold bwA; infer_instance
theorem bwA_zero (l : List Int) (D : List Rt) : bwA l D 0 := fun _ h => absurd h (Nat.not_lt_zero _)
theorem bwA_succ {l : List Int} {D : List Rt} {k : Nat} (h : bwA l D k) (h1 : 0 ≤ (rt D k).n ∧ (rt D k).n ≤ el l k * (rt D k).d) : bwA l D (k + 1) := fun j hj => by
  rcases Nat.lt_succ_iff_lt_or_eq.1 hj with hlt | rfl
  · exact h j hlt
  · exact h1
theorem bwA_ex {l : List Int} {D : List Rt} {k : Nat} (hk : k < D.length) (h : ¬ (0 ≤ (rt D k).n ∧ (rt D k).n ≤ el l k * (rt D k).d)) : ¬ bwA l D D.length := fun hh => h (hh k hk)
/-- Awards share the estate. -/
def shB (l : List Int) (e : Int) (D : List Rt) : Bool := decide (bwA l D D.length) && addsB D e.toNat
def shaB (l : List Int) (e : Int) (D : List Rt) : Bool := if okA l e D then shB l e D else false
end M

set_option maxHeartbeats 2000000 in
theorem badA_any (n d : Int) (w : World) : Calls Try.prog 91 #[.agg #[.int .i64 n, .int .i64 d]] w fun e w' => e = .returned (.bool !decide (okW ⟨n, d⟩)) ∧ Below w.heap.size w w' := by
  have hbx := Bxr.new w n d
  have z0 := hbx.c0
  have z1 := hbx.c1
  have hb := ba1 w (.cells #[.int .i64 n, .int .i64 d] 37)
  have y0 := (hbx.up (below_drewN (Below.refl _ _) 1)).c0
  have y1 := (hbx.up (below_drewN (Below.refl _ _) 1)).c1
  have hb2 := fun k => below_drewN hb k
  replace hb := Lib.hid hb
  replace hb2 := Lib.hid hb2
  replace hbx := Lib.hid hbx
  by_cases h1 : n < -1000000000
  · rw [decide_eq_false (show ¬ okW ⟨n, d⟩ by unfold okW; simp only; omega)]
    go_enter Try.func91, Try.ntmps91
    go_wp2
    go_ret
    exact ⟨rfl, hb.out⟩
  · by_cases h2 : 1000000000 < n
    · rw [decide_eq_false (show ¬ okW ⟨n, d⟩ by unfold okW; simp only; omega)]
      go_enter Try.func91, Try.ntmps91
      go_wp2
      go_ret
      exact ⟨rfl, hb.out⟩
    · by_cases h3 : d < 1
      · rw [decide_eq_false (show ¬ okW ⟨n, d⟩ by unfold okW; simp only; omega)]
        go_enter Try.func91, Try.ntmps91
        go_wp2
        go_ret
        exact ⟨rfl, hb.out⟩
      · by_cases h4 : 1000000 < d
        · rw [decide_eq_false (show ¬ okW ⟨n, d⟩ by unfold okW; simp only; omega)]
          go_enter Try.func91, Try.ntmps91
          go_wp2
          go_ret
          exact ⟨rfl, hb.out⟩
        · rw [decide_eq_true (show okW ⟨n, d⟩ by unfold okW; simp only; omega)]
          go_enter Try.func91, Try.ntmps91
          go_wp2
          go_ret
          exact ⟨rfl, hb.out⟩
set_option maxHeartbeats 2000000 in
theorem IndexA_any (A : Option Addr) (c : Nat) (D : List Rt) (w : World) (h : Rts w w.heap.size A D) (hl : D.length ≤ 1000) :
    Calls Try.prog 113 #[.slice A D.length c, .func (.func 91) #[] #[]] w fun e w' => (∃ z : Int, e = .returned (.int .i64 z) ∧ (0 ≤ z ∧ ¬ Okw D D.length ∨ z < 0 ∧ Okw D D.length)) ∧ Below w.heap.size w w' := by
  have hat := fun X (hX : Below w.heap.size w X) k (hk : k < D.length) => (h.below hX).at_ k hk
  have hex := fun k (hk : k < D.length) => @okw_ex D k hk
  have hsu := fun k => @okw_succ D k
  have hz := okw_zero D
  have kb := fun X n d => badA_any n d X
  have hb0 := Below.refl w.heap.size w
  generalize D.length = n at *
  replace hat := Lib.hid hat
  replace hex := Lib.hid hex
  replace hsu := Lib.hid hsu
  replace hz := Lib.hid hz
  replace kb := Lib.hid kb
  replace h := Lib.hid h
  replace hb0 := Lib.hid hb0
  go_enter Try.func113, Try.ntmps113
  go_wp2
  go_loopw [8, 5] (fun i x wr => ∃ k : Nat, k ≤ n ∧ i = .int .i64 (k : Nat) ∧ Okw D k ∧ Below w.heap.size w wr) (fun i _ _ => n - (intOf i).toNat)
  case atStart => exact ⟨0, by omega, rfl, hz.out, hb0.out⟩
  case round =>
    clear hb0
    obtain ⟨k, hk, rfl, hO, hX⟩ := hrel
    by_cases hkn : k < n
    · obtain ⟨b, o, rfl, hb, e0, e1⟩ := hat.out wr hX k hkn
      have kk := kb.out wr (rt D k).n (rt D k).d
      have hkn2 : (k : Int) < (n : Int) := by omega
      by_cases hok : okW (rt D k)
      · have hO2 := Lib.hid (hsu.out k hO hok)
        rw [show (!decide (okW ⟨(rt D k).n, (rt D k).d⟩)) = false by rw [decide_eq_true (show okW ⟨(rt D k).n, (rt D k).d⟩ from hok)]; rfl] at kk
        replace kk := Lib.hid kk
        replace hO := Lib.hid hO
        replace hok := Lib.hid hok
        replace hX := Lib.hid hX
        go_wp2_with fail
        refine kk.out.mono ?_
        rintro _ X ⟨rfl, hb2⟩
        have hX2 := Lib.hid (bel_trans hX.out hb2)
        replace hb2 := Lib.hid hb2
        go_wp2
        go_roundw
        case rel => exact ⟨k + 1, by omega, by simp, hO2.out, hX2.out⟩
        case measure => simp [intOf]; omega
      · have hno := Lib.hid (hex.out k hkn hok)
        rw [show (!decide (okW ⟨(rt D k).n, (rt D k).d⟩)) = true by rw [decide_eq_false (show ¬ okW ⟨(rt D k).n, (rt D k).d⟩ from hok)]; rfl] at kk
        replace kk := Lib.hid kk
        replace hO := Lib.hid hO
        replace hok := Lib.hid hok
        replace hX := Lib.hid hX
        go_wp2_with fail
        refine kk.out.mono ?_
        rintro _ X ⟨rfl, hb2⟩
        have hX2 := Lib.hid (bel_trans hX.out hb2)
        replace hb2 := Lib.hid hb2
        go_wp2
        go_ret
        exact ⟨⟨_, rfl, .inl ⟨by omega, hno.out⟩⟩, hX2.out⟩
    · have : k = n := by omega
      subst this
      replace hO := Lib.hid hO
      replace hX := Lib.hid hX
      go_wp2
      go_ret
      exact ⟨⟨_, rfl, .inr ⟨by omega, hO.out⟩⟩, hX.out⟩
set_option maxHeartbeats 2000000 in
theorem ContainsA_any (A : Option Addr) (c : Nat) (D : List Rt) (w : World) (h : Rts w w.heap.size A D) (hl : D.length ≤ 1000) :
    Calls Try.prog 90 #[.slice A D.length c, .func (.func 91) #[] #[]] w fun e w' => e = .returned (.bool !decide (Okw D D.length)) ∧ Below w.heap.size w w' := by
  have k89 := IndexA_any A c D w h hl
  generalize D.length = n at *
  by_cases ho : Okw D n
  all_goals
    replace k89 := Lib.hid k89
    replace h := Lib.hid h
    first | rw [decide_eq_true ho, Bool.not_true] | rw [decide_eq_false ho, Bool.not_false]
    go_enter Try.func90, Try.ntmps90
    go_wp2_with fail
    refine k89.out.mono ?_
    rintro e X ⟨⟨z, rfl, hz⟩, hb⟩
    replace hb := Lib.hid hb
    rcases hz with ⟨hz, ho2⟩ | ⟨hz, ho2⟩
    all_goals
      first
      | exact absurd ho ho2
      | exact absurd ho2 ho
      | (replace ho := Lib.hid ho
         replace ho2 := Lib.hid ho2
         go_wp2
         go_ret
         first | exact ⟨rfl, hb.out⟩ | exact ⟨ret_bool (decide_eq_false (by omega)), hb.out⟩)

set_option maxRecDepth 100000 in
set_option maxHeartbeats 2000000 in
/-- The claims to work with, where awards are as described. -/
theorem cAwards_ok (A Aw : Option Addr) (c cw : Nat) (l : List Int) (e : Int) (D : List Rt) (w : World) (h : Row w w.heap.size A l) (hw : Rts w w.heap.size Aw D) (hk : okA l e D) :
    Calls Try.prog 61 #[.slice A l.length c, .int .i64 e, .slice Aw D.length cw] w fun r w' => r = .returned (.tuple #[.slice A l.length c, .int .i64 0]) ∧ Below w.heap.size w w' := by
  have k1 := checked_ok w.heap.size A c l e w h hk.1
  have hlen := hk.2.1
  have hn := val_len hk.1.1
  have k2 := ContainsA_any Aw cw D w hw (by omega)
  rw [show (!decide (Okw D D.length)) = false by rw [decide_eq_true hk.2.2]; rfl] at k2
  rw [hlen] at k2 ⊢
  generalize l.length = n at *
  replace k1 := Lib.hid k1
  replace k2 := Lib.hid k2
  replace h := Lib.hid h
  replace hw := Lib.hid hw
  replace hk := Lib.hid hk
  replace hlen := Lib.hid hlen
  replace hn := Lib.hid hn
  go_enter Try.func61, Try.ntmps61
  go_wp2_with fail
  refine k1.out.mono ?_
  rintro _ X ⟨rfl, rfl⟩
  go_wp2_with fail
  refine k2.out.mono ?_
  rintro _ X2 ⟨rfl, hb⟩
  replace hb := Lib.hid hb
  go_wp2
  go_ret2
  exact ⟨rfl, hb.out⟩
set_option maxRecDepth 100000 in
set_option maxHeartbeats 2000000 in
theorem cAwards_bad (A Aw : Option Addr) (c cw : Nat) (l : List Int) (e : Int) (D : List Rt) (w : World) (h : Row w w.heap.size A l) (hw : Rts w w.heap.size Aw D) (hD : D.length ≤ 40) (hk : ¬ okA l e D) :
    Calls Try.prog 61 #[.slice A l.length c, .int .i64 e, .slice Aw D.length cw] w fun r w' => r = .returned (.tuple #[.slice none 0 0, .int .i64 (errA l e D)]) ∧ Below w.heap.size w w' := by
  have hbw := Lib.hid (Below.refl w.heap.size w)
  unfold errA
  by_cases hE : okE l e
  · have k1 := checked_ok w.heap.size A c l e w h hE
    have hn := val_len hE.1
    have hA : ¬ isA l D := fun hh => hk ⟨hE, hh⟩
    rw [if_pos hE, if_neg hA]
    by_cases hlen : D.length = l.length
    · have k2 := ContainsA_any Aw cw D w hw (by omega)
      have ho : ¬ Okw D D.length := fun hh => hA ⟨hlen, hh⟩
      rw [show (!decide (Okw D D.length)) = true by rw [decide_eq_false ho]; rfl] at k2
      rw [hlen] at k2 ⊢
      replace ho := Lib.hid ho
      generalize l.length = n at *
      replace k1 := Lib.hid k1
      replace k2 := Lib.hid k2
      replace h := Lib.hid h
      replace hw := Lib.hid hw
      replace hk := Lib.hid hk
      replace hA := Lib.hid hA
      replace hE := Lib.hid hE
      replace hlen := Lib.hid hlen
      replace hn := Lib.hid hn
      replace hD := Lib.hid hD
      go_enter Try.func61, Try.ntmps61
      go_wp2_with fail
      refine k1.out.mono ?_
      rintro _ X ⟨rfl, rfl⟩
      go_wp2_with fail
      refine k2.out.mono ?_
      rintro _ X2 ⟨rfl, hb⟩
      replace hb := Lib.hid hb
      go_wp2
      go_ret2
      exact ⟨rfl, hb.out⟩
    · generalize l.length = n at *
      generalize D.length = m at *
      have hne : ((m : Int) != (n : Int)) = true := by simp; omega
      replace k1 := Lib.hid k1
      replace h := Lib.hid h
      replace hw := Lib.hid hw
      replace hk := Lib.hid hk
      replace hA := Lib.hid hA
      replace hE := Lib.hid hE
      replace hlen := Lib.hid hlen
      replace hn := Lib.hid hn
      go_enter Try.func61, Try.ntmps61
      go_wp2_with fail
      refine k1.out.mono ?_
      rintro _ X ⟨rfl, rfl⟩
      go_wp2
      go_ret2
      exact ⟨rfl, hbw.out⟩
  · rw [if_neg hE]
    have k1 := checked_bad w.heap.size A c l e w h hE
    have hne := errC_ne hE
    generalize l.length = n at *
    generalize D.length = m at *
    generalize errC l e = E at *
    have hn : (E != 0) = true := by simp; omega
    replace k1 := Lib.hid k1
    replace h := Lib.hid h
    replace hw := Lib.hid hw
    replace hk := Lib.hid hk
    replace hE := Lib.hid hE
    replace hne := Lib.hid hne
    go_enter Try.func61, Try.ntmps61
    go_wp2_with fail
    refine k1.out.mono ?_
    rintro _ X ⟨rfl, rfl⟩
    go_wp2
    go_ret2
    exact ⟨rfl, hbw.out⟩
end Go.Proofs.Ythleekdkbgnabaa
