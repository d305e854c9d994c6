/-
  Are two awards those of the garment: the program's function and the specification's.
-/
import Derived.Test.YthleekdkbgnabaaAg
import Derived.Test.YthleekdkbgnabaaMathG
namespace Go.Proofs.Ythleekdkbgnabaa
open Go.RowKit Go.Deep M
set_option linter.unusedVariables false
set_option linter.unusedSimpArgs false

namespace M
/-- Two awards are those of the garment of what both get. -/
def faB (a b : Int) (x y : Rt) : Bool := decide (x.n * y.d - max (x.n * y.d + y.n * x.d - b * (x.d * y.d)) 0 = y.n * x.d - max (x.n * y.d + y.n * x.d - a * (x.d * y.d)) 0)
/-- An award between 0 and 1000, with its limits. -/
def gdA (x : Rt) : Prop := (0 ≤ x.n ∧ x.n ≤ 1000000000) ∧ 1 ≤ x.d ∧ x.d ≤ 1000000
end M
set_option maxRecDepth 100000 in
set_option maxHeartbeats 4000000 in
theorem isGar_any (a b : Int) (x y : Rt) (w : World) (ha : okC a) (hb : okC b) (hx : gdA x) (hy : gdA y) :
    Calls Try.prog 94 #[.int .i64 a, .int .i64 b, rtV x, rtV y] w fun r w' => r = .returned (.bool (faB a b x y)) ∧ Below w.heap.size w w' := by
  unfold okC at ha hb
  unfold gdA at hx hy
  unfold faB rtV
  have hbx := (Bxr.new w x.n x.d).up (ba1 (w.alloc (.cells #[.int .i64 x.n, .int .i64 x.d] 37)) (.cells #[.int .i64 y.n, .int .i64 y.d] 37))
  have hby := Bxr.new (w.alloc (.cells #[.int .i64 x.n, .int .i64 x.d] 37)) y.n y.d
  have hsz : (w.alloc (.cells #[.int .i64 x.n, .int .i64 x.d] 37)).heap.size = w.heap.size + 1 := by simp
  rw [hsz] at hby
  have hbe : Below w.heap.size w ((w.alloc (.cells #[.int .i64 x.n, .int .i64 x.d] 37)).alloc (.cells #[.int .i64 y.n, .int .i64 y.d] 37)) := bel_trans (ba1 w _) (ba1 _ _)
  generalize x.n = p at *
  generalize x.d = q at *
  generalize y.n = r at *
  generalize y.d = s at *
  have b1 := mul_b (a := q) (b := s) (A := 1000000) (B := 1000000) (by omega) (by omega)
  have b2 := mul_b (a := p) (b := s) (A := 1000000000) (B := 1000000) (by omega) (by omega)
  have b3 := mul_b (a := r) (b := q) (A := 1000000000) (B := 1000000) (by omega) (by omega)
  have b4 := mul_b (a := a) (b := q * s) (A := 1000) (B := 1000000 * 1000000) ha b1
  have b5 := mul_b (a := b) (b := q * s) (A := 1000) (B := 1000000 * 1000000) hb b1
  obtain ⟨cd, hcd⟩ : ∃ z, z = q * s := ⟨_, rfl⟩
  obtain ⟨P, hP⟩ : ∃ z, z = p * s := ⟨_, rfl⟩
  obtain ⟨Q, hQ⟩ : ∃ z, z = r * q := ⟨_, rfl⟩
  rw [← hcd] at b1 b4 b5 ⊢
  rw [← hP] at b2 ⊢
  rw [← hQ] at b3 ⊢
  obtain ⟨Ac, hAc⟩ : ∃ z, z = a * cd := ⟨_, rfl⟩
  obtain ⟨Bc, hBc⟩ : ∃ z, z = b * cd := ⟨_, rfl⟩
  rw [← hAc] at b4 ⊢
  rw [← hBc] at b5 ⊢
  have k71 := fun X => twice_any Ac Bc (P + Q) X (by omega) (by omega) (by omega)
  have w1 : wrap64 (q * s) = cd := by rw [← hcd]; exact IntWalk.wrap64_in _ (by omega)
  have w2 : IntKind.i64.wrap (p * s) = P := by rw [← hP]; exact IntWalk.i64_in _ (by omega)
  have w3 : IntKind.i64.wrap (r * q) = Q := by rw [← hQ]; exact IntWalk.i64_in _ (by omega)
  have w4 : wrap64 (a * cd) = Ac := by rw [← hAc]; exact IntWalk.wrap64_in _ (by omega)
  have w5 : wrap64 (b * cd) = Bc := by rw [← hBc]; exact IntWalk.wrap64_in _ (by omega)
  have hR : decide (P - max (P + Q - Bc) 0 = Q - max (P + Q - Ac) 0) = (tgR Ac Bc (P + Q) == 2 * P) := by
    unfold tgR
    rw [Bool.eq_iff_iff, decide_eq_true_eq, beq_iff_eq]
    omega
  rw [hR]
  have hT : -100000000000000000 ≤ tgR Ac Bc (P + Q) ∧ tgR Ac Bc (P + Q) ≤ 100000000000000000 := by unfold tgR; omega
  generalize tgR Ac Bc (P + Q) = T at *
  have x0 := hbx.c0
  have x1 := hbx.c1
  have y0 := hby.c0
  have y1 := hby.c1
  have hb2 := fun N => below_drewN hbe N
  have x2 := (hbx.up (below_drewN (Below.refl _ _) 1)).c0
  have x3 := (hbx.up (below_drewN (Below.refl _ _) 1)).c1
  have y2 := (hby.up (below_drewN (Below.refl _ _) 1)).c0
  have y3 := (hby.up (below_drewN (Below.refl _ _) 1)).c1
  replace hcd := Lib.hid hcd
  replace hP := Lib.hid hP
  replace hQ := Lib.hid hQ
  replace hAc := Lib.hid hAc
  replace hBc := Lib.hid hBc
  replace hbx := Lib.hid hbx
  replace hby := Lib.hid hby
  replace hbe := Lib.hid hbe
  replace hsz := Lib.hid hsz
  replace hb2 := Lib.hid hb2
  replace k71 := Lib.hid k71
  replace hR := Lib.hid hR
  go_enter Try.func94, Try.ntmps94
  go_wp2_with fail
  go_quiet (fail)
  go_wp2_with fail
  refine (k71.out _).mono ?_
  rintro _ X ⟨rfl, rfl⟩
  go_wp2
  go_ret
  exact ⟨rfl, hb2.out _⟩
set_option maxRecDepth 100000 in
set_option maxHeartbeats 4000000 in
theorem fair_any (a b : Int) (x y : Rt) (w : World) (ha : okC a) (hb : okC b) (hx : gdA x) (hy : gdA y) :
    Calls Try.prog 66 #[.int .i64 a, .int .i64 b, rtV x, rtV y] w fun r w' => r = .returned (.bool (faB a b x y)) ∧ Below w.heap.size w w' := by
  unfold okC at ha hb
  unfold gdA at hx hy
  unfold faB rtV
  have hbx := (Bxr.new w x.n x.d).up (ba1 (w.alloc (.cells #[.int .i64 x.n, .int .i64 x.d] 37)) (.cells #[.int .i64 y.n, .int .i64 y.d] 37))
  have hby := Bxr.new (w.alloc (.cells #[.int .i64 x.n, .int .i64 x.d] 37)) y.n y.d
  have hsz : (w.alloc (.cells #[.int .i64 x.n, .int .i64 x.d] 37)).heap.size = w.heap.size + 1 := by simp
  rw [hsz] at hby
  have hbe : Below w.heap.size w ((w.alloc (.cells #[.int .i64 x.n, .int .i64 x.d] 37)).alloc (.cells #[.int .i64 y.n, .int .i64 y.d] 37)) := bel_trans (ba1 w _) (ba1 _ _)
  generalize x.n = p at *
  generalize x.d = q at *
  generalize y.n = r at *
  generalize y.d = s at *
  have b1 := mul_b (a := q) (b := s) (A := 1000000) (B := 1000000) (by omega) (by omega)
  have b2 := mul_b (a := p) (b := s) (A := 1000000000) (B := 1000000) (by omega) (by omega)
  have b3 := mul_b (a := r) (b := q) (A := 1000000000) (B := 1000000) (by omega) (by omega)
  have b4 := mul_b (a := a) (b := q * s) (A := 1000) (B := 1000000 * 1000000) ha b1
  have b5 := mul_b (a := b) (b := q * s) (A := 1000) (B := 1000000 * 1000000) hb b1
  obtain ⟨cd, hcd⟩ : ∃ z, z = q * s := ⟨_, rfl⟩
  obtain ⟨P, hP⟩ : ∃ z, z = p * s := ⟨_, rfl⟩
  obtain ⟨Q, hQ⟩ : ∃ z, z = r * q := ⟨_, rfl⟩
  rw [← hcd] at b1 b4 b5 ⊢
  rw [← hP] at b2 ⊢
  rw [← hQ] at b3 ⊢
  obtain ⟨Ac, hAc⟩ : ∃ z, z = a * cd := ⟨_, rfl⟩
  obtain ⟨Bc, hBc⟩ : ∃ z, z = b * cd := ⟨_, rfl⟩
  rw [← hAc] at b4 ⊢
  rw [← hBc] at b5 ⊢
  have w1 : wrap64 (q * s) = cd := by rw [← hcd]; exact IntWalk.wrap64_in _ (by omega)
  have w2 : IntKind.i64.wrap (p * s) = P := by rw [← hP]; exact IntWalk.i64_in _ (by omega)
  have w3 : IntKind.i64.wrap (r * q) = Q := by rw [← hQ]; exact IntWalk.i64_in _ (by omega)
  have w4 : wrap64 (a * cd) = Ac := by rw [← hAc]; exact IntWalk.wrap64_in _ (by omega)
  have w5 : wrap64 (b * cd) = Bc := by rw [← hBc]; exact IntWalk.wrap64_in _ (by omega)
  have w6 : wrap64 (P + Q) = P + Q := IntWalk.wrap64_in _ (by omega)
  have w7 : wrap64 (P + Q - Bc) = P + Q - Bc := IntWalk.wrap64_in _ (by omega)
  have w8 : wrap64 (P + Q - Ac) = P + Q - Ac := IntWalk.wrap64_in _ (by omega)
  obtain ⟨R, hRR⟩ : ∃ R, R = decide (P - max (P + Q - Bc) 0 = Q - max (P + Q - Ac) 0) := ⟨_, rfl⟩
  rw [← hRR]
  replace hRR := Lib.hid hRR
  have x0 := hbx.c0
  have x1 := hbx.c1
  have y0 := hby.c0
  have y1 := hby.c1
  have hb2 := fun N => below_drewN hbe N
  have x2 := (hbx.up (below_drewN (Below.refl _ _) 1)).c0
  have x3 := (hbx.up (below_drewN (Below.refl _ _) 1)).c1
  have y2 := (hby.up (below_drewN (Below.refl _ _) 1)).c0
  have y3 := (hby.up (below_drewN (Below.refl _ _) 1)).c1
  replace hcd := Lib.hid hcd
  replace hP := Lib.hid hP
  replace hQ := Lib.hid hQ
  replace hAc := Lib.hid hAc
  replace hBc := Lib.hid hBc
  replace hbx := Lib.hid hbx
  replace hby := Lib.hid hby
  replace hbe := Lib.hid hbe
  replace hsz := Lib.hid hsz
  replace hb2 := Lib.hid hb2
  go_enter Try.func66, Try.ntmps66
  go_wp2_with fail
  go_quiet (fail)
  go_wp2
  go_ret
  exact ⟨ret_bool (by rw [hRR.out, Bool.eq_iff_iff, beq_iff_eq, decide_eq_true_eq]), hb2.out _⟩

namespace M
def faP (l : List Int) (D : List Rt) (i k : Nat) : Bool := faB (el l i) (el l k) (rt D i) (rt D k)
/-- All pairs of the first i, and the first k pairs of one. -/
def allF (l : List Int) (D : List Rt) (i : Nat) : Prop := ∀ i', i' < i → ∀ k, k < i' → faP l D i' k = true
def rowF (l : List Int) (D : List Rt) (i k : Nat) : Prop := ∀ k', k' < k → faP l D i k' = true
instance (l : List Int) (D : List Rt) (i : Nat) : Decidable (allF l D i) := by unfold allF; infer_instance
theorem allF_zero (l : List Int) (D : List Rt) : allF l D 0 := fun _ h => absurd h (Nat.not_lt_zero _)
theorem rowF_zero (l : List Int) (D : List Rt) (i : Nat) : rowF l D i 0 := fun _ h => absurd h (Nat.not_lt_zero _)
theorem rowF_succ {l : List Int} {D : List Rt} {i k : Nat} (h : rowF l D i k) (h1 : faP l D i k = true) : rowF l D i (k + 1) := fun j hj => by
  rcases Nat.lt_succ_iff_lt_or_eq.1 hj with hlt | rfl
  · exact h j hlt
  · exact h1
theorem allF_succ {l : List Int} {D : List Rt} {i : Nat} (h : allF l D i) (h1 : rowF l D i i) : allF l D (i + 1) := fun j hj => by
  rcases Nat.lt_succ_iff_lt_or_eq.1 hj with hlt | rfl
  · exact h j hlt
  · exact h1
theorem allF_no {l : List Int} {D : List Rt} {n i k : Nat} (hi : i < n) (hk : k < i) (h : faP l D i k = false) : ¬ allF l D n := fun hh => by rw [hh i hi k hk] at h; cases h
theorem gdA_of {x : Int} {a : Rt} (hx : okC x) (hw : okW a) (hb : 0 ≤ a.n ∧ a.n ≤ x * a.d) : gdA a := by
  unfold okW at hw
  unfold gdA
  omega
end M
set_option maxRecDepth 100000 in
set_option maxHeartbeats 4000000 in
theorem areGar_any (A Aw : Option Addr) (c cw : Nat) (l : List Int) (D : List Rt) (w : World) (h : Row w w.heap.size A l) (hw : Rts w w.heap.size Aw D) (hv : vC l) (hA : isA l D) (hbw : bwA l D D.length) :
    Calls Try.prog 65 #[.slice A l.length c, .slice Aw D.length cw] w fun r w' => r = .returned (.bool (decide (allF l D l.length))) ∧ Below w.heap.size w w' := by
  have hlen := hA.1
  have hn := val_len hv
  have hat := fun X (hX : Below w.heap.size w X) k (hk : k < l.length) => (h.below hX).at_ k hk
  have hwt := fun X (hX : Below w.heap.size w X) k (hk : k < l.length) => (hw.below hX).at_ k (show k < D.length by omega)
  have hx := fun k (hkl : k < l.length) => hv.2 k hkl
  have hgd := fun k (hkl : k < l.length) => gdA_of (hv.2 k hkl) (hA.2 k (by omega)) (hbw k (by omega))
  have kg := fun X i k (hi : i < l.length) (hk : k < l.length) => isGar_any (el l i) (el l k) (rt D i) (rt D k) X (hx i hi) (hx k hk) (hgd i hi) (hgd k hk)
  have hz := allF_zero l D
  have hrz := rowF_zero l D
  have hrs := fun i k => @rowF_succ l D i k
  have hos := fun i => @allF_succ l D i
  have hno := fun i k (hi : i < l.length) (hk : k < i) (hf : faP l D i k = false) => (show decide (allF l D l.length) = false from decide_eq_false (allF_no hi hk hf))
  have hyes := fun (hf : allF l D l.length) => (show decide (allF l D l.length) = true from decide_eq_true hf)
  have hb0 := Below.refl w.heap.size w
  have hfp : ∀ i k, faB (el l i) (el l k) (rt D i) (rt D k) = faP l D i k := fun _ _ => rfl
  simp only [hfp] at kg
  unfold rtV at kg
  rw [hlen]
  generalize decide (allF l D l.length) = R at *
  generalize l.length = n at *
  replace hlen := Lib.hid hlen
  replace hat := Lib.hid hat
  replace hwt := Lib.hid hwt
  replace hx := Lib.hid hx
  replace hgd := Lib.hid hgd
  replace kg := Lib.hid kg
  replace hz := Lib.hid hz
  replace hrz := Lib.hid hrz
  replace hrs := Lib.hid hrs
  replace hos := Lib.hid hos
  replace hno := Lib.hid hno
  replace hyes := Lib.hid hyes
  replace hb0 := Lib.hid hb0
  replace hfp := Lib.hid hfp
  replace h := Lib.hid h
  replace hw := Lib.hid hw
  replace hv := Lib.hid hv
  replace hA := Lib.hid hA
  replace hbw := Lib.hid hbw
  obtain ⟨hn1, hn8⟩ := hn
  go_enter Try.func65, Try.ntmps65
  go_wp2
  go_loopw [9, 5, 6] (fun i _ _ wr => ∃ k : Nat, k ≤ n ∧ i = .int .i64 (k : Nat) ∧ allF l D k ∧ Below w.heap.size w wr) (fun i _ _ _ => n - (intOf i).toNat)
  case atStart => exact ⟨0, by omega, rfl, hz.out, hb0.out⟩
  case round =>
    clear hb0
    obtain ⟨i, hii, rfl, hO, hX⟩ := hrel
    by_cases hin : i < n
    · have hin2 : (i : Int) < (n : Int) := by omega
      have hr0 := hrz.out i
      replace hO := Lib.hid hO
      go_wp2
      go_loopw [13, 6] (fun j _ wx => ∃ k : Nat, k ≤ i ∧ j = .int .i64 (k : Nat) ∧ rowF l D i k ∧ Below w.heap.size w wx) (fun j _ _ => i - (intOf j).toNat)
      case atStart => exact ⟨0, by omega, rfl, hr0, hX⟩
      case round =>
        clear hr0 hX
        obtain ⟨k, hkk, rfl, hF, hX⟩ := hrel
        by_cases hki : k < i
        · have hki2 : (k : Int) < (i : Int) := by omega
          have hkn : k < n := by omega
          have hkn2 : (k : Int) < (n : Int) := by omega
          obtain ⟨ba, oa, rfl, _, a0⟩ := hat.out wr hX i hin
          obtain ⟨bw, ow, rfl, _, b0, b1⟩ := hwt.out wr hX i hin
          have hcel : ∀ X, Below wr.heap.size wr X → X.cell? ⟨ba, oa + i, none⟩ = some (.int .i64 (el l i)) ∧ X.cell? ⟨ba, oa + k, none⟩ = some (.int .i64 (el l k)) ∧ X.cell? ⟨bw, ow + i * 2, none⟩ = some (.int .i64 (rt D i).n) ∧ X.cell? ⟨bw, ow + i * 2 + 1, none⟩ = some (.int .i64 (rt D i).d) ∧ X.cell? ⟨bw, ow + k * 2, none⟩ = some (.int .i64 (rt D k).n) ∧ X.cell? ⟨bw, ow + k * 2 + 1, none⟩ = some (.int .i64 (rt D k).d) := fun X hXX => by
            have hX2 := bel_trans hX hXX
            obtain ⟨_, _, e1, _, c0⟩ := hat.out X hX2 i hin
            cases e1
            obtain ⟨_, _, e2, _, c1⟩ := hat.out X hX2 k hkn
            cases e2
            obtain ⟨_, _, e3, _, c2, c3⟩ := hwt.out X hX2 i hin
            cases e3
            obtain ⟨_, _, e4, _, c4, c5⟩ := hwt.out X hX2 k hkn
            cases e4
            exact ⟨c0, c1, c2, c3, c4, c5⟩
          have kk := fun X => kg.out X i k hin hkn
          have hrs2 := hrs.out i k hF
          have hno2 := hno.out i k hin hki
          have h0 : Below wr.heap.size wr wr.drew := below_drewN (Below.refl _ _) 1
          have s0 := hcel _ h0
          have hXw := fun X (hXX : Below wr.heap.size wr X) => bel_trans hX hXX
          obtain ⟨fp, hfpe⟩ : ∃ b, b = faP l D i k := ⟨_, rfl⟩
          rw [← hfpe] at kk hrs2 hno2
          generalize el l i = x at *
          generalize el l k = y at *
          generalize (rt D i).n = p at *
          generalize (rt D i).d = q at *
          generalize (rt D k).n = r at *
          generalize (rt D k).d = s at *
          replace hcel := Lib.hid hcel
          replace kk := Lib.hid kk
          replace hrs2 := Lib.hid hrs2
          replace hno2 := Lib.hid hno2
          replace hXw := Lib.hid hXw
          replace hX := Lib.hid hX
          replace hF := Lib.hid hF
          replace hfpe := Lib.hid hfpe
          clear a0 b0 b1
          go_wp2
          go_region_held3 (fun X => X.cell? ⟨ba, oa + i, none⟩ = some (.int .i64 x) ∧ X.cell? ⟨ba, oa + k, none⟩ = some (.int .i64 y) ∧ X.cell? ⟨bw, ow + i * 2, none⟩ = some (.int .i64 p) ∧ X.cell? ⟨bw, ow + i * 2 + 1, none⟩ = some (.int .i64 q) ∧ X.cell? ⟨bw, ow + k * 2, none⟩ = some (.int .i64 r) ∧ X.cell? ⟨bw, ow + k * 2 + 1, none⟩ = some (.int .i64 s)) (first | with_reducible exact s0 | with_reducible exact hcel.out _ (by assumption)) ((go_at_call 94; refine (kk.out _).mono ?_; rintro _ X1 ⟨rfl, hb1⟩; have h1 := bel_trans h0 hb1; have fin := Lib.hid (hXw.out X1 h1)))
          all_goals
            cases fp with
            | true =>
              have hr := Lib.hid (hrs2.out rfl)
              go_wp2
              go_roundw
              case rel => exact ⟨k + 1, by omega, by simp, hr.out, fin.out⟩
              case measure => simp [intOf]; omega
            | false =>
              have hr := Lib.hid (hno2.out rfl)
              go_wp2
              go_ret
              exact ⟨by rw [hr.out]; rfl, fin.out⟩
        · have : k = i := by omega
          subst this
          have hO2 := Lib.hid (hos.out k hO.out hF)
          replace hX := Lib.hid hX
          replace hF := Lib.hid hF
          go_wp2
          go_roundw
          case rel => exact ⟨k + 1, by omega, by simp, hO2.out, hX.out⟩
          case measure => simp [intOf]; omega
    · have : n = i := by omega
      subst this
      have hr := Lib.hid (hyes.out hO)
      replace hO := Lib.hid hO
      replace hX := Lib.hid hX
      go_wp2
      go_ret
      exact ⟨by rw [hr.out]; rfl, hX.out⟩
end Go.Proofs.Ythleekdkbgnabaa
