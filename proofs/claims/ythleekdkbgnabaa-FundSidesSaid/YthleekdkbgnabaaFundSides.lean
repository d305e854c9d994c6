/-
  For any claims and estate, the law FundSides returns true: equal losses and equal awards of what is missing, and the old rule and proportion on both sides, add up to the claims.
  Conditions: none.
-/
import Derived.Test.YthleekdkbgnabaaK
import Derived.Test.YthleekdkbgnabaaV
namespace Go.Proofs.Ythleekdkbgnabaa.lawFundSides
open Go.Joins Go.ChangeShapes Go.WideShapes Go.ChangeAt Go.RowKit Go.Deep Go.Proofs.Ythleekdkbgnabaa M
set_option linter.unusedVariables false
set_option linter.unusedSimpArgs false

def fr : Nat → Int
  | 0 => 3
  | 1 => 4
  | _ => 1
def to_ : Nat → Int
  | 0 => 2
  | 1 => 4
  | _ => 1
theorem fr_b (k : Nat) : 1 ≤ fr k ∧ fr k ≤ 4 := by
  match k with
  | 0 => decide
  | 1 => decide
  | k + 2 => exact ⟨by simp [fr], by simp [fr]⟩
theorem to_b (k : Nat) : 1 ≤ to_ k ∧ to_ k ≤ 4 := by
  match k with
  | 0 => decide
  | 1 => decide
  | k + 2 => exact ⟨by simp [to_], by simp [to_]⟩
theorem sums_k {l : List Int} {e : Int} (h : okE l e) (k : Nat) {i : Nat} (hi : i < l.length) : sumsR (el l i) (shR l e (fr k) i) (shR l (sm l - e) (to_ k) i) := by
  obtain ⟨a, b, c⟩ := sums_sh h hi
  match k with
  | 0 => exact a
  | 1 => exact b
  | k + 2 => exact c
/-- A box of three numbers. -/
def Bx3 (w : World) (b : Nat) (f : Nat → Int) : Prop := w.heap[b]? = some (.cells #[.int .i64 (f 0), .int .i64 (f 1), .int .i64 (f 2)] 61 (0, 0))
theorem Bx3.cell {w : World} {b : Nat} {f : Nat → Int} (h : Bx3 w b f) {k : Nat} (hk : k < 3) : w.cell? ⟨b, k, none⟩ = some (.int .i64 (f k)) := by
  unfold Bx3 at h
  rcases (show k = 0 ∨ k = 1 ∨ k = 2 by omega) with rfl | rfl | rfl <;> simp [World.cell?, h]
theorem Bx3.up {w w' : World} {b : Nat} {f : Nat → Int} (h : Bx3 w b f) (hb : Below w.heap.size w w') : Bx3 w' b f := (hb.block b (blk_lt h)).trans h

set_option maxRecDepth 100000 in
set_option maxHeartbeats 4000000 in
theorem out (A : Option Addr) (c n : Nat) (e : Int) (w : World) (hn : n ≤ 9223372036854775807) (hl : 40 < n) :
    Calls Try.prog 12 #[.slice A n c, .int .i64 e] w fun r w' => r = .returned (.bool true) ∧ Below w.heap.size w w' := by
  have k1 := Long_any A c n w hn
  rw [show decide (40 < (n : Int)) = true from decide_eq_true (by omega)] at k1
  replace k1 := Lib.hid k1
  go_enter Try.func12, Try.ntmps12
  go_wp2_with fail
  refine k1.out.mono ?_
  rintro _ X ⟨rfl, rfl⟩
  go_wp2_with fail
  refine (Sane_any _).mono ?_
  rintro _ X2 ⟨rfl, hb⟩
  go_wp2
  go_ret
  exact ⟨rfl, hb⟩
set_option maxRecDepth 100000 in
set_option maxHeartbeats 4000000 in
theorem bad (A : Option Addr) (c : Nat) (l : List Int) (e : Int) (w : World) (h : Row w w.heap.size A l) (hl : ¬ 40 < l.length) (hk : ¬ okE l e) :
    Calls Try.prog 12 #[.slice A l.length c, .int .i64 e] w fun r w' => r = .returned (.bool true) ∧ Below w.heap.size w w' := by
  have k1 := Long_any A c l.length w h.1
  rw [show decide (40 < (l.length : Int)) = false from decide_eq_false (by omega)] at k1
  have k2 := Missing_any w.heap.size A c l e w h
  have hm : misR l e = 0 := by unfold misR; rw [if_neg hk]
  rw [hm] at k2
  have hne := errC_ne hk
  generalize errC l e = E at *
  generalize l.length = n at *
  have hn : (E != 0) = true := by simp; omega
  replace k1 := Lib.hid k1
  replace k2 := Lib.hid k2
  replace h := Lib.hid h
  replace hk := Lib.hid hk
  replace hm := Lib.hid hm
  replace hne := Lib.hid hne
  go_enter Try.func12, Try.ntmps12
  go_wp2_with fail
  refine k1.out.mono ?_
  rintro _ X ⟨rfl, rfl⟩
  go_wp2_with fail
  refine k2.out.mono ?_
  rintro _ X ⟨rfl, rfl⟩
  go_wp2_with fail
  refine (Sane_any _).mono ?_
  rintro _ X2 ⟨rfl, hb⟩
  go_wp2
  go_ret
  exact ⟨rfl, hb⟩
set_option maxRecDepth 100000 in
set_option maxHeartbeats 8000000 in
theorem good (A : Option Addr) (c : Nat) (l : List Int) (e : Int) (w : World) (h : Row w w.heap.size A l) (hl : ¬ 40 < l.length) (hk : okE l e) :
    Calls Try.prog 12 #[.slice A l.length c, .int .i64 e] w fun r w' => r = .returned (.bool true) ∧ Below w.heap.size w w' := by
  have k1 := Long_any A c l.length w h.1
  rw [show decide (40 < (l.length : Int)) = false from decide_eq_false (by omega)] at k1
  have k2 := Missing_any w.heap.size A c l e w h
  have hm : misR l e = sm l - e := by unfold misR; rw [if_pos hk]
  rw [hm, errC_ok hk] at k2
  have hn := val_len hk.1
  have hkm := okE_mis hk
  have hup := fun X (hX : Below w.heap.size w X) => h.up hX
  have a1 := fun X (hX : Below w.heap.size w X) k => Share_any X.heap.size A c l e (fr k) X (hup X hX) (Nat.le_refl _)
  have a2 := fun X (hX : Below w.heap.size w X) k => Share_any X.heap.size A c l (sm l - e) (to_ k) X (hup X hX) (Nat.le_refl _)
  have o1 := fun k => (⟨hk, fr_b k⟩ : okS l e (fr k))
  have o2 := fun k => (⟨hkm, to_b k⟩ : okS l (sm l - e) (to_ k))
  unfold ShR at a1 a2
  simp only [shN_ok (o1 _), errS_ok (o1 _)] at a1
  simp only [shN_ok (o2 _), errS_ok (o2 _)] at a2
  have hg1 := fun k i (hi : i < l.length) => gd_sh hk (fr k) hi
  have hg2 := fun k i (hi : i < l.length) => gd_sh hkm (to_ k) hi
  have hsum := fun k i (hi : i < l.length) => sums_k hk k hi
  have hx := fun i (hi : i < l.length) => hk.1.2 i hi
  have v1 := fun X (hX : Below w.heap.size w X) k A' cp (hf : RtF X A' l.length (shR l e (fr k))) => valid_true A A' c cp l _ X (hup X hX) hk.1 hf (hg1 k)
  have v2 := fun X (hX : Below w.heap.size w X) k A' cp (hf : RtF X A' l.length (shR l (sm l - e) (to_ k))) => valid_true A A' c cp l _ X (hup X hX) hk.1 hf (hg2 k)
  have hat := fun X (hX : Below w.heap.size w X) k (hk : k < l.length) => (h.below hX).at_ k hk
  generalize sm l - e = m at *
  obtain ⟨F, hF⟩ : ∃ F : Nat → Nat → Rt, ∀ k, F k = shR l e (fr k) := ⟨fun k => shR l e (fr k), fun _ => rfl⟩
  obtain ⟨G, hG⟩ : ∃ G : Nat → Nat → Rt, ∀ k, G k = shR l m (to_ k) := ⟨fun k => shR l m (to_ k), fun _ => rfl⟩
  simp only [← hF] at a1 hg1 hsum v1
  simp only [← hG] at a2 hg2 hsum v2
  generalize l.length = n at *
  have hb1 := ba1 w (.cells #[.int .i64 3, .int .i64 4, .int .i64 1] 61)
  have hb2 := ba1 (w.alloc (.cells #[.int .i64 3, .int .i64 4, .int .i64 1] 61)) (.cells #[.int .i64 2, .int .i64 4, .int .i64 1] 61)
  have x1 : Bx3 (w.alloc (.cells #[.int .i64 3, .int .i64 4, .int .i64 1] 61)) w.heap.size fr := heap_alloc_new w _
  have x2 : Bx3 ((w.alloc (.cells #[.int .i64 3, .int .i64 4, .int .i64 1] 61)).alloc (.cells #[.int .i64 2, .int .i64 4, .int .i64 1] 61)) (w.heap.size + 1) to_ := by
    have := heap_alloc_new (w.alloc (.cells #[.int .i64 3, .int .i64 4, .int .i64 1] 61)) (.cells #[.int .i64 2, .int .i64 4, .int .i64 1] 61)
    rw [show (w.alloc (.cells #[.int .i64 3, .int .i64 4, .int .i64 1] 61)).heap.size = w.heap.size + 1 by simp] at this
    exact this
  have x1' := x1.up hb2
  have hb3 := bel_trans hb1 hb2
  obtain ⟨Y, hY⟩ : ∃ Y, Y = (w.alloc (.cells #[.int .i64 3, .int .i64 4, .int .i64 1] 61)).alloc (.cells #[.int .i64 2, .int .i64 4, .int .i64 1] 61) := ⟨_, rfl⟩
  rw [← hY] at x1' x2 hb3
  have hst := Lib.hid (And.intro hb3 (And.intro x1' x2))
  clear x1 x2 x1' hb1 hb2 hb3 o1 o2
  replace hY := Lib.hid hY
  replace k1 := Lib.hid k1
  replace k2 := Lib.hid k2
  replace a1 := Lib.hid a1
  replace a2 := Lib.hid a2
  replace hg1 := Lib.hid hg1
  replace hg2 := Lib.hid hg2
  replace hsum := Lib.hid hsum
  replace hx := Lib.hid hx
  replace v1 := Lib.hid v1
  replace v2 := Lib.hid v2
  replace hat := Lib.hid hat
  replace hup := Lib.hid hup
  replace hF := Lib.hid hF
  replace hG := Lib.hid hG
  replace h := Lib.hid h
  replace hk := Lib.hid hk
  replace hkm := Lib.hid hkm
  replace hm := Lib.hid hm
  obtain ⟨hn1, hn8⟩ := hn
  go_enter Try.func12, Try.ntmps12
  go_wp2_with fail
  refine k1.out.mono ?_
  rintro _ X ⟨rfl, rfl⟩
  go_wp2_with fail
  refine k2.out.mono ?_
  rintro _ X ⟨rfl, rfl⟩
  go_wp2
  go_loopw [9, 10, 11, 12, 13, 14, 4] (fun i _ _ _ _ _ _ wr => ∃ k : Nat, k ≤ 3 ∧ i = .int .i64 (k : Nat) ∧ Below X.heap.size X wr ∧ Bx3 wr X.heap.size fr ∧ Bx3 wr (X.heap.size + 1) to_) (fun i _ _ _ _ _ _ _ => 3 - (intOf i).toNat)
  case atStart => exact ⟨0, by omega, rfl, by rw [← hY.out]; exact hst.out⟩
  case round =>
    clear hst
    obtain ⟨k, hk3, rfl, hX, x1, x2⟩ := hrel
    by_cases hkl : k < 3
    · have c1 := x1.cell hkl
      have kk := a1.out wr hX k
      replace kk := Lib.hid kk
      replace hX := Lib.hid hX
      replace x1 := Lib.hid x1
      replace x2 := Lib.hid x2
      have hk3i : (k : Int) < 3 := by omega
      go_wp2_with fail
      refine kk.out.mono ?_
      rintro _ X1 ⟨A1, N1, cp1, rfl, hb1, hN1, f1⟩
      replace hN1 := hN1.symm
      subst hN1
      have hX1 := bel_trans hX.out hb1
      have y1 := x1.out.up hb1
      have y2 := x2.out.up hb1
      have c2 := y2.cell hkl
      have kk2 := a2.out X1 hX1 k
      replace kk2 := Lib.hid kk2
      replace hX1 := Lib.hid hX1
      replace y1 := Lib.hid y1
      replace y2 := Lib.hid y2
      replace f1 := Lib.hid f1
      replace hb1 := Lib.hid hb1
      go_wp2_with fail
      refine kk2.out.mono ?_
      rintro _ X2 ⟨A2, N2, cp2, rfl, hb2, hN2, f2⟩
      replace hN2 := hN2.symm
      subst hN2
      have hX2 := bel_trans hX1.out hb2
      have z1 := y1.out.up hb2
      have z2 := y2.out.up hb2
      have f1' := f1.out.up hb2
      obtain ⟨g1, rfl, q1⟩ := f1' (by omega)
      obtain ⟨g2, rfl, q2⟩ := f2 (by omega)
      have vv1 := v1.out X2 hX2 k _ cp1 f1'
      have vv2 := fun j => v2.out (X2.drewN j) (below_drewN hX2 j) k _ cp2 (f2.up (below_drewN (Below.refl _ _) j))
      have hcel : ∀ (j i : Nat), i < n → ∃ b o, A = some ⟨b, o, none⟩ ∧ (X2.drewN j).cell? ⟨b, o + i, none⟩ = some (.int .i64 (el l i)) ∧ ((X2.drewN j).cell? ⟨g1, i * 2, none⟩ = some (.int .i64 (F k i).n) ∧ (X2.drewN j).cell? ⟨g1, i * 2 + 1, none⟩ = some (.int .i64 (F k i).d)) ∧ (X2.drewN j).cell? ⟨g2, i * 2, none⟩ = some (.int .i64 (G k i).n) ∧ (X2.drewN j).cell? ⟨g2, i * 2 + 1, none⟩ = some (.int .i64 (G k i).d) := fun j i hi => by
        obtain ⟨b, o, e, _, h0⟩ := hat.out X2 hX2 i hi
        exact ⟨b, o, e, h0, ⟨q1.c0 hi, q1.c1 hi⟩, q2.c0 hi, q2.c1 hi⟩
      have hfin : ∀ j, Below X.heap.size X (X2.drewN j) ∧ Bx3 (X2.drewN j) X.heap.size fr ∧ Bx3 (X2.drewN j) (X.heap.size + 1) to_ := fun j => ⟨below_drewN hX2 j, z1, z2⟩
      replace hX2 := Lib.hid hX2
      replace z1 := Lib.hid z1
      replace z2 := Lib.hid z2
      replace f1' := Lib.hid f1'
      replace f2 := Lib.hid f2
      replace q1 := Lib.hid q1
      replace q2 := Lib.hid q2
      replace vv1 := Lib.hid vv1
      replace vv2 := Lib.hid vv2
      replace hcel := Lib.hid hcel
      replace hfin := Lib.hid hfin
      replace hb2 := Lib.hid hb2
      go_wp2_with fail
      refine vv1.out.mono ?_
      rintro _ X3 ⟨rfl, j1, rfl⟩
      go_wp2_with fail
      refine (vv2.out j1).mono ?_
      rintro _ X4 ⟨rfl, j2, hX4⟩
      rw [World.drewN_drewN] at hX4
      have hX4' := Lib.hid hX4
      clear hX4
      go_wp2
      go_loopw [14, 4] (fun i _ wr' => ∃ i' j : Nat, i' ≤ n ∧ i = .int .i64 (i' : Nat) ∧ wr' = X2.drewN j) (fun i _ _ => n - (intOf i).toNat)
      case atStart => exact ⟨0, _, by omega, rfl, hX4'.out⟩
      case round =>
        clear hX4'
        obtain ⟨i, j, hi, rfl, hw⟩ := hrel
        by_cases hin : i < n
        · obtain ⟨b, o, rfl, d0, ⟨d1, d2⟩, d3, d4⟩ := hcel.out j i hin
          rw [← hw] at d0 d1 d2 d3 d4
          have s1 := hg1.out k i hin
          have s2 := hg2.out k i hin
          have s3 := hsum.out k i hin
          have s4 := hx.out i hin
          have hini : (i : Int) < (n : Int) := by omega
          generalize F k i = a at *
          generalize G k i = b' at *
          generalize el l i = x at *
          obtain ⟨an, ad⟩ := a
          obtain ⟨bn, bd⟩ := b'
          obtain ⟨⟨s11, s12⟩, s13, s14⟩ := s1
          obtain ⟨⟨s21, s22⟩, s23, s24⟩ := s2
          unfold sumsR at s3
          unfold okC at s4
          simp only at *
          have p1 : x * ad ≤ 1000 * ad := Int.mul_le_mul_of_nonneg_right s4.2 (by omega)
          have p2 : x * bd ≤ 1000 * bd := Int.mul_le_mul_of_nonneg_right s4.2 (by omega)
          have p0 : 0 ≤ x * ad := Int.mul_nonneg s4.1 (by omega)
          have r1 := prod_b (a := an) (b := bd) (x := 10000000) (y := 10000) (by omega) (by omega) (by omega)
          have r2 := prod_b (a := bn) (b := ad) (x := 10000000) (y := 10000) (by omega) (by omega) (by omega)
          have r3 := prod_b (a := x * ad) (b := bd) (x := 10000000) (y := 10000) (by omega) (by omega) (by omega)
          obtain ⟨u1, hu1⟩ : ∃ z, z = an * bd := ⟨_, rfl⟩
          obtain ⟨u2, hu2⟩ : ∃ z, z = bn * ad := ⟨_, rfl⟩
          obtain ⟨u3, hu3⟩ : ∃ z, z = x * ad := ⟨_, rfl⟩
          rw [← hu3] at p1 p0 r3 s3
          obtain ⟨u4, hu4⟩ : ∃ z, z = u3 * bd := ⟨_, rfl⟩
          rw [← hu1] at r1 s3
          rw [← hu2] at r2 s3
          rw [← hu4] at r3 s3
          have w1 : IntKind.i64.wrap (an * bd) = u1 := by rw [← hu1]; exact IntWalk.i64_in _ (by omega)
          have w2 : IntKind.i64.wrap (bn * ad) = u2 := by rw [← hu2]; exact IntWalk.i64_in _ (by omega)
          have w3 : IntKind.i64.wrap (x * ad) = u3 := by rw [← hu3]; exact IntWalk.i64_in _ (by omega)
          have w4 : IntKind.i64.wrap (u3 * bd) = u4 := by rw [← hu4]; exact IntWalk.i64_in _ (by omega)
          have w5 : IntKind.i64.wrap (u1 + u2) = u4 := by rw [s3]; exact IntWalk.i64_in _ (by omega)
          have hne : (u4 != u4) = false := by simp
          replace hw := Lib.hid hw
          replace hu1 := Lib.hid hu1
          replace hu2 := Lib.hid hu2
          replace hu3 := Lib.hid hu3
          replace hu4 := Lib.hid hu4
          replace s3 := Lib.hid s3
          clear p1 p2 p0 r1 r2 r3 s11 s12 s13 s14 s21 s22 s23 s24 s4
          go_wp2_with fail
          go_quiet (fail)
          go_wp2
          go_roundw
          case rel => exact ⟨i + 1, j + nq, by omega, by go_num, by rw [hw.out, World.drewN_drewN]⟩
          case measure => simp [intOf]; omega
        · have : i = n := by omega
          subst this
          have hff := hfin.out j
          rw [← hw] at hff
          replace hff := Lib.hid hff
          replace hw := Lib.hid hw
          go_wp2
          go_roundw
          case rel => exact ⟨k + 1, by omega, by go_num, hff.out.1, hff.out.2.1, hff.out.2.2⟩
          case measure => simp [intOf]; omega
    · have : k = 3 := by omega
      subst this
      replace hX := Lib.hid hX
      replace x1 := Lib.hid x1
      replace x2 := Lib.hid x2
      go_wp2_with fail
      refine (Sane_any _).mono ?_
      rintro _ X5 ⟨rfl, hb5⟩
      have z5 := Lib.hid (bel_trans hX.out hb5)
      clear hb5
      go_wp2
      go_ret
      exact ⟨rfl, z5.out⟩
theorem walk (A : Option Addr) (c : Nat) (l : List Int) (e : Int) (w : World) (h : Row w w.heap.size A l) (_ : -9223372036854775808 ≤ e ∧ e ≤ 9223372036854775807) :
    Calls Try.prog 12 #[.slice A l.length c, .int .i64 e] w fun r w' => r = .returned (.bool true) ∧ Below w.heap.size w w' := by
  by_cases hl : 40 < l.length
  · exact out A c l.length e w h.1 hl
  · by_cases hk : okE l e
    · exact good A c l e w h hl hk
    · exact bad A c l e w h hl hk

/-! ### the row's step -/
set_option maxRecDepth 100000 in
theorem lifted (os : Os) (started : os.Started) (H : Type) (enc : TypeId × Value → H) :
    ReturnsInHanded {} Try.checked os 12 .any (Rows.fundSidesSpec.pre6 enc Try.prog Try.f12 Rows.fundSidesRow.domain false) (Rows.fundSidesSpec.post enc Try.prog Try.f12 false true false false) := by
  refine returnsInHanded_of_change (C := Try.checked) own started (by kernel_rfl) Try.func12
    (ChangeSpec.witness6 (enc := enc) (C := Try.checked) false ⟨#[], #[.slice none 0 0, .int .i64 0], []⟩ 8 (by kernel_rfl) (by kernel_rfl) (by kernel_rfl) (by kernel_rfl)) ?_
  intro W base args ds gs before hval0 hW hcnd _
  have hval : ∀ (j : Nat) t v, Try.f12.params[j]? = some t → args[j]? = some v → Value.okWide Try.prog W .any base t v := hval0
  have hW' := hW
  obtain ⟨p, q, hA0, hV, rfl, hfz, hnd⟩ := hW
  have hA : DataW.TrodAll enc Try.prog W 0 (fun _ => true) true Try.f12.params.toList args.toList ds p := hA0
  rw [Try.params12] at hA hval
  obtain ⟨v0, vs0, d0, ds0, p0, q0, hargs, rfl, rfl, h0, r0⟩ := trodAll_cons hA
  obtain ⟨v1, vs1, d1, ds1, p1, q1, rfl, rfl, rfl, h1, r1⟩ := trodAll_cons r0
  obtain ⟨rfl, rfl, rfl⟩ := trodAll_nil r1
  obtain rfl : args = #[v0, v1] := by cases args; simp_all
  obtain ⟨rfl, rfl⟩ := trodVars_none hV
  have k0 := h0
  have lt0 : ∀ x ∈ p0, x.block < W.heap.size := by obtain ⟨m, hm⟩ := k0; exact DataW.trod_lt m _ _ _ hm
  obtain ⟨a0, len0, cap0, T0, rfl, rfl, w0⟩ : ∃ A len cap D, v0 = .slice A len cap ∧ D.length = len ∧ Row W W.heap.size A D := by
    obtain ⟨s0, s1, s2, rfl⟩ := okWide_slice Try.underlying22 (hval 0 22 v0 rfl rfl)
    obtain ⟨fuel, hf⟩ := h0
    exact row_of (by simpa [Value.cells] using hf)
  obtain ⟨a1, rfl, rfl, rfl, w1⟩ := open_int Try.underlying3 (hval 1 3 v1 rfl rfl) h1
  clear hA0 hval0
  refine (walk a0 cap0 T0 a1 W w0 (i64_range w1)).mono fun e W' ⟨he, bel⟩ => ?_
  subst he
  exact ⟨_, rfl, _, _, _, [], _, [], hW', trodAll_mk1 (shut_bool Try.underlying4 _), (trodAll_cons_mk (Below.trod laidOut (by kernel_rfl) (of_decide_eq_true (by kernel_rfl)) k0 bel lt0) (trodAll_cons_mk (shut_int Try.underlying3 w1) trodAll_mk0)), rfl, bel.frame _, fun h => by cases h⟩

theorem over : Rows.fundSidesRow.holds Try.pinned (OpenSpec.ofChange Rows.fundSidesSpec) :=
  OpenClaim.holds_of_wide 12 Try.f12 rfl rfl rfl rfl rfl rfl rfl ⟨rfl, rfl, rfl, rfl, rfl⟩ rfl rfl rfl rfl rfl (by kernel_rfl) Try.func12 (by kernel_rfl)
    (of_decide_eq_true (by kernel_rfl)) (by unfold Func.isWrapper; first | (rw [if_pos (by decide +kernel)]; kernel_rfl) | (rw [if_neg (by decide +kernel)]; exact ⟨rfl, rfl⟩))
    (fun os started H enc _ => lifted os started H enc)

/-- The statement. -/
theorem proved : Rows.FundSidesSaid := over
end Go.Proofs.Ythleekdkbgnabaa.lawFundSides
