/-
  For any claims, estate and rule, the law FundWhole returns true: awards in whole numbers share the estate, each within 1 of the rule's, and the claimant with the least award has it.
  Conditions: none.
-/
import Derived.Test.YthleekdkbgnabaaJd
import Derived.Test.YthleekdkbgnabaaV
import Derived.Test.YthleekdkbgnabaaK
import Derived.Deep.DeepCutAuto
namespace Go.Proofs.Ythleekdkbgnabaa.lawFundWhole
open Go.Joins Go.ChangeShapes Go.WideShapes Go.ChangeAt Go.RowKit Go.Deep Go.Proofs.Ythleekdkbgnabaa M
set_option linter.unusedVariables false
set_option linter.unusedSimpArgs false
set_option maxRecDepth 100000 in
set_option maxHeartbeats 1000000 in
theorem most_any (a b : Rt) (w : World) (h1 : fitP (a.n * b.d)) (h2 : fitP (b.n * a.d)) : Calls Try.prog 50 #[rtV a, rtV b] w fun e w' => e = .returned (.bool (decide (a.n * b.d ≤ b.n * a.d))) ∧ Below w.heap.size w w' := by
  have hT := Two.new w a b
  unfold rtV
  obtain ⟨an, ad⟩ := a
  obtain ⟨bn, bd⟩ := b
  simp only at *
  obtain ⟨p, hp⟩ : ∃ p, p = an * bd := ⟨_, rfl⟩
  obtain ⟨q, hq⟩ : ∃ q, q = bn * ad := ⟨_, rfl⟩
  rw [← hp, ← hq]
  rw [← hp] at h1
  rw [← hq] at h2
  unfold fitP at h1 h2
  have w1 : IntKind.i64.wrap (an * bd) = p := by rw [← hp]; exact IntWalk.i64_in _ (by omega)
  have w2 : IntKind.i64.wrap (bn * ad) = q := by rw [← hq]; exact IntWalk.i64_in _ (by omega)
  obtain ⟨Y, hY⟩ : ∃ Y, Y = (w.alloc (.cells #[.int .i64 an, .int .i64 ad] 37)).alloc (.cells #[.int .i64 bn, .int .i64 bd] 37) := ⟨_, rfl⟩
  rw [← hY] at hT
  have c0 := hT.a.c0
  have c1 := hT.a.c1
  have c2 := hT.b.c0
  have c3 := hT.b.c1
  simp only at c0 c1 c2 c3
  have hend := Lib.hid hT.below
  have hYY := Lib.hid hY
  rw [hY] at c0 c1 c2 c3
  replace hT := Lib.hid hT
  replace hp := Lib.hid hp
  replace hq := Lib.hid hq
  replace hY := Lib.hid hY
  go_enter Try.func50, Try.ntmps50
  go_wp2
  go_ret
  exact ⟨rfl, by rw [← hYY.out]; exact hend.out⟩
/-- The first least one is at most every other, and less than those ahead of it. -/
theorem lsI_spec {F : Nat → Rt} {n : Nat} (hd : ∀ i, i < n → 1 ≤ (F i).d) : ∀ k, 1 ≤ k → k ≤ n → ∀ i, i < k → (F (lsI F k)).n * (F i).d ≤ (F i).n * (F (lsI F k)).d ∧ (i < lsI F k → (F (lsI F k)).n * (F i).d < (F i).n * (F (lsI F k)).d) := by
  intro k
  induction k with
  | zero => intro h; omega
  | succ k ih =>
    intro _ hk i hi
    by_cases h0 : k = 0
    · subst h0
      have : i = 0 := by omega
      subst this
      simp [lsI]
    · have hlt := lsI_lt (f := F) k (by omega)
      have dk := hd k (by omega)
      have di := hd i (by omega)
      have dj := hd (lsI F k) (by omega)
      simp only [lsI]
      by_cases hc : (F k).n * (F (lsI F k)).d < (F (lsI F k)).n * (F k).d
      · rw [if_pos hc]
        rcases Nat.lt_succ_iff_lt_or_eq.1 hi with h | rfl
        · have a := (ih (by omega) (by omega) i h).1
          have key : (F k).n * (F i).d < (F i).n * (F k).d := by
            generalize F k = x at *
            generalize F i = y at *
            generalize F (lsI F k) = z at *
            have e1 : x.n * z.d * y.d < z.n * x.d * y.d := Int.mul_lt_mul_of_pos_right hc (by omega)
            have e2 : z.n * y.d * x.d ≤ y.n * z.d * x.d := Int.mul_le_mul_of_nonneg_right a (by omega)
            have e3 : (x.n * y.d) * z.d < (y.n * x.d) * z.d := by
              have e4 : x.n * z.d * y.d = (x.n * y.d) * z.d := by grind
              have e5 : z.n * x.d * y.d = z.n * y.d * x.d := by grind
              have e6 : y.n * z.d * x.d = (y.n * x.d) * z.d := by grind
              omega
            exact Int.lt_of_mul_lt_mul_right e3 (by omega)
          exact ⟨Int.le_of_lt key, fun _ => key⟩
        · exact ⟨Int.le_refl _, fun h => by omega⟩
      · rw [if_neg hc]
        rcases Nat.lt_succ_iff_lt_or_eq.1 hi with h | rfl
        · exact ih (by omega) (by omega) i h
        · exact ⟨by omega, fun h => by omega⟩

set_option maxRecDepth 100000 in
set_option maxHeartbeats 4000000 in
theorem out (A : Option Addr) (c n : Nat) (e q : Int) (w : World) (hn : n ≤ 9223372036854775807) (hl : 40 < n) :
    Calls Try.prog 11 #[.slice A n c, .int .i64 e, .int .i64 q] w fun r w' => r = .returned (.bool true) ∧ Below w.heap.size w w' := by
  have k1 := Long_any A c n w hn
  rw [show decide (40 < (n : Int)) = true from decide_eq_true (by omega)] at k1
  replace k1 := Lib.hid k1
  go_enter Try.func11, Try.ntmps11
  go_wp2_with fail
  refine k1.out.mono ?_
  rintro _ X ⟨rfl, rfl⟩
  go_wp2_with fail
  refine (Sane_any _).mono ?_
  rintro _ X2 ⟨rfl, hb⟩
  go_wp2
  go_ret
  exact ⟨rfl, hb⟩
set_option maxRecDepth 100000 in
set_option maxHeartbeats 4000000 in
theorem bad (A : Option Addr) (c : Nat) (l : List Int) (e q : Int) (w : World) (h : Row w w.heap.size A l) (hl : ¬ 40 < l.length) (hk : ¬ okS l e q) :
    Calls Try.prog 11 #[.slice A l.length c, .int .i64 e, .int .i64 q] w fun r w' => r = .returned (.bool true) ∧ Below w.heap.size w w' := by
  have k1 := Long_any A c l.length w h.1
  rw [show decide (40 < (l.length : Int)) = false from decide_eq_false (by omega)] at k1
  have aW := Whole_bad w.heap.size A c l e q w h hk
  have a1 := fun X (hX : Below w.heap.size w X) => Share_any X.heap.size A c l e q X (h.up hX) (Nat.le_refl _)
  have aL := fun X (hX : Below w.heap.size w X) => Least_bad X.heap.size A c l e q X (h.up hX) hk
  unfold ShR at a1
  rw [shN_bad hk] at a1
  have hne := errS_ne hk
  generalize errS l e q = E at *
  generalize l.length = n at *
  have hn : (E != 0) = true := by simp; omega
  have hEE : (E == E) = true := by simp
  replace k1 := Lib.hid k1
  replace aW := Lib.hid aW
  replace a1 := Lib.hid a1
  replace aL := Lib.hid aL
  replace h := Lib.hid h
  replace hl := Lib.hid hl
  replace hk := Lib.hid hk
  replace hne := Lib.hid hne
  go_enter Try.func11, Try.ntmps11
  go_wp2_with fail
  refine k1.out.mono ?_
  rintro _ X ⟨rfl, rfl⟩
  go_wp2_with fail
  refine aW.out.mono ?_
  rintro _ X1 ⟨rfl, hb1⟩
  have kk := Lib.hid (a1.out X1 hb1)
  replace hb1 := Lib.hid hb1
  go_wp2_with fail
  refine kk.out.mono ?_
  rintro _ X2 ⟨A1, N1, cp1, rfl, hb2, hN1, f1⟩
  subst hN1
  replace hb2 := Lib.hid (bel_trans hb1.out hb2)
  replace f1 := Lib.hid f1
  have kl := Lib.hid (aL.out X2 hb2.out)
  go_wp2_with fail
  refine kl.out.mono ?_
  rintro _ X3 ⟨rfl, hb3⟩
  replace hb3 := Lib.hid (bel_trans hb2.out hb3)
  go_wp2_with fail
  refine (Sane_any _).mono ?_
  rintro _ X4 ⟨rfl, hb4⟩
  have hz := Lib.hid (bel_trans hb3.out hb4)
  clear hb4
  go_wp2
  go_ret
  exact ⟨rfl, hz.out⟩
set_option maxRecDepth 100000 in
set_option maxHeartbeats 8000000 in
theorem inn (A : Option Addr) (c : Nat) (l : List Int) (e : Int) (k : Nat) (w : World) (h : Row w w.heap.size A l) (hl : ¬ 40 < l.length) (hE : okE l e) (hk4 : k < 4) :
    Calls Try.prog 11 #[.slice A l.length c, .int .i64 e, .int .i64 (k + 1 : Nat)] w fun r w' => r = .returned (.bool true) ∧ Below w.heap.size w w' := by
  have hks : okS l e (k + 1 : Nat) := ⟨hE, by omega, by omega⟩
  have hv := hE.1
  have hn := val_len hv
  have k1 := Long_any A c l.length w h.1
  rw [show decide (40 < (l.length : Int)) = false from decide_eq_false (by omega)] at k1
  have aW := Whole_ok w.heap.size A c l e w h (Nat.le_refl _) hE k hk4
  have a1 := fun X (hX : Below w.heap.size w X) => Share_any X.heap.size A c l e (k + 1 : Nat) X (h.up hX) (Nat.le_refl _)
  have aL := fun X (hX : Below w.heap.size w X) => Least_ok X.heap.size A c l e X (h.up hX) (Nat.le_refl _) hE k hk4
  unfold ShR at a1
  rw [shN_ok hks, errS_ok hks] at a1
  have v1 := fun X (hX : Below w.heap.size w X) A' cp (hf : RtF X A' l.length (shR l e (k + 1 : Nat))) => valid_true A A' c cp l _ X (h.up hX) hv hf (fun i hi => gd_sh hE (k + 1 : Nat) hi)
  have hg1 := fun i (hi : i < l.length) => gd_sh hE (k + 1 : Nat) hi
  have hd := fun i (hi : i < l.length) => (hg1 i hi).2.1
  have hw := fun Q s L σ hK hI => whole_ok (l := l) (e := e) (F := shR l e (k + 1 : Nat)) (Q := Q) (s := s) (L := L) (σ := σ) hK hg1 hI
  have hls := lsI_spec hd l.length (by omega) (Nat.le_refl _)
  have hlt := lsI_lt (f := shR l e (k + 1 : Nat)) l.length (by omega)
  have hcr : crsR (shR l e (k + 1 : Nat)) l.length := fun i hi => by have := shR_b (q := (k + 1 : Nat)) hE.1 hE.2 hi; omega
  have km := fun i j (hi : i < l.length) (hj : j < l.length) X => most_any (shR l e (k + 1 : Nat) i) (shR l e (k + 1 : Nat) j) X (crs_fit (hcr i hi) (hcr j hj)).1 (crs_fit (hcr i hi) (hcr j hj)).2
  unfold rtV at km
  have hxs := fun i (hi : i < l.length) => hv.2 i hi
  have hat := fun X (hX : Below w.heap.size w X) k (hk : k < l.length) => (h.below hX).at_ k hk
  have kT : ∀ X g (W : Nat → Int), BlI X g l.length W → WhP l e (shR l e (k + 1 : Nat)) W → Calls Try.prog 51 #[.slice (some ⟨g, 0, none⟩) l.length l.length] X fun r w' => r = .returned (.int .i64 e) ∧ w' = X := fun X g W hX hP => by
    obtain ⟨s1, s2⟩ := hP
    have q := Total_ref X.heap.size (some ⟨g, 0, none⟩) l.length (liF W l.length) X (row_blk hX (by omega)) (by rw [liF_len]; exact fun i hi => by rw [liF_at _ _ _ hi]; have := s2 i hi; have := hxs i hi; unfold okC at *; omega) (by rw [liF_len]; omega)
    rw [liF_len, liF_sm, s1] at q
    exact q
  obtain ⟨q, hq⟩ : ∃ q : Int, q = (k + 1 : Nat) := ⟨_, rfl⟩
  rw [← hq] at aW a1 aL v1 hg1 hd hw hls hlt hcr km kT hks ⊢
  unfold WhP at hw kT
  generalize shR l e q = F at *
  generalize lsI F l.length = le at *
  generalize l.length = n at *
  have hee : (e != e) = false := by simp
  have hnn : ((n : Int) != (n : Int)) = false := by simp
  clear hcr hd
  replace hq := Lib.hid hq
  replace k1 := Lib.hid k1
  replace aW := Lib.hid aW
  replace a1 := Lib.hid a1
  replace aL := Lib.hid aL
  replace v1 := Lib.hid v1
  replace hg1 := Lib.hid hg1
  replace hw := Lib.hid hw
  replace hls := Lib.hid hls
  replace km := Lib.hid km
  replace kT := Lib.hid kT
  replace hxs := Lib.hid hxs
  replace hat := Lib.hid hat
  replace h := Lib.hid h
  replace hl := Lib.hid hl
  replace hv := Lib.hid hv
  replace hE := Lib.hid hE
  replace hks := Lib.hid hks
  obtain ⟨hn1, hn8⟩ := hn
  go_enter Try.func11, Try.ntmps11
  go_wp2_with fail
  refine k1.out.mono ?_
  rintro _ X ⟨rfl, rfl⟩
  go_wp2_with fail
  refine aW.out.mono ?_
  rintro _ X1 ⟨g, Q, s, L, σ, rfl, hb1, hbl, hK, hI⟩
  have hWP := hw.out Q s L σ hK hI
  clear hK hI
  generalize addW (qW F) σ L = W at *
  have kk := Lib.hid (a1.out X1 hb1)
  replace hWP := Lib.hid hWP
  replace hbl := Lib.hid hbl
  replace hb1 := Lib.hid hb1
  go_wp2_with fail
  refine kk.out.mono ?_
  rintro _ X2 ⟨A2, N2, cp2, rfl, hb2, hN2, f2⟩
  replace hN2 := hN2.symm
  subst hN2
  obtain ⟨gf, rfl, hbf⟩ := f2 (by omega)
  have z2 := bel_trans hb1.out hb2
  have hbl2 := hbl.out.up hb2
  have hX := fun Z (hZ : Below X2.heap.size X2 Z) => And.intro (hbf.up hZ) (And.intro (hbl2.up hZ) (bel_trans z2 hZ))
  have kl := Lib.hid (aL.out X2 z2)
  replace hX := Lib.hid hX
  replace f2 := Lib.hid f2
  replace hbf := Lib.hid hbf
  replace hbl2 := Lib.hid hbl2
  replace z2 := Lib.hid z2
  replace hb2 := Lib.hid hb2
  go_wp2_with fail
  refine kl.out.mono ?_
  rintro _ X3 ⟨rfl, hb3⟩
  obtain ⟨u1, u2, u3⟩ := hX.out X3 hb3
  have kv := Lib.hid (v1.out X3 u3 (some ⟨gf, 0, none⟩) cp2 (fun _ => ⟨gf, rfl, u1⟩))
  have kt := Lib.hid (fun N => kT.out (X3.drewN N) g W (u2.to rfl) hWP.out)
  have b3 := Lib.hid (fun N => below_drewN hb3 N)
  have hleI : (le : Int) < (n : Int) := by omega
  clear u1 u2 u3 hb3
  go_wp2_with fail
  refine kv.out.mono ?_
  rintro _ X4 ⟨rfl, j4, rfl⟩
  go_wp2_with fail
  refine (kt.out j4).mono ?_
  rintro _ X5 ⟨rfl, rfl⟩
  go_wp2_with fail
  simp only [show decide ((le : Int) < 0) = false from decide_eq_false (by omega), show decide (n ≤ le) = false from decide_eq_false (by omega), Bool.or_false, Bool.or_self, Bool.false_or]
  go_loopw [13, 14, 6] (fun iv _ _ wr => ∃ i : Nat, i ≤ n ∧ iv = .int .i64 (i : Nat) ∧ Below X2.heap.size X2 wr) (fun iv _ _ _ => n - (intOf iv).toNat)
  case atStart => exact ⟨0, by omega, rfl, b3.out _⟩
  case round =>
    clear b3
    obtain ⟨i, hi, rfl, hY⟩ := hrel
    by_cases hin : i < n
    · have hini : (i : Int) < (n : Int) := by omega
      obtain ⟨u1, u2, u3⟩ := hX.out wr hY
      obtain ⟨ba, oa, rfl, _, _⟩ := hat.out wr u3 i hin
      clear u1 u2 u3
      have hcel : ∀ Z, Below wr.heap.size wr Z → Z.cell? ⟨g, i, none⟩ = some (.int .i64 (W i)) ∧ Z.cell? ⟨ba, oa + i, none⟩ = some (.int .i64 (el l i)) ∧ Z.cell? ⟨gf, i * 2, none⟩ = some (.int .i64 (F i).n) ∧ Z.cell? ⟨gf, i * 2 + 1, none⟩ = some (.int .i64 (F i).d) ∧ Z.cell? ⟨gf, le * 2, none⟩ = some (.int .i64 (F le).n) ∧ Z.cell? ⟨gf, le * 2 + 1, none⟩ = some (.int .i64 (F le).d) := fun Z hZ => by
        obtain ⟨u1, u2, u3⟩ := hX.out Z (bel_trans hY hZ)
        obtain ⟨b', o', he', _, s1⟩ := hat.out Z u3 i hin
        cases he'
        exact ⟨u2.cell hin, s1, u1.c0 hin, u1.c1 hin, u1.c0 hlt, u1.c1 hlt⟩
      have hup := fun Z (hZ : Below wr.heap.size wr Z) => bel_trans hY hZ
      have m1 := fun X => km.out le i hlt hin X
      have m2 := fun X => km.out i le hin hlt X
      obtain ⟨p1, p2⟩ := hls.out i hin
      obtain ⟨⟨o1, o2⟩, o3, o4⟩ := hWP.out.2 i hin
      have hxi := hxs.out i hin
      obtain ⟨⟨g1, g2⟩, g3, g4⟩ := hg1.out i hin
      unfold okC at hxi
      rw [decide_eq_true p1] at m1
      generalize F i = a at *
      generalize F le = b at *
      obtain ⟨an, ad⟩ := a
      obtain ⟨bn, bd⟩ := b
      simp only at *
      generalize W i = v at *
      generalize el l i = x at *
      have pb := mul_b (a := v) (b := ad) (A := 1000) (B := 10000) (by omega) (by omega)
      have pc := mul_b (a := x) (b := ad) (A := 1000) (B := 10000) (by omega) (by omega)
      obtain ⟨t, ht⟩ : ∃ t, t = v * ad := ⟨_, rfl⟩
      rw [← ht] at pb o3 o4
      obtain ⟨dd, hdd⟩ : ∃ dd, dd = t - an := ⟨_, rfl⟩
      have w1 : IntKind.i64.wrap (v * ad) = t := by rw [← ht]; exact IntWalk.i64_in _ (by omega)
      have w2 : IntKind.i64.wrap (t - an) = dd := by rw [hdd]; exact IntWalk.i64_in _ (by omega)
      have w3 : IntKind.i64.wrap (-ad) = -ad := IntWalk.i64_in _ (by omega)
      have n1 : ¬ dd ≤ -ad := by omega
      have n2 : ¬ ad ≤ dd := by omega
      have n3 : ¬ v < 0 := by omega
      have n4 : ¬ x < v := by omega
      have d1 : decide (dd ≤ -ad) = false := decide_eq_false n1
      have d2 : decide (ad ≤ dd) = false := decide_eq_false n2
      have d3 : decide (v < 0) = false := decide_eq_false n3
      have d4 : decide (x < v) = false := decide_eq_false n4
      have a0 := hcel wr (Below.refl _ _)
      obtain ⟨a01, a02, a03, a04, a05, a06⟩ := a0
      have hS : ∀ M Z, Below (wr.drewN M).heap.size (wr.drewN M) Z → _ := fun M Z hZ => hcel Z (bel_trans (below_drewN (Below.refl wr.heap.size wr) M) hZ)
      clear pb pc o1 o2 o3 o4 g1 g2 g3 g4 hxi
      replace hcel := Lib.hid hcel
      replace hS := Lib.hid hS
      replace hup := Lib.hid hup
      replace m1 := Lib.hid m1
      replace m2 := Lib.hid m2
      replace p1 := Lib.hid p1
      replace p2 := Lib.hid p2
      replace ht := Lib.hid ht
      replace hdd := Lib.hid hdd
      replace hY := Lib.hid hY
      go_wp2_with fail
      go_quiet (fail)
      obtain ⟨y, hy⟩ : ∃ y, y = wr.drewN nq := ⟨_, rfl⟩
      rw [← hy]
      have hyb : Below wr.heap.size wr y := by rw [hy]; exact below_drewN (Below.refl _ _) _
      have h0 : Below y.heap.size y y.drew := below_drewN (Below.refl _ _) 1
      have t0 := hcel.out y.drew (bel_trans hyb h0)
      have hS2 := Lib.hid (fun Z (hZ : Below y.heap.size y Z) => hcel.out Z (bel_trans hyb hZ))
      have hfin2 := fun Z (hZ : Below y.heap.size y Z) => hup.out Z (bel_trans hyb hZ)
      have hY0 := Lib.hid (hfin2 _ h0)
      replace hfin2 := Lib.hid hfin2
      replace hy := Lib.hid hy
      replace hyb := Lib.hid hyb
      clear a01 a02 a03 a04 a05 a06
      by_cases hil : i < le
      · have hlt2 := p2.out hil
        have hil2 : (i : Int) < (le : Int) := by omega
        have d5 : decide ((i : Int) < (le : Int)) = true := decide_eq_true hil2
        have d6 : decide (i < le) = true := decide_eq_true hil
        rw [show decide (an * bd ≤ bn * ad) = false from decide_eq_false (by omega)] at m2
        replace hlt2 := Lib.hid hlt2
        go_wp2_with fail
        refine wp_region_held_drew (S := fun Z => Z.cell? ⟨g, i, none⟩ = some (.int .i64 v) ∧ Z.cell? ⟨ba, oa + i, none⟩ = some (.int .i64 x) ∧ Z.cell? ⟨gf, i * 2, none⟩ = some (.int .i64 an) ∧ Z.cell? ⟨gf, i * 2 + 1, none⟩ = some (.int .i64 ad) ∧ Z.cell? ⟨gf, le * 2, none⟩ = some (.int .i64 bn) ∧ Z.cell? ⟨gf, le * 2 + 1, none⟩ = some (.int .i64 bd)) (by kernel_rfl) (t0) (fun hHeld => ?_)
        refine wpAnyH_take (i := 0) (oi := ({ dst := some 123, op := Go.Op.move (Go.Operand.tmp 14), type := 3, pos := "law.go:165", after := #[], guard := none } : Oper)) (v := ?_) rfl (by kernel_rfl) (by kernel_rfl) (by kernel_rfl) (fun _ _ _ h => h) (Or.inl ⟨by rfl, ?_⟩) (by assumption) ?_
        rotate_left
        · (intro w' hSw; (try dsimp only at hSw); go_simp; (try with_reducible rfl))
        try simp only [Act.put, List.setIfInBounds_toArray, List.set_cons_zero, List.set_cons_succ]
        refine wpAnyH_take (i := 1) (oi := ({ dst := some 124, op := Go.Op.move (Go.Operand.tmp 9), type := 25, pos := "law.go:165", after := #[], guard := none } : Oper)) (v := ?_) rfl (by kernel_rfl) (by kernel_rfl) (by kernel_rfl) (fun _ _ _ h => h) (Or.inl ⟨by rfl, ?_⟩) (by assumption) ?_
        rotate_left
        · (intro w' hSw; (try dsimp only at hSw); go_simp; (try with_reducible rfl))
        try simp only [Act.put, List.setIfInBounds_toArray, List.set_cons_zero, List.set_cons_succ]
        refine wpAnyH_take (i := 2) (oi := ({ dst := some 125, op := Go.Op.move (Go.Operand.tmp 13), type := 3, pos := "law.go:165", after := #[], guard := none } : Oper)) (v := ?_) rfl (by kernel_rfl) (by kernel_rfl) (by kernel_rfl) (fun _ _ _ h => h) (Or.inl ⟨by rfl, ?_⟩) (by assumption) ?_
        rotate_left
        · (intro w' hSw; (try dsimp only at hSw); go_simp; (try with_reducible rfl))
        try simp only [Act.put, List.setIfInBounds_toArray, List.set_cons_zero, List.set_cons_succ]
        refine wpAnyH_take (i := 3) (oi := ({ dst := some 126, op := Go.Op.indexAddr 25 (Go.Operand.tmp 124) (Go.Operand.tmp 125), type := 0, pos := "law.go:165", after := #[{ on := 1, ground := Go.Ground.data }, { on := 2, ground := Go.Ground.data }], guard := none } : Oper)) (v := ?_) rfl (by kernel_rfl) (by kernel_rfl) (by kernel_rfl) (fun _ _ _ h => h) (Or.inl ⟨by rfl, ?_⟩) (by assumption) ?_
        rotate_left
        · (intro w' hSw; (try dsimp only at hSw); go_simp; (try with_reducible rfl))
        try simp only [Act.put, List.setIfInBounds_toArray, List.set_cons_zero, List.set_cons_succ]
        refine wpAnyH_take (i := 4) (oi := ({ dst := some 127, op := Go.Op.fieldAddr 37 (Go.Operand.tmp 126) 1, type := 0, pos := "law.go:165", after := #[{ on := 3, ground := Go.Ground.data }], guard := none } : Oper)) (v := ?_) rfl (by kernel_rfl) (by kernel_rfl) (by kernel_rfl) (fun _ _ _ h => h) (Or.inl ⟨by rfl, ?_⟩) (by assumption) ?_
        rotate_left
        · (intro w' hSw; (try dsimp only at hSw); go_simp; (try with_reducible rfl))
        try simp only [Act.put, List.setIfInBounds_toArray, List.set_cons_zero, List.set_cons_succ]
        refine wpAnyH_take (i := 5) (oi := ({ dst := some 128, op := Go.Op.load 3 (Go.Operand.tmp 127), type := 3, pos := "law.go:165", after := #[{ on := 4, ground := Go.Ground.data }], guard := none } : Oper)) (v := ?_) rfl (by kernel_rfl) (by kernel_rfl) (by kernel_rfl) (fun _ _ _ h => h) (Or.inl ⟨by rfl, ?_⟩) (by assumption) ?_
        rotate_left
        · (intro w' hSw; (try dsimp only at hSw); go_simp; (try with_reducible rfl))
        try simp only [Act.put, List.setIfInBounds_toArray, List.set_cons_zero, List.set_cons_succ]
        refine wpAnyH_take (i := 6) (oi := ({ dst := some 129, op := Go.Op.unOp Go.UnOp.neg 3 (Go.Operand.tmp 128), type := 3, pos := "law.go:165", after := #[{ on := 5, ground := Go.Ground.data }], guard := none } : Oper)) (v := ?_) rfl (by kernel_rfl) (by kernel_rfl) (by kernel_rfl) (fun _ _ _ h => h) (Or.inl ⟨by rfl, ?_⟩) (by assumption) ?_
        rotate_left
        · (intro w' hSw; (try dsimp only at hSw); go_simp; (try with_reducible rfl))
        try simp only [Act.put, List.setIfInBounds_toArray, List.set_cons_zero, List.set_cons_succ]
        refine wpAnyH_take (i := 7) (oi := ({ dst := some 130, op := Go.Op.binOp Go.BinOp.leq 3 (Go.Operand.tmp 123) (Go.Operand.tmp 129) 3, type := 4, pos := "law.go:165", after := #[{ on := 0, ground := Go.Ground.data }, { on := 6, ground := Go.Ground.data }], guard := none } : Oper)) (v := ?_) rfl (by kernel_rfl) (by kernel_rfl) (by kernel_rfl) (fun _ _ _ h => h) (Or.inl ⟨by rfl, ?_⟩) (by assumption) ?_
        rotate_left
        · (intro w' hSw; (try dsimp only at hSw); go_simp; (try with_reducible rfl))
        try simp only [Act.put, List.setIfInBounds_toArray, List.set_cons_zero, List.set_cons_succ]
        refine wpAnyH_take (i := 8) (oi := ({ dst := some 131, op := Go.Op.move (Go.Operand.tmp 130), type := 4, pos := "law.go:165", after := #[{ on := 7, ground := Go.Ground.data }], guard := none } : Oper)) (v := ?_) rfl (by kernel_rfl) (by kernel_rfl) (by kernel_rfl) (fun _ _ _ h => h) (Or.inl ⟨by rfl, ?_⟩) (by assumption) ?_
        rotate_left
        · (intro w' hSw; (try dsimp only at hSw); go_simp; (try with_reducible rfl))
        try simp only [Act.put, List.setIfInBounds_toArray, List.set_cons_zero, List.set_cons_succ]
        refine wpAnyH_take (i := 9) (oi := ({ dst := some 132, op := Go.Op.move (Go.Operand.tmp 14), type := 3, pos := "law.go:165", after := #[{ on := 8, ground := Go.Ground.guard }], guard := some (8, false) } : Oper)) (v := ?_) rfl (by kernel_rfl) (by kernel_rfl) (by kernel_rfl) (fun _ _ _ h => h) (Or.inl ⟨by rfl, ?_⟩) (by assumption) ?_
        rotate_left
        · (intro w' hSw; (try dsimp only at hSw); go_simp; (try with_reducible rfl))
        try simp only [Act.put, List.setIfInBounds_toArray, List.set_cons_zero, List.set_cons_succ]
        refine wpAnyH_take (i := 10) (oi := ({ dst := some 133, op := Go.Op.move (Go.Operand.tmp 9), type := 25, pos := "law.go:165", after := #[{ on := 8, ground := Go.Ground.guard }], guard := some (8, false) } : Oper)) (v := ?_) rfl (by kernel_rfl) (by kernel_rfl) (by kernel_rfl) (fun _ _ _ h => h) (Or.inl ⟨by rfl, ?_⟩) (by assumption) ?_
        rotate_left
        · (intro w' hSw; (try dsimp only at hSw); go_simp; (try with_reducible rfl))
        try simp only [Act.put, List.setIfInBounds_toArray, List.set_cons_zero, List.set_cons_succ]
        refine wpAnyH_take (i := 11) (oi := ({ dst := some 134, op := Go.Op.move (Go.Operand.tmp 13), type := 3, pos := "law.go:165", after := #[{ on := 8, ground := Go.Ground.guard }], guard := some (8, false) } : Oper)) (v := ?_) rfl (by kernel_rfl) (by kernel_rfl) (by kernel_rfl) (fun _ _ _ h => h) (Or.inl ⟨by rfl, ?_⟩) (by assumption) ?_
        rotate_left
        · (intro w' hSw; (try dsimp only at hSw); go_simp; (try with_reducible rfl))
        try simp only [Act.put, List.setIfInBounds_toArray, List.set_cons_zero, List.set_cons_succ]
        refine wpAnyH_take (i := 12) (oi := ({ dst := some 135, op := Go.Op.indexAddr 25 (Go.Operand.tmp 133) (Go.Operand.tmp 134), type := 0, pos := "law.go:165", after := #[{ on := 10, ground := Go.Ground.data }, { on := 11, ground := Go.Ground.data }, { on := 8, ground := Go.Ground.guard }], guard := some (8, false) } : Oper)) (v := ?_) rfl (by kernel_rfl) (by kernel_rfl) (by kernel_rfl) (fun _ _ _ h => h) (Or.inl ⟨by rfl, ?_⟩) (by assumption) ?_
        rotate_left
        · (intro w' hSw; (try dsimp only at hSw); go_simp; (try with_reducible rfl))
        try simp only [Act.put, List.setIfInBounds_toArray, List.set_cons_zero, List.set_cons_succ]
        refine wpAnyH_take (i := 13) (oi := ({ dst := some 136, op := Go.Op.fieldAddr 37 (Go.Operand.tmp 135) 1, type := 0, pos := "law.go:165", after := #[{ on := 12, ground := Go.Ground.data }, { on := 8, ground := Go.Ground.guard }], guard := some (8, false) } : Oper)) (v := ?_) rfl (by kernel_rfl) (by kernel_rfl) (by kernel_rfl) (fun _ _ _ h => h) (Or.inl ⟨by rfl, ?_⟩) (by assumption) ?_
        rotate_left
        · (intro w' hSw; (try dsimp only at hSw); go_simp; (try with_reducible rfl))
        try simp only [Act.put, List.setIfInBounds_toArray, List.set_cons_zero, List.set_cons_succ]
        refine wpAnyH_take (i := 14) (oi := ({ dst := some 137, op := Go.Op.load 3 (Go.Operand.tmp 136), type := 3, pos := "law.go:165", after := #[{ on := 13, ground := Go.Ground.data }, { on := 8, ground := Go.Ground.guard }], guard := some (8, false) } : Oper)) (v := ?_) rfl (by kernel_rfl) (by kernel_rfl) (by kernel_rfl) (fun _ _ _ h => h) (Or.inl ⟨by rfl, ?_⟩) (by assumption) ?_
        rotate_left
        · (intro w' hSw; (try dsimp only at hSw); go_simp; (try with_reducible rfl))
        try simp only [Act.put, List.setIfInBounds_toArray, List.set_cons_zero, List.set_cons_succ]
        refine wpAnyH_take (i := 15) (oi := ({ dst := some 138, op := Go.Op.binOp Go.BinOp.geq 3 (Go.Operand.tmp 132) (Go.Operand.tmp 137) 3, type := 4, pos := "law.go:165", after := #[{ on := 9, ground := Go.Ground.data }, { on := 14, ground := Go.Ground.data }, { on := 8, ground := Go.Ground.guard }], guard := some (8, false) } : Oper)) (v := ?_) rfl (by kernel_rfl) (by kernel_rfl) (by kernel_rfl) (fun _ _ _ h => h) (Or.inl ⟨by rfl, ?_⟩) (by assumption) ?_
        rotate_left
        · (intro w' hSw; (try dsimp only at hSw); go_simp; (try with_reducible rfl))
        try simp only [Act.put, List.setIfInBounds_toArray, List.set_cons_zero, List.set_cons_succ]
        refine wpAnyH_take (i := 16) (oi := ({ dst := some 139, op := Go.Op.pick (Go.Operand.tmp 131) (Go.Operand.const (Go.Value.bool true)) (Go.Operand.tmp 138), type := 4, pos := "law.go:165", after := #[{ on := 8, ground := Go.Ground.data }, { on := 15, ground := Go.Ground.data }], guard := none } : Oper)) (v := ?_) rfl (by kernel_rfl) (by kernel_rfl) (by kernel_rfl) (fun _ _ _ h => h) (Or.inl ⟨by rfl, ?_⟩) (by assumption) ?_
        rotate_left
        · (intro w' hSw; (try dsimp only at hSw); go_simp; (try with_reducible rfl))
        try simp only [Act.put, List.setIfInBounds_toArray, List.set_cons_zero, List.set_cons_succ]
        refine wpAnyH_take (i := 17) (oi := ({ dst := some 140, op := Go.Op.move (Go.Operand.tmp 139), type := 4, pos := "law.go:165", after := #[{ on := 16, ground := Go.Ground.data }, { on := 8, ground := Go.Ground.chain }], guard := none } : Oper)) (v := ?_) rfl (by kernel_rfl) (by kernel_rfl) (by kernel_rfl) (fun _ _ _ h => h) (Or.inl ⟨by rfl, ?_⟩) (by assumption) ?_
        rotate_left
        · (intro w' hSw; (try dsimp only at hSw); go_simp; (try with_reducible rfl))
        try simp only [Act.put, List.setIfInBounds_toArray, List.set_cons_zero, List.set_cons_succ]
        refine wpAnyH_take (i := 18) (oi := ({ dst := some 141, op := Go.Op.move (Go.Operand.tmp 7), type := 22, pos := "law.go:165", after := #[{ on := 17, ground := Go.Ground.guard }], guard := some (17, false) } : Oper)) (v := ?_) rfl (by kernel_rfl) (by kernel_rfl) (by kernel_rfl) (fun _ _ _ h => h) (Or.inl ⟨by rfl, ?_⟩) (by assumption) ?_
        rotate_left
        · (intro w' hSw; (try dsimp only at hSw); go_simp; (try with_reducible rfl))
        try simp only [Act.put, List.setIfInBounds_toArray, List.set_cons_zero, List.set_cons_succ]
        refine wpAnyH_take (i := 19) (oi := ({ dst := some 142, op := Go.Op.move (Go.Operand.tmp 13), type := 3, pos := "law.go:165", after := #[{ on := 17, ground := Go.Ground.guard }], guard := some (17, false) } : Oper)) (v := ?_) rfl (by kernel_rfl) (by kernel_rfl) (by kernel_rfl) (fun _ _ _ h => h) (Or.inl ⟨by rfl, ?_⟩) (by assumption) ?_
        rotate_left
        · (intro w' hSw; (try dsimp only at hSw); go_simp; (try with_reducible rfl))
        try simp only [Act.put, List.setIfInBounds_toArray, List.set_cons_zero, List.set_cons_succ]
        refine wpAnyH_take (i := 20) (oi := ({ dst := some 143, op := Go.Op.indexAddr 22 (Go.Operand.tmp 141) (Go.Operand.tmp 142), type := 0, pos := "law.go:165", after := #[{ on := 18, ground := Go.Ground.data }, { on := 19, ground := Go.Ground.data }, { on := 17, ground := Go.Ground.guard }], guard := some (17, false) } : Oper)) (v := ?_) rfl (by kernel_rfl) (by kernel_rfl) (by kernel_rfl) (fun _ _ _ h => h) (Or.inl ⟨by rfl, ?_⟩) (by assumption) ?_
        rotate_left
        · (intro w' hSw; (try dsimp only at hSw); go_simp; (try with_reducible rfl))
        try simp only [Act.put, List.setIfInBounds_toArray, List.set_cons_zero, List.set_cons_succ]
        refine wpAnyH_take (i := 21) (oi := ({ dst := some 144, op := Go.Op.load 3 (Go.Operand.tmp 143), type := 3, pos := "law.go:165", after := #[{ on := 20, ground := Go.Ground.data }, { on := 17, ground := Go.Ground.guard }], guard := some (17, false) } : Oper)) (v := ?_) rfl (by kernel_rfl) (by kernel_rfl) (by kernel_rfl) (fun _ _ _ h => h) (Or.inl ⟨by rfl, ?_⟩) (by assumption) ?_
        rotate_left
        · (intro w' hSw; (try dsimp only at hSw); go_simp; (try with_reducible rfl))
        try simp only [Act.put, List.setIfInBounds_toArray, List.set_cons_zero, List.set_cons_succ]
        refine wpAnyH_take (i := 22) (oi := ({ dst := some 145, op := Go.Op.binOp Go.BinOp.lss 3 (Go.Operand.tmp 144) (Go.Operand.const (Go.Value.int Go.IntKind.i64 0)) 3, type := 4, pos := "law.go:165", after := #[{ on := 21, ground := Go.Ground.data }, { on := 17, ground := Go.Ground.guard }], guard := some (17, false) } : Oper)) (v := ?_) rfl (by kernel_rfl) (by kernel_rfl) (by kernel_rfl) (fun _ _ _ h => h) (Or.inl ⟨by rfl, ?_⟩) (by assumption) ?_
        rotate_left
        · (intro w' hSw; (try dsimp only at hSw); go_simp; (try with_reducible rfl))
        try simp only [Act.put, List.setIfInBounds_toArray, List.set_cons_zero, List.set_cons_succ]
        refine wpAnyH_take (i := 23) (oi := ({ dst := some 146, op := Go.Op.pick (Go.Operand.tmp 140) (Go.Operand.const (Go.Value.bool true)) (Go.Operand.tmp 145), type := 4, pos := "law.go:165", after := #[{ on := 17, ground := Go.Ground.data }, { on := 22, ground := Go.Ground.data }], guard := none } : Oper)) (v := ?_) rfl (by kernel_rfl) (by kernel_rfl) (by kernel_rfl) (fun _ _ _ h => h) (Or.inl ⟨by rfl, ?_⟩) (by assumption) ?_
        rotate_left
        · (intro w' hSw; (try dsimp only at hSw); go_simp; (try with_reducible rfl))
        try simp only [Act.put, List.setIfInBounds_toArray, List.set_cons_zero, List.set_cons_succ]
        refine wpAnyH_take (i := 24) (oi := ({ dst := some 147, op := Go.Op.move (Go.Operand.tmp 146), type := 4, pos := "law.go:165", after := #[{ on := 23, ground := Go.Ground.data }, { on := 17, ground := Go.Ground.chain }], guard := none } : Oper)) (v := ?_) rfl (by kernel_rfl) (by kernel_rfl) (by kernel_rfl) (fun _ _ _ h => h) (Or.inl ⟨by rfl, ?_⟩) (by assumption) ?_
        rotate_left
        · (intro w' hSw; (try dsimp only at hSw); go_simp; (try with_reducible rfl))
        try simp only [Act.put, List.setIfInBounds_toArray, List.set_cons_zero, List.set_cons_succ]
        refine wpAnyH_take (i := 25) (oi := ({ dst := some 148, op := Go.Op.move (Go.Operand.tmp 7), type := 22, pos := "law.go:165", after := #[{ on := 24, ground := Go.Ground.guard }], guard := some (24, false) } : Oper)) (v := ?_) rfl (by kernel_rfl) (by kernel_rfl) (by kernel_rfl) (fun _ _ _ h => h) (Or.inl ⟨by rfl, ?_⟩) (by assumption) ?_
        rotate_left
        · (intro w' hSw; (try dsimp only at hSw); go_simp; (try with_reducible rfl))
        try simp only [Act.put, List.setIfInBounds_toArray, List.set_cons_zero, List.set_cons_succ]
        refine wpAnyH_take (i := 26) (oi := ({ dst := some 149, op := Go.Op.move (Go.Operand.tmp 13), type := 3, pos := "law.go:165", after := #[{ on := 24, ground := Go.Ground.guard }], guard := some (24, false) } : Oper)) (v := ?_) rfl (by kernel_rfl) (by kernel_rfl) (by kernel_rfl) (fun _ _ _ h => h) (Or.inl ⟨by rfl, ?_⟩) (by assumption) ?_
        rotate_left
        · (intro w' hSw; (try dsimp only at hSw); go_simp; (try with_reducible rfl))
        try simp only [Act.put, List.setIfInBounds_toArray, List.set_cons_zero, List.set_cons_succ]
        refine wpAnyH_take (i := 27) (oi := ({ dst := some 150, op := Go.Op.indexAddr 22 (Go.Operand.tmp 148) (Go.Operand.tmp 149), type := 0, pos := "law.go:165", after := #[{ on := 25, ground := Go.Ground.data }, { on := 26, ground := Go.Ground.data }, { on := 24, ground := Go.Ground.guard }], guard := some (24, false) } : Oper)) (v := ?_) rfl (by kernel_rfl) (by kernel_rfl) (by kernel_rfl) (fun _ _ _ h => h) (Or.inl ⟨by rfl, ?_⟩) (by assumption) ?_
        rotate_left
        · (intro w' hSw; (try dsimp only at hSw); go_simp; (try with_reducible rfl))
        try simp only [Act.put, List.setIfInBounds_toArray, List.set_cons_zero, List.set_cons_succ]
        refine wpAnyH_take (i := 28) (oi := ({ dst := some 151, op := Go.Op.load 3 (Go.Operand.tmp 150), type := 3, pos := "law.go:165", after := #[{ on := 27, ground := Go.Ground.data }, { on := 24, ground := Go.Ground.guard }], guard := some (24, false) } : Oper)) (v := ?_) rfl (by kernel_rfl) (by kernel_rfl) (by kernel_rfl) (fun _ _ _ h => h) (Or.inl ⟨by rfl, ?_⟩) (by assumption) ?_
        rotate_left
        · (intro w' hSw; (try dsimp only at hSw); go_simp; (try with_reducible rfl))
        try simp only [Act.put, List.setIfInBounds_toArray, List.set_cons_zero, List.set_cons_succ]
        refine wpAnyH_take (i := 29) (oi := ({ dst := some 152, op := Go.Op.move (Go.Operand.tmp 0), type := 22, pos := "law.go:165", after := #[{ on := 24, ground := Go.Ground.guard }], guard := some (24, false) } : Oper)) (v := ?_) rfl (by kernel_rfl) (by kernel_rfl) (by kernel_rfl) (fun _ _ _ h => h) (Or.inl ⟨by rfl, ?_⟩) (by assumption) ?_
        rotate_left
        · (intro w' hSw; (try dsimp only at hSw); go_simp; (try with_reducible rfl))
        try simp only [Act.put, List.setIfInBounds_toArray, List.set_cons_zero, List.set_cons_succ]
        refine wpAnyH_take (i := 30) (oi := ({ dst := some 153, op := Go.Op.move (Go.Operand.tmp 13), type := 3, pos := "law.go:165", after := #[{ on := 24, ground := Go.Ground.guard }], guard := some (24, false) } : Oper)) (v := ?_) rfl (by kernel_rfl) (by kernel_rfl) (by kernel_rfl) (fun _ _ _ h => h) (Or.inl ⟨by rfl, ?_⟩) (by assumption) ?_
        rotate_left
        · (intro w' hSw; (try dsimp only at hSw); go_simp; (try with_reducible rfl))
        try simp only [Act.put, List.setIfInBounds_toArray, List.set_cons_zero, List.set_cons_succ]
        refine wpAnyH_take (i := 31) (oi := ({ dst := some 154, op := Go.Op.indexAddr 22 (Go.Operand.tmp 152) (Go.Operand.tmp 153), type := 0, pos := "law.go:165", after := #[{ on := 29, ground := Go.Ground.data }, { on := 30, ground := Go.Ground.data }, { on := 24, ground := Go.Ground.guard }], guard := some (24, false) } : Oper)) (v := ?_) rfl (by kernel_rfl) (by kernel_rfl) (by kernel_rfl) (fun _ _ _ h => h) (Or.inl ⟨by rfl, ?_⟩) (by assumption) ?_
        rotate_left
        · (intro w' hSw; (try dsimp only at hSw); go_simp; (try with_reducible rfl))
        try simp only [Act.put, List.setIfInBounds_toArray, List.set_cons_zero, List.set_cons_succ]
        refine wpAnyH_take (i := 32) (oi := ({ dst := some 155, op := Go.Op.load 3 (Go.Operand.tmp 154), type := 3, pos := "law.go:165", after := #[{ on := 31, ground := Go.Ground.data }, { on := 24, ground := Go.Ground.guard }], guard := some (24, false) } : Oper)) (v := ?_) rfl (by kernel_rfl) (by kernel_rfl) (by kernel_rfl) (fun _ _ _ h => h) (Or.inl ⟨by rfl, ?_⟩) (by assumption) ?_
        rotate_left
        · (intro w' hSw; (try dsimp only at hSw); go_simp; (try with_reducible rfl))
        try simp only [Act.put, List.setIfInBounds_toArray, List.set_cons_zero, List.set_cons_succ]
        refine wpAnyH_take (i := 33) (oi := ({ dst := some 156, op := Go.Op.binOp Go.BinOp.gtr 3 (Go.Operand.tmp 151) (Go.Operand.tmp 155) 3, type := 4, pos := "law.go:165", after := #[{ on := 28, ground := Go.Ground.data }, { on := 32, ground := Go.Ground.data }, { on := 24, ground := Go.Ground.guard }], guard := some (24, false) } : Oper)) (v := ?_) rfl (by kernel_rfl) (by kernel_rfl) (by kernel_rfl) (fun _ _ _ h => h) (Or.inl ⟨by rfl, ?_⟩) (by assumption) ?_
        rotate_left
        · (intro w' hSw; (try dsimp only at hSw); go_simp; (try with_reducible rfl))
        try simp only [Act.put, List.setIfInBounds_toArray, List.set_cons_zero, List.set_cons_succ]
        refine wpAnyH_take (i := 34) (oi := ({ dst := some 157, op := Go.Op.pick (Go.Operand.tmp 147) (Go.Operand.const (Go.Value.bool true)) (Go.Operand.tmp 156), type := 4, pos := "law.go:165", after := #[{ on := 24, ground := Go.Ground.data }, { on := 33, ground := Go.Ground.data }], guard := none } : Oper)) (v := ?_) rfl (by kernel_rfl) (by kernel_rfl) (by kernel_rfl) (fun _ _ _ h => h) (Or.inl ⟨by rfl, ?_⟩) (by assumption) ?_
        rotate_left
        · (intro w' hSw; (try dsimp only at hSw); go_simp; (try with_reducible rfl))
        try simp only [Act.put, List.setIfInBounds_toArray, List.set_cons_zero, List.set_cons_succ]
        refine wpAnyH_take (i := 35) (oi := ({ dst := some 158, op := Go.Op.move (Go.Operand.tmp 157), type := 4, pos := "law.go:165", after := #[{ on := 34, ground := Go.Ground.data }, { on := 24, ground := Go.Ground.chain }], guard := none } : Oper)) (v := ?_) rfl (by kernel_rfl) (by kernel_rfl) (by kernel_rfl) (fun _ _ _ h => h) (Or.inl ⟨by rfl, ?_⟩) (by assumption) ?_
        rotate_left
        · (intro w' hSw; (try dsimp only at hSw); go_simp; (try with_reducible rfl))
        try simp only [Act.put, List.setIfInBounds_toArray, List.set_cons_zero, List.set_cons_succ]
        refine wpAnyH_take (i := 36) (oi := ({ dst := some 159, op := Go.Op.move (Go.Operand.tmp 9), type := 25, pos := "law.go:165", after := #[{ on := 35, ground := Go.Ground.guard }], guard := some (35, false) } : Oper)) (v := ?_) rfl (by kernel_rfl) (by kernel_rfl) (by kernel_rfl) (fun _ _ _ h => h) (Or.inl ⟨by rfl, ?_⟩) (by assumption) ?_
        rotate_left
        · (intro w' hSw; (try dsimp only at hSw); go_simp; (try with_reducible rfl))
        try simp only [Act.put, List.setIfInBounds_toArray, List.set_cons_zero, List.set_cons_succ]
        refine wpAnyH_take (i := 37) (oi := ({ dst := some 160, op := Go.Op.move (Go.Operand.tmp 11), type := 3, pos := "law.go:165", after := #[{ on := 35, ground := Go.Ground.guard }], guard := some (35, false) } : Oper)) (v := ?_) rfl (by kernel_rfl) (by kernel_rfl) (by kernel_rfl) (fun _ _ _ h => h) (Or.inl ⟨by rfl, ?_⟩) (by assumption) ?_
        rotate_left
        · (intro w' hSw; (try dsimp only at hSw); go_simp; (try with_reducible rfl))
        try simp only [Act.put, List.setIfInBounds_toArray, List.set_cons_zero, List.set_cons_succ]
        refine wpAnyH_take (i := 38) (oi := ({ dst := some 161, op := Go.Op.indexAddr 25 (Go.Operand.tmp 159) (Go.Operand.tmp 160), type := 0, pos := "law.go:165", after := #[{ on := 36, ground := Go.Ground.data }, { on := 37, ground := Go.Ground.data }, { on := 35, ground := Go.Ground.guard }], guard := some (35, false) } : Oper)) (v := ?_) rfl (by kernel_rfl) (by kernel_rfl) (by kernel_rfl) (fun _ _ _ h => h) (Or.inl ⟨by rfl, ?_⟩) (by assumption) ?_
        rotate_left
        · (intro w' hSw; (try dsimp only at hSw); go_simp; (try with_reducible rfl))
        try simp only [Act.put, List.setIfInBounds_toArray, List.set_cons_zero, List.set_cons_succ]
        refine wpAnyH_take (i := 39) (oi := ({ dst := some 162, op := Go.Op.load 37 (Go.Operand.tmp 161), type := 37, pos := "law.go:165", after := #[{ on := 38, ground := Go.Ground.data }, { on := 35, ground := Go.Ground.guard }], guard := some (35, false) } : Oper)) (v := ?_) rfl (by kernel_rfl) (by kernel_rfl) (by kernel_rfl) (fun _ _ _ h => h) (Or.inl ⟨by rfl, ?_⟩) (by assumption) ?_
        rotate_left
        · (intro w' hSw; (try dsimp only at hSw); go_simp; (try with_reducible rfl))
        try simp only [Act.put, List.setIfInBounds_toArray, List.set_cons_zero, List.set_cons_succ]
        refine wpAnyH_take (i := 40) (oi := ({ dst := some 163, op := Go.Op.move (Go.Operand.tmp 9), type := 25, pos := "law.go:165", after := #[{ on := 35, ground := Go.Ground.guard }], guard := some (35, false) } : Oper)) (v := ?_) rfl (by kernel_rfl) (by kernel_rfl) (by kernel_rfl) (fun _ _ _ h => h) (Or.inl ⟨by rfl, ?_⟩) (by assumption) ?_
        rotate_left
        · (intro w' hSw; (try dsimp only at hSw); go_simp; (try with_reducible rfl))
        try simp only [Act.put, List.setIfInBounds_toArray, List.set_cons_zero, List.set_cons_succ]
        refine wpAnyH_take (i := 41) (oi := ({ dst := some 164, op := Go.Op.move (Go.Operand.tmp 13), type := 3, pos := "law.go:165", after := #[{ on := 35, ground := Go.Ground.guard }], guard := some (35, false) } : Oper)) (v := ?_) rfl (by kernel_rfl) (by kernel_rfl) (by kernel_rfl) (fun _ _ _ h => h) (Or.inl ⟨by rfl, ?_⟩) (by assumption) ?_
        rotate_left
        · (intro w' hSw; (try dsimp only at hSw); go_simp; (try with_reducible rfl))
        try simp only [Act.put, List.setIfInBounds_toArray, List.set_cons_zero, List.set_cons_succ]
        refine wpAnyH_take (i := 42) (oi := ({ dst := some 165, op := Go.Op.indexAddr 25 (Go.Operand.tmp 163) (Go.Operand.tmp 164), type := 0, pos := "law.go:165", after := #[{ on := 40, ground := Go.Ground.data }, { on := 41, ground := Go.Ground.data }, { on := 35, ground := Go.Ground.guard }], guard := some (35, false) } : Oper)) (v := ?_) rfl (by kernel_rfl) (by kernel_rfl) (by kernel_rfl) (fun _ _ _ h => h) (Or.inl ⟨by rfl, ?_⟩) (by assumption) ?_
        rotate_left
        · (intro w' hSw; (try dsimp only at hSw); go_simp; (try with_reducible rfl))
        try simp only [Act.put, List.setIfInBounds_toArray, List.set_cons_zero, List.set_cons_succ]
        refine wpAnyH_take (i := 43) (oi := ({ dst := some 166, op := Go.Op.load 37 (Go.Operand.tmp 165), type := 37, pos := "law.go:165", after := #[{ on := 42, ground := Go.Ground.data }, { on := 35, ground := Go.Ground.guard }], guard := some (35, false) } : Oper)) (v := ?_) rfl (by kernel_rfl) (by kernel_rfl) (by kernel_rfl) (fun _ _ _ h => h) (Or.inl ⟨by rfl, ?_⟩) (by assumption) ?_
        rotate_left
        · (intro w' hSw; (try dsimp only at hSw); go_simp; (try with_reducible rfl))
        try simp only [Act.put, List.setIfInBounds_toArray, List.set_cons_zero, List.set_cons_succ]
        refine wpAnyH_ready (rs := [44]) (by kernel_rfl) (by simp) (AllReadyH.cons (o := ({ dst := some 167, op := Go.Op.call { callee := Go.Callee.value (Go.Operand.func 50), args := #[Go.Operand.tmp 162, Go.Operand.tmp 166], argTypes := #[37, 37] }, type := 4, pos := "law.go:165", after := #[{ on := 39, ground := Go.Ground.data }, { on := 43, ground := Go.Ground.data }, { on := 35, ground := Go.Ground.chain }, { on := 35, ground := Go.Ground.guard }], guard := some (35, false) } : Oper)) rfl (fun K hK => ?_) AllReadyH.nil)
        go_simp
        go_at_call 50
        refine (m1.out _).mono ?_
        rintro _ Z1 ⟨rfl, hz1⟩
        have hz2 := bel_trans h0 hz1
        refine hK.out _ _ ?_ (fun hHeld => ?_)
        · exact hS2.out _ hz2
        clear hK K
        try simp only [Act.put, List.setIfInBounds_toArray, List.set_cons_zero, List.set_cons_succ]
        refine wpAnyH_take (i := 45) (oi := ({ dst := some 168, op := Go.Op.unOp Go.UnOp.not 4 (Go.Operand.tmp 167), type := 4, pos := "law.go:165", after := #[{ on := 44, ground := Go.Ground.data }, { on := 35, ground := Go.Ground.guard }], guard := some (35, false) } : Oper)) (v := ?_) rfl (by kernel_rfl) (by kernel_rfl) (by kernel_rfl) (fun _ _ _ h => h) (Or.inl ⟨by rfl, ?_⟩) (by assumption) ?_
        rotate_left
        · (intro w' hSw; (try dsimp only at hSw); go_simp; (try with_reducible rfl))
        try simp only [Act.put, List.setIfInBounds_toArray, List.set_cons_zero, List.set_cons_succ]
        refine wpAnyH_take (i := 46) (oi := ({ dst := some 169, op := Go.Op.pick (Go.Operand.tmp 158) (Go.Operand.const (Go.Value.bool true)) (Go.Operand.tmp 168), type := 4, pos := "law.go:165", after := #[{ on := 35, ground := Go.Ground.data }, { on := 45, ground := Go.Ground.data }], guard := none } : Oper)) (v := ?_) rfl (by kernel_rfl) (by kernel_rfl) (by kernel_rfl) (fun _ _ _ h => h) (Or.inl ⟨by rfl, ?_⟩) (by assumption) ?_
        rotate_left
        · (intro w' hSw; (try dsimp only at hSw); go_simp; (try with_reducible rfl))
        try simp only [Act.put, List.setIfInBounds_toArray, List.set_cons_zero, List.set_cons_succ]
        refine wpAnyH_take (i := 47) (oi := ({ dst := some 170, op := Go.Op.move (Go.Operand.tmp 169), type := 4, pos := "law.go:165", after := #[{ on := 46, ground := Go.Ground.data }, { on := 44, ground := Go.Ground.chain }], guard := none } : Oper)) (v := ?_) rfl (by kernel_rfl) (by kernel_rfl) (by kernel_rfl) (fun _ _ _ h => h) (Or.inl ⟨by rfl, ?_⟩) (by assumption) ?_
        rotate_left
        · (intro w' hSw; (try dsimp only at hSw); go_simp; (try with_reducible rfl))
        try simp only [Act.put, List.setIfInBounds_toArray, List.set_cons_zero, List.set_cons_succ]
        refine wpAnyH_take (i := 48) (oi := ({ dst := some 171, op := Go.Op.move (Go.Operand.tmp 13), type := 3, pos := "law.go:165", after := #[{ on := 47, ground := Go.Ground.guard }], guard := some (47, false) } : Oper)) (v := ?_) rfl (by kernel_rfl) (by kernel_rfl) (by kernel_rfl) (fun _ _ _ h => h) (Or.inl ⟨by rfl, ?_⟩) (by assumption) ?_
        rotate_left
        · (intro w' hSw; (try dsimp only at hSw); go_simp; (try with_reducible rfl))
        try simp only [Act.put, List.setIfInBounds_toArray, List.set_cons_zero, List.set_cons_succ]
        refine wpAnyH_take (i := 49) (oi := ({ dst := some 172, op := Go.Op.move (Go.Operand.tmp 11), type := 3, pos := "law.go:165", after := #[{ on := 47, ground := Go.Ground.guard }], guard := some (47, false) } : Oper)) (v := ?_) rfl (by kernel_rfl) (by kernel_rfl) (by kernel_rfl) (fun _ _ _ h => h) (Or.inl ⟨by rfl, ?_⟩) (by assumption) ?_
        rotate_left
        · (intro w' hSw; (try dsimp only at hSw); go_simp; (try with_reducible rfl))
        try simp only [Act.put, List.setIfInBounds_toArray, List.set_cons_zero, List.set_cons_succ]
        refine wpAnyH_take (i := 50) (oi := ({ dst := some 173, op := Go.Op.binOp Go.BinOp.lss 3 (Go.Operand.tmp 171) (Go.Operand.tmp 172) 3, type := 4, pos := "law.go:165", after := #[{ on := 48, ground := Go.Ground.data }, { on := 49, ground := Go.Ground.data }, { on := 47, ground := Go.Ground.guard }], guard := some (47, false) } : Oper)) (v := ?_) rfl (by kernel_rfl) (by kernel_rfl) (by kernel_rfl) (fun _ _ _ h => h) (Or.inl ⟨by rfl, ?_⟩) (by assumption) ?_
        rotate_left
        · (intro w' hSw; (try dsimp only at hSw); go_simp; (try with_reducible rfl))
        try simp only [Act.put, List.setIfInBounds_toArray, List.set_cons_zero, List.set_cons_succ]
        refine wpAnyH_take (i := 51) (oi := ({ dst := some 174, op := Go.Op.move (Go.Operand.tmp 173), type := 4, pos := "law.go:165", after := #[{ on := 50, ground := Go.Ground.data }, { on := 47, ground := Go.Ground.chain }, { on := 47, ground := Go.Ground.guard }], guard := some (47, false) } : Oper)) (v := ?_) rfl (by kernel_rfl) (by kernel_rfl) (by kernel_rfl) (fun _ _ _ h => h) (Or.inl ⟨by rfl, ?_⟩) (by assumption) ?_
        rotate_left
        · (intro w' hSw; (try dsimp only at hSw); go_simp; (try with_reducible rfl))
        try simp only [Act.put, List.setIfInBounds_toArray, List.set_cons_zero, List.set_cons_succ]
        refine wpAnyH_take (i := 52) (oi := ({ dst := some 175, op := Go.Op.move (Go.Operand.tmp 9), type := 25, pos := "law.go:165", after := #[{ on := 51, ground := Go.Ground.guard }], guard := some (51, true) } : Oper)) (v := ?_) rfl (by kernel_rfl) (by kernel_rfl) (by kernel_rfl) (fun _ _ _ h => h) (Or.inl ⟨by rfl, ?_⟩) (by assumption) ?_
        rotate_left
        · (intro w' hSw; (try dsimp only at hSw); go_simp; (try with_reducible rfl))
        try simp only [Act.put, List.setIfInBounds_toArray, List.set_cons_zero, List.set_cons_succ]
        refine wpAnyH_take (i := 53) (oi := ({ dst := some 176, op := Go.Op.move (Go.Operand.tmp 13), type := 3, pos := "law.go:165", after := #[{ on := 51, ground := Go.Ground.guard }], guard := some (51, true) } : Oper)) (v := ?_) rfl (by kernel_rfl) (by kernel_rfl) (by kernel_rfl) (fun _ _ _ h => h) (Or.inl ⟨by rfl, ?_⟩) (by assumption) ?_
        rotate_left
        · (intro w' hSw; (try dsimp only at hSw); go_simp; (try with_reducible rfl))
        try simp only [Act.put, List.setIfInBounds_toArray, List.set_cons_zero, List.set_cons_succ]
        refine wpAnyH_take (i := 54) (oi := ({ dst := some 177, op := Go.Op.indexAddr 25 (Go.Operand.tmp 175) (Go.Operand.tmp 176), type := 0, pos := "law.go:165", after := #[{ on := 52, ground := Go.Ground.data }, { on := 53, ground := Go.Ground.data }, { on := 51, ground := Go.Ground.guard }], guard := some (51, true) } : Oper)) (v := ?_) rfl (by kernel_rfl) (by kernel_rfl) (by kernel_rfl) (fun _ _ _ h => h) (Or.inl ⟨by rfl, ?_⟩) (by assumption) ?_
        rotate_left
        · (intro w' hSw; (try dsimp only at hSw); go_simp; (try with_reducible rfl))
        try simp only [Act.put, List.setIfInBounds_toArray, List.set_cons_zero, List.set_cons_succ]
        refine wpAnyH_take (i := 55) (oi := ({ dst := some 178, op := Go.Op.load 37 (Go.Operand.tmp 177), type := 37, pos := "law.go:165", after := #[{ on := 54, ground := Go.Ground.data }, { on := 51, ground := Go.Ground.guard }], guard := some (51, true) } : Oper)) (v := ?_) rfl (by kernel_rfl) (by kernel_rfl) (by kernel_rfl) (fun _ _ _ h => h) (Or.inl ⟨by rfl, ?_⟩) (by assumption) ?_
        rotate_left
        · (intro w' hSw; (try dsimp only at hSw); go_simp; (try with_reducible rfl))
        try simp only [Act.put, List.setIfInBounds_toArray, List.set_cons_zero, List.set_cons_succ]
        refine wpAnyH_take (i := 56) (oi := ({ dst := some 179, op := Go.Op.move (Go.Operand.tmp 9), type := 25, pos := "law.go:165", after := #[{ on := 51, ground := Go.Ground.guard }], guard := some (51, true) } : Oper)) (v := ?_) rfl (by kernel_rfl) (by kernel_rfl) (by kernel_rfl) (fun _ _ _ h => h) (Or.inl ⟨by rfl, ?_⟩) (by assumption) ?_
        rotate_left
        · (intro w' hSw; (try dsimp only at hSw); go_simp; (try with_reducible rfl))
        try simp only [Act.put, List.setIfInBounds_toArray, List.set_cons_zero, List.set_cons_succ]
        refine wpAnyH_take (i := 57) (oi := ({ dst := some 180, op := Go.Op.move (Go.Operand.tmp 11), type := 3, pos := "law.go:165", after := #[{ on := 51, ground := Go.Ground.guard }], guard := some (51, true) } : Oper)) (v := ?_) rfl (by kernel_rfl) (by kernel_rfl) (by kernel_rfl) (fun _ _ _ h => h) (Or.inl ⟨by rfl, ?_⟩) (by assumption) ?_
        rotate_left
        · (intro w' hSw; (try dsimp only at hSw); go_simp; (try with_reducible rfl))
        try simp only [Act.put, List.setIfInBounds_toArray, List.set_cons_zero, List.set_cons_succ]
        refine wpAnyH_take (i := 58) (oi := ({ dst := some 181, op := Go.Op.indexAddr 25 (Go.Operand.tmp 179) (Go.Operand.tmp 180), type := 0, pos := "law.go:165", after := #[{ on := 56, ground := Go.Ground.data }, { on := 57, ground := Go.Ground.data }, { on := 51, ground := Go.Ground.guard }], guard := some (51, true) } : Oper)) (v := ?_) rfl (by kernel_rfl) (by kernel_rfl) (by kernel_rfl) (fun _ _ _ h => h) (Or.inl ⟨by rfl, ?_⟩) (by assumption) ?_
        rotate_left
        · (intro w' hSw; (try dsimp only at hSw); go_simp; (try with_reducible rfl))
        try simp only [Act.put, List.setIfInBounds_toArray, List.set_cons_zero, List.set_cons_succ]
        refine wpAnyH_take (i := 59) (oi := ({ dst := some 182, op := Go.Op.load 37 (Go.Operand.tmp 181), type := 37, pos := "law.go:165", after := #[{ on := 58, ground := Go.Ground.data }, { on := 51, ground := Go.Ground.guard }], guard := some (51, true) } : Oper)) (v := ?_) rfl (by kernel_rfl) (by kernel_rfl) (by kernel_rfl) (fun _ _ _ h => h) (Or.inl ⟨by rfl, ?_⟩) (by assumption) ?_
        rotate_left
        · (intro w' hSw; (try dsimp only at hSw); go_simp; (try with_reducible rfl))
        try simp only [Act.put, List.setIfInBounds_toArray, List.set_cons_zero, List.set_cons_succ]
        refine wpAnyH_ready (rs := [60]) (by kernel_rfl) (by simp) (AllReadyH.cons (o := ({ dst := some 183, op := Go.Op.call { callee := Go.Callee.value (Go.Operand.func 50), args := #[Go.Operand.tmp 178, Go.Operand.tmp 182], argTypes := #[37, 37] }, type := 4, pos := "law.go:165", after := #[{ on := 55, ground := Go.Ground.data }, { on := 59, ground := Go.Ground.data }, { on := 51, ground := Go.Ground.chain }, { on := 51, ground := Go.Ground.guard }], guard := some (51, true) } : Oper)) rfl (fun K hK => ?_) AllReadyH.nil)
        go_simp
        go_at_call 50
        refine (m2.out _).mono ?_
        rintro _ Z3 ⟨rfl, hz3⟩
        have hz4 := bel_trans hz2 hz3
        refine hK.out _ _ ?_ (fun hHeld => ?_)
        · exact hS2.out _ hz4
        clear hK K
        try simp only [Act.put, List.setIfInBounds_toArray, List.set_cons_zero, List.set_cons_succ]
        refine wpAnyH_take (i := 61) (oi := ({ dst := some 184, op := Go.Op.pick (Go.Operand.tmp 174) (Go.Operand.tmp 183) (Go.Operand.const (Go.Value.bool false)), type := 4, pos := "law.go:165", after := #[{ on := 51, ground := Go.Ground.data }, { on := 60, ground := Go.Ground.data }, { on := 47, ground := Go.Ground.guard }], guard := some (47, false) } : Oper)) (v := ?_) rfl (by kernel_rfl) (by kernel_rfl) (by kernel_rfl) (fun _ _ _ h => h) (Or.inl ⟨by rfl, ?_⟩) (by assumption) ?_
        rotate_left
        · (intro w' hSw; (try dsimp only at hSw); go_simp; (try with_reducible rfl))
        try simp only [Act.put, List.setIfInBounds_toArray, List.set_cons_zero, List.set_cons_succ]
        refine wpAnyH_take (i := 62) (oi := ({ dst := some 185, op := Go.Op.pick (Go.Operand.tmp 170) (Go.Operand.const (Go.Value.bool true)) (Go.Operand.tmp 184), type := 4, pos := "law.go:165", after := #[{ on := 47, ground := Go.Ground.data }, { on := 61, ground := Go.Ground.data }], guard := none } : Oper)) (v := ?_) rfl (by kernel_rfl) (by kernel_rfl) (by kernel_rfl) (fun _ _ _ h => h) (Or.inl ⟨by rfl, ?_⟩) (by assumption) ?_
        rotate_left
        · (intro w' hSw; (try dsimp only at hSw); go_simp; (try with_reducible rfl))
        try simp only [Act.put, List.setIfInBounds_toArray, List.set_cons_zero, List.set_cons_succ]
        refine wpAnyH_done (by kernel_rfl) ?_ _
        have hfin := Lib.hid (hfin2.out _ hz4)
        go_wp2_with fail
        go_roundw
        case rel => exact ⟨i + 1, by omega, by go_num, hfin.out⟩
        case measure => simp [intOf]; omega
      · have hil2 : ¬ (i : Int) < (le : Int) := by omega
        have d5 : decide ((i : Int) < (le : Int)) = false := decide_eq_false hil2
        have d6 : decide (i < le) = false := decide_eq_false hil
        go_wp2_with fail
        refine wp_region_held_drew (S := fun Z => Z.cell? ⟨g, i, none⟩ = some (.int .i64 v) ∧ Z.cell? ⟨ba, oa + i, none⟩ = some (.int .i64 x) ∧ Z.cell? ⟨gf, i * 2, none⟩ = some (.int .i64 an) ∧ Z.cell? ⟨gf, i * 2 + 1, none⟩ = some (.int .i64 ad) ∧ Z.cell? ⟨gf, le * 2, none⟩ = some (.int .i64 bn) ∧ Z.cell? ⟨gf, le * 2 + 1, none⟩ = some (.int .i64 bd)) (by kernel_rfl) (t0) (fun hHeld => ?_)
        refine wpAnyH_take (i := 0) (oi := ({ dst := some 123, op := Go.Op.move (Go.Operand.tmp 14), type := 3, pos := "law.go:165", after := #[], guard := none } : Oper)) (v := ?_) rfl (by kernel_rfl) (by kernel_rfl) (by kernel_rfl) (fun _ _ _ h => h) (Or.inl ⟨by rfl, ?_⟩) (by assumption) ?_
        rotate_left
        · (intro w' hSw; (try dsimp only at hSw); go_simp; (try with_reducible rfl))
        try simp only [Act.put, List.setIfInBounds_toArray, List.set_cons_zero, List.set_cons_succ]
        refine wpAnyH_take (i := 1) (oi := ({ dst := some 124, op := Go.Op.move (Go.Operand.tmp 9), type := 25, pos := "law.go:165", after := #[], guard := none } : Oper)) (v := ?_) rfl (by kernel_rfl) (by kernel_rfl) (by kernel_rfl) (fun _ _ _ h => h) (Or.inl ⟨by rfl, ?_⟩) (by assumption) ?_
        rotate_left
        · (intro w' hSw; (try dsimp only at hSw); go_simp; (try with_reducible rfl))
        try simp only [Act.put, List.setIfInBounds_toArray, List.set_cons_zero, List.set_cons_succ]
        refine wpAnyH_take (i := 2) (oi := ({ dst := some 125, op := Go.Op.move (Go.Operand.tmp 13), type := 3, pos := "law.go:165", after := #[], guard := none } : Oper)) (v := ?_) rfl (by kernel_rfl) (by kernel_rfl) (by kernel_rfl) (fun _ _ _ h => h) (Or.inl ⟨by rfl, ?_⟩) (by assumption) ?_
        rotate_left
        · (intro w' hSw; (try dsimp only at hSw); go_simp; (try with_reducible rfl))
        try simp only [Act.put, List.setIfInBounds_toArray, List.set_cons_zero, List.set_cons_succ]
        refine wpAnyH_take (i := 3) (oi := ({ dst := some 126, op := Go.Op.indexAddr 25 (Go.Operand.tmp 124) (Go.Operand.tmp 125), type := 0, pos := "law.go:165", after := #[{ on := 1, ground := Go.Ground.data }, { on := 2, ground := Go.Ground.data }], guard := none } : Oper)) (v := ?_) rfl (by kernel_rfl) (by kernel_rfl) (by kernel_rfl) (fun _ _ _ h => h) (Or.inl ⟨by rfl, ?_⟩) (by assumption) ?_
        rotate_left
        · (intro w' hSw; (try dsimp only at hSw); go_simp; (try with_reducible rfl))
        try simp only [Act.put, List.setIfInBounds_toArray, List.set_cons_zero, List.set_cons_succ]
        refine wpAnyH_take (i := 4) (oi := ({ dst := some 127, op := Go.Op.fieldAddr 37 (Go.Operand.tmp 126) 1, type := 0, pos := "law.go:165", after := #[{ on := 3, ground := Go.Ground.data }], guard := none } : Oper)) (v := ?_) rfl (by kernel_rfl) (by kernel_rfl) (by kernel_rfl) (fun _ _ _ h => h) (Or.inl ⟨by rfl, ?_⟩) (by assumption) ?_
        rotate_left
        · (intro w' hSw; (try dsimp only at hSw); go_simp; (try with_reducible rfl))
        try simp only [Act.put, List.setIfInBounds_toArray, List.set_cons_zero, List.set_cons_succ]
        refine wpAnyH_take (i := 5) (oi := ({ dst := some 128, op := Go.Op.load 3 (Go.Operand.tmp 127), type := 3, pos := "law.go:165", after := #[{ on := 4, ground := Go.Ground.data }], guard := none } : Oper)) (v := ?_) rfl (by kernel_rfl) (by kernel_rfl) (by kernel_rfl) (fun _ _ _ h => h) (Or.inl ⟨by rfl, ?_⟩) (by assumption) ?_
        rotate_left
        · (intro w' hSw; (try dsimp only at hSw); go_simp; (try with_reducible rfl))
        try simp only [Act.put, List.setIfInBounds_toArray, List.set_cons_zero, List.set_cons_succ]
        refine wpAnyH_take (i := 6) (oi := ({ dst := some 129, op := Go.Op.unOp Go.UnOp.neg 3 (Go.Operand.tmp 128), type := 3, pos := "law.go:165", after := #[{ on := 5, ground := Go.Ground.data }], guard := none } : Oper)) (v := ?_) rfl (by kernel_rfl) (by kernel_rfl) (by kernel_rfl) (fun _ _ _ h => h) (Or.inl ⟨by rfl, ?_⟩) (by assumption) ?_
        rotate_left
        · (intro w' hSw; (try dsimp only at hSw); go_simp; (try with_reducible rfl))
        try simp only [Act.put, List.setIfInBounds_toArray, List.set_cons_zero, List.set_cons_succ]
        refine wpAnyH_take (i := 7) (oi := ({ dst := some 130, op := Go.Op.binOp Go.BinOp.leq 3 (Go.Operand.tmp 123) (Go.Operand.tmp 129) 3, type := 4, pos := "law.go:165", after := #[{ on := 0, ground := Go.Ground.data }, { on := 6, ground := Go.Ground.data }], guard := none } : Oper)) (v := ?_) rfl (by kernel_rfl) (by kernel_rfl) (by kernel_rfl) (fun _ _ _ h => h) (Or.inl ⟨by rfl, ?_⟩) (by assumption) ?_
        rotate_left
        · (intro w' hSw; (try dsimp only at hSw); go_simp; (try with_reducible rfl))
        try simp only [Act.put, List.setIfInBounds_toArray, List.set_cons_zero, List.set_cons_succ]
        refine wpAnyH_take (i := 8) (oi := ({ dst := some 131, op := Go.Op.move (Go.Operand.tmp 130), type := 4, pos := "law.go:165", after := #[{ on := 7, ground := Go.Ground.data }], guard := none } : Oper)) (v := ?_) rfl (by kernel_rfl) (by kernel_rfl) (by kernel_rfl) (fun _ _ _ h => h) (Or.inl ⟨by rfl, ?_⟩) (by assumption) ?_
        rotate_left
        · (intro w' hSw; (try dsimp only at hSw); go_simp; (try with_reducible rfl))
        try simp only [Act.put, List.setIfInBounds_toArray, List.set_cons_zero, List.set_cons_succ]
        refine wpAnyH_take (i := 9) (oi := ({ dst := some 132, op := Go.Op.move (Go.Operand.tmp 14), type := 3, pos := "law.go:165", after := #[{ on := 8, ground := Go.Ground.guard }], guard := some (8, false) } : Oper)) (v := ?_) rfl (by kernel_rfl) (by kernel_rfl) (by kernel_rfl) (fun _ _ _ h => h) (Or.inl ⟨by rfl, ?_⟩) (by assumption) ?_
        rotate_left
        · (intro w' hSw; (try dsimp only at hSw); go_simp; (try with_reducible rfl))
        try simp only [Act.put, List.setIfInBounds_toArray, List.set_cons_zero, List.set_cons_succ]
        refine wpAnyH_take (i := 10) (oi := ({ dst := some 133, op := Go.Op.move (Go.Operand.tmp 9), type := 25, pos := "law.go:165", after := #[{ on := 8, ground := Go.Ground.guard }], guard := some (8, false) } : Oper)) (v := ?_) rfl (by kernel_rfl) (by kernel_rfl) (by kernel_rfl) (fun _ _ _ h => h) (Or.inl ⟨by rfl, ?_⟩) (by assumption) ?_
        rotate_left
        · (intro w' hSw; (try dsimp only at hSw); go_simp; (try with_reducible rfl))
        try simp only [Act.put, List.setIfInBounds_toArray, List.set_cons_zero, List.set_cons_succ]
        refine wpAnyH_take (i := 11) (oi := ({ dst := some 134, op := Go.Op.move (Go.Operand.tmp 13), type := 3, pos := "law.go:165", after := #[{ on := 8, ground := Go.Ground.guard }], guard := some (8, false) } : Oper)) (v := ?_) rfl (by kernel_rfl) (by kernel_rfl) (by kernel_rfl) (fun _ _ _ h => h) (Or.inl ⟨by rfl, ?_⟩) (by assumption) ?_
        rotate_left
        · (intro w' hSw; (try dsimp only at hSw); go_simp; (try with_reducible rfl))
        try simp only [Act.put, List.setIfInBounds_toArray, List.set_cons_zero, List.set_cons_succ]
        refine wpAnyH_take (i := 12) (oi := ({ dst := some 135, op := Go.Op.indexAddr 25 (Go.Operand.tmp 133) (Go.Operand.tmp 134), type := 0, pos := "law.go:165", after := #[{ on := 10, ground := Go.Ground.data }, { on := 11, ground := Go.Ground.data }, { on := 8, ground := Go.Ground.guard }], guard := some (8, false) } : Oper)) (v := ?_) rfl (by kernel_rfl) (by kernel_rfl) (by kernel_rfl) (fun _ _ _ h => h) (Or.inl ⟨by rfl, ?_⟩) (by assumption) ?_
        rotate_left
        · (intro w' hSw; (try dsimp only at hSw); go_simp; (try with_reducible rfl))
        try simp only [Act.put, List.setIfInBounds_toArray, List.set_cons_zero, List.set_cons_succ]
        refine wpAnyH_take (i := 13) (oi := ({ dst := some 136, op := Go.Op.fieldAddr 37 (Go.Operand.tmp 135) 1, type := 0, pos := "law.go:165", after := #[{ on := 12, ground := Go.Ground.data }, { on := 8, ground := Go.Ground.guard }], guard := some (8, false) } : Oper)) (v := ?_) rfl (by kernel_rfl) (by kernel_rfl) (by kernel_rfl) (fun _ _ _ h => h) (Or.inl ⟨by rfl, ?_⟩) (by assumption) ?_
        rotate_left
        · (intro w' hSw; (try dsimp only at hSw); go_simp; (try with_reducible rfl))
        try simp only [Act.put, List.setIfInBounds_toArray, List.set_cons_zero, List.set_cons_succ]
        refine wpAnyH_take (i := 14) (oi := ({ dst := some 137, op := Go.Op.load 3 (Go.Operand.tmp 136), type := 3, pos := "law.go:165", after := #[{ on := 13, ground := Go.Ground.data }, { on := 8, ground := Go.Ground.guard }], guard := some (8, false) } : Oper)) (v := ?_) rfl (by kernel_rfl) (by kernel_rfl) (by kernel_rfl) (fun _ _ _ h => h) (Or.inl ⟨by rfl, ?_⟩) (by assumption) ?_
        rotate_left
        · (intro w' hSw; (try dsimp only at hSw); go_simp; (try with_reducible rfl))
        try simp only [Act.put, List.setIfInBounds_toArray, List.set_cons_zero, List.set_cons_succ]
        refine wpAnyH_take (i := 15) (oi := ({ dst := some 138, op := Go.Op.binOp Go.BinOp.geq 3 (Go.Operand.tmp 132) (Go.Operand.tmp 137) 3, type := 4, pos := "law.go:165", after := #[{ on := 9, ground := Go.Ground.data }, { on := 14, ground := Go.Ground.data }, { on := 8, ground := Go.Ground.guard }], guard := some (8, false) } : Oper)) (v := ?_) rfl (by kernel_rfl) (by kernel_rfl) (by kernel_rfl) (fun _ _ _ h => h) (Or.inl ⟨by rfl, ?_⟩) (by assumption) ?_
        rotate_left
        · (intro w' hSw; (try dsimp only at hSw); go_simp; (try with_reducible rfl))
        try simp only [Act.put, List.setIfInBounds_toArray, List.set_cons_zero, List.set_cons_succ]
        refine wpAnyH_take (i := 16) (oi := ({ dst := some 139, op := Go.Op.pick (Go.Operand.tmp 131) (Go.Operand.const (Go.Value.bool true)) (Go.Operand.tmp 138), type := 4, pos := "law.go:165", after := #[{ on := 8, ground := Go.Ground.data }, { on := 15, ground := Go.Ground.data }], guard := none } : Oper)) (v := ?_) rfl (by kernel_rfl) (by kernel_rfl) (by kernel_rfl) (fun _ _ _ h => h) (Or.inl ⟨by rfl, ?_⟩) (by assumption) ?_
        rotate_left
        · (intro w' hSw; (try dsimp only at hSw); go_simp; (try with_reducible rfl))
        try simp only [Act.put, List.setIfInBounds_toArray, List.set_cons_zero, List.set_cons_succ]
        refine wpAnyH_take (i := 17) (oi := ({ dst := some 140, op := Go.Op.move (Go.Operand.tmp 139), type := 4, pos := "law.go:165", after := #[{ on := 16, ground := Go.Ground.data }, { on := 8, ground := Go.Ground.chain }], guard := none } : Oper)) (v := ?_) rfl (by kernel_rfl) (by kernel_rfl) (by kernel_rfl) (fun _ _ _ h => h) (Or.inl ⟨by rfl, ?_⟩) (by assumption) ?_
        rotate_left
        · (intro w' hSw; (try dsimp only at hSw); go_simp; (try with_reducible rfl))
        try simp only [Act.put, List.setIfInBounds_toArray, List.set_cons_zero, List.set_cons_succ]
        refine wpAnyH_take (i := 18) (oi := ({ dst := some 141, op := Go.Op.move (Go.Operand.tmp 7), type := 22, pos := "law.go:165", after := #[{ on := 17, ground := Go.Ground.guard }], guard := some (17, false) } : Oper)) (v := ?_) rfl (by kernel_rfl) (by kernel_rfl) (by kernel_rfl) (fun _ _ _ h => h) (Or.inl ⟨by rfl, ?_⟩) (by assumption) ?_
        rotate_left
        · (intro w' hSw; (try dsimp only at hSw); go_simp; (try with_reducible rfl))
        try simp only [Act.put, List.setIfInBounds_toArray, List.set_cons_zero, List.set_cons_succ]
        refine wpAnyH_take (i := 19) (oi := ({ dst := some 142, op := Go.Op.move (Go.Operand.tmp 13), type := 3, pos := "law.go:165", after := #[{ on := 17, ground := Go.Ground.guard }], guard := some (17, false) } : Oper)) (v := ?_) rfl (by kernel_rfl) (by kernel_rfl) (by kernel_rfl) (fun _ _ _ h => h) (Or.inl ⟨by rfl, ?_⟩) (by assumption) ?_
        rotate_left
        · (intro w' hSw; (try dsimp only at hSw); go_simp; (try with_reducible rfl))
        try simp only [Act.put, List.setIfInBounds_toArray, List.set_cons_zero, List.set_cons_succ]
        refine wpAnyH_take (i := 20) (oi := ({ dst := some 143, op := Go.Op.indexAddr 22 (Go.Operand.tmp 141) (Go.Operand.tmp 142), type := 0, pos := "law.go:165", after := #[{ on := 18, ground := Go.Ground.data }, { on := 19, ground := Go.Ground.data }, { on := 17, ground := Go.Ground.guard }], guard := some (17, false) } : Oper)) (v := ?_) rfl (by kernel_rfl) (by kernel_rfl) (by kernel_rfl) (fun _ _ _ h => h) (Or.inl ⟨by rfl, ?_⟩) (by assumption) ?_
        rotate_left
        · (intro w' hSw; (try dsimp only at hSw); go_simp; (try with_reducible rfl))
        try simp only [Act.put, List.setIfInBounds_toArray, List.set_cons_zero, List.set_cons_succ]
        refine wpAnyH_take (i := 21) (oi := ({ dst := some 144, op := Go.Op.load 3 (Go.Operand.tmp 143), type := 3, pos := "law.go:165", after := #[{ on := 20, ground := Go.Ground.data }, { on := 17, ground := Go.Ground.guard }], guard := some (17, false) } : Oper)) (v := ?_) rfl (by kernel_rfl) (by kernel_rfl) (by kernel_rfl) (fun _ _ _ h => h) (Or.inl ⟨by rfl, ?_⟩) (by assumption) ?_
        rotate_left
        · (intro w' hSw; (try dsimp only at hSw); go_simp; (try with_reducible rfl))
        try simp only [Act.put, List.setIfInBounds_toArray, List.set_cons_zero, List.set_cons_succ]
        refine wpAnyH_take (i := 22) (oi := ({ dst := some 145, op := Go.Op.binOp Go.BinOp.lss 3 (Go.Operand.tmp 144) (Go.Operand.const (Go.Value.int Go.IntKind.i64 0)) 3, type := 4, pos := "law.go:165", after := #[{ on := 21, ground := Go.Ground.data }, { on := 17, ground := Go.Ground.guard }], guard := some (17, false) } : Oper)) (v := ?_) rfl (by kernel_rfl) (by kernel_rfl) (by kernel_rfl) (fun _ _ _ h => h) (Or.inl ⟨by rfl, ?_⟩) (by assumption) ?_
        rotate_left
        · (intro w' hSw; (try dsimp only at hSw); go_simp; (try with_reducible rfl))
        try simp only [Act.put, List.setIfInBounds_toArray, List.set_cons_zero, List.set_cons_succ]
        refine wpAnyH_take (i := 23) (oi := ({ dst := some 146, op := Go.Op.pick (Go.Operand.tmp 140) (Go.Operand.const (Go.Value.bool true)) (Go.Operand.tmp 145), type := 4, pos := "law.go:165", after := #[{ on := 17, ground := Go.Ground.data }, { on := 22, ground := Go.Ground.data }], guard := none } : Oper)) (v := ?_) rfl (by kernel_rfl) (by kernel_rfl) (by kernel_rfl) (fun _ _ _ h => h) (Or.inl ⟨by rfl, ?_⟩) (by assumption) ?_
        rotate_left
        · (intro w' hSw; (try dsimp only at hSw); go_simp; (try with_reducible rfl))
        try simp only [Act.put, List.setIfInBounds_toArray, List.set_cons_zero, List.set_cons_succ]
        refine wpAnyH_take (i := 24) (oi := ({ dst := some 147, op := Go.Op.move (Go.Operand.tmp 146), type := 4, pos := "law.go:165", after := #[{ on := 23, ground := Go.Ground.data }, { on := 17, ground := Go.Ground.chain }], guard := none } : Oper)) (v := ?_) rfl (by kernel_rfl) (by kernel_rfl) (by kernel_rfl) (fun _ _ _ h => h) (Or.inl ⟨by rfl, ?_⟩) (by assumption) ?_
        rotate_left
        · (intro w' hSw; (try dsimp only at hSw); go_simp; (try with_reducible rfl))
        try simp only [Act.put, List.setIfInBounds_toArray, List.set_cons_zero, List.set_cons_succ]
        refine wpAnyH_take (i := 25) (oi := ({ dst := some 148, op := Go.Op.move (Go.Operand.tmp 7), type := 22, pos := "law.go:165", after := #[{ on := 24, ground := Go.Ground.guard }], guard := some (24, false) } : Oper)) (v := ?_) rfl (by kernel_rfl) (by kernel_rfl) (by kernel_rfl) (fun _ _ _ h => h) (Or.inl ⟨by rfl, ?_⟩) (by assumption) ?_
        rotate_left
        · (intro w' hSw; (try dsimp only at hSw); go_simp; (try with_reducible rfl))
        try simp only [Act.put, List.setIfInBounds_toArray, List.set_cons_zero, List.set_cons_succ]
        refine wpAnyH_take (i := 26) (oi := ({ dst := some 149, op := Go.Op.move (Go.Operand.tmp 13), type := 3, pos := "law.go:165", after := #[{ on := 24, ground := Go.Ground.guard }], guard := some (24, false) } : Oper)) (v := ?_) rfl (by kernel_rfl) (by kernel_rfl) (by kernel_rfl) (fun _ _ _ h => h) (Or.inl ⟨by rfl, ?_⟩) (by assumption) ?_
        rotate_left
        · (intro w' hSw; (try dsimp only at hSw); go_simp; (try with_reducible rfl))
        try simp only [Act.put, List.setIfInBounds_toArray, List.set_cons_zero, List.set_cons_succ]
        refine wpAnyH_take (i := 27) (oi := ({ dst := some 150, op := Go.Op.indexAddr 22 (Go.Operand.tmp 148) (Go.Operand.tmp 149), type := 0, pos := "law.go:165", after := #[{ on := 25, ground := Go.Ground.data }, { on := 26, ground := Go.Ground.data }, { on := 24, ground := Go.Ground.guard }], guard := some (24, false) } : Oper)) (v := ?_) rfl (by kernel_rfl) (by kernel_rfl) (by kernel_rfl) (fun _ _ _ h => h) (Or.inl ⟨by rfl, ?_⟩) (by assumption) ?_
        rotate_left
        · (intro w' hSw; (try dsimp only at hSw); go_simp; (try with_reducible rfl))
        try simp only [Act.put, List.setIfInBounds_toArray, List.set_cons_zero, List.set_cons_succ]
        refine wpAnyH_take (i := 28) (oi := ({ dst := some 151, op := Go.Op.load 3 (Go.Operand.tmp 150), type := 3, pos := "law.go:165", after := #[{ on := 27, ground := Go.Ground.data }, { on := 24, ground := Go.Ground.guard }], guard := some (24, false) } : Oper)) (v := ?_) rfl (by kernel_rfl) (by kernel_rfl) (by kernel_rfl) (fun _ _ _ h => h) (Or.inl ⟨by rfl, ?_⟩) (by assumption) ?_
        rotate_left
        · (intro w' hSw; (try dsimp only at hSw); go_simp; (try with_reducible rfl))
        try simp only [Act.put, List.setIfInBounds_toArray, List.set_cons_zero, List.set_cons_succ]
        refine wpAnyH_take (i := 29) (oi := ({ dst := some 152, op := Go.Op.move (Go.Operand.tmp 0), type := 22, pos := "law.go:165", after := #[{ on := 24, ground := Go.Ground.guard }], guard := some (24, false) } : Oper)) (v := ?_) rfl (by kernel_rfl) (by kernel_rfl) (by kernel_rfl) (fun _ _ _ h => h) (Or.inl ⟨by rfl, ?_⟩) (by assumption) ?_
        rotate_left
        · (intro w' hSw; (try dsimp only at hSw); go_simp; (try with_reducible rfl))
        try simp only [Act.put, List.setIfInBounds_toArray, List.set_cons_zero, List.set_cons_succ]
        refine wpAnyH_take (i := 30) (oi := ({ dst := some 153, op := Go.Op.move (Go.Operand.tmp 13), type := 3, pos := "law.go:165", after := #[{ on := 24, ground := Go.Ground.guard }], guard := some (24, false) } : Oper)) (v := ?_) rfl (by kernel_rfl) (by kernel_rfl) (by kernel_rfl) (fun _ _ _ h => h) (Or.inl ⟨by rfl, ?_⟩) (by assumption) ?_
        rotate_left
        · (intro w' hSw; (try dsimp only at hSw); go_simp; (try with_reducible rfl))
        try simp only [Act.put, List.setIfInBounds_toArray, List.set_cons_zero, List.set_cons_succ]
        refine wpAnyH_take (i := 31) (oi := ({ dst := some 154, op := Go.Op.indexAddr 22 (Go.Operand.tmp 152) (Go.Operand.tmp 153), type := 0, pos := "law.go:165", after := #[{ on := 29, ground := Go.Ground.data }, { on := 30, ground := Go.Ground.data }, { on := 24, ground := Go.Ground.guard }], guard := some (24, false) } : Oper)) (v := ?_) rfl (by kernel_rfl) (by kernel_rfl) (by kernel_rfl) (fun _ _ _ h => h) (Or.inl ⟨by rfl, ?_⟩) (by assumption) ?_
        rotate_left
        · (intro w' hSw; (try dsimp only at hSw); go_simp; (try with_reducible rfl))
        try simp only [Act.put, List.setIfInBounds_toArray, List.set_cons_zero, List.set_cons_succ]
        refine wpAnyH_take (i := 32) (oi := ({ dst := some 155, op := Go.Op.load 3 (Go.Operand.tmp 154), type := 3, pos := "law.go:165", after := #[{ on := 31, ground := Go.Ground.data }, { on := 24, ground := Go.Ground.guard }], guard := some (24, false) } : Oper)) (v := ?_) rfl (by kernel_rfl) (by kernel_rfl) (by kernel_rfl) (fun _ _ _ h => h) (Or.inl ⟨by rfl, ?_⟩) (by assumption) ?_
        rotate_left
        · (intro w' hSw; (try dsimp only at hSw); go_simp; (try with_reducible rfl))
        try simp only [Act.put, List.setIfInBounds_toArray, List.set_cons_zero, List.set_cons_succ]
        refine wpAnyH_take (i := 33) (oi := ({ dst := some 156, op := Go.Op.binOp Go.BinOp.gtr 3 (Go.Operand.tmp 151) (Go.Operand.tmp 155) 3, type := 4, pos := "law.go:165", after := #[{ on := 28, ground := Go.Ground.data }, { on := 32, ground := Go.Ground.data }, { on := 24, ground := Go.Ground.guard }], guard := some (24, false) } : Oper)) (v := ?_) rfl (by kernel_rfl) (by kernel_rfl) (by kernel_rfl) (fun _ _ _ h => h) (Or.inl ⟨by rfl, ?_⟩) (by assumption) ?_
        rotate_left
        · (intro w' hSw; (try dsimp only at hSw); go_simp; (try with_reducible rfl))
        try simp only [Act.put, List.setIfInBounds_toArray, List.set_cons_zero, List.set_cons_succ]
        refine wpAnyH_take (i := 34) (oi := ({ dst := some 157, op := Go.Op.pick (Go.Operand.tmp 147) (Go.Operand.const (Go.Value.bool true)) (Go.Operand.tmp 156), type := 4, pos := "law.go:165", after := #[{ on := 24, ground := Go.Ground.data }, { on := 33, ground := Go.Ground.data }], guard := none } : Oper)) (v := ?_) rfl (by kernel_rfl) (by kernel_rfl) (by kernel_rfl) (fun _ _ _ h => h) (Or.inl ⟨by rfl, ?_⟩) (by assumption) ?_
        rotate_left
        · (intro w' hSw; (try dsimp only at hSw); go_simp; (try with_reducible rfl))
        try simp only [Act.put, List.setIfInBounds_toArray, List.set_cons_zero, List.set_cons_succ]
        refine wpAnyH_take (i := 35) (oi := ({ dst := some 158, op := Go.Op.move (Go.Operand.tmp 157), type := 4, pos := "law.go:165", after := #[{ on := 34, ground := Go.Ground.data }, { on := 24, ground := Go.Ground.chain }], guard := none } : Oper)) (v := ?_) rfl (by kernel_rfl) (by kernel_rfl) (by kernel_rfl) (fun _ _ _ h => h) (Or.inl ⟨by rfl, ?_⟩) (by assumption) ?_
        rotate_left
        · (intro w' hSw; (try dsimp only at hSw); go_simp; (try with_reducible rfl))
        try simp only [Act.put, List.setIfInBounds_toArray, List.set_cons_zero, List.set_cons_succ]
        refine wpAnyH_take (i := 36) (oi := ({ dst := some 159, op := Go.Op.move (Go.Operand.tmp 9), type := 25, pos := "law.go:165", after := #[{ on := 35, ground := Go.Ground.guard }], guard := some (35, false) } : Oper)) (v := ?_) rfl (by kernel_rfl) (by kernel_rfl) (by kernel_rfl) (fun _ _ _ h => h) (Or.inl ⟨by rfl, ?_⟩) (by assumption) ?_
        rotate_left
        · (intro w' hSw; (try dsimp only at hSw); go_simp; (try with_reducible rfl))
        try simp only [Act.put, List.setIfInBounds_toArray, List.set_cons_zero, List.set_cons_succ]
        refine wpAnyH_take (i := 37) (oi := ({ dst := some 160, op := Go.Op.move (Go.Operand.tmp 11), type := 3, pos := "law.go:165", after := #[{ on := 35, ground := Go.Ground.guard }], guard := some (35, false) } : Oper)) (v := ?_) rfl (by kernel_rfl) (by kernel_rfl) (by kernel_rfl) (fun _ _ _ h => h) (Or.inl ⟨by rfl, ?_⟩) (by assumption) ?_
        rotate_left
        · (intro w' hSw; (try dsimp only at hSw); go_simp; (try with_reducible rfl))
        try simp only [Act.put, List.setIfInBounds_toArray, List.set_cons_zero, List.set_cons_succ]
        refine wpAnyH_take (i := 38) (oi := ({ dst := some 161, op := Go.Op.indexAddr 25 (Go.Operand.tmp 159) (Go.Operand.tmp 160), type := 0, pos := "law.go:165", after := #[{ on := 36, ground := Go.Ground.data }, { on := 37, ground := Go.Ground.data }, { on := 35, ground := Go.Ground.guard }], guard := some (35, false) } : Oper)) (v := ?_) rfl (by kernel_rfl) (by kernel_rfl) (by kernel_rfl) (fun _ _ _ h => h) (Or.inl ⟨by rfl, ?_⟩) (by assumption) ?_
        rotate_left
        · (intro w' hSw; (try dsimp only at hSw); go_simp; (try with_reducible rfl))
        try simp only [Act.put, List.setIfInBounds_toArray, List.set_cons_zero, List.set_cons_succ]
        refine wpAnyH_take (i := 39) (oi := ({ dst := some 162, op := Go.Op.load 37 (Go.Operand.tmp 161), type := 37, pos := "law.go:165", after := #[{ on := 38, ground := Go.Ground.data }, { on := 35, ground := Go.Ground.guard }], guard := some (35, false) } : Oper)) (v := ?_) rfl (by kernel_rfl) (by kernel_rfl) (by kernel_rfl) (fun _ _ _ h => h) (Or.inl ⟨by rfl, ?_⟩) (by assumption) ?_
        rotate_left
        · (intro w' hSw; (try dsimp only at hSw); go_simp; (try with_reducible rfl))
        try simp only [Act.put, List.setIfInBounds_toArray, List.set_cons_zero, List.set_cons_succ]
        refine wpAnyH_take (i := 40) (oi := ({ dst := some 163, op := Go.Op.move (Go.Operand.tmp 9), type := 25, pos := "law.go:165", after := #[{ on := 35, ground := Go.Ground.guard }], guard := some (35, false) } : Oper)) (v := ?_) rfl (by kernel_rfl) (by kernel_rfl) (by kernel_rfl) (fun _ _ _ h => h) (Or.inl ⟨by rfl, ?_⟩) (by assumption) ?_
        rotate_left
        · (intro w' hSw; (try dsimp only at hSw); go_simp; (try with_reducible rfl))
        try simp only [Act.put, List.setIfInBounds_toArray, List.set_cons_zero, List.set_cons_succ]
        refine wpAnyH_take (i := 41) (oi := ({ dst := some 164, op := Go.Op.move (Go.Operand.tmp 13), type := 3, pos := "law.go:165", after := #[{ on := 35, ground := Go.Ground.guard }], guard := some (35, false) } : Oper)) (v := ?_) rfl (by kernel_rfl) (by kernel_rfl) (by kernel_rfl) (fun _ _ _ h => h) (Or.inl ⟨by rfl, ?_⟩) (by assumption) ?_
        rotate_left
        · (intro w' hSw; (try dsimp only at hSw); go_simp; (try with_reducible rfl))
        try simp only [Act.put, List.setIfInBounds_toArray, List.set_cons_zero, List.set_cons_succ]
        refine wpAnyH_take (i := 42) (oi := ({ dst := some 165, op := Go.Op.indexAddr 25 (Go.Operand.tmp 163) (Go.Operand.tmp 164), type := 0, pos := "law.go:165", after := #[{ on := 40, ground := Go.Ground.data }, { on := 41, ground := Go.Ground.data }, { on := 35, ground := Go.Ground.guard }], guard := some (35, false) } : Oper)) (v := ?_) rfl (by kernel_rfl) (by kernel_rfl) (by kernel_rfl) (fun _ _ _ h => h) (Or.inl ⟨by rfl, ?_⟩) (by assumption) ?_
        rotate_left
        · (intro w' hSw; (try dsimp only at hSw); go_simp; (try with_reducible rfl))
        try simp only [Act.put, List.setIfInBounds_toArray, List.set_cons_zero, List.set_cons_succ]
        refine wpAnyH_take (i := 43) (oi := ({ dst := some 166, op := Go.Op.load 37 (Go.Operand.tmp 165), type := 37, pos := "law.go:165", after := #[{ on := 42, ground := Go.Ground.data }, { on := 35, ground := Go.Ground.guard }], guard := some (35, false) } : Oper)) (v := ?_) rfl (by kernel_rfl) (by kernel_rfl) (by kernel_rfl) (fun _ _ _ h => h) (Or.inl ⟨by rfl, ?_⟩) (by assumption) ?_
        rotate_left
        · (intro w' hSw; (try dsimp only at hSw); go_simp; (try with_reducible rfl))
        try simp only [Act.put, List.setIfInBounds_toArray, List.set_cons_zero, List.set_cons_succ]
        refine wpAnyH_ready (rs := [44]) (by kernel_rfl) (by simp) (AllReadyH.cons (o := ({ dst := some 167, op := Go.Op.call { callee := Go.Callee.value (Go.Operand.func 50), args := #[Go.Operand.tmp 162, Go.Operand.tmp 166], argTypes := #[37, 37] }, type := 4, pos := "law.go:165", after := #[{ on := 39, ground := Go.Ground.data }, { on := 43, ground := Go.Ground.data }, { on := 35, ground := Go.Ground.chain }, { on := 35, ground := Go.Ground.guard }], guard := some (35, false) } : Oper)) rfl (fun K hK => ?_) AllReadyH.nil)
        go_simp
        go_at_call 50
        refine (m1.out _).mono ?_
        rintro _ Z1 ⟨rfl, hz1⟩
        have hz2 := bel_trans h0 hz1
        refine hK.out _ _ ?_ (fun hHeld => ?_)
        · exact hS2.out _ hz2
        clear hK K
        try simp only [Act.put, List.setIfInBounds_toArray, List.set_cons_zero, List.set_cons_succ]
        refine wpAnyH_take (i := 45) (oi := ({ dst := some 168, op := Go.Op.unOp Go.UnOp.not 4 (Go.Operand.tmp 167), type := 4, pos := "law.go:165", after := #[{ on := 44, ground := Go.Ground.data }, { on := 35, ground := Go.Ground.guard }], guard := some (35, false) } : Oper)) (v := ?_) rfl (by kernel_rfl) (by kernel_rfl) (by kernel_rfl) (fun _ _ _ h => h) (Or.inl ⟨by rfl, ?_⟩) (by assumption) ?_
        rotate_left
        · (intro w' hSw; (try dsimp only at hSw); go_simp; (try with_reducible rfl))
        try simp only [Act.put, List.setIfInBounds_toArray, List.set_cons_zero, List.set_cons_succ]
        refine wpAnyH_take (i := 46) (oi := ({ dst := some 169, op := Go.Op.pick (Go.Operand.tmp 158) (Go.Operand.const (Go.Value.bool true)) (Go.Operand.tmp 168), type := 4, pos := "law.go:165", after := #[{ on := 35, ground := Go.Ground.data }, { on := 45, ground := Go.Ground.data }], guard := none } : Oper)) (v := ?_) rfl (by kernel_rfl) (by kernel_rfl) (by kernel_rfl) (fun _ _ _ h => h) (Or.inl ⟨by rfl, ?_⟩) (by assumption) ?_
        rotate_left
        · (intro w' hSw; (try dsimp only at hSw); go_simp; (try with_reducible rfl))
        try simp only [Act.put, List.setIfInBounds_toArray, List.set_cons_zero, List.set_cons_succ]
        refine wpAnyH_take (i := 47) (oi := ({ dst := some 170, op := Go.Op.move (Go.Operand.tmp 169), type := 4, pos := "law.go:165", after := #[{ on := 46, ground := Go.Ground.data }, { on := 44, ground := Go.Ground.chain }], guard := none } : Oper)) (v := ?_) rfl (by kernel_rfl) (by kernel_rfl) (by kernel_rfl) (fun _ _ _ h => h) (Or.inl ⟨by rfl, ?_⟩) (by assumption) ?_
        rotate_left
        · (intro w' hSw; (try dsimp only at hSw); go_simp; (try with_reducible rfl))
        try simp only [Act.put, List.setIfInBounds_toArray, List.set_cons_zero, List.set_cons_succ]
        refine wpAnyH_take (i := 48) (oi := ({ dst := some 171, op := Go.Op.move (Go.Operand.tmp 13), type := 3, pos := "law.go:165", after := #[{ on := 47, ground := Go.Ground.guard }], guard := some (47, false) } : Oper)) (v := ?_) rfl (by kernel_rfl) (by kernel_rfl) (by kernel_rfl) (fun _ _ _ h => h) (Or.inl ⟨by rfl, ?_⟩) (by assumption) ?_
        rotate_left
        · (intro w' hSw; (try dsimp only at hSw); go_simp; (try with_reducible rfl))
        try simp only [Act.put, List.setIfInBounds_toArray, List.set_cons_zero, List.set_cons_succ]
        refine wpAnyH_take (i := 49) (oi := ({ dst := some 172, op := Go.Op.move (Go.Operand.tmp 11), type := 3, pos := "law.go:165", after := #[{ on := 47, ground := Go.Ground.guard }], guard := some (47, false) } : Oper)) (v := ?_) rfl (by kernel_rfl) (by kernel_rfl) (by kernel_rfl) (fun _ _ _ h => h) (Or.inl ⟨by rfl, ?_⟩) (by assumption) ?_
        rotate_left
        · (intro w' hSw; (try dsimp only at hSw); go_simp; (try with_reducible rfl))
        try simp only [Act.put, List.setIfInBounds_toArray, List.set_cons_zero, List.set_cons_succ]
        refine wpAnyH_take (i := 50) (oi := ({ dst := some 173, op := Go.Op.binOp Go.BinOp.lss 3 (Go.Operand.tmp 171) (Go.Operand.tmp 172) 3, type := 4, pos := "law.go:165", after := #[{ on := 48, ground := Go.Ground.data }, { on := 49, ground := Go.Ground.data }, { on := 47, ground := Go.Ground.guard }], guard := some (47, false) } : Oper)) (v := ?_) rfl (by kernel_rfl) (by kernel_rfl) (by kernel_rfl) (fun _ _ _ h => h) (Or.inl ⟨by rfl, ?_⟩) (by assumption) ?_
        rotate_left
        · (intro w' hSw; (try dsimp only at hSw); go_simp; (try with_reducible rfl))
        try simp only [Act.put, List.setIfInBounds_toArray, List.set_cons_zero, List.set_cons_succ]
        refine wpAnyH_take (i := 51) (oi := ({ dst := some 174, op := Go.Op.move (Go.Operand.tmp 173), type := 4, pos := "law.go:165", after := #[{ on := 50, ground := Go.Ground.data }, { on := 47, ground := Go.Ground.chain }, { on := 47, ground := Go.Ground.guard }], guard := some (47, false) } : Oper)) (v := ?_) rfl (by kernel_rfl) (by kernel_rfl) (by kernel_rfl) (fun _ _ _ h => h) (Or.inl ⟨by rfl, ?_⟩) (by assumption) ?_
        rotate_left
        · (intro w' hSw; (try dsimp only at hSw); go_simp; (try with_reducible rfl))
        try simp only [Act.put, List.setIfInBounds_toArray, List.set_cons_zero, List.set_cons_succ]
        refine wpAnyH_take (i := 52) (oi := ({ dst := some 175, op := Go.Op.move (Go.Operand.tmp 9), type := 25, pos := "law.go:165", after := #[{ on := 51, ground := Go.Ground.guard }], guard := some (51, true) } : Oper)) (v := undef) rfl (by kernel_rfl) (by kernel_rfl) (by kernel_rfl) (fun _ _ _ h => h) (Or.inr ⟨by rfl, rfl⟩) (by assumption) ?_
        try simp only [Act.put, List.setIfInBounds_toArray, List.set_cons_zero, List.set_cons_succ]
        refine wpAnyH_take (i := 53) (oi := ({ dst := some 176, op := Go.Op.move (Go.Operand.tmp 13), type := 3, pos := "law.go:165", after := #[{ on := 51, ground := Go.Ground.guard }], guard := some (51, true) } : Oper)) (v := undef) rfl (by kernel_rfl) (by kernel_rfl) (by kernel_rfl) (fun _ _ _ h => h) (Or.inr ⟨by rfl, rfl⟩) (by assumption) ?_
        try simp only [Act.put, List.setIfInBounds_toArray, List.set_cons_zero, List.set_cons_succ]
        refine wpAnyH_take (i := 54) (oi := ({ dst := some 177, op := Go.Op.indexAddr 25 (Go.Operand.tmp 175) (Go.Operand.tmp 176), type := 0, pos := "law.go:165", after := #[{ on := 52, ground := Go.Ground.data }, { on := 53, ground := Go.Ground.data }, { on := 51, ground := Go.Ground.guard }], guard := some (51, true) } : Oper)) (v := undef) rfl (by kernel_rfl) (by kernel_rfl) (by kernel_rfl) (fun _ _ _ h => h) (Or.inr ⟨by rfl, rfl⟩) (by assumption) ?_
        try simp only [Act.put, List.setIfInBounds_toArray, List.set_cons_zero, List.set_cons_succ]
        refine wpAnyH_take (i := 55) (oi := ({ dst := some 178, op := Go.Op.load 37 (Go.Operand.tmp 177), type := 37, pos := "law.go:165", after := #[{ on := 54, ground := Go.Ground.data }, { on := 51, ground := Go.Ground.guard }], guard := some (51, true) } : Oper)) (v := undef) rfl (by kernel_rfl) (by kernel_rfl) (by kernel_rfl) (fun _ _ _ h => h) (Or.inr ⟨by rfl, rfl⟩) (by assumption) ?_
        try simp only [Act.put, List.setIfInBounds_toArray, List.set_cons_zero, List.set_cons_succ]
        refine wpAnyH_take (i := 56) (oi := ({ dst := some 179, op := Go.Op.move (Go.Operand.tmp 9), type := 25, pos := "law.go:165", after := #[{ on := 51, ground := Go.Ground.guard }], guard := some (51, true) } : Oper)) (v := undef) rfl (by kernel_rfl) (by kernel_rfl) (by kernel_rfl) (fun _ _ _ h => h) (Or.inr ⟨by rfl, rfl⟩) (by assumption) ?_
        try simp only [Act.put, List.setIfInBounds_toArray, List.set_cons_zero, List.set_cons_succ]
        refine wpAnyH_take (i := 57) (oi := ({ dst := some 180, op := Go.Op.move (Go.Operand.tmp 11), type := 3, pos := "law.go:165", after := #[{ on := 51, ground := Go.Ground.guard }], guard := some (51, true) } : Oper)) (v := undef) rfl (by kernel_rfl) (by kernel_rfl) (by kernel_rfl) (fun _ _ _ h => h) (Or.inr ⟨by rfl, rfl⟩) (by assumption) ?_
        try simp only [Act.put, List.setIfInBounds_toArray, List.set_cons_zero, List.set_cons_succ]
        refine wpAnyH_take (i := 58) (oi := ({ dst := some 181, op := Go.Op.indexAddr 25 (Go.Operand.tmp 179) (Go.Operand.tmp 180), type := 0, pos := "law.go:165", after := #[{ on := 56, ground := Go.Ground.data }, { on := 57, ground := Go.Ground.data }, { on := 51, ground := Go.Ground.guard }], guard := some (51, true) } : Oper)) (v := undef) rfl (by kernel_rfl) (by kernel_rfl) (by kernel_rfl) (fun _ _ _ h => h) (Or.inr ⟨by rfl, rfl⟩) (by assumption) ?_
        try simp only [Act.put, List.setIfInBounds_toArray, List.set_cons_zero, List.set_cons_succ]
        refine wpAnyH_take (i := 59) (oi := ({ dst := some 182, op := Go.Op.load 37 (Go.Operand.tmp 181), type := 37, pos := "law.go:165", after := #[{ on := 58, ground := Go.Ground.data }, { on := 51, ground := Go.Ground.guard }], guard := some (51, true) } : Oper)) (v := undef) rfl (by kernel_rfl) (by kernel_rfl) (by kernel_rfl) (fun _ _ _ h => h) (Or.inr ⟨by rfl, rfl⟩) (by assumption) ?_
        try simp only [Act.put, List.setIfInBounds_toArray, List.set_cons_zero, List.set_cons_succ]
        refine wpAnyH_take (i := 60) (oi := ({ dst := some 183, op := Go.Op.call { callee := Go.Callee.value (Go.Operand.func 50), args := #[Go.Operand.tmp 178, Go.Operand.tmp 182], argTypes := #[37, 37] }, type := 4, pos := "law.go:165", after := #[{ on := 55, ground := Go.Ground.data }, { on := 59, ground := Go.Ground.data }, { on := 51, ground := Go.Ground.chain }, { on := 51, ground := Go.Ground.guard }], guard := some (51, true) } : Oper)) (v := undef) rfl (by kernel_rfl) (by kernel_rfl) (by kernel_rfl) (fun _ _ _ h => h) (Or.inr ⟨by rfl, rfl⟩) (by assumption) ?_
        try simp only [Act.put, List.setIfInBounds_toArray, List.set_cons_zero, List.set_cons_succ]
        refine wpAnyH_take (i := 61) (oi := ({ dst := some 184, op := Go.Op.pick (Go.Operand.tmp 174) (Go.Operand.tmp 183) (Go.Operand.const (Go.Value.bool false)), type := 4, pos := "law.go:165", after := #[{ on := 51, ground := Go.Ground.data }, { on := 60, ground := Go.Ground.data }, { on := 47, ground := Go.Ground.guard }], guard := some (47, false) } : Oper)) (v := ?_) rfl (by kernel_rfl) (by kernel_rfl) (by kernel_rfl) (fun _ _ _ h => h) (Or.inl ⟨by rfl, ?_⟩) (by assumption) ?_
        rotate_left
        · (intro w' hSw; (try dsimp only at hSw); go_simp; (try with_reducible rfl))
        try simp only [Act.put, List.setIfInBounds_toArray, List.set_cons_zero, List.set_cons_succ]
        refine wpAnyH_take (i := 62) (oi := ({ dst := some 185, op := Go.Op.pick (Go.Operand.tmp 170) (Go.Operand.const (Go.Value.bool true)) (Go.Operand.tmp 184), type := 4, pos := "law.go:165", after := #[{ on := 47, ground := Go.Ground.data }, { on := 61, ground := Go.Ground.data }], guard := none } : Oper)) (v := ?_) rfl (by kernel_rfl) (by kernel_rfl) (by kernel_rfl) (fun _ _ _ h => h) (Or.inl ⟨by rfl, ?_⟩) (by assumption) ?_
        rotate_left
        · (intro w' hSw; (try dsimp only at hSw); go_simp; (try with_reducible rfl))
        try simp only [Act.put, List.setIfInBounds_toArray, List.set_cons_zero, List.set_cons_succ]
        refine wpAnyH_done (by kernel_rfl) ?_ _
        have hfin := Lib.hid (hfin2.out _ hz2)
        go_wp2_with fail
        go_roundw
        case rel => exact ⟨i + 1, by omega, by go_num, hfin.out⟩
        case measure => simp [intOf]; omega
    · have : n = i := by omega
      subst this
      have hz := Lib.hid (hX.out wr hY).2.2
      replace hY := Lib.hid hY
      go_wp2_with fail
      refine (Sane_any _).mono ?_
      rintro _ X7 ⟨rfl, hb7⟩
      have hz7 := Lib.hid (bel_trans hz.out hb7)
      clear hb7
      go_wp2
      go_ret
      exact ⟨rfl, hz7.out⟩
theorem walk (A : Option Addr) (c : Nat) (l : List Int) (e q : Int) (w : World) (h : Row w w.heap.size A l) (_ : -9223372036854775808 ≤ e ∧ e ≤ 9223372036854775807) (_ : -9223372036854775808 ≤ q ∧ q ≤ 9223372036854775807) :
    Calls Try.prog 11 #[.slice A l.length c, .int .i64 e, .int .i64 q] w fun r w' => r = .returned (.bool true) ∧ Below w.heap.size w w' := by
  by_cases hl : 40 < l.length
  · exact out A c l.length e q w h.1 hl
  · by_cases hk : okS l e q
    · obtain ⟨k, hk4, rfl⟩ := okS_nat hk
      exact inn A c l e k w h hl hk.1 hk4
    · exact bad A c l e q w h hl hk

/-! ### the row's step -/
set_option maxRecDepth 100000 in
theorem lifted (os : Os) (started : os.Started) (H : Type) (enc : TypeId × Value → H) :
    ReturnsInHanded {} Try.checked os 11 .any (Rows.fundWholeSpec.pre6 enc Try.prog Try.f11 Rows.fundWholeRow.domain false) (Rows.fundWholeSpec.post enc Try.prog Try.f11 false true false false) := by
  refine returnsInHanded_of_change (C := Try.checked) own started (by kernel_rfl) Try.func11
    (ChangeSpec.witness6 (enc := enc) (C := Try.checked) false ⟨#[], #[.slice none 0 0, .int .i64 0, .int .i64 0], []⟩ 8 (by kernel_rfl) (by kernel_rfl) (by kernel_rfl) (by kernel_rfl)) ?_
  intro W base args ds gs before hval0 hW hcnd _
  have hval : ∀ (j : Nat) t v, Try.f11.params[j]? = some t → args[j]? = some v → Value.okWide Try.prog W .any base t v := hval0
  have hW' := hW
  obtain ⟨p, q, hA0, hV, rfl, hfz, hnd⟩ := hW
  have hA : DataW.TrodAll enc Try.prog W 0 (fun _ => true) true Try.f11.params.toList args.toList ds p := hA0
  rw [Try.params11] at hA hval
  obtain ⟨v0, vs0, d0, ds0, p0, q0, hargs, rfl, rfl, h0, r0⟩ := trodAll_cons hA
  obtain ⟨v1, vs1, d1, ds1, p1, q1, rfl, rfl, rfl, h1, r1⟩ := trodAll_cons r0
  obtain ⟨v2, vs2, d2, ds2, p2, q2, rfl, rfl, rfl, h2, r2⟩ := trodAll_cons r1
  obtain ⟨rfl, rfl, rfl⟩ := trodAll_nil r2
  obtain rfl : args = #[v0, v1, v2] := by cases args; simp_all
  obtain ⟨rfl, rfl⟩ := trodVars_none hV
  have k0 := h0
  have lt0 : ∀ x ∈ p0, x.block < W.heap.size := by obtain ⟨m, hm⟩ := k0; exact DataW.trod_lt m _ _ _ hm
  obtain ⟨a0, len0, cap0, T0, rfl, rfl, w0⟩ : ∃ A len cap D, v0 = .slice A len cap ∧ D.length = len ∧ Row W W.heap.size A D := by
    obtain ⟨s0, s1, s2, rfl⟩ := okWide_slice Try.underlying22 (hval 0 22 v0 rfl rfl)
    obtain ⟨fuel, hf⟩ := h0
    exact row_of (by simpa [Value.cells] using hf)
  obtain ⟨a1, rfl, rfl, rfl, w1⟩ := open_int Try.underlying3 (hval 1 3 v1 rfl rfl) h1
  obtain ⟨a2, rfl, rfl, rfl, w2⟩ := open_int Try.underlying3 (hval 2 3 v2 rfl rfl) h2
  clear hA0 hval0
  refine (walk a0 cap0 T0 a1 a2 W w0 (i64_range w1) (i64_range w2)).mono fun e W' ⟨he, bel⟩ => ?_
  subst he
  exact ⟨_, rfl, _, _, _, [], _, [], hW', trodAll_mk1 (shut_bool Try.underlying4 _), (trodAll_cons_mk (Below.trod laidOut (by kernel_rfl) (of_decide_eq_true (by kernel_rfl)) k0 bel lt0) (trodAll_cons_mk (shut_int Try.underlying3 w1) (trodAll_cons_mk (shut_int Try.underlying3 w2) trodAll_mk0))), rfl, bel.frame _, fun h => by cases h⟩

theorem over : Rows.fundWholeRow.holds Try.pinned (OpenSpec.ofChange Rows.fundWholeSpec) :=
  OpenClaim.holds_of_wide 11 Try.f11 rfl rfl rfl rfl rfl rfl rfl ⟨rfl, rfl, rfl, rfl, rfl⟩ rfl rfl rfl rfl rfl (by kernel_rfl) Try.func11 (by kernel_rfl)
    (of_decide_eq_true (by kernel_rfl)) (by unfold Func.isWrapper; first | (rw [if_pos (by decide +kernel)]; kernel_rfl) | (rw [if_neg (by decide +kernel)]; exact ⟨rfl, rfl⟩))
    (fun os started H enc _ => lifted os started H enc)

/-- The statement. -/
theorem proved : Rows.FundWholeSaid := over
end Go.Proofs.Ythleekdkbgnabaa.lawFundWhole
