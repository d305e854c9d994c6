/-
  For any claims, estate, rule and number, the law FundFair returns true: awards share the estate, who claims more gets no less and loses no less, equal claims get equal awards, and a greater estate gives nobody less.
  Conditions: none.
-/
import Derived.Test.YthleekdkbgnabaaLq
import Derived.Test.YthleekdkbgnabaaAg
import Derived.Test.YthleekdkbgnabaaV
import Derived.Deep.DeepCutAuto
namespace Go.Proofs.Ythleekdkbgnabaa.lawFundFair
open Go.Joins Go.ChangeShapes Go.WideShapes Go.ChangeAt Go.RowKit Go.Deep Go.Proofs.Ythleekdkbgnabaa M
set_option linter.unusedVariables false
set_option linter.unusedSimpArgs false
attribute [local go_sem high] run_neq2

/-- Two numbers in a box. -/
def Bi (X : World) (b : Nat) (x y : Int) : Prop := X.heap[b]? = some (.cells #[.int .i64 x, .int .i64 y] 55 (0, 0))
theorem Bi.new (w : World) (x y : Int) : Bi (w.alloc (.cells #[.int .i64 x, .int .i64 y] 55)) w.heap.size x y := heap_alloc_new w _
theorem Bi.c0 {w : World} {b : Nat} {x y : Int} (h : Bi w b x y) : w.cell? ⟨b, 0, none⟩ = some (.int .i64 x) := by simp [World.cell?, show w.heap[b]? = _ from h]
theorem Bi.c1 {w : World} {b : Nat} {x y : Int} (h : Bi w b x y) : w.cell? ⟨b, 1, none⟩ = some (.int .i64 y) := by simp [World.cell?, show w.heap[b]? = _ from h]
theorem Bi.drew {w : World} {b : Nat} {x y : Int} (h : Bi w b x y) : Bi w.drew b x y := h

set_option maxRecDepth 100000 in
set_option maxHeartbeats 4000000 in
theorem out (A : Option Addr) (c n : Nat) (e q x : Int) (w : World) (hn : n ≤ 9223372036854775807) (hl : 40 < n) :
    Calls Try.prog 10 #[.slice A n c, .agg #[.int .i64 e, .int .i64 q], .int .u16 x] w fun r w' => r = .returned (.bool true) ∧ Below w.heap.size w w' := by
  have k1 := fun X => Long_any A c n X hn
  rw [show decide (40 < (n : Int)) = true from decide_eq_true (by omega)] at k1
  have hb := Bi.new w e q
  have c0 := hb.c0
  have c1 := hb.c1
  have c2 := hb.drew.c0
  have c3 := hb.drew.c1
  have hbe := fun N => below_drewN (ba1 w (.cells #[.int .i64 e, .int .i64 q] 55)) N
  replace k1 := Lib.hid k1
  replace hb := Lib.hid hb
  replace hbe := Lib.hid hbe
  go_enter Try.func10, Try.ntmps10
  go_wp2_with fail
  go_quiet (fail)
  go_wp2_with fail
  refine (k1.out _).mono ?_
  rintro _ X ⟨rfl, rfl⟩
  go_wp2_with fail
  refine (Sane_any _).mono ?_
  rintro _ X2 ⟨rfl, hb2⟩
  go_wp2
  go_ret
  exact ⟨rfl, bel_trans (hbe.out _) hb2⟩
set_option maxRecDepth 100000 in
set_option maxHeartbeats 4000000 in
theorem bad (A : Option Addr) (c : Nat) (l : List Int) (e q x : Int) (w : World) (h : Row w w.heap.size A l) (hl : ¬ 40 < l.length) (hk : ¬ okS l e q) :
    Calls Try.prog 10 #[.slice A l.length c, .agg #[.int .i64 e, .int .i64 q], .int .u16 x] w fun r w' => r = .returned (.bool true) ∧ Below w.heap.size w w' := by
  have k1 := fun X => Long_any A c l.length X h.1
  rw [show decide (40 < (l.length : Int)) = false from decide_eq_false (by omega)] at k1
  have hb := Bi.new w e q
  have c0 := hb.c0
  have c1 := hb.c1
  have c2 := hb.drew.c0
  have c3 := hb.drew.c1
  have hbe := fun N => below_drewN (ba1 w (.cells #[.int .i64 e, .int .i64 q] 55)) N
  have a1 := fun X (hX : Below w.heap.size w X) => Share_any X.heap.size A c l e q X (h.up hX) (Nat.le_refl _)
  unfold ShR at a1
  rw [shN_bad hk] at a1
  have hne := errS_ne hk
  generalize errS l e q = E at *
  generalize l.length = n at *
  have hn : (E != 0) = true := by simp; omega
  replace k1 := Lib.hid k1
  replace a1 := Lib.hid a1
  replace h := Lib.hid h
  replace hk := Lib.hid hk
  replace hne := Lib.hid hne
  replace hb := Lib.hid hb
  replace hbe := Lib.hid hbe
  go_enter Try.func10, Try.ntmps10
  go_wp2_with fail
  go_quiet (fail)
  go_wp2_with fail
  refine (k1.out _).mono ?_
  rintro _ X ⟨rfl, rfl⟩
  have kk := Lib.hid (a1.out _ (hbe.out nq))
  go_wp2_with fail
  refine kk.out.mono ?_
  rintro _ X1 ⟨A1, N1, cp1, rfl, hb1, hN1, f1⟩
  subst hN1
  replace hb1 := Lib.hid (bel_trans (hbe.out nq) hb1)
  replace f1 := Lib.hid f1
  go_wp2_with fail
  refine (Sane_any _).mono ?_
  rintro _ X2 ⟨rfl, hb2⟩
  have hz := Lib.hid (bel_trans hb1.out hb2)
  go_wp2
  go_ret
  exact ⟨rfl, hz.out⟩
set_option maxRecDepth 100000 in
set_option maxHeartbeats 8000000 in
theorem inn (A : Option Addr) (c : Nat) (l : List Int) (e q x : Int) (w : World) (h : Row w w.heap.size A l) (hl : ¬ 40 < l.length) (hk : okS l e q) (hx : 0 ≤ x ∧ x ≤ 65535) :
    Calls Try.prog 10 #[.slice A l.length c, .agg #[.int .i64 e, .int .i64 q], .int .u16 x] w fun r w' => r = .returned (.bool true) ∧ Below w.heap.size w w' := by
  have hE := hk.1
  have hv := hE.1
  have hn := val_len hv
  have hsm := sm_b hv
  have k1 := fun X => Long_any A c l.length X h.1
  rw [show decide (40 < (l.length : Int)) = false from decide_eq_false (by omega)] at k1
  have hb := Bi.new w e q
  have c0 := hb.c0
  have c1 := hb.c1
  have c2 := hb.drew.c0
  have c3 := hb.drew.c1
  have hbe := fun N => below_drewN (ba1 w (.cells #[.int .i64 e, .int .i64 q] 55)) N
  have a1 := fun X (hX : Below w.heap.size w X) => Share_any X.heap.size A c l e q X (h.up hX) (Nat.le_refl _)
  unfold ShR at a1
  rw [shN_ok hk, errS_ok hk] at a1
  have aS := fun X g cp (hX : Below w.heap.size w X) (hb : BlR X g l.length (shR l e q)) => Shares_any A (some ⟨g, 0, none⟩) c cp l e (mkQ (shR l e q) l.length) X (h.up hX) (rts_blk hb (by omega)) (by rw [mkQ_len]; omega)
  obtain ⟨sp, sq⟩ := sh_share hE q
  have sq2 : shaB l e (mkQ (shR l e q) l.length) = true := by unfold shaB; rw [if_pos sp, sq]
  simp only [mkQ_len, sq2, errA_ok sp] at aS
  have v1 := fun X (hX : Below w.heap.size w X) A' cp (hf : RtF X A' l.length (shR l e q)) => valid_true A A' c cp l _ X (h.up hX) hv hf (fun i hi => gd_sh hE q hi)
  have kM := fun X (hX : Below w.heap.size w X) => Missing_any w.heap.size A c l e X (h.below hX)
  have hm : misR l e = sm l - e := by unfold misR; rw [if_pos hE]
  rw [hm, errC_ok hE] at kM
  have he := hE.2
  obtain ⟨m, hme⟩ : ∃ m, m = sm l - e := ⟨_, rfl⟩
  rw [← hme] at kM
  have hm0 : 0 ≤ m ∧ m ≤ 8000 := by omega
  have m2 : x.tmod (m + 1) = x % (m + 1) := Int.tmod_eq_emod_of_nonneg (by omega)
  have m3 : 0 ≤ x % (m + 1) ∧ x % (m + 1) ≤ m := ⟨Int.emod_nonneg _ (by omega), by have := Int.emod_lt_of_pos x (show 0 < m + 1 by omega); omega⟩
  obtain ⟨r, hr⟩ : ∃ r, r = x % (m + 1) := ⟨_, rfl⟩
  rw [← hr] at m2 m3
  have m4 := hr.symm
  have hE' : okE l (e + r) := ⟨hv, by omega, by omega⟩
  have hk' : okS l (e + r) q := ⟨hE', hk.2⟩
  have a2 := fun X (hX : Below w.heap.size w X) => Share_any X.heap.size A c l (e + r) q X (h.up hX) (Nat.le_refl _)
  unfold ShR at a2
  rw [shN_ok hk', errS_ok hk'] at a2
  have v2 := fun X (hX : Below w.heap.size w X) A' cp (hf : RtF X A' l.length (shR l (e + r) q)) => valid_true A A' c cp l _ X (h.up hX) hv hf (fun i hi => gd_sh hE' q hi)
  have hg1 := fun i (hi : i < l.length) => gd_sh hE q hi
  have hg2 := fun i (hi : i < l.length) => gd_sh hE' q hi
  have ho := fun i j (hi : i < l.length) (hj : j < l.length) => sh_order hE q hi hj
  have hs := fun i j (hx : el l i = el l j) => sh_same (l := l) (e := e) q hx
  have hmo := fun i (hi : i < l.length) => sh_mono hE hE' (by omega) q hi
  have hxs := fun i (hi : i < l.length) => hv.2 i hi
  have hat := fun X (hX : Below w.heap.size w X) k (hk : k < l.length) => (h.below hX).at_ k hk
  have her : -9223372036854775808 ≤ e + r ∧ e + r ≤ 9223372036854775807 := by omega
  have hm1 : ¬ m + 1 = 0 := by omega
  have hm5 : ¬ m < 0 := by omega
  have hm6 : 1 ≤ m + 1 := by omega
  generalize shR l e q = F at *
  generalize shR l (e + r) q = G at *
  generalize l.length = n at *
  clear hsm sp sq sq2 he
  replace k1 := Lib.hid k1
  replace a1 := Lib.hid a1
  replace a2 := Lib.hid a2
  replace aS := Lib.hid aS
  replace v1 := Lib.hid v1
  replace v2 := Lib.hid v2
  replace kM := Lib.hid kM
  replace hg1 := Lib.hid hg1
  replace hg2 := Lib.hid hg2
  replace ho := Lib.hid ho
  replace hs := Lib.hid hs
  replace hmo := Lib.hid hmo
  replace hxs := Lib.hid hxs
  replace hat := Lib.hid hat
  replace h := Lib.hid h
  replace hl := Lib.hid hl
  replace hv := Lib.hid hv
  replace hE := Lib.hid hE
  replace hE' := Lib.hid hE'
  replace hk := Lib.hid hk
  replace hk' := Lib.hid hk'
  replace hm := Lib.hid hm
  replace hme := Lib.hid hme
  replace hr := Lib.hid hr
  replace m4 := Lib.hid m4
  replace hb := Lib.hid hb
  replace hbe := Lib.hid hbe
  obtain ⟨hn1, hn8⟩ := hn
  go_enter Try.func10, Try.ntmps10
  go_wp2_with fail
  go_quiet (fail)
  go_wp2_with fail
  refine (k1.out _).mono ?_
  rintro _ X ⟨rfl, rfl⟩
  have kk := Lib.hid (a1.out _ (hbe.out nq))
  go_wp2_with fail
  refine kk.out.mono ?_
  rintro _ X1 ⟨A1, N1, cp1, rfl, hb1, hN1, f1⟩
  replace hN1 := hN1.symm
  subst hN1
  have z1 := bel_trans (hbe.out nq) hb1
  obtain ⟨g, rfl, hbl⟩ := f1 (by omega)
  have kS := aS.out X1 g cp1 z1 hbl
  have hX := fun X (hX : Below X1.heap.size X1 X) => And.intro (hbl.up hX) (bel_trans z1 hX)
  clear c0 c1 c2 c3
  replace kS := Lib.hid kS
  replace hX := Lib.hid hX
  replace f1 := Lib.hid f1
  replace hbl := Lib.hid hbl
  replace hb1 := Lib.hid hb1
  replace z1 := Lib.hid z1
  replace kk := Lib.hid kk
  go_wp2_with fail
  refine kS.out.mono ?_
  rintro _ X2 ⟨rfl, hb2⟩
  have y2 := hX.out X2 hb2
  have kV := Lib.hid (v1.out X2 y2.2 (some ⟨g, 0, none⟩) cp1 (fun _ => ⟨g, rfl, y2.1⟩))
  replace y2 := Lib.hid y2
  go_wp2_with fail
  refine kV.out.mono ?_
  rintro _ X3 ⟨rfl, j3, rfl⟩
  have b3 := Lib.hid (fun N => below_drewN hb2 N)
  clear hb2
  go_wp2_with fail
  go_loopw [13, 14, 15, 16, 6] (fun i _ _ _ _ wr => ∃ k : Nat, k ≤ n ∧ i = .int .i64 (k : Nat) ∧ Below X1.heap.size X1 wr) (fun i _ _ _ _ _ => n - (intOf i).toNat)
  case atStart => exact ⟨0, by omega, rfl, b3.out _⟩
  case round =>
    clear b3
    obtain ⟨i, hi, rfl, hY⟩ := hrel
    by_cases hin : i < n
    · have hin2 : (i : Int) < (n : Int) := by omega
      replace hY := Lib.hid hY
      go_wp2
      go_loopw [14, 15, 16, 6] (fun k _ _ _ wr => ∃ k' : Nat, k' ≤ n ∧ k = .int .i64 (k' : Nat) ∧ Below X1.heap.size X1 wr) (fun k _ _ _ _ => n - (intOf k).toNat)
      case atStart => exact ⟨0, by omega, rfl, hY.out⟩
      case round =>
        clear hY
        obtain ⟨k, hkk, rfl, hY⟩ := hrel
        by_cases hkn : k < n
        · have hkn2 : (k : Int) < (n : Int) := by omega
          have u0 := hX.out wr hY
          obtain ⟨ba, oa, rfl, _, _⟩ := hat.out wr u0.2 i hin
          clear u0
          have hcel : ∀ X, Below wr.heap.size wr X → X.cell? ⟨ba, oa + i, none⟩ = some (.int .i64 (el l i)) ∧ X.cell? ⟨ba, oa + k, none⟩ = some (.int .i64 (el l k)) ∧ X.cell? ⟨g, i * 2, none⟩ = some (.int .i64 (F i).n) ∧ X.cell? ⟨g, i * 2 + 1, none⟩ = some (.int .i64 (F i).d) ∧ X.cell? ⟨g, k * 2, none⟩ = some (.int .i64 (F k).n) ∧ X.cell? ⟨g, k * 2 + 1, none⟩ = some (.int .i64 (F k).d) := fun X hX' => by
            have u := hX.out X (bel_trans hY hX')
            obtain ⟨b', o', he', _, s0⟩ := hat.out X u.2 i hin
            cases he'
            obtain ⟨b', o', he', _, s1⟩ := hat.out X u.2 k hkn
            cases he'
            exact ⟨s0, s1, u.1.c0 hin, u.1.c1 hin, u.1.c0 hkn, u.1.c1 hkn⟩
          have hup := fun X (hX' : Below wr.heap.size wr X) => bel_trans hY hX'
          have g1 := hg1.out i hin
          have g2 := hg1.out k hkn
          have hxi := hxs.out i hin
          have hxk := hxs.out k hkn
          have hoik := ho.out i k hin hkn
          have hsik := hs.out i k
          generalize F i = a at *
          generalize F k = b at *
          generalize el l i = x1 at *
          generalize el l k = x2 at *
          obtain ⟨an, ad⟩ := a
          obtain ⟨bn, bd⟩ := b
          obtain ⟨⟨g11, g12⟩, g13, g14⟩ := g1
          obtain ⟨⟨g21, g22⟩, g23, g24⟩ := g2
          unfold okC at hxi hxk
          simp only at *
          have p1 := mul_b (a := x1) (b := ad) (A := 1000) (B := 10000) hxi (by omega)
          have p2 := mul_b (a := x2) (b := bd) (A := 1000) (B := 10000) hxk (by omega)
          obtain ⟨u1, hu1⟩ : ∃ z, z = x1 * ad := ⟨_, rfl⟩
          obtain ⟨u2, hu2⟩ : ∃ z, z = x2 * bd := ⟨_, rfl⟩
          rw [← hu1] at p1 g12 hoik
          rw [← hu2] at p2 g22 hoik
          have w1 : IntKind.i64.wrap (x1 * ad) = u1 := by rw [← hu1]; exact IntWalk.i64_in _ (by omega)
          have w2 : IntKind.i64.wrap (x2 * bd) = u2 := by rw [← hu2]; exact IntWalk.i64_in _ (by omega)
          obtain ⟨la, hla⟩ : ∃ z, z = u1 - an := ⟨_, rfl⟩
          obtain ⟨lb, hlb⟩ : ∃ z, z = u2 - bn := ⟨_, rfl⟩
          have w3 : IntKind.i64.wrap (u1 - an) = la := by rw [hla]; exact IntWalk.i64_in _ (by omega)
          have w4 : IntKind.i64.wrap (u2 - bn) = lb := by rw [hlb]; exact IntWalk.i64_in _ (by omega)
          rw [← hla, ← hlb] at hoik
          have la1 : -100000000 ≤ la ∧ la ≤ 100000000 := by omega
          have lb1 : -100000000 ≤ lb ∧ lb ≤ 100000000 := by omega
          replace hla := Lib.hid hla
          replace hlb := Lib.hid hlb
          have m1 : x1 ≤ x2 → ∀ X, Calls Try.prog 50 #[.agg #[.int .i64 an, .int .i64 ad], .agg #[.int .i64 bn, .int .i64 bd]] X fun e w' => e = .returned (.bool true) ∧ Below X.heap.size X w' := fun hle X => by
            obtain ⟨f1, f2⟩ := fit_cross (a := ⟨an, ad⟩) (b := ⟨bn, bd⟩) ⟨by simp only; omega, by simp only; omega, by simp only; omega⟩ ⟨by simp only; omega, by simp only; omega, by simp only; omega⟩
            exact most_true ⟨an, ad⟩ ⟨bn, bd⟩ X f1 f2 (hoik hle).1
          have m2 : x1 ≤ x2 → ∀ X, Calls Try.prog 50 #[.agg #[.int .i64 la, .int .i64 ad], .agg #[.int .i64 lb, .int .i64 bd]] X fun e w' => e = .returned (.bool true) ∧ Below X.heap.size X w' := fun hle X => by
            obtain ⟨f1, f2⟩ := fit_cross (a := ⟨la, ad⟩) (b := ⟨lb, bd⟩) ⟨by simp only; omega, by simp only; omega, by simp only; omega⟩ ⟨by simp only; omega, by simp only; omega, by simp only; omega⟩
            exact most_true ⟨la, ad⟩ ⟨lb, bd⟩ X f1 f2 (hoik hle).2
          clear hoik p1 p2 g11 g12 g13 g14 g21 g22 g23 g24 la1 lb1 hxi hxk
          have h0 : Below wr.heap.size wr wr.drew := below_drewN (Below.refl _ _) 1
          have s0 := hcel _ h0
          have b1 := Bxr.new wr la ad
          have b2 := Bxr.new (wr.alloc (.cells #[.int .i64 la, .int .i64 ad] 37)) lb bd
          replace hcel := Lib.hid hcel
          replace hup := Lib.hid hup
          replace hsik := Lib.hid hsik
          replace m1 := Lib.hid m1
          replace m2 := Lib.hid m2
          replace hu1 := Lib.hid hu1
          replace hu2 := Lib.hid hu2
          replace b1 := Lib.hid b1
          replace b2 := Lib.hid b2
          replace hY := Lib.hid hY
          go_upto_region 16 with fail
          go_cut [15, 16] from 73 to 116 (fun p q wx => ∃ b1 b2 : Nat, p = .pointer (some ⟨b1, 0, none⟩) ∧ q = .pointer (some ⟨b2, 0, none⟩) ∧ Below wr.heap.size wr wx ∧ Bxr wx b1 la ad ∧ Bxr wx b2 lb bd)
          case first =>
            have t1 : Below wr.heap.size wr (wr.alloc (.cells #[.int .i64 0, .int .i64 0] 37)).drew := below_drewN (ba1 wr _) 1
            have t2 : Below wr.heap.size wr ((wr.alloc (.cells #[.int .i64 0, .int .i64 0] 37)).alloc (.cells #[.int .i64 0, .int .i64 0] 37)).drew := below_drewN (bel_trans (ba1 wr _) (ba1 _ _)) 1
            have t3 : Below wr.heap.size wr ((wr.alloc (.cells #[.int .i64 la, .int .i64 ad] 37)).alloc (.cells #[.int .i64 0, .int .i64 0] 37)).drew := below_drewN (bel_trans (ba1 wr _) (ba1 _ _)) 1
            have t4 : Below wr.heap.size wr ((wr.alloc (.cells #[.int .i64 0, .int .i64 0] 37)).alloc (.cells #[.int .i64 la, .int .i64 ad] 37)).drew := below_drewN (bel_trans (ba1 wr _) (ba1 _ _)) 1
            have t5 : Below wr.heap.size wr ((wr.alloc (.cells #[.int .i64 la, .int .i64 ad] 37)).alloc (.cells #[.int .i64 lb, .int .i64 bd] 37)).drew := below_drewN (bel_trans (ba1 wr _) (ba1 _ _)) 1
            have t6 : Below wr.heap.size wr ((wr.alloc (.cells #[.int .i64 lb, .int .i64 bd] 37)).alloc (.cells #[.int .i64 la, .int .i64 ad] 37)).drew := below_drewN (bel_trans (ba1 wr _) (ba1 _ _)) 1
            have s1 := hcel.out _ t1
            have s2 := hcel.out _ t2
            have s3 := hcel.out _ t3
            have s4 := hcel.out _ t4
            have s5 := hcel.out _ t5
            have s6 := hcel.out _ t6
            have fin1 : Bxr ((wr.alloc (.cells #[.int .i64 la, .int .i64 ad] 37)).alloc (.cells #[.int .i64 lb, .int .i64 bd] 37)).drew wr.heap.size la ad ∧ Bxr ((wr.alloc (.cells #[.int .i64 la, .int .i64 ad] 37)).alloc (.cells #[.int .i64 lb, .int .i64 bd] 37)).drew (wr.heap.size + 1) lb bd := by
              have q1 := (Bxr.new wr la ad).up (ba1 _ (.cells #[.int .i64 lb, .int .i64 bd] 37))
              have q2 := Bxr.new (wr.alloc (.cells #[.int .i64 la, .int .i64 ad] 37)) lb bd
              rw [show (wr.alloc (.cells #[.int .i64 la, .int .i64 ad] 37)).heap.size = wr.heap.size + 1 by simp] at q2
              exact ⟨q1, q2⟩
            have fin2 : Bxr ((wr.alloc (.cells #[.int .i64 lb, .int .i64 bd] 37)).alloc (.cells #[.int .i64 la, .int .i64 ad] 37)).drew (wr.heap.size + 1) la ad ∧ Bxr ((wr.alloc (.cells #[.int .i64 lb, .int .i64 bd] 37)).alloc (.cells #[.int .i64 la, .int .i64 ad] 37)).drew wr.heap.size lb bd := by
              have q1 := (Bxr.new wr lb bd).up (ba1 _ (.cells #[.int .i64 la, .int .i64 ad] 37))
              have q2 := Bxr.new (wr.alloc (.cells #[.int .i64 lb, .int .i64 bd] 37)) la ad
              rw [show (wr.alloc (.cells #[.int .i64 lb, .int .i64 bd] 37)).heap.size = wr.heap.size + 1 by simp] at q2
              exact ⟨q2, q1⟩
            replace fin1 := Lib.hid (And.intro t5 fin1)
            replace fin2 := Lib.hid (And.intro t6 fin2)
            replace t1 := Lib.hid t1
            replace t2 := Lib.hid t2
            replace t3 := Lib.hid t3
            replace t4 := Lib.hid t4
            replace t5 := Lib.hid t5
            replace t6 := Lib.hid t6
            go_region_held3 (fun X => X.cell? ⟨ba, oa + i, none⟩ = some (.int .i64 x1) ∧ X.cell? ⟨ba, oa + k, none⟩ = some (.int .i64 x2) ∧ X.cell? ⟨g, i * 2, none⟩ = some (.int .i64 an) ∧ X.cell? ⟨g, i * 2 + 1, none⟩ = some (.int .i64 ad) ∧ X.cell? ⟨g, k * 2, none⟩ = some (.int .i64 bn) ∧ X.cell? ⟨g, k * 2 + 1, none⟩ = some (.int .i64 bd)) (first | with_reducible exact s0 | with_reducible exact s1 | with_reducible exact s2 | with_reducible exact s3 | with_reducible exact s4 | with_reducible exact s5 | with_reducible exact s6) (fail)
            all_goals
              go_wp2_with fail
              go_meet
              first
                | exact ⟨_, _, rfl, rfl, fin1.out⟩
                | exact ⟨_, _, rfl, rfl, fin2.out⟩
          case rest =>
            obtain ⟨c1, c2, rfl, rfl, hwc, d1, d2⟩ := hcut
            clear s0 w1 w2 w3 w4
            have hS : ∀ X, Below wc.heap.size wc X → X.cell? ⟨ba, oa + i, none⟩ = some (.int .i64 x1) ∧ X.cell? ⟨ba, oa + k, none⟩ = some (.int .i64 x2) ∧ X.cell? ⟨g, i * 2, none⟩ = some (.int .i64 an) ∧ X.cell? ⟨g, i * 2 + 1, none⟩ = some (.int .i64 ad) ∧ X.cell? ⟨g, k * 2, none⟩ = some (.int .i64 bn) ∧ X.cell? ⟨g, k * 2 + 1, none⟩ = some (.int .i64 bd) ∧ X.cell? ⟨c1, 0, none⟩ = some (.int .i64 la) ∧ X.cell? ⟨c1, 1, none⟩ = some (.int .i64 ad) ∧ X.cell? ⟨c2, 0, none⟩ = some (.int .i64 lb) ∧ X.cell? ⟨c2, 1, none⟩ = some (.int .i64 bd) := fun X hX' => by
              obtain ⟨a1, a2, a3, a4, a5, a6⟩ := hcel.out X (bel_trans hwc hX')
              have q1 := d1.up hX'
              have q2 := d2.up hX'
              exact ⟨a1, a2, a3, a4, a5, a6, q1.c0, q1.c1, q2.c0, q2.c1⟩
            have h0 : Below wc.heap.size wc wc.drew := below_drewN (Below.refl _ _) 1
            have t0 := hS _ h0
            have hup2 := fun X (hX' : Below wc.heap.size wc X) => hup.out X (bel_trans hwc hX')
            replace hwc := Lib.hid hwc
            replace d1 := Lib.hid d1
            replace d2 := Lib.hid d2
            have hY0 := Lib.hid (hup2 _ h0)
            replace hup2 := Lib.hid hup2
            rcases Int.lt_trichotomy x1 x2 with hlt | heq | hgt
            · have m1' := Lib.hid (m1.out (by omega))
              have m2' := Lib.hid (m2.out (by omega))
              have hd1 : decide (x1 ≤ x2) = true := decide_eq_true (by omega)
              have hd2 : (x1 == x2) = false := by simpa using (show ¬ x1 = x2 by omega)
              replace hS := Lib.hid hS
              go_wp2_with fail
              refine wp_region_held_drew (S := fun X => X.cell? ⟨ba, oa + i, none⟩ = some (.int .i64 x1) ∧ X.cell? ⟨ba, oa + k, none⟩ = some (.int .i64 x2) ∧ X.cell? ⟨g, i * 2, none⟩ = some (.int .i64 an) ∧ X.cell? ⟨g, i * 2 + 1, none⟩ = some (.int .i64 ad) ∧ X.cell? ⟨g, k * 2, none⟩ = some (.int .i64 bn) ∧ X.cell? ⟨g, k * 2 + 1, none⟩ = some (.int .i64 bd) ∧ X.cell? ⟨c1, 0, none⟩ = some (.int .i64 la) ∧ X.cell? ⟨c1, 1, none⟩ = some (.int .i64 ad) ∧ X.cell? ⟨c2, 0, none⟩ = some (.int .i64 lb) ∧ X.cell? ⟨c2, 1, none⟩ = some (.int .i64 bd)) (by kernel_rfl) (t0) (fun hHeld => ?_)
              refine wpAnyH_take (i := 0) (oi := ({ dst := some 117, op := Go.Op.move (Go.Operand.tmp 0), type := 22, pos := "law.go:128", after := #[], guard := none } : Oper)) (v := ?_) rfl (by kernel_rfl) (by kernel_rfl) (by kernel_rfl) (fun _ _ _ h => h) (Or.inl ⟨by rfl, ?_⟩) (by assumption) ?_
              rotate_left
              · (intro w' hSw; (try dsimp only at hSw); go_simp; (try with_reducible rfl))
              try simp only [Act.put, List.setIfInBounds_toArray, List.set_cons_zero, List.set_cons_succ]
              refine wpAnyH_take (i := 1) (oi := ({ dst := some 118, op := Go.Op.move (Go.Operand.tmp 13), type := 3, pos := "law.go:128", after := #[], guard := none } : Oper)) (v := ?_) rfl (by kernel_rfl) (by kernel_rfl) (by kernel_rfl) (fun _ _ _ h => h) (Or.inl ⟨by rfl, ?_⟩) (by assumption) ?_
              rotate_left
              · (intro w' hSw; (try dsimp only at hSw); go_simp; (try with_reducible rfl))
              try simp only [Act.put, List.setIfInBounds_toArray, List.set_cons_zero, List.set_cons_succ]
              refine wpAnyH_take (i := 2) (oi := ({ dst := some 119, op := Go.Op.indexAddr 22 (Go.Operand.tmp 117) (Go.Operand.tmp 118), type := 0, pos := "law.go:128", after := #[{ on := 0, ground := Go.Ground.data }, { on := 1, ground := Go.Ground.data }], guard := none } : Oper)) (v := ?_) rfl (by kernel_rfl) (by kernel_rfl) (by kernel_rfl) (fun _ _ _ h => h) (Or.inl ⟨by rfl, ?_⟩) (by assumption) ?_
              rotate_left
              · (intro w' hSw; (try dsimp only at hSw); go_simp; (try with_reducible rfl))
              try simp only [Act.put, List.setIfInBounds_toArray, List.set_cons_zero, List.set_cons_succ]
              refine wpAnyH_take (i := 3) (oi := ({ dst := some 120, op := Go.Op.load 3 (Go.Operand.tmp 119), type := 3, pos := "law.go:128", after := #[{ on := 2, ground := Go.Ground.data }], guard := none } : Oper)) (v := ?_) rfl (by kernel_rfl) (by kernel_rfl) (by kernel_rfl) (fun _ _ _ h => h) (Or.inl ⟨by rfl, ?_⟩) (by assumption) ?_
              rotate_left
              · (intro w' hSw; (try dsimp only at hSw); go_simp; (try with_reducible rfl))
              try simp only [Act.put, List.setIfInBounds_toArray, List.set_cons_zero, List.set_cons_succ]
              refine wpAnyH_take (i := 4) (oi := ({ dst := some 121, op := Go.Op.move (Go.Operand.tmp 0), type := 22, pos := "law.go:128", after := #[], guard := none } : Oper)) (v := ?_) rfl (by kernel_rfl) (by kernel_rfl) (by kernel_rfl) (fun _ _ _ h => h) (Or.inl ⟨by rfl, ?_⟩) (by assumption) ?_
              rotate_left
              · (intro w' hSw; (try dsimp only at hSw); go_simp; (try with_reducible rfl))
              try simp only [Act.put, List.setIfInBounds_toArray, List.set_cons_zero, List.set_cons_succ]
              refine wpAnyH_take (i := 5) (oi := ({ dst := some 122, op := Go.Op.move (Go.Operand.tmp 14), type := 3, pos := "law.go:128", after := #[], guard := none } : Oper)) (v := ?_) rfl (by kernel_rfl) (by kernel_rfl) (by kernel_rfl) (fun _ _ _ h => h) (Or.inl ⟨by rfl, ?_⟩) (by assumption) ?_
              rotate_left
              · (intro w' hSw; (try dsimp only at hSw); go_simp; (try with_reducible rfl))
              try simp only [Act.put, List.setIfInBounds_toArray, List.set_cons_zero, List.set_cons_succ]
              refine wpAnyH_take (i := 6) (oi := ({ dst := some 123, op := Go.Op.indexAddr 22 (Go.Operand.tmp 121) (Go.Operand.tmp 122), type := 0, pos := "law.go:128", after := #[{ on := 4, ground := Go.Ground.data }, { on := 5, ground := Go.Ground.data }], guard := none } : Oper)) (v := ?_) rfl (by kernel_rfl) (by kernel_rfl) (by kernel_rfl) (fun _ _ _ h => h) (Or.inl ⟨by rfl, ?_⟩) (by assumption) ?_
              rotate_left
              · (intro w' hSw; (try dsimp only at hSw); go_simp; (try with_reducible rfl))
              try simp only [Act.put, List.setIfInBounds_toArray, List.set_cons_zero, List.set_cons_succ]
              refine wpAnyH_take (i := 7) (oi := ({ dst := some 124, op := Go.Op.load 3 (Go.Operand.tmp 123), type := 3, pos := "law.go:128", after := #[{ on := 6, ground := Go.Ground.data }], guard := none } : Oper)) (v := ?_) rfl (by kernel_rfl) (by kernel_rfl) (by kernel_rfl) (fun _ _ _ h => h) (Or.inl ⟨by rfl, ?_⟩) (by assumption) ?_
              rotate_left
              · (intro w' hSw; (try dsimp only at hSw); go_simp; (try with_reducible rfl))
              try simp only [Act.put, List.setIfInBounds_toArray, List.set_cons_zero, List.set_cons_succ]
              refine wpAnyH_take (i := 8) (oi := ({ dst := some 125, op := Go.Op.binOp Go.BinOp.leq 3 (Go.Operand.tmp 120) (Go.Operand.tmp 124) 3, type := 4, pos := "law.go:128", after := #[{ on := 3, ground := Go.Ground.data }, { on := 7, ground := Go.Ground.data }], guard := none } : Oper)) (v := ?_) rfl (by kernel_rfl) (by kernel_rfl) (by kernel_rfl) (fun _ _ _ h => h) (Or.inl ⟨by rfl, ?_⟩) (by assumption) ?_
              rotate_left
              · (intro w' hSw; (try dsimp only at hSw); go_simp; (try with_reducible rfl))
              try simp only [Act.put, List.setIfInBounds_toArray, List.set_cons_zero, List.set_cons_succ]
              refine wpAnyH_take (i := 9) (oi := ({ dst := some 126, op := Go.Op.move (Go.Operand.tmp 125), type := 4, pos := "law.go:128", after := #[{ on := 8, ground := Go.Ground.data }], guard := none } : Oper)) (v := ?_) rfl (by kernel_rfl) (by kernel_rfl) (by kernel_rfl) (fun _ _ _ h => h) (Or.inl ⟨by rfl, ?_⟩) (by assumption) ?_
              rotate_left
              · (intro w' hSw; (try dsimp only at hSw); go_simp; (try with_reducible rfl))
              try simp only [Act.put, List.setIfInBounds_toArray, List.set_cons_zero, List.set_cons_succ]
              refine wpAnyH_take (i := 10) (oi := ({ dst := some 127, op := Go.Op.move (Go.Operand.tmp 9), type := 25, pos := "law.go:128", after := #[{ on := 9, ground := Go.Ground.guard }], guard := some (9, true) } : Oper)) (v := ?_) rfl (by kernel_rfl) (by kernel_rfl) (by kernel_rfl) (fun _ _ _ h => h) (Or.inl ⟨by rfl, ?_⟩) (by assumption) ?_
              rotate_left
              · (intro w' hSw; (try dsimp only at hSw); go_simp; (try with_reducible rfl))
              try simp only [Act.put, List.setIfInBounds_toArray, List.set_cons_zero, List.set_cons_succ]
              refine wpAnyH_take (i := 11) (oi := ({ dst := some 128, op := Go.Op.move (Go.Operand.tmp 13), type := 3, pos := "law.go:128", after := #[{ on := 9, ground := Go.Ground.guard }], guard := some (9, true) } : Oper)) (v := ?_) rfl (by kernel_rfl) (by kernel_rfl) (by kernel_rfl) (fun _ _ _ h => h) (Or.inl ⟨by rfl, ?_⟩) (by assumption) ?_
              rotate_left
              · (intro w' hSw; (try dsimp only at hSw); go_simp; (try with_reducible rfl))
              try simp only [Act.put, List.setIfInBounds_toArray, List.set_cons_zero, List.set_cons_succ]
              refine wpAnyH_take (i := 12) (oi := ({ dst := some 129, op := Go.Op.indexAddr 25 (Go.Operand.tmp 127) (Go.Operand.tmp 128), type := 0, pos := "law.go:128", after := #[{ on := 10, ground := Go.Ground.data }, { on := 11, ground := Go.Ground.data }, { on := 9, ground := Go.Ground.guard }], guard := some (9, true) } : Oper)) (v := ?_) rfl (by kernel_rfl) (by kernel_rfl) (by kernel_rfl) (fun _ _ _ h => h) (Or.inl ⟨by rfl, ?_⟩) (by assumption) ?_
              rotate_left
              · (intro w' hSw; (try dsimp only at hSw); go_simp; (try with_reducible rfl))
              try simp only [Act.put, List.setIfInBounds_toArray, List.set_cons_zero, List.set_cons_succ]
              refine wpAnyH_take (i := 13) (oi := ({ dst := some 130, op := Go.Op.load 37 (Go.Operand.tmp 129), type := 37, pos := "law.go:128", after := #[{ on := 12, ground := Go.Ground.data }, { on := 9, ground := Go.Ground.guard }], guard := some (9, true) } : Oper)) (v := ?_) rfl (by kernel_rfl) (by kernel_rfl) (by kernel_rfl) (fun _ _ _ h => h) (Or.inl ⟨by rfl, ?_⟩) (by assumption) ?_
              rotate_left
              · (intro w' hSw; (try dsimp only at hSw); go_simp; (try with_reducible rfl))
              try simp only [Act.put, List.setIfInBounds_toArray, List.set_cons_zero, List.set_cons_succ]
              refine wpAnyH_take (i := 14) (oi := ({ dst := some 131, op := Go.Op.move (Go.Operand.tmp 9), type := 25, pos := "law.go:128", after := #[{ on := 9, ground := Go.Ground.guard }], guard := some (9, true) } : Oper)) (v := ?_) rfl (by kernel_rfl) (by kernel_rfl) (by kernel_rfl) (fun _ _ _ h => h) (Or.inl ⟨by rfl, ?_⟩) (by assumption) ?_
              rotate_left
              · (intro w' hSw; (try dsimp only at hSw); go_simp; (try with_reducible rfl))
              try simp only [Act.put, List.setIfInBounds_toArray, List.set_cons_zero, List.set_cons_succ]
              refine wpAnyH_take (i := 15) (oi := ({ dst := some 132, op := Go.Op.move (Go.Operand.tmp 14), type := 3, pos := "law.go:128", after := #[{ on := 9, ground := Go.Ground.guard }], guard := some (9, true) } : Oper)) (v := ?_) rfl (by kernel_rfl) (by kernel_rfl) (by kernel_rfl) (fun _ _ _ h => h) (Or.inl ⟨by rfl, ?_⟩) (by assumption) ?_
              rotate_left
              · (intro w' hSw; (try dsimp only at hSw); go_simp; (try with_reducible rfl))
              try simp only [Act.put, List.setIfInBounds_toArray, List.set_cons_zero, List.set_cons_succ]
              refine wpAnyH_take (i := 16) (oi := ({ dst := some 133, op := Go.Op.indexAddr 25 (Go.Operand.tmp 131) (Go.Operand.tmp 132), type := 0, pos := "law.go:128", after := #[{ on := 14, ground := Go.Ground.data }, { on := 15, ground := Go.Ground.data }, { on := 9, ground := Go.Ground.guard }], guard := some (9, true) } : Oper)) (v := ?_) rfl (by kernel_rfl) (by kernel_rfl) (by kernel_rfl) (fun _ _ _ h => h) (Or.inl ⟨by rfl, ?_⟩) (by assumption) ?_
              rotate_left
              · (intro w' hSw; (try dsimp only at hSw); go_simp; (try with_reducible rfl))
              try simp only [Act.put, List.setIfInBounds_toArray, List.set_cons_zero, List.set_cons_succ]
              refine wpAnyH_take (i := 17) (oi := ({ dst := some 134, op := Go.Op.load 37 (Go.Operand.tmp 133), type := 37, pos := "law.go:128", after := #[{ on := 16, ground := Go.Ground.data }, { on := 9, ground := Go.Ground.guard }], guard := some (9, true) } : Oper)) (v := ?_) rfl (by kernel_rfl) (by kernel_rfl) (by kernel_rfl) (fun _ _ _ h => h) (Or.inl ⟨by rfl, ?_⟩) (by assumption) ?_
              rotate_left
              · (intro w' hSw; (try dsimp only at hSw); go_simp; (try with_reducible rfl))
              try simp only [Act.put, List.setIfInBounds_toArray, List.set_cons_zero, List.set_cons_succ]
              refine wpAnyH_ready (rs := [18]) (by kernel_rfl) (by simp) (AllReadyH.cons (o := ({ dst := some 135, op := Go.Op.call { callee := Go.Callee.value (Go.Operand.func 50), args := #[Go.Operand.tmp 130, Go.Operand.tmp 134], argTypes := #[37, 37] }, type := 4, pos := "law.go:128", after := #[{ on := 13, ground := Go.Ground.data }, { on := 17, ground := Go.Ground.data }, { on := 9, ground := Go.Ground.chain }, { on := 9, ground := Go.Ground.guard }], guard := some (9, true) } : Oper)) rfl (fun K hK => ?_) AllReadyH.nil)
              go_simp
              go_at_call 50
              refine (m1'.out _).mono ?_
              rintro _ Z1 ⟨rfl, hz1⟩
              have hz2 := bel_trans h0 hz1
              refine hK.out _ _ ?_ (fun hHeld => ?_)
              · exact hS.out _ hz2
              clear hK K
              try simp only [Act.put, List.setIfInBounds_toArray, List.set_cons_zero, List.set_cons_succ]
              refine wpAnyH_take (i := 19) (oi := ({ dst := some 136, op := Go.Op.unOp Go.UnOp.not 4 (Go.Operand.tmp 135), type := 4, pos := "law.go:128", after := #[{ on := 18, ground := Go.Ground.data }, { on := 9, ground := Go.Ground.guard }], guard := some (9, true) } : Oper)) (v := ?_) rfl (by kernel_rfl) (by kernel_rfl) (by kernel_rfl) (fun _ _ _ h => h) (Or.inl ⟨by rfl, ?_⟩) (by assumption) ?_
              rotate_left
              · (intro w' hSw; (try dsimp only at hSw); go_simp; (try with_reducible rfl))
              try simp only [Act.put, List.setIfInBounds_toArray, List.set_cons_zero, List.set_cons_succ]
              refine wpAnyH_take (i := 20) (oi := ({ dst := some 137, op := Go.Op.move (Go.Operand.tmp 136), type := 4, pos := "law.go:128", after := #[{ on := 19, ground := Go.Ground.data }, { on := 18, ground := Go.Ground.chain }, { on := 9, ground := Go.Ground.guard }], guard := some (9, true) } : Oper)) (v := ?_) rfl (by kernel_rfl) (by kernel_rfl) (by kernel_rfl) (fun _ _ _ h => h) (Or.inl ⟨by rfl, ?_⟩) (by assumption) ?_
              rotate_left
              · (intro w' hSw; (try dsimp only at hSw); go_simp; (try with_reducible rfl))
              try simp only [Act.put, List.setIfInBounds_toArray, List.set_cons_zero, List.set_cons_succ]
              refine wpAnyH_take (i := 21) (oi := ({ dst := some 138, op := Go.Op.load 37 (Go.Operand.tmp 15), type := 37, pos := "law.go:128", after := #[{ on := 20, ground := Go.Ground.guard }], guard := some (20, false) } : Oper)) (v := ?_) rfl (by kernel_rfl) (by kernel_rfl) (by kernel_rfl) (fun _ _ _ h => h) (Or.inl ⟨by rfl, ?_⟩) (by assumption) ?_
              rotate_left
              · (intro w' hSw; (try dsimp only at hSw); go_simp; (try with_reducible rfl))
              try simp only [Act.put, List.setIfInBounds_toArray, List.set_cons_zero, List.set_cons_succ]
              refine wpAnyH_take (i := 22) (oi := ({ dst := some 139, op := Go.Op.load 37 (Go.Operand.tmp 16), type := 37, pos := "law.go:128", after := #[{ on := 20, ground := Go.Ground.guard }], guard := some (20, false) } : Oper)) (v := ?_) rfl (by kernel_rfl) (by kernel_rfl) (by kernel_rfl) (fun _ _ _ h => h) (Or.inl ⟨by rfl, ?_⟩) (by assumption) ?_
              rotate_left
              · (intro w' hSw; (try dsimp only at hSw); go_simp; (try with_reducible rfl))
              try simp only [Act.put, List.setIfInBounds_toArray, List.set_cons_zero, List.set_cons_succ]
              refine wpAnyH_ready (rs := [23]) (by kernel_rfl) (by simp) (AllReadyH.cons (o := ({ dst := some 140, op := Go.Op.call { callee := Go.Callee.value (Go.Operand.func 50), args := #[Go.Operand.tmp 138, Go.Operand.tmp 139], argTypes := #[37, 37] }, type := 4, pos := "law.go:128", after := #[{ on := 21, ground := Go.Ground.data }, { on := 22, ground := Go.Ground.data }, { on := 20, ground := Go.Ground.chain }, { on := 20, ground := Go.Ground.guard }], guard := some (20, false) } : Oper)) rfl (fun K hK => ?_) AllReadyH.nil)
              go_simp
              go_at_call 50
              refine (m2'.out _).mono ?_
              rintro _ Z3 ⟨rfl, hz3⟩
              have hz4 := bel_trans hz2 hz3
              refine hK.out _ _ ?_ (fun hHeld => ?_)
              · exact hS.out _ hz4
              clear hK K
              try simp only [Act.put, List.setIfInBounds_toArray, List.set_cons_zero, List.set_cons_succ]
              refine wpAnyH_take (i := 24) (oi := ({ dst := some 141, op := Go.Op.unOp Go.UnOp.not 4 (Go.Operand.tmp 140), type := 4, pos := "law.go:128", after := #[{ on := 23, ground := Go.Ground.data }, { on := 20, ground := Go.Ground.guard }], guard := some (20, false) } : Oper)) (v := ?_) rfl (by kernel_rfl) (by kernel_rfl) (by kernel_rfl) (fun _ _ _ h => h) (Or.inl ⟨by rfl, ?_⟩) (by assumption) ?_
              rotate_left
              · (intro w' hSw; (try dsimp only at hSw); go_simp; (try with_reducible rfl))
              try simp only [Act.put, List.setIfInBounds_toArray, List.set_cons_zero, List.set_cons_succ]
              refine wpAnyH_take (i := 25) (oi := ({ dst := some 142, op := Go.Op.pick (Go.Operand.tmp 137) (Go.Operand.const (Go.Value.bool true)) (Go.Operand.tmp 141), type := 4, pos := "law.go:128", after := #[{ on := 20, ground := Go.Ground.data }, { on := 24, ground := Go.Ground.data }, { on := 9, ground := Go.Ground.guard }], guard := some (9, true) } : Oper)) (v := ?_) rfl (by kernel_rfl) (by kernel_rfl) (by kernel_rfl) (fun _ _ _ h => h) (Or.inl ⟨by rfl, ?_⟩) (by assumption) ?_
              rotate_left
              · (intro w' hSw; (try dsimp only at hSw); go_simp; (try with_reducible rfl))
              try simp only [Act.put, List.setIfInBounds_toArray, List.set_cons_zero, List.set_cons_succ]
              refine wpAnyH_take (i := 26) (oi := ({ dst := some 143, op := Go.Op.pick (Go.Operand.tmp 126) (Go.Operand.tmp 142) (Go.Operand.const (Go.Value.bool false)), type := 4, pos := "law.go:128", after := #[{ on := 9, ground := Go.Ground.data }, { on := 25, ground := Go.Ground.data }], guard := none } : Oper)) (v := ?_) rfl (by kernel_rfl) (by kernel_rfl) (by kernel_rfl) (fun _ _ _ h => h) (Or.inl ⟨by rfl, ?_⟩) (by assumption) ?_
              rotate_left
              · (intro w' hSw; (try dsimp only at hSw); go_simp; (try with_reducible rfl))
              try simp only [Act.put, List.setIfInBounds_toArray, List.set_cons_zero, List.set_cons_succ]
              refine wpAnyH_take (i := 27) (oi := ({ dst := some 144, op := Go.Op.move (Go.Operand.tmp 143), type := 4, pos := "law.go:128", after := #[{ on := 26, ground := Go.Ground.data }, { on := 23, ground := Go.Ground.chain }], guard := none } : Oper)) (v := ?_) rfl (by kernel_rfl) (by kernel_rfl) (by kernel_rfl) (fun _ _ _ h => h) (Or.inl ⟨by rfl, ?_⟩) (by assumption) ?_
              rotate_left
              · (intro w' hSw; (try dsimp only at hSw); go_simp; (try with_reducible rfl))
              try simp only [Act.put, List.setIfInBounds_toArray, List.set_cons_zero, List.set_cons_succ]
              refine wpAnyH_take (i := 28) (oi := ({ dst := some 145, op := Go.Op.move (Go.Operand.tmp 0), type := 22, pos := "law.go:128", after := #[{ on := 27, ground := Go.Ground.guard }], guard := some (27, false) } : Oper)) (v := ?_) rfl (by kernel_rfl) (by kernel_rfl) (by kernel_rfl) (fun _ _ _ h => h) (Or.inl ⟨by rfl, ?_⟩) (by assumption) ?_
              rotate_left
              · (intro w' hSw; (try dsimp only at hSw); go_simp; (try with_reducible rfl))
              try simp only [Act.put, List.setIfInBounds_toArray, List.set_cons_zero, List.set_cons_succ]
              refine wpAnyH_take (i := 29) (oi := ({ dst := some 146, op := Go.Op.move (Go.Operand.tmp 13), type := 3, pos := "law.go:128", after := #[{ on := 27, ground := Go.Ground.guard }], guard := some (27, false) } : Oper)) (v := ?_) rfl (by kernel_rfl) (by kernel_rfl) (by kernel_rfl) (fun _ _ _ h => h) (Or.inl ⟨by rfl, ?_⟩) (by assumption) ?_
              rotate_left
              · (intro w' hSw; (try dsimp only at hSw); go_simp; (try with_reducible rfl))
              try simp only [Act.put, List.setIfInBounds_toArray, List.set_cons_zero, List.set_cons_succ]
              refine wpAnyH_take (i := 30) (oi := ({ dst := some 147, op := Go.Op.indexAddr 22 (Go.Operand.tmp 145) (Go.Operand.tmp 146), type := 0, pos := "law.go:128", after := #[{ on := 28, ground := Go.Ground.data }, { on := 29, ground := Go.Ground.data }, { on := 27, ground := Go.Ground.guard }], guard := some (27, false) } : Oper)) (v := ?_) rfl (by kernel_rfl) (by kernel_rfl) (by kernel_rfl) (fun _ _ _ h => h) (Or.inl ⟨by rfl, ?_⟩) (by assumption) ?_
              rotate_left
              · (intro w' hSw; (try dsimp only at hSw); go_simp; (try with_reducible rfl))
              try simp only [Act.put, List.setIfInBounds_toArray, List.set_cons_zero, List.set_cons_succ]
              refine wpAnyH_take (i := 31) (oi := ({ dst := some 148, op := Go.Op.load 3 (Go.Operand.tmp 147), type := 3, pos := "law.go:128", after := #[{ on := 30, ground := Go.Ground.data }, { on := 27, ground := Go.Ground.guard }], guard := some (27, false) } : Oper)) (v := ?_) rfl (by kernel_rfl) (by kernel_rfl) (by kernel_rfl) (fun _ _ _ h => h) (Or.inl ⟨by rfl, ?_⟩) (by assumption) ?_
              rotate_left
              · (intro w' hSw; (try dsimp only at hSw); go_simp; (try with_reducible rfl))
              try simp only [Act.put, List.setIfInBounds_toArray, List.set_cons_zero, List.set_cons_succ]
              refine wpAnyH_take (i := 32) (oi := ({ dst := some 149, op := Go.Op.move (Go.Operand.tmp 0), type := 22, pos := "law.go:128", after := #[{ on := 27, ground := Go.Ground.guard }], guard := some (27, false) } : Oper)) (v := ?_) rfl (by kernel_rfl) (by kernel_rfl) (by kernel_rfl) (fun _ _ _ h => h) (Or.inl ⟨by rfl, ?_⟩) (by assumption) ?_
              rotate_left
              · (intro w' hSw; (try dsimp only at hSw); go_simp; (try with_reducible rfl))
              try simp only [Act.put, List.setIfInBounds_toArray, List.set_cons_zero, List.set_cons_succ]
              refine wpAnyH_take (i := 33) (oi := ({ dst := some 150, op := Go.Op.move (Go.Operand.tmp 14), type := 3, pos := "law.go:128", after := #[{ on := 27, ground := Go.Ground.guard }], guard := some (27, false) } : Oper)) (v := ?_) rfl (by kernel_rfl) (by kernel_rfl) (by kernel_rfl) (fun _ _ _ h => h) (Or.inl ⟨by rfl, ?_⟩) (by assumption) ?_
              rotate_left
              · (intro w' hSw; (try dsimp only at hSw); go_simp; (try with_reducible rfl))
              try simp only [Act.put, List.setIfInBounds_toArray, List.set_cons_zero, List.set_cons_succ]
              refine wpAnyH_take (i := 34) (oi := ({ dst := some 151, op := Go.Op.indexAddr 22 (Go.Operand.tmp 149) (Go.Operand.tmp 150), type := 0, pos := "law.go:128", after := #[{ on := 32, ground := Go.Ground.data }, { on := 33, ground := Go.Ground.data }, { on := 27, ground := Go.Ground.guard }], guard := some (27, false) } : Oper)) (v := ?_) rfl (by kernel_rfl) (by kernel_rfl) (by kernel_rfl) (fun _ _ _ h => h) (Or.inl ⟨by rfl, ?_⟩) (by assumption) ?_
              rotate_left
              · (intro w' hSw; (try dsimp only at hSw); go_simp; (try with_reducible rfl))
              try simp only [Act.put, List.setIfInBounds_toArray, List.set_cons_zero, List.set_cons_succ]
              refine wpAnyH_take (i := 35) (oi := ({ dst := some 152, op := Go.Op.load 3 (Go.Operand.tmp 151), type := 3, pos := "law.go:128", after := #[{ on := 34, ground := Go.Ground.data }, { on := 27, ground := Go.Ground.guard }], guard := some (27, false) } : Oper)) (v := ?_) rfl (by kernel_rfl) (by kernel_rfl) (by kernel_rfl) (fun _ _ _ h => h) (Or.inl ⟨by rfl, ?_⟩) (by assumption) ?_
              rotate_left
              · (intro w' hSw; (try dsimp only at hSw); go_simp; (try with_reducible rfl))
              try simp only [Act.put, List.setIfInBounds_toArray, List.set_cons_zero, List.set_cons_succ]
              refine wpAnyH_take (i := 36) (oi := ({ dst := some 153, op := Go.Op.binOp Go.BinOp.eql 3 (Go.Operand.tmp 148) (Go.Operand.tmp 152) 3, type := 4, pos := "law.go:128", after := #[{ on := 31, ground := Go.Ground.data }, { on := 35, ground := Go.Ground.data }, { on := 27, ground := Go.Ground.guard }], guard := some (27, false) } : Oper)) (v := ?_) rfl (by kernel_rfl) (by kernel_rfl) (by kernel_rfl) (fun _ _ _ h => h) (Or.inl ⟨by rfl, ?_⟩) (by assumption) ?_
              rotate_left
              · (intro w' hSw; (try dsimp only at hSw); go_simp; (try with_reducible rfl))
              try simp only [Act.put, List.setIfInBounds_toArray, List.set_cons_zero, List.set_cons_succ]
              refine wpAnyH_take (i := 37) (oi := ({ dst := some 154, op := Go.Op.move (Go.Operand.tmp 153), type := 4, pos := "law.go:128", after := #[{ on := 36, ground := Go.Ground.data }, { on := 27, ground := Go.Ground.chain }, { on := 27, ground := Go.Ground.guard }], guard := some (27, false) } : Oper)) (v := ?_) rfl (by kernel_rfl) (by kernel_rfl) (by kernel_rfl) (fun _ _ _ h => h) (Or.inl ⟨by rfl, ?_⟩) (by assumption) ?_
              rotate_left
              · (intro w' hSw; (try dsimp only at hSw); go_simp; (try with_reducible rfl))
              try simp only [Act.put, List.setIfInBounds_toArray, List.set_cons_zero, List.set_cons_succ]
              refine wpAnyH_take (i := 38) (oi := ({ dst := some 155, op := Go.Op.move (Go.Operand.tmp 9), type := 25, pos := "law.go:128", after := #[{ on := 37, ground := Go.Ground.guard }], guard := some (37, true) } : Oper)) (v := undef) rfl (by kernel_rfl) (by kernel_rfl) (by kernel_rfl) (fun _ _ _ h => h) (Or.inr ⟨by rfl, rfl⟩) (by assumption) ?_
              try simp only [Act.put, List.setIfInBounds_toArray, List.set_cons_zero, List.set_cons_succ]
              refine wpAnyH_take (i := 39) (oi := ({ dst := some 156, op := Go.Op.move (Go.Operand.tmp 13), type := 3, pos := "law.go:128", after := #[{ on := 37, ground := Go.Ground.guard }], guard := some (37, true) } : Oper)) (v := undef) rfl (by kernel_rfl) (by kernel_rfl) (by kernel_rfl) (fun _ _ _ h => h) (Or.inr ⟨by rfl, rfl⟩) (by assumption) ?_
              try simp only [Act.put, List.setIfInBounds_toArray, List.set_cons_zero, List.set_cons_succ]
              refine wpAnyH_take (i := 40) (oi := ({ dst := some 157, op := Go.Op.indexAddr 25 (Go.Operand.tmp 155) (Go.Operand.tmp 156), type := 0, pos := "law.go:128", after := #[{ on := 38, ground := Go.Ground.data }, { on := 39, ground := Go.Ground.data }, { on := 37, ground := Go.Ground.guard }], guard := some (37, true) } : Oper)) (v := undef) rfl (by kernel_rfl) (by kernel_rfl) (by kernel_rfl) (fun _ _ _ h => h) (Or.inr ⟨by rfl, rfl⟩) (by assumption) ?_
              try simp only [Act.put, List.setIfInBounds_toArray, List.set_cons_zero, List.set_cons_succ]
              refine wpAnyH_take (i := 41) (oi := ({ dst := some 158, op := Go.Op.load 37 (Go.Operand.tmp 157), type := 37, pos := "law.go:128", after := #[{ on := 40, ground := Go.Ground.data }, { on := 37, ground := Go.Ground.guard }], guard := some (37, true) } : Oper)) (v := undef) rfl (by kernel_rfl) (by kernel_rfl) (by kernel_rfl) (fun _ _ _ h => h) (Or.inr ⟨by rfl, rfl⟩) (by assumption) ?_
              try simp only [Act.put, List.setIfInBounds_toArray, List.set_cons_zero, List.set_cons_succ]
              refine wpAnyH_take (i := 42) (oi := ({ dst := some 159, op := Go.Op.move (Go.Operand.tmp 9), type := 25, pos := "law.go:128", after := #[{ on := 37, ground := Go.Ground.guard }], guard := some (37, true) } : Oper)) (v := undef) rfl (by kernel_rfl) (by kernel_rfl) (by kernel_rfl) (fun _ _ _ h => h) (Or.inr ⟨by rfl, rfl⟩) (by assumption) ?_
              try simp only [Act.put, List.setIfInBounds_toArray, List.set_cons_zero, List.set_cons_succ]
              refine wpAnyH_take (i := 43) (oi := ({ dst := some 160, op := Go.Op.move (Go.Operand.tmp 14), type := 3, pos := "law.go:128", after := #[{ on := 37, ground := Go.Ground.guard }], guard := some (37, true) } : Oper)) (v := undef) rfl (by kernel_rfl) (by kernel_rfl) (by kernel_rfl) (fun _ _ _ h => h) (Or.inr ⟨by rfl, rfl⟩) (by assumption) ?_
              try simp only [Act.put, List.setIfInBounds_toArray, List.set_cons_zero, List.set_cons_succ]
              refine wpAnyH_take (i := 44) (oi := ({ dst := some 161, op := Go.Op.indexAddr 25 (Go.Operand.tmp 159) (Go.Operand.tmp 160), type := 0, pos := "law.go:128", after := #[{ on := 42, ground := Go.Ground.data }, { on := 43, ground := Go.Ground.data }, { on := 37, ground := Go.Ground.guard }], guard := some (37, true) } : Oper)) (v := undef) rfl (by kernel_rfl) (by kernel_rfl) (by kernel_rfl) (fun _ _ _ h => h) (Or.inr ⟨by rfl, rfl⟩) (by assumption) ?_
              try simp only [Act.put, List.setIfInBounds_toArray, List.set_cons_zero, List.set_cons_succ]
              refine wpAnyH_take (i := 45) (oi := ({ dst := some 162, op := Go.Op.load 37 (Go.Operand.tmp 161), type := 37, pos := "law.go:128", after := #[{ on := 44, ground := Go.Ground.data }, { on := 37, ground := Go.Ground.guard }], guard := some (37, true) } : Oper)) (v := undef) rfl (by kernel_rfl) (by kernel_rfl) (by kernel_rfl) (fun _ _ _ h => h) (Or.inr ⟨by rfl, rfl⟩) (by assumption) ?_
              try simp only [Act.put, List.setIfInBounds_toArray, List.set_cons_zero, List.set_cons_succ]
              refine wpAnyH_take (i := 46) (oi := ({ dst := some 163, op := Go.Op.binOp Go.BinOp.neq 37 (Go.Operand.tmp 158) (Go.Operand.tmp 162) 37, type := 4, pos := "law.go:128", after := #[{ on := 41, ground := Go.Ground.data }, { on := 45, ground := Go.Ground.data }, { on := 37, ground := Go.Ground.guard }], guard := some (37, true) } : Oper)) (v := undef) rfl (by kernel_rfl) (by kernel_rfl) (by kernel_rfl) (fun _ _ _ h => h) (Or.inr ⟨by rfl, rfl⟩) (by assumption) ?_
              try simp only [Act.put, List.setIfInBounds_toArray, List.set_cons_zero, List.set_cons_succ]
              refine wpAnyH_take (i := 47) (oi := ({ dst := some 164, op := Go.Op.pick (Go.Operand.tmp 154) (Go.Operand.tmp 163) (Go.Operand.const (Go.Value.bool false)), type := 4, pos := "law.go:128", after := #[{ on := 37, ground := Go.Ground.data }, { on := 46, ground := Go.Ground.data }, { on := 27, ground := Go.Ground.guard }], guard := some (27, false) } : Oper)) (v := ?_) rfl (by kernel_rfl) (by kernel_rfl) (by kernel_rfl) (fun _ _ _ h => h) (Or.inl ⟨by rfl, ?_⟩) (by assumption) ?_
              rotate_left
              · (intro w' hSw; (try dsimp only at hSw); go_simp; (try with_reducible rfl))
              try simp only [Act.put, List.setIfInBounds_toArray, List.set_cons_zero, List.set_cons_succ]
              refine wpAnyH_take (i := 48) (oi := ({ dst := some 165, op := Go.Op.pick (Go.Operand.tmp 144) (Go.Operand.const (Go.Value.bool true)) (Go.Operand.tmp 164), type := 4, pos := "law.go:128", after := #[{ on := 27, ground := Go.Ground.data }, { on := 47, ground := Go.Ground.data }], guard := none } : Oper)) (v := ?_) rfl (by kernel_rfl) (by kernel_rfl) (by kernel_rfl) (fun _ _ _ h => h) (Or.inl ⟨by rfl, ?_⟩) (by assumption) ?_
              rotate_left
              · (intro w' hSw; (try dsimp only at hSw); go_simp; (try with_reducible rfl))
              try simp only [Act.put, List.setIfInBounds_toArray, List.set_cons_zero, List.set_cons_succ]
              refine wpAnyH_done (by kernel_rfl) ?_ _
              have hfin := Lib.hid (hup2.out _ hz4)
              go_wp2_with fail
              go_roundw
              case rel => exact ⟨k + 1, by omega, by go_num, hfin.out⟩
              case measure => simp [intOf]; omega
            · have hab := hsik.out heq
              subst heq
              have hab1 : an = bn := congrArg Rt.n hab
              have hab2 : ad = bd := congrArg Rt.d hab
              subst hab1 hab2
              have he := e2_self ⟨an, ad⟩
              simp only at he
              have m1' := Lib.hid (m1.out (by omega))
              have m2' := Lib.hid (m2.out (by omega))
              replace hS := Lib.hid hS
              go_wp2_with fail
              refine wp_region_held_drew (S := fun X => X.cell? ⟨ba, oa + i, none⟩ = some (.int .i64 x1) ∧ X.cell? ⟨ba, oa + k, none⟩ = some (.int .i64 x1) ∧ X.cell? ⟨g, i * 2, none⟩ = some (.int .i64 an) ∧ X.cell? ⟨g, i * 2 + 1, none⟩ = some (.int .i64 ad) ∧ X.cell? ⟨g, k * 2, none⟩ = some (.int .i64 an) ∧ X.cell? ⟨g, k * 2 + 1, none⟩ = some (.int .i64 ad) ∧ X.cell? ⟨c1, 0, none⟩ = some (.int .i64 la) ∧ X.cell? ⟨c1, 1, none⟩ = some (.int .i64 ad) ∧ X.cell? ⟨c2, 0, none⟩ = some (.int .i64 lb) ∧ X.cell? ⟨c2, 1, none⟩ = some (.int .i64 ad)) (by kernel_rfl) (t0) (fun hHeld => ?_)
              refine wpAnyH_take (i := 0) (oi := ({ dst := some 117, op := Go.Op.move (Go.Operand.tmp 0), type := 22, pos := "law.go:128", after := #[], guard := none } : Oper)) (v := ?_) rfl (by kernel_rfl) (by kernel_rfl) (by kernel_rfl) (fun _ _ _ h => h) (Or.inl ⟨by rfl, ?_⟩) (by assumption) ?_
              rotate_left
              · (intro w' hSw; (try dsimp only at hSw); go_simp; (try with_reducible rfl))
              try simp only [Act.put, List.setIfInBounds_toArray, List.set_cons_zero, List.set_cons_succ]
              refine wpAnyH_take (i := 1) (oi := ({ dst := some 118, op := Go.Op.move (Go.Operand.tmp 13), type := 3, pos := "law.go:128", after := #[], guard := none } : Oper)) (v := ?_) rfl (by kernel_rfl) (by kernel_rfl) (by kernel_rfl) (fun _ _ _ h => h) (Or.inl ⟨by rfl, ?_⟩) (by assumption) ?_
              rotate_left
              · (intro w' hSw; (try dsimp only at hSw); go_simp; (try with_reducible rfl))
              try simp only [Act.put, List.setIfInBounds_toArray, List.set_cons_zero, List.set_cons_succ]
              refine wpAnyH_take (i := 2) (oi := ({ dst := some 119, op := Go.Op.indexAddr 22 (Go.Operand.tmp 117) (Go.Operand.tmp 118), type := 0, pos := "law.go:128", after := #[{ on := 0, ground := Go.Ground.data }, { on := 1, ground := Go.Ground.data }], guard := none } : Oper)) (v := ?_) rfl (by kernel_rfl) (by kernel_rfl) (by kernel_rfl) (fun _ _ _ h => h) (Or.inl ⟨by rfl, ?_⟩) (by assumption) ?_
              rotate_left
              · (intro w' hSw; (try dsimp only at hSw); go_simp; (try with_reducible rfl))
              try simp only [Act.put, List.setIfInBounds_toArray, List.set_cons_zero, List.set_cons_succ]
              refine wpAnyH_take (i := 3) (oi := ({ dst := some 120, op := Go.Op.load 3 (Go.Operand.tmp 119), type := 3, pos := "law.go:128", after := #[{ on := 2, ground := Go.Ground.data }], guard := none } : Oper)) (v := ?_) rfl (by kernel_rfl) (by kernel_rfl) (by kernel_rfl) (fun _ _ _ h => h) (Or.inl ⟨by rfl, ?_⟩) (by assumption) ?_
              rotate_left
              · (intro w' hSw; (try dsimp only at hSw); go_simp; (try with_reducible rfl))
              try simp only [Act.put, List.setIfInBounds_toArray, List.set_cons_zero, List.set_cons_succ]
              refine wpAnyH_take (i := 4) (oi := ({ dst := some 121, op := Go.Op.move (Go.Operand.tmp 0), type := 22, pos := "law.go:128", after := #[], guard := none } : Oper)) (v := ?_) rfl (by kernel_rfl) (by kernel_rfl) (by kernel_rfl) (fun _ _ _ h => h) (Or.inl ⟨by rfl, ?_⟩) (by assumption) ?_
              rotate_left
              · (intro w' hSw; (try dsimp only at hSw); go_simp; (try with_reducible rfl))
              try simp only [Act.put, List.setIfInBounds_toArray, List.set_cons_zero, List.set_cons_succ]
              refine wpAnyH_take (i := 5) (oi := ({ dst := some 122, op := Go.Op.move (Go.Operand.tmp 14), type := 3, pos := "law.go:128", after := #[], guard := none } : Oper)) (v := ?_) rfl (by kernel_rfl) (by kernel_rfl) (by kernel_rfl) (fun _ _ _ h => h) (Or.inl ⟨by rfl, ?_⟩) (by assumption) ?_
              rotate_left
              · (intro w' hSw; (try dsimp only at hSw); go_simp; (try with_reducible rfl))
              try simp only [Act.put, List.setIfInBounds_toArray, List.set_cons_zero, List.set_cons_succ]
              refine wpAnyH_take (i := 6) (oi := ({ dst := some 123, op := Go.Op.indexAddr 22 (Go.Operand.tmp 121) (Go.Operand.tmp 122), type := 0, pos := "law.go:128", after := #[{ on := 4, ground := Go.Ground.data }, { on := 5, ground := Go.Ground.data }], guard := none } : Oper)) (v := ?_) rfl (by kernel_rfl) (by kernel_rfl) (by kernel_rfl) (fun _ _ _ h => h) (Or.inl ⟨by rfl, ?_⟩) (by assumption) ?_
              rotate_left
              · (intro w' hSw; (try dsimp only at hSw); go_simp; (try with_reducible rfl))
              try simp only [Act.put, List.setIfInBounds_toArray, List.set_cons_zero, List.set_cons_succ]
              refine wpAnyH_take (i := 7) (oi := ({ dst := some 124, op := Go.Op.load 3 (Go.Operand.tmp 123), type := 3, pos := "law.go:128", after := #[{ on := 6, ground := Go.Ground.data }], guard := none } : Oper)) (v := ?_) rfl (by kernel_rfl) (by kernel_rfl) (by kernel_rfl) (fun _ _ _ h => h) (Or.inl ⟨by rfl, ?_⟩) (by assumption) ?_
              rotate_left
              · (intro w' hSw; (try dsimp only at hSw); go_simp; (try with_reducible rfl))
              try simp only [Act.put, List.setIfInBounds_toArray, List.set_cons_zero, List.set_cons_succ]
              refine wpAnyH_take (i := 8) (oi := ({ dst := some 125, op := Go.Op.binOp Go.BinOp.leq 3 (Go.Operand.tmp 120) (Go.Operand.tmp 124) 3, type := 4, pos := "law.go:128", after := #[{ on := 3, ground := Go.Ground.data }, { on := 7, ground := Go.Ground.data }], guard := none } : Oper)) (v := ?_) rfl (by kernel_rfl) (by kernel_rfl) (by kernel_rfl) (fun _ _ _ h => h) (Or.inl ⟨by rfl, ?_⟩) (by assumption) ?_
              rotate_left
              · (intro w' hSw; (try dsimp only at hSw); go_simp; (try with_reducible rfl))
              try simp only [Act.put, List.setIfInBounds_toArray, List.set_cons_zero, List.set_cons_succ]
              refine wpAnyH_take (i := 9) (oi := ({ dst := some 126, op := Go.Op.move (Go.Operand.tmp 125), type := 4, pos := "law.go:128", after := #[{ on := 8, ground := Go.Ground.data }], guard := none } : Oper)) (v := ?_) rfl (by kernel_rfl) (by kernel_rfl) (by kernel_rfl) (fun _ _ _ h => h) (Or.inl ⟨by rfl, ?_⟩) (by assumption) ?_
              rotate_left
              · (intro w' hSw; (try dsimp only at hSw); go_simp; (try with_reducible rfl))
              try simp only [Act.put, List.setIfInBounds_toArray, List.set_cons_zero, List.set_cons_succ]
              refine wpAnyH_take (i := 10) (oi := ({ dst := some 127, op := Go.Op.move (Go.Operand.tmp 9), type := 25, pos := "law.go:128", after := #[{ on := 9, ground := Go.Ground.guard }], guard := some (9, true) } : Oper)) (v := ?_) rfl (by kernel_rfl) (by kernel_rfl) (by kernel_rfl) (fun _ _ _ h => h) (Or.inl ⟨by rfl, ?_⟩) (by assumption) ?_
              rotate_left
              · (intro w' hSw; (try dsimp only at hSw); go_simp; (try with_reducible rfl))
              try simp only [Act.put, List.setIfInBounds_toArray, List.set_cons_zero, List.set_cons_succ]
              refine wpAnyH_take (i := 11) (oi := ({ dst := some 128, op := Go.Op.move (Go.Operand.tmp 13), type := 3, pos := "law.go:128", after := #[{ on := 9, ground := Go.Ground.guard }], guard := some (9, true) } : Oper)) (v := ?_) rfl (by kernel_rfl) (by kernel_rfl) (by kernel_rfl) (fun _ _ _ h => h) (Or.inl ⟨by rfl, ?_⟩) (by assumption) ?_
              rotate_left
              · (intro w' hSw; (try dsimp only at hSw); go_simp; (try with_reducible rfl))
              try simp only [Act.put, List.setIfInBounds_toArray, List.set_cons_zero, List.set_cons_succ]
              refine wpAnyH_take (i := 12) (oi := ({ dst := some 129, op := Go.Op.indexAddr 25 (Go.Operand.tmp 127) (Go.Operand.tmp 128), type := 0, pos := "law.go:128", after := #[{ on := 10, ground := Go.Ground.data }, { on := 11, ground := Go.Ground.data }, { on := 9, ground := Go.Ground.guard }], guard := some (9, true) } : Oper)) (v := ?_) rfl (by kernel_rfl) (by kernel_rfl) (by kernel_rfl) (fun _ _ _ h => h) (Or.inl ⟨by rfl, ?_⟩) (by assumption) ?_
              rotate_left
              · (intro w' hSw; (try dsimp only at hSw); go_simp; (try with_reducible rfl))
              try simp only [Act.put, List.setIfInBounds_toArray, List.set_cons_zero, List.set_cons_succ]
              refine wpAnyH_take (i := 13) (oi := ({ dst := some 130, op := Go.Op.load 37 (Go.Operand.tmp 129), type := 37, pos := "law.go:128", after := #[{ on := 12, ground := Go.Ground.data }, { on := 9, ground := Go.Ground.guard }], guard := some (9, true) } : Oper)) (v := ?_) rfl (by kernel_rfl) (by kernel_rfl) (by kernel_rfl) (fun _ _ _ h => h) (Or.inl ⟨by rfl, ?_⟩) (by assumption) ?_
              rotate_left
              · (intro w' hSw; (try dsimp only at hSw); go_simp; (try with_reducible rfl))
              try simp only [Act.put, List.setIfInBounds_toArray, List.set_cons_zero, List.set_cons_succ]
              refine wpAnyH_take (i := 14) (oi := ({ dst := some 131, op := Go.Op.move (Go.Operand.tmp 9), type := 25, pos := "law.go:128", after := #[{ on := 9, ground := Go.Ground.guard }], guard := some (9, true) } : Oper)) (v := ?_) rfl (by kernel_rfl) (by kernel_rfl) (by kernel_rfl) (fun _ _ _ h => h) (Or.inl ⟨by rfl, ?_⟩) (by assumption) ?_
              rotate_left
              · (intro w' hSw; (try dsimp only at hSw); go_simp; (try with_reducible rfl))
              try simp only [Act.put, List.setIfInBounds_toArray, List.set_cons_zero, List.set_cons_succ]
              refine wpAnyH_take (i := 15) (oi := ({ dst := some 132, op := Go.Op.move (Go.Operand.tmp 14), type := 3, pos := "law.go:128", after := #[{ on := 9, ground := Go.Ground.guard }], guard := some (9, true) } : Oper)) (v := ?_) rfl (by kernel_rfl) (by kernel_rfl) (by kernel_rfl) (fun _ _ _ h => h) (Or.inl ⟨by rfl, ?_⟩) (by assumption) ?_
              rotate_left
              · (intro w' hSw; (try dsimp only at hSw); go_simp; (try with_reducible rfl))
              try simp only [Act.put, List.setIfInBounds_toArray, List.set_cons_zero, List.set_cons_succ]
              refine wpAnyH_take (i := 16) (oi := ({ dst := some 133, op := Go.Op.indexAddr 25 (Go.Operand.tmp 131) (Go.Operand.tmp 132), type := 0, pos := "law.go:128", after := #[{ on := 14, ground := Go.Ground.data }, { on := 15, ground := Go.Ground.data }, { on := 9, ground := Go.Ground.guard }], guard := some (9, true) } : Oper)) (v := ?_) rfl (by kernel_rfl) (by kernel_rfl) (by kernel_rfl) (fun _ _ _ h => h) (Or.inl ⟨by rfl, ?_⟩) (by assumption) ?_
              rotate_left
              · (intro w' hSw; (try dsimp only at hSw); go_simp; (try with_reducible rfl))
              try simp only [Act.put, List.setIfInBounds_toArray, List.set_cons_zero, List.set_cons_succ]
              refine wpAnyH_take (i := 17) (oi := ({ dst := some 134, op := Go.Op.load 37 (Go.Operand.tmp 133), type := 37, pos := "law.go:128", after := #[{ on := 16, ground := Go.Ground.data }, { on := 9, ground := Go.Ground.guard }], guard := some (9, true) } : Oper)) (v := ?_) rfl (by kernel_rfl) (by kernel_rfl) (by kernel_rfl) (fun _ _ _ h => h) (Or.inl ⟨by rfl, ?_⟩) (by assumption) ?_
              rotate_left
              · (intro w' hSw; (try dsimp only at hSw); go_simp; (try with_reducible rfl))
              try simp only [Act.put, List.setIfInBounds_toArray, List.set_cons_zero, List.set_cons_succ]
              refine wpAnyH_ready (rs := [18]) (by kernel_rfl) (by simp) (AllReadyH.cons (o := ({ dst := some 135, op := Go.Op.call { callee := Go.Callee.value (Go.Operand.func 50), args := #[Go.Operand.tmp 130, Go.Operand.tmp 134], argTypes := #[37, 37] }, type := 4, pos := "law.go:128", after := #[{ on := 13, ground := Go.Ground.data }, { on := 17, ground := Go.Ground.data }, { on := 9, ground := Go.Ground.chain }, { on := 9, ground := Go.Ground.guard }], guard := some (9, true) } : Oper)) rfl (fun K hK => ?_) AllReadyH.nil)
              go_simp
              go_at_call 50
              refine (m1'.out _).mono ?_
              rintro _ Z1 ⟨rfl, hz1⟩
              have hz2 := bel_trans h0 hz1
              refine hK.out _ _ ?_ (fun hHeld => ?_)
              · exact hS.out _ hz2
              clear hK K
              try simp only [Act.put, List.setIfInBounds_toArray, List.set_cons_zero, List.set_cons_succ]
              refine wpAnyH_take (i := 19) (oi := ({ dst := some 136, op := Go.Op.unOp Go.UnOp.not 4 (Go.Operand.tmp 135), type := 4, pos := "law.go:128", after := #[{ on := 18, ground := Go.Ground.data }, { on := 9, ground := Go.Ground.guard }], guard := some (9, true) } : Oper)) (v := ?_) rfl (by kernel_rfl) (by kernel_rfl) (by kernel_rfl) (fun _ _ _ h => h) (Or.inl ⟨by rfl, ?_⟩) (by assumption) ?_
              rotate_left
              · (intro w' hSw; (try dsimp only at hSw); go_simp; (try with_reducible rfl))
              try simp only [Act.put, List.setIfInBounds_toArray, List.set_cons_zero, List.set_cons_succ]
              refine wpAnyH_take (i := 20) (oi := ({ dst := some 137, op := Go.Op.move (Go.Operand.tmp 136), type := 4, pos := "law.go:128", after := #[{ on := 19, ground := Go.Ground.data }, { on := 18, ground := Go.Ground.chain }, { on := 9, ground := Go.Ground.guard }], guard := some (9, true) } : Oper)) (v := ?_) rfl (by kernel_rfl) (by kernel_rfl) (by kernel_rfl) (fun _ _ _ h => h) (Or.inl ⟨by rfl, ?_⟩) (by assumption) ?_
              rotate_left
              · (intro w' hSw; (try dsimp only at hSw); go_simp; (try with_reducible rfl))
              try simp only [Act.put, List.setIfInBounds_toArray, List.set_cons_zero, List.set_cons_succ]
              refine wpAnyH_take (i := 21) (oi := ({ dst := some 138, op := Go.Op.load 37 (Go.Operand.tmp 15), type := 37, pos := "law.go:128", after := #[{ on := 20, ground := Go.Ground.guard }], guard := some (20, false) } : Oper)) (v := ?_) rfl (by kernel_rfl) (by kernel_rfl) (by kernel_rfl) (fun _ _ _ h => h) (Or.inl ⟨by rfl, ?_⟩) (by assumption) ?_
              rotate_left
              · (intro w' hSw; (try dsimp only at hSw); go_simp; (try with_reducible rfl))
              try simp only [Act.put, List.setIfInBounds_toArray, List.set_cons_zero, List.set_cons_succ]
              refine wpAnyH_take (i := 22) (oi := ({ dst := some 139, op := Go.Op.load 37 (Go.Operand.tmp 16), type := 37, pos := "law.go:128", after := #[{ on := 20, ground := Go.Ground.guard }], guard := some (20, false) } : Oper)) (v := ?_) rfl (by kernel_rfl) (by kernel_rfl) (by kernel_rfl) (fun _ _ _ h => h) (Or.inl ⟨by rfl, ?_⟩) (by assumption) ?_
              rotate_left
              · (intro w' hSw; (try dsimp only at hSw); go_simp; (try with_reducible rfl))
              try simp only [Act.put, List.setIfInBounds_toArray, List.set_cons_zero, List.set_cons_succ]
              refine wpAnyH_ready (rs := [23]) (by kernel_rfl) (by simp) (AllReadyH.cons (o := ({ dst := some 140, op := Go.Op.call { callee := Go.Callee.value (Go.Operand.func 50), args := #[Go.Operand.tmp 138, Go.Operand.tmp 139], argTypes := #[37, 37] }, type := 4, pos := "law.go:128", after := #[{ on := 21, ground := Go.Ground.data }, { on := 22, ground := Go.Ground.data }, { on := 20, ground := Go.Ground.chain }, { on := 20, ground := Go.Ground.guard }], guard := some (20, false) } : Oper)) rfl (fun K hK => ?_) AllReadyH.nil)
              go_simp
              go_at_call 50
              refine (m2'.out _).mono ?_
              rintro _ Z3 ⟨rfl, hz3⟩
              have hz4 := bel_trans hz2 hz3
              refine hK.out _ _ ?_ (fun hHeld => ?_)
              · exact hS.out _ hz4
              clear hK K
              try simp only [Act.put, List.setIfInBounds_toArray, List.set_cons_zero, List.set_cons_succ]
              refine wpAnyH_take (i := 24) (oi := ({ dst := some 141, op := Go.Op.unOp Go.UnOp.not 4 (Go.Operand.tmp 140), type := 4, pos := "law.go:128", after := #[{ on := 23, ground := Go.Ground.data }, { on := 20, ground := Go.Ground.guard }], guard := some (20, false) } : Oper)) (v := ?_) rfl (by kernel_rfl) (by kernel_rfl) (by kernel_rfl) (fun _ _ _ h => h) (Or.inl ⟨by rfl, ?_⟩) (by assumption) ?_
              rotate_left
              · (intro w' hSw; (try dsimp only at hSw); go_simp; (try with_reducible rfl))
              try simp only [Act.put, List.setIfInBounds_toArray, List.set_cons_zero, List.set_cons_succ]
              refine wpAnyH_take (i := 25) (oi := ({ dst := some 142, op := Go.Op.pick (Go.Operand.tmp 137) (Go.Operand.const (Go.Value.bool true)) (Go.Operand.tmp 141), type := 4, pos := "law.go:128", after := #[{ on := 20, ground := Go.Ground.data }, { on := 24, ground := Go.Ground.data }, { on := 9, ground := Go.Ground.guard }], guard := some (9, true) } : Oper)) (v := ?_) rfl (by kernel_rfl) (by kernel_rfl) (by kernel_rfl) (fun _ _ _ h => h) (Or.inl ⟨by rfl, ?_⟩) (by assumption) ?_
              rotate_left
              · (intro w' hSw; (try dsimp only at hSw); go_simp; (try with_reducible rfl))
              try simp only [Act.put, List.setIfInBounds_toArray, List.set_cons_zero, List.set_cons_succ]
              refine wpAnyH_take (i := 26) (oi := ({ dst := some 143, op := Go.Op.pick (Go.Operand.tmp 126) (Go.Operand.tmp 142) (Go.Operand.const (Go.Value.bool false)), type := 4, pos := "law.go:128", after := #[{ on := 9, ground := Go.Ground.data }, { on := 25, ground := Go.Ground.data }], guard := none } : Oper)) (v := ?_) rfl (by kernel_rfl) (by kernel_rfl) (by kernel_rfl) (fun _ _ _ h => h) (Or.inl ⟨by rfl, ?_⟩) (by assumption) ?_
              rotate_left
              · (intro w' hSw; (try dsimp only at hSw); go_simp; (try with_reducible rfl))
              try simp only [Act.put, List.setIfInBounds_toArray, List.set_cons_zero, List.set_cons_succ]
              refine wpAnyH_take (i := 27) (oi := ({ dst := some 144, op := Go.Op.move (Go.Operand.tmp 143), type := 4, pos := "law.go:128", after := #[{ on := 26, ground := Go.Ground.data }, { on := 23, ground := Go.Ground.chain }], guard := none } : Oper)) (v := ?_) rfl (by kernel_rfl) (by kernel_rfl) (by kernel_rfl) (fun _ _ _ h => h) (Or.inl ⟨by rfl, ?_⟩) (by assumption) ?_
              rotate_left
              · (intro w' hSw; (try dsimp only at hSw); go_simp; (try with_reducible rfl))
              try simp only [Act.put, List.setIfInBounds_toArray, List.set_cons_zero, List.set_cons_succ]
              refine wpAnyH_take (i := 28) (oi := ({ dst := some 145, op := Go.Op.move (Go.Operand.tmp 0), type := 22, pos := "law.go:128", after := #[{ on := 27, ground := Go.Ground.guard }], guard := some (27, false) } : Oper)) (v := ?_) rfl (by kernel_rfl) (by kernel_rfl) (by kernel_rfl) (fun _ _ _ h => h) (Or.inl ⟨by rfl, ?_⟩) (by assumption) ?_
              rotate_left
              · (intro w' hSw; (try dsimp only at hSw); go_simp; (try with_reducible rfl))
              try simp only [Act.put, List.setIfInBounds_toArray, List.set_cons_zero, List.set_cons_succ]
              refine wpAnyH_take (i := 29) (oi := ({ dst := some 146, op := Go.Op.move (Go.Operand.tmp 13), type := 3, pos := "law.go:128", after := #[{ on := 27, ground := Go.Ground.guard }], guard := some (27, false) } : Oper)) (v := ?_) rfl (by kernel_rfl) (by kernel_rfl) (by kernel_rfl) (fun _ _ _ h => h) (Or.inl ⟨by rfl, ?_⟩) (by assumption) ?_
              rotate_left
              · (intro w' hSw; (try dsimp only at hSw); go_simp; (try with_reducible rfl))
              try simp only [Act.put, List.setIfInBounds_toArray, List.set_cons_zero, List.set_cons_succ]
              refine wpAnyH_take (i := 30) (oi := ({ dst := some 147, op := Go.Op.indexAddr 22 (Go.Operand.tmp 145) (Go.Operand.tmp 146), type := 0, pos := "law.go:128", after := #[{ on := 28, ground := Go.Ground.data }, { on := 29, ground := Go.Ground.data }, { on := 27, ground := Go.Ground.guard }], guard := some (27, false) } : Oper)) (v := ?_) rfl (by kernel_rfl) (by kernel_rfl) (by kernel_rfl) (fun _ _ _ h => h) (Or.inl ⟨by rfl, ?_⟩) (by assumption) ?_
              rotate_left
              · (intro w' hSw; (try dsimp only at hSw); go_simp; (try with_reducible rfl))
              try simp only [Act.put, List.setIfInBounds_toArray, List.set_cons_zero, List.set_cons_succ]
              refine wpAnyH_take (i := 31) (oi := ({ dst := some 148, op := Go.Op.load 3 (Go.Operand.tmp 147), type := 3, pos := "law.go:128", after := #[{ on := 30, ground := Go.Ground.data }, { on := 27, ground := Go.Ground.guard }], guard := some (27, false) } : Oper)) (v := ?_) rfl (by kernel_rfl) (by kernel_rfl) (by kernel_rfl) (fun _ _ _ h => h) (Or.inl ⟨by rfl, ?_⟩) (by assumption) ?_
              rotate_left
              · (intro w' hSw; (try dsimp only at hSw); go_simp; (try with_reducible rfl))
              try simp only [Act.put, List.setIfInBounds_toArray, List.set_cons_zero, List.set_cons_succ]
              refine wpAnyH_take (i := 32) (oi := ({ dst := some 149, op := Go.Op.move (Go.Operand.tmp 0), type := 22, pos := "law.go:128", after := #[{ on := 27, ground := Go.Ground.guard }], guard := some (27, false) } : Oper)) (v := ?_) rfl (by kernel_rfl) (by kernel_rfl) (by kernel_rfl) (fun _ _ _ h => h) (Or.inl ⟨by rfl, ?_⟩) (by assumption) ?_
              rotate_left
              · (intro w' hSw; (try dsimp only at hSw); go_simp; (try with_reducible rfl))
              try simp only [Act.put, List.setIfInBounds_toArray, List.set_cons_zero, List.set_cons_succ]
              refine wpAnyH_take (i := 33) (oi := ({ dst := some 150, op := Go.Op.move (Go.Operand.tmp 14), type := 3, pos := "law.go:128", after := #[{ on := 27, ground := Go.Ground.guard }], guard := some (27, false) } : Oper)) (v := ?_) rfl (by kernel_rfl) (by kernel_rfl) (by kernel_rfl) (fun _ _ _ h => h) (Or.inl ⟨by rfl, ?_⟩) (by assumption) ?_
              rotate_left
              · (intro w' hSw; (try dsimp only at hSw); go_simp; (try with_reducible rfl))
              try simp only [Act.put, List.setIfInBounds_toArray, List.set_cons_zero, List.set_cons_succ]
              refine wpAnyH_take (i := 34) (oi := ({ dst := some 151, op := Go.Op.indexAddr 22 (Go.Operand.tmp 149) (Go.Operand.tmp 150), type := 0, pos := "law.go:128", after := #[{ on := 32, ground := Go.Ground.data }, { on := 33, ground := Go.Ground.data }, { on := 27, ground := Go.Ground.guard }], guard := some (27, false) } : Oper)) (v := ?_) rfl (by kernel_rfl) (by kernel_rfl) (by kernel_rfl) (fun _ _ _ h => h) (Or.inl ⟨by rfl, ?_⟩) (by assumption) ?_
              rotate_left
              · (intro w' hSw; (try dsimp only at hSw); go_simp; (try with_reducible rfl))
              try simp only [Act.put, List.setIfInBounds_toArray, List.set_cons_zero, List.set_cons_succ]
              refine wpAnyH_take (i := 35) (oi := ({ dst := some 152, op := Go.Op.load 3 (Go.Operand.tmp 151), type := 3, pos := "law.go:128", after := #[{ on := 34, ground := Go.Ground.data }, { on := 27, ground := Go.Ground.guard }], guard := some (27, false) } : Oper)) (v := ?_) rfl (by kernel_rfl) (by kernel_rfl) (by kernel_rfl) (fun _ _ _ h => h) (Or.inl ⟨by rfl, ?_⟩) (by assumption) ?_
              rotate_left
              · (intro w' hSw; (try dsimp only at hSw); go_simp; (try with_reducible rfl))
              try simp only [Act.put, List.setIfInBounds_toArray, List.set_cons_zero, List.set_cons_succ]
              refine wpAnyH_take (i := 36) (oi := ({ dst := some 153, op := Go.Op.binOp Go.BinOp.eql 3 (Go.Operand.tmp 148) (Go.Operand.tmp 152) 3, type := 4, pos := "law.go:128", after := #[{ on := 31, ground := Go.Ground.data }, { on := 35, ground := Go.Ground.data }, { on := 27, ground := Go.Ground.guard }], guard := some (27, false) } : Oper)) (v := ?_) rfl (by kernel_rfl) (by kernel_rfl) (by kernel_rfl) (fun _ _ _ h => h) (Or.inl ⟨by rfl, ?_⟩) (by assumption) ?_
              rotate_left
              · (intro w' hSw; (try dsimp only at hSw); go_simp; (try with_reducible rfl))
              try simp only [Act.put, List.setIfInBounds_toArray, List.set_cons_zero, List.set_cons_succ]
              refine wpAnyH_take (i := 37) (oi := ({ dst := some 154, op := Go.Op.move (Go.Operand.tmp 153), type := 4, pos := "law.go:128", after := #[{ on := 36, ground := Go.Ground.data }, { on := 27, ground := Go.Ground.chain }, { on := 27, ground := Go.Ground.guard }], guard := some (27, false) } : Oper)) (v := ?_) rfl (by kernel_rfl) (by kernel_rfl) (by kernel_rfl) (fun _ _ _ h => h) (Or.inl ⟨by rfl, ?_⟩) (by assumption) ?_
              rotate_left
              · (intro w' hSw; (try dsimp only at hSw); go_simp; (try with_reducible rfl))
              try simp only [Act.put, List.setIfInBounds_toArray, List.set_cons_zero, List.set_cons_succ]
              refine wpAnyH_take (i := 38) (oi := ({ dst := some 155, op := Go.Op.move (Go.Operand.tmp 9), type := 25, pos := "law.go:128", after := #[{ on := 37, ground := Go.Ground.guard }], guard := some (37, true) } : Oper)) (v := ?_) rfl (by kernel_rfl) (by kernel_rfl) (by kernel_rfl) (fun _ _ _ h => h) (Or.inl ⟨by rfl, ?_⟩) (by assumption) ?_
              rotate_left
              · (intro w' hSw; (try dsimp only at hSw); go_simp; (try with_reducible rfl))
              try simp only [Act.put, List.setIfInBounds_toArray, List.set_cons_zero, List.set_cons_succ]
              refine wpAnyH_take (i := 39) (oi := ({ dst := some 156, op := Go.Op.move (Go.Operand.tmp 13), type := 3, pos := "law.go:128", after := #[{ on := 37, ground := Go.Ground.guard }], guard := some (37, true) } : Oper)) (v := ?_) rfl (by kernel_rfl) (by kernel_rfl) (by kernel_rfl) (fun _ _ _ h => h) (Or.inl ⟨by rfl, ?_⟩) (by assumption) ?_
              rotate_left
              · (intro w' hSw; (try dsimp only at hSw); go_simp; (try with_reducible rfl))
              try simp only [Act.put, List.setIfInBounds_toArray, List.set_cons_zero, List.set_cons_succ]
              refine wpAnyH_take (i := 40) (oi := ({ dst := some 157, op := Go.Op.indexAddr 25 (Go.Operand.tmp 155) (Go.Operand.tmp 156), type := 0, pos := "law.go:128", after := #[{ on := 38, ground := Go.Ground.data }, { on := 39, ground := Go.Ground.data }, { on := 37, ground := Go.Ground.guard }], guard := some (37, true) } : Oper)) (v := ?_) rfl (by kernel_rfl) (by kernel_rfl) (by kernel_rfl) (fun _ _ _ h => h) (Or.inl ⟨by rfl, ?_⟩) (by assumption) ?_
              rotate_left
              · (intro w' hSw; (try dsimp only at hSw); go_simp; (try with_reducible rfl))
              try simp only [Act.put, List.setIfInBounds_toArray, List.set_cons_zero, List.set_cons_succ]
              refine wpAnyH_take (i := 41) (oi := ({ dst := some 158, op := Go.Op.load 37 (Go.Operand.tmp 157), type := 37, pos := "law.go:128", after := #[{ on := 40, ground := Go.Ground.data }, { on := 37, ground := Go.Ground.guard }], guard := some (37, true) } : Oper)) (v := ?_) rfl (by kernel_rfl) (by kernel_rfl) (by kernel_rfl) (fun _ _ _ h => h) (Or.inl ⟨by rfl, ?_⟩) (by assumption) ?_
              rotate_left
              · (intro w' hSw; (try dsimp only at hSw); go_simp; (try with_reducible rfl))
              try simp only [Act.put, List.setIfInBounds_toArray, List.set_cons_zero, List.set_cons_succ]
              refine wpAnyH_take (i := 42) (oi := ({ dst := some 159, op := Go.Op.move (Go.Operand.tmp 9), type := 25, pos := "law.go:128", after := #[{ on := 37, ground := Go.Ground.guard }], guard := some (37, true) } : Oper)) (v := ?_) rfl (by kernel_rfl) (by kernel_rfl) (by kernel_rfl) (fun _ _ _ h => h) (Or.inl ⟨by rfl, ?_⟩) (by assumption) ?_
              rotate_left
              · (intro w' hSw; (try dsimp only at hSw); go_simp; (try with_reducible rfl))
              try simp only [Act.put, List.setIfInBounds_toArray, List.set_cons_zero, List.set_cons_succ]
              refine wpAnyH_take (i := 43) (oi := ({ dst := some 160, op := Go.Op.move (Go.Operand.tmp 14), type := 3, pos := "law.go:128", after := #[{ on := 37, ground := Go.Ground.guard }], guard := some (37, true) } : Oper)) (v := ?_) rfl (by kernel_rfl) (by kernel_rfl) (by kernel_rfl) (fun _ _ _ h => h) (Or.inl ⟨by rfl, ?_⟩) (by assumption) ?_
              rotate_left
              · (intro w' hSw; (try dsimp only at hSw); go_simp; (try with_reducible rfl))
              try simp only [Act.put, List.setIfInBounds_toArray, List.set_cons_zero, List.set_cons_succ]
              refine wpAnyH_take (i := 44) (oi := ({ dst := some 161, op := Go.Op.indexAddr 25 (Go.Operand.tmp 159) (Go.Operand.tmp 160), type := 0, pos := "law.go:128", after := #[{ on := 42, ground := Go.Ground.data }, { on := 43, ground := Go.Ground.data }, { on := 37, ground := Go.Ground.guard }], guard := some (37, true) } : Oper)) (v := ?_) rfl (by kernel_rfl) (by kernel_rfl) (by kernel_rfl) (fun _ _ _ h => h) (Or.inl ⟨by rfl, ?_⟩) (by assumption) ?_
              rotate_left
              · (intro w' hSw; (try dsimp only at hSw); go_simp; (try with_reducible rfl))
              try simp only [Act.put, List.setIfInBounds_toArray, List.set_cons_zero, List.set_cons_succ]
              refine wpAnyH_take (i := 45) (oi := ({ dst := some 162, op := Go.Op.load 37 (Go.Operand.tmp 161), type := 37, pos := "law.go:128", after := #[{ on := 44, ground := Go.Ground.data }, { on := 37, ground := Go.Ground.guard }], guard := some (37, true) } : Oper)) (v := ?_) rfl (by kernel_rfl) (by kernel_rfl) (by kernel_rfl) (fun _ _ _ h => h) (Or.inl ⟨by rfl, ?_⟩) (by assumption) ?_
              rotate_left
              · (intro w' hSw; (try dsimp only at hSw); go_simp; (try with_reducible rfl))
              try simp only [Act.put, List.setIfInBounds_toArray, List.set_cons_zero, List.set_cons_succ]
              refine wpAnyH_take (i := 46) (oi := ({ dst := some 163, op := Go.Op.binOp Go.BinOp.neq 37 (Go.Operand.tmp 158) (Go.Operand.tmp 162) 37, type := 4, pos := "law.go:128", after := #[{ on := 41, ground := Go.Ground.data }, { on := 45, ground := Go.Ground.data }, { on := 37, ground := Go.Ground.guard }], guard := some (37, true) } : Oper)) (v := ?_) rfl (by kernel_rfl) (by kernel_rfl) (by kernel_rfl) (fun _ _ _ h => h) (Or.inl ⟨by rfl, ?_⟩) (by assumption) ?_
              rotate_left
              · (intro w' hSw; (try dsimp only at hSw); go_simp; (try with_reducible rfl))
              try simp only [Act.put, List.setIfInBounds_toArray, List.set_cons_zero, List.set_cons_succ]
              refine wpAnyH_take (i := 47) (oi := ({ dst := some 164, op := Go.Op.pick (Go.Operand.tmp 154) (Go.Operand.tmp 163) (Go.Operand.const (Go.Value.bool false)), type := 4, pos := "law.go:128", after := #[{ on := 37, ground := Go.Ground.data }, { on := 46, ground := Go.Ground.data }, { on := 27, ground := Go.Ground.guard }], guard := some (27, false) } : Oper)) (v := ?_) rfl (by kernel_rfl) (by kernel_rfl) (by kernel_rfl) (fun _ _ _ h => h) (Or.inl ⟨by rfl, ?_⟩) (by assumption) ?_
              rotate_left
              · (intro w' hSw; (try dsimp only at hSw); go_simp; (try with_reducible rfl))
              try simp only [Act.put, List.setIfInBounds_toArray, List.set_cons_zero, List.set_cons_succ]
              refine wpAnyH_take (i := 48) (oi := ({ dst := some 165, op := Go.Op.pick (Go.Operand.tmp 144) (Go.Operand.const (Go.Value.bool true)) (Go.Operand.tmp 164), type := 4, pos := "law.go:128", after := #[{ on := 27, ground := Go.Ground.data }, { on := 47, ground := Go.Ground.data }], guard := none } : Oper)) (v := ?_) rfl (by kernel_rfl) (by kernel_rfl) (by kernel_rfl) (fun _ _ _ h => h) (Or.inl ⟨by rfl, ?_⟩) (by assumption) ?_
              rotate_left
              · (intro w' hSw; (try dsimp only at hSw); go_simp; (try with_reducible rfl))
              try simp only [Act.put, List.setIfInBounds_toArray, List.set_cons_zero, List.set_cons_succ]
              refine wpAnyH_done (by kernel_rfl) ?_ _
              have hfin := Lib.hid (hup2.out _ hz4)
              go_wp2_with fail
              go_roundw
              case rel => exact ⟨k + 1, by omega, by go_num, hfin.out⟩
              case measure => simp [intOf]; omega
            · have hd1 : decide (x1 ≤ x2) = false := decide_eq_false (by omega)
              have hd2 : (x1 == x2) = false := by simpa using (show ¬ x1 = x2 by omega)
              replace hS := Lib.hid hS
              go_wp2_with fail
              refine wp_region_held_drew (S := fun X => X.cell? ⟨ba, oa + i, none⟩ = some (.int .i64 x1) ∧ X.cell? ⟨ba, oa + k, none⟩ = some (.int .i64 x2) ∧ X.cell? ⟨g, i * 2, none⟩ = some (.int .i64 an) ∧ X.cell? ⟨g, i * 2 + 1, none⟩ = some (.int .i64 ad) ∧ X.cell? ⟨g, k * 2, none⟩ = some (.int .i64 bn) ∧ X.cell? ⟨g, k * 2 + 1, none⟩ = some (.int .i64 bd) ∧ X.cell? ⟨c1, 0, none⟩ = some (.int .i64 la) ∧ X.cell? ⟨c1, 1, none⟩ = some (.int .i64 ad) ∧ X.cell? ⟨c2, 0, none⟩ = some (.int .i64 lb) ∧ X.cell? ⟨c2, 1, none⟩ = some (.int .i64 bd)) (by kernel_rfl) (t0) (fun hHeld => ?_)
              refine wpAnyH_take (i := 0) (oi := ({ dst := some 117, op := Go.Op.move (Go.Operand.tmp 0), type := 22, pos := "law.go:128", after := #[], guard := none } : Oper)) (v := ?_) rfl (by kernel_rfl) (by kernel_rfl) (by kernel_rfl) (fun _ _ _ h => h) (Or.inl ⟨by rfl, ?_⟩) (by assumption) ?_
              rotate_left
              · (intro w' hSw; (try dsimp only at hSw); go_simp; (try with_reducible rfl))
              try simp only [Act.put, List.setIfInBounds_toArray, List.set_cons_zero, List.set_cons_succ]
              refine wpAnyH_take (i := 1) (oi := ({ dst := some 118, op := Go.Op.move (Go.Operand.tmp 13), type := 3, pos := "law.go:128", after := #[], guard := none } : Oper)) (v := ?_) rfl (by kernel_rfl) (by kernel_rfl) (by kernel_rfl) (fun _ _ _ h => h) (Or.inl ⟨by rfl, ?_⟩) (by assumption) ?_
              rotate_left
              · (intro w' hSw; (try dsimp only at hSw); go_simp; (try with_reducible rfl))
              try simp only [Act.put, List.setIfInBounds_toArray, List.set_cons_zero, List.set_cons_succ]
              refine wpAnyH_take (i := 2) (oi := ({ dst := some 119, op := Go.Op.indexAddr 22 (Go.Operand.tmp 117) (Go.Operand.tmp 118), type := 0, pos := "law.go:128", after := #[{ on := 0, ground := Go.Ground.data }, { on := 1, ground := Go.Ground.data }], guard := none } : Oper)) (v := ?_) rfl (by kernel_rfl) (by kernel_rfl) (by kernel_rfl) (fun _ _ _ h => h) (Or.inl ⟨by rfl, ?_⟩) (by assumption) ?_
              rotate_left
              · (intro w' hSw; (try dsimp only at hSw); go_simp; (try with_reducible rfl))
              try simp only [Act.put, List.setIfInBounds_toArray, List.set_cons_zero, List.set_cons_succ]
              refine wpAnyH_take (i := 3) (oi := ({ dst := some 120, op := Go.Op.load 3 (Go.Operand.tmp 119), type := 3, pos := "law.go:128", after := #[{ on := 2, ground := Go.Ground.data }], guard := none } : Oper)) (v := ?_) rfl (by kernel_rfl) (by kernel_rfl) (by kernel_rfl) (fun _ _ _ h => h) (Or.inl ⟨by rfl, ?_⟩) (by assumption) ?_
              rotate_left
              · (intro w' hSw; (try dsimp only at hSw); go_simp; (try with_reducible rfl))
              try simp only [Act.put, List.setIfInBounds_toArray, List.set_cons_zero, List.set_cons_succ]
              refine wpAnyH_take (i := 4) (oi := ({ dst := some 121, op := Go.Op.move (Go.Operand.tmp 0), type := 22, pos := "law.go:128", after := #[], guard := none } : Oper)) (v := ?_) rfl (by kernel_rfl) (by kernel_rfl) (by kernel_rfl) (fun _ _ _ h => h) (Or.inl ⟨by rfl, ?_⟩) (by assumption) ?_
              rotate_left
              · (intro w' hSw; (try dsimp only at hSw); go_simp; (try with_reducible rfl))
              try simp only [Act.put, List.setIfInBounds_toArray, List.set_cons_zero, List.set_cons_succ]
              refine wpAnyH_take (i := 5) (oi := ({ dst := some 122, op := Go.Op.move (Go.Operand.tmp 14), type := 3, pos := "law.go:128", after := #[], guard := none } : Oper)) (v := ?_) rfl (by kernel_rfl) (by kernel_rfl) (by kernel_rfl) (fun _ _ _ h => h) (Or.inl ⟨by rfl, ?_⟩) (by assumption) ?_
              rotate_left
              · (intro w' hSw; (try dsimp only at hSw); go_simp; (try with_reducible rfl))
              try simp only [Act.put, List.setIfInBounds_toArray, List.set_cons_zero, List.set_cons_succ]
              refine wpAnyH_take (i := 6) (oi := ({ dst := some 123, op := Go.Op.indexAddr 22 (Go.Operand.tmp 121) (Go.Operand.tmp 122), type := 0, pos := "law.go:128", after := #[{ on := 4, ground := Go.Ground.data }, { on := 5, ground := Go.Ground.data }], guard := none } : Oper)) (v := ?_) rfl (by kernel_rfl) (by kernel_rfl) (by kernel_rfl) (fun _ _ _ h => h) (Or.inl ⟨by rfl, ?_⟩) (by assumption) ?_
              rotate_left
              · (intro w' hSw; (try dsimp only at hSw); go_simp; (try with_reducible rfl))
              try simp only [Act.put, List.setIfInBounds_toArray, List.set_cons_zero, List.set_cons_succ]
              refine wpAnyH_take (i := 7) (oi := ({ dst := some 124, op := Go.Op.load 3 (Go.Operand.tmp 123), type := 3, pos := "law.go:128", after := #[{ on := 6, ground := Go.Ground.data }], guard := none } : Oper)) (v := ?_) rfl (by kernel_rfl) (by kernel_rfl) (by kernel_rfl) (fun _ _ _ h => h) (Or.inl ⟨by rfl, ?_⟩) (by assumption) ?_
              rotate_left
              · (intro w' hSw; (try dsimp only at hSw); go_simp; (try with_reducible rfl))
              try simp only [Act.put, List.setIfInBounds_toArray, List.set_cons_zero, List.set_cons_succ]
              refine wpAnyH_take (i := 8) (oi := ({ dst := some 125, op := Go.Op.binOp Go.BinOp.leq 3 (Go.Operand.tmp 120) (Go.Operand.tmp 124) 3, type := 4, pos := "law.go:128", after := #[{ on := 3, ground := Go.Ground.data }, { on := 7, ground := Go.Ground.data }], guard := none } : Oper)) (v := ?_) rfl (by kernel_rfl) (by kernel_rfl) (by kernel_rfl) (fun _ _ _ h => h) (Or.inl ⟨by rfl, ?_⟩) (by assumption) ?_
              rotate_left
              · (intro w' hSw; (try dsimp only at hSw); go_simp; (try with_reducible rfl))
              try simp only [Act.put, List.setIfInBounds_toArray, List.set_cons_zero, List.set_cons_succ]
              refine wpAnyH_take (i := 9) (oi := ({ dst := some 126, op := Go.Op.move (Go.Operand.tmp 125), type := 4, pos := "law.go:128", after := #[{ on := 8, ground := Go.Ground.data }], guard := none } : Oper)) (v := ?_) rfl (by kernel_rfl) (by kernel_rfl) (by kernel_rfl) (fun _ _ _ h => h) (Or.inl ⟨by rfl, ?_⟩) (by assumption) ?_
              rotate_left
              · (intro w' hSw; (try dsimp only at hSw); go_simp; (try with_reducible rfl))
              try simp only [Act.put, List.setIfInBounds_toArray, List.set_cons_zero, List.set_cons_succ]
              refine wpAnyH_take (i := 10) (oi := ({ dst := some 127, op := Go.Op.move (Go.Operand.tmp 9), type := 25, pos := "law.go:128", after := #[{ on := 9, ground := Go.Ground.guard }], guard := some (9, true) } : Oper)) (v := undef) rfl (by kernel_rfl) (by kernel_rfl) (by kernel_rfl) (fun _ _ _ h => h) (Or.inr ⟨by rfl, rfl⟩) (by assumption) ?_
              try simp only [Act.put, List.setIfInBounds_toArray, List.set_cons_zero, List.set_cons_succ]
              refine wpAnyH_take (i := 11) (oi := ({ dst := some 128, op := Go.Op.move (Go.Operand.tmp 13), type := 3, pos := "law.go:128", after := #[{ on := 9, ground := Go.Ground.guard }], guard := some (9, true) } : Oper)) (v := undef) rfl (by kernel_rfl) (by kernel_rfl) (by kernel_rfl) (fun _ _ _ h => h) (Or.inr ⟨by rfl, rfl⟩) (by assumption) ?_
              try simp only [Act.put, List.setIfInBounds_toArray, List.set_cons_zero, List.set_cons_succ]
              refine wpAnyH_take (i := 12) (oi := ({ dst := some 129, op := Go.Op.indexAddr 25 (Go.Operand.tmp 127) (Go.Operand.tmp 128), type := 0, pos := "law.go:128", after := #[{ on := 10, ground := Go.Ground.data }, { on := 11, ground := Go.Ground.data }, { on := 9, ground := Go.Ground.guard }], guard := some (9, true) } : Oper)) (v := undef) rfl (by kernel_rfl) (by kernel_rfl) (by kernel_rfl) (fun _ _ _ h => h) (Or.inr ⟨by rfl, rfl⟩) (by assumption) ?_
              try simp only [Act.put, List.setIfInBounds_toArray, List.set_cons_zero, List.set_cons_succ]
              refine wpAnyH_take (i := 13) (oi := ({ dst := some 130, op := Go.Op.load 37 (Go.Operand.tmp 129), type := 37, pos := "law.go:128", after := #[{ on := 12, ground := Go.Ground.data }, { on := 9, ground := Go.Ground.guard }], guard := some (9, true) } : Oper)) (v := undef) rfl (by kernel_rfl) (by kernel_rfl) (by kernel_rfl) (fun _ _ _ h => h) (Or.inr ⟨by rfl, rfl⟩) (by assumption) ?_
              try simp only [Act.put, List.setIfInBounds_toArray, List.set_cons_zero, List.set_cons_succ]
              refine wpAnyH_take (i := 14) (oi := ({ dst := some 131, op := Go.Op.move (Go.Operand.tmp 9), type := 25, pos := "law.go:128", after := #[{ on := 9, ground := Go.Ground.guard }], guard := some (9, true) } : Oper)) (v := undef) rfl (by kernel_rfl) (by kernel_rfl) (by kernel_rfl) (fun _ _ _ h => h) (Or.inr ⟨by rfl, rfl⟩) (by assumption) ?_
              try simp only [Act.put, List.setIfInBounds_toArray, List.set_cons_zero, List.set_cons_succ]
              refine wpAnyH_take (i := 15) (oi := ({ dst := some 132, op := Go.Op.move (Go.Operand.tmp 14), type := 3, pos := "law.go:128", after := #[{ on := 9, ground := Go.Ground.guard }], guard := some (9, true) } : Oper)) (v := undef) rfl (by kernel_rfl) (by kernel_rfl) (by kernel_rfl) (fun _ _ _ h => h) (Or.inr ⟨by rfl, rfl⟩) (by assumption) ?_
              try simp only [Act.put, List.setIfInBounds_toArray, List.set_cons_zero, List.set_cons_succ]
              refine wpAnyH_take (i := 16) (oi := ({ dst := some 133, op := Go.Op.indexAddr 25 (Go.Operand.tmp 131) (Go.Operand.tmp 132), type := 0, pos := "law.go:128", after := #[{ on := 14, ground := Go.Ground.data }, { on := 15, ground := Go.Ground.data }, { on := 9, ground := Go.Ground.guard }], guard := some (9, true) } : Oper)) (v := undef) rfl (by kernel_rfl) (by kernel_rfl) (by kernel_rfl) (fun _ _ _ h => h) (Or.inr ⟨by rfl, rfl⟩) (by assumption) ?_
              try simp only [Act.put, List.setIfInBounds_toArray, List.set_cons_zero, List.set_cons_succ]
              refine wpAnyH_take (i := 17) (oi := ({ dst := some 134, op := Go.Op.load 37 (Go.Operand.tmp 133), type := 37, pos := "law.go:128", after := #[{ on := 16, ground := Go.Ground.data }, { on := 9, ground := Go.Ground.guard }], guard := some (9, true) } : Oper)) (v := undef) rfl (by kernel_rfl) (by kernel_rfl) (by kernel_rfl) (fun _ _ _ h => h) (Or.inr ⟨by rfl, rfl⟩) (by assumption) ?_
              try simp only [Act.put, List.setIfInBounds_toArray, List.set_cons_zero, List.set_cons_succ]
              refine wpAnyH_take (i := 18) (oi := ({ dst := some 135, op := Go.Op.call { callee := Go.Callee.value (Go.Operand.func 50), args := #[Go.Operand.tmp 130, Go.Operand.tmp 134], argTypes := #[37, 37] }, type := 4, pos := "law.go:128", after := #[{ on := 13, ground := Go.Ground.data }, { on := 17, ground := Go.Ground.data }, { on := 9, ground := Go.Ground.chain }, { on := 9, ground := Go.Ground.guard }], guard := some (9, true) } : Oper)) (v := undef) rfl (by kernel_rfl) (by kernel_rfl) (by kernel_rfl) (fun _ _ _ h => h) (Or.inr ⟨by rfl, rfl⟩) (by assumption) ?_
              try simp only [Act.put, List.setIfInBounds_toArray, List.set_cons_zero, List.set_cons_succ]
              refine wpAnyH_take (i := 19) (oi := ({ dst := some 136, op := Go.Op.unOp Go.UnOp.not 4 (Go.Operand.tmp 135), type := 4, pos := "law.go:128", after := #[{ on := 18, ground := Go.Ground.data }, { on := 9, ground := Go.Ground.guard }], guard := some (9, true) } : Oper)) (v := undef) rfl (by kernel_rfl) (by kernel_rfl) (by kernel_rfl) (fun _ _ _ h => h) (Or.inr ⟨by rfl, rfl⟩) (by assumption) ?_
              try simp only [Act.put, List.setIfInBounds_toArray, List.set_cons_zero, List.set_cons_succ]
              refine wpAnyH_take (i := 20) (oi := ({ dst := some 137, op := Go.Op.move (Go.Operand.tmp 136), type := 4, pos := "law.go:128", after := #[{ on := 19, ground := Go.Ground.data }, { on := 18, ground := Go.Ground.chain }, { on := 9, ground := Go.Ground.guard }], guard := some (9, true) } : Oper)) (v := undef) rfl (by kernel_rfl) (by kernel_rfl) (by kernel_rfl) (fun _ _ _ h => h) (Or.inr ⟨by rfl, rfl⟩) (by assumption) ?_
              try simp only [Act.put, List.setIfInBounds_toArray, List.set_cons_zero, List.set_cons_succ]
              refine wpAnyH_take (i := 21) (oi := ({ dst := some 138, op := Go.Op.load 37 (Go.Operand.tmp 15), type := 37, pos := "law.go:128", after := #[{ on := 20, ground := Go.Ground.guard }], guard := some (20, false) } : Oper)) (v := undef) rfl (by kernel_rfl) (by kernel_rfl) (by kernel_rfl) (fun _ _ _ h => h) (Or.inr ⟨by rfl, rfl⟩) (by assumption) ?_
              try simp only [Act.put, List.setIfInBounds_toArray, List.set_cons_zero, List.set_cons_succ]
              refine wpAnyH_take (i := 22) (oi := ({ dst := some 139, op := Go.Op.load 37 (Go.Operand.tmp 16), type := 37, pos := "law.go:128", after := #[{ on := 20, ground := Go.Ground.guard }], guard := some (20, false) } : Oper)) (v := undef) rfl (by kernel_rfl) (by kernel_rfl) (by kernel_rfl) (fun _ _ _ h => h) (Or.inr ⟨by rfl, rfl⟩) (by assumption) ?_
              try simp only [Act.put, List.setIfInBounds_toArray, List.set_cons_zero, List.set_cons_succ]
              refine wpAnyH_take (i := 23) (oi := ({ dst := some 140, op := Go.Op.call { callee := Go.Callee.value (Go.Operand.func 50), args := #[Go.Operand.tmp 138, Go.Operand.tmp 139], argTypes := #[37, 37] }, type := 4, pos := "law.go:128", after := #[{ on := 21, ground := Go.Ground.data }, { on := 22, ground := Go.Ground.data }, { on := 20, ground := Go.Ground.chain }, { on := 20, ground := Go.Ground.guard }], guard := some (20, false) } : Oper)) (v := undef) rfl (by kernel_rfl) (by kernel_rfl) (by kernel_rfl) (fun _ _ _ h => h) (Or.inr ⟨by rfl, rfl⟩) (by assumption) ?_
              try simp only [Act.put, List.setIfInBounds_toArray, List.set_cons_zero, List.set_cons_succ]
              refine wpAnyH_take (i := 24) (oi := ({ dst := some 141, op := Go.Op.unOp Go.UnOp.not 4 (Go.Operand.tmp 140), type := 4, pos := "law.go:128", after := #[{ on := 23, ground := Go.Ground.data }, { on := 20, ground := Go.Ground.guard }], guard := some (20, false) } : Oper)) (v := undef) rfl (by kernel_rfl) (by kernel_rfl) (by kernel_rfl) (fun _ _ _ h => h) (Or.inr ⟨by rfl, rfl⟩) (by assumption) ?_
              try simp only [Act.put, List.setIfInBounds_toArray, List.set_cons_zero, List.set_cons_succ]
              refine wpAnyH_take (i := 25) (oi := ({ dst := some 142, op := Go.Op.pick (Go.Operand.tmp 137) (Go.Operand.const (Go.Value.bool true)) (Go.Operand.tmp 141), type := 4, pos := "law.go:128", after := #[{ on := 20, ground := Go.Ground.data }, { on := 24, ground := Go.Ground.data }, { on := 9, ground := Go.Ground.guard }], guard := some (9, true) } : Oper)) (v := undef) rfl (by kernel_rfl) (by kernel_rfl) (by kernel_rfl) (fun _ _ _ h => h) (Or.inr ⟨by rfl, rfl⟩) (by assumption) ?_
              try simp only [Act.put, List.setIfInBounds_toArray, List.set_cons_zero, List.set_cons_succ]
              refine wpAnyH_take (i := 26) (oi := ({ dst := some 143, op := Go.Op.pick (Go.Operand.tmp 126) (Go.Operand.tmp 142) (Go.Operand.const (Go.Value.bool false)), type := 4, pos := "law.go:128", after := #[{ on := 9, ground := Go.Ground.data }, { on := 25, ground := Go.Ground.data }], guard := none } : Oper)) (v := ?_) rfl (by kernel_rfl) (by kernel_rfl) (by kernel_rfl) (fun _ _ _ h => h) (Or.inl ⟨by rfl, ?_⟩) (by assumption) ?_
              rotate_left
              · (intro w' hSw; (try dsimp only at hSw); go_simp; (try with_reducible rfl))
              try simp only [Act.put, List.setIfInBounds_toArray, List.set_cons_zero, List.set_cons_succ]
              refine wpAnyH_take (i := 27) (oi := ({ dst := some 144, op := Go.Op.move (Go.Operand.tmp 143), type := 4, pos := "law.go:128", after := #[{ on := 26, ground := Go.Ground.data }, { on := 23, ground := Go.Ground.chain }], guard := none } : Oper)) (v := ?_) rfl (by kernel_rfl) (by kernel_rfl) (by kernel_rfl) (fun _ _ _ h => h) (Or.inl ⟨by rfl, ?_⟩) (by assumption) ?_
              rotate_left
              · (intro w' hSw; (try dsimp only at hSw); go_simp; (try with_reducible rfl))
              try simp only [Act.put, List.setIfInBounds_toArray, List.set_cons_zero, List.set_cons_succ]
              refine wpAnyH_take (i := 28) (oi := ({ dst := some 145, op := Go.Op.move (Go.Operand.tmp 0), type := 22, pos := "law.go:128", after := #[{ on := 27, ground := Go.Ground.guard }], guard := some (27, false) } : Oper)) (v := ?_) rfl (by kernel_rfl) (by kernel_rfl) (by kernel_rfl) (fun _ _ _ h => h) (Or.inl ⟨by rfl, ?_⟩) (by assumption) ?_
              rotate_left
              · (intro w' hSw; (try dsimp only at hSw); go_simp; (try with_reducible rfl))
              try simp only [Act.put, List.setIfInBounds_toArray, List.set_cons_zero, List.set_cons_succ]
              refine wpAnyH_take (i := 29) (oi := ({ dst := some 146, op := Go.Op.move (Go.Operand.tmp 13), type := 3, pos := "law.go:128", after := #[{ on := 27, ground := Go.Ground.guard }], guard := some (27, false) } : Oper)) (v := ?_) rfl (by kernel_rfl) (by kernel_rfl) (by kernel_rfl) (fun _ _ _ h => h) (Or.inl ⟨by rfl, ?_⟩) (by assumption) ?_
              rotate_left
              · (intro w' hSw; (try dsimp only at hSw); go_simp; (try with_reducible rfl))
              try simp only [Act.put, List.setIfInBounds_toArray, List.set_cons_zero, List.set_cons_succ]
              refine wpAnyH_take (i := 30) (oi := ({ dst := some 147, op := Go.Op.indexAddr 22 (Go.Operand.tmp 145) (Go.Operand.tmp 146), type := 0, pos := "law.go:128", after := #[{ on := 28, ground := Go.Ground.data }, { on := 29, ground := Go.Ground.data }, { on := 27, ground := Go.Ground.guard }], guard := some (27, false) } : Oper)) (v := ?_) rfl (by kernel_rfl) (by kernel_rfl) (by kernel_rfl) (fun _ _ _ h => h) (Or.inl ⟨by rfl, ?_⟩) (by assumption) ?_
              rotate_left
              · (intro w' hSw; (try dsimp only at hSw); go_simp; (try with_reducible rfl))
              try simp only [Act.put, List.setIfInBounds_toArray, List.set_cons_zero, List.set_cons_succ]
              refine wpAnyH_take (i := 31) (oi := ({ dst := some 148, op := Go.Op.load 3 (Go.Operand.tmp 147), type := 3, pos := "law.go:128", after := #[{ on := 30, ground := Go.Ground.data }, { on := 27, ground := Go.Ground.guard }], guard := some (27, false) } : Oper)) (v := ?_) rfl (by kernel_rfl) (by kernel_rfl) (by kernel_rfl) (fun _ _ _ h => h) (Or.inl ⟨by rfl, ?_⟩) (by assumption) ?_
              rotate_left
              · (intro w' hSw; (try dsimp only at hSw); go_simp; (try with_reducible rfl))
              try simp only [Act.put, List.setIfInBounds_toArray, List.set_cons_zero, List.set_cons_succ]
              refine wpAnyH_take (i := 32) (oi := ({ dst := some 149, op := Go.Op.move (Go.Operand.tmp 0), type := 22, pos := "law.go:128", after := #[{ on := 27, ground := Go.Ground.guard }], guard := some (27, false) } : Oper)) (v := ?_) rfl (by kernel_rfl) (by kernel_rfl) (by kernel_rfl) (fun _ _ _ h => h) (Or.inl ⟨by rfl, ?_⟩) (by assumption) ?_
              rotate_left
              · (intro w' hSw; (try dsimp only at hSw); go_simp; (try with_reducible rfl))
              try simp only [Act.put, List.setIfInBounds_toArray, List.set_cons_zero, List.set_cons_succ]
              refine wpAnyH_take (i := 33) (oi := ({ dst := some 150, op := Go.Op.move (Go.Operand.tmp 14), type := 3, pos := "law.go:128", after := #[{ on := 27, ground := Go.Ground.guard }], guard := some (27, false) } : Oper)) (v := ?_) rfl (by kernel_rfl) (by kernel_rfl) (by kernel_rfl) (fun _ _ _ h => h) (Or.inl ⟨by rfl, ?_⟩) (by assumption) ?_
              rotate_left
              · (intro w' hSw; (try dsimp only at hSw); go_simp; (try with_reducible rfl))
              try simp only [Act.put, List.setIfInBounds_toArray, List.set_cons_zero, List.set_cons_succ]
              refine wpAnyH_take (i := 34) (oi := ({ dst := some 151, op := Go.Op.indexAddr 22 (Go.Operand.tmp 149) (Go.Operand.tmp 150), type := 0, pos := "law.go:128", after := #[{ on := 32, ground := Go.Ground.data }, { on := 33, ground := Go.Ground.data }, { on := 27, ground := Go.Ground.guard }], guard := some (27, false) } : Oper)) (v := ?_) rfl (by kernel_rfl) (by kernel_rfl) (by kernel_rfl) (fun _ _ _ h => h) (Or.inl ⟨by rfl, ?_⟩) (by assumption) ?_
              rotate_left
              · (intro w' hSw; (try dsimp only at hSw); go_simp; (try with_reducible rfl))
              try simp only [Act.put, List.setIfInBounds_toArray, List.set_cons_zero, List.set_cons_succ]
              refine wpAnyH_take (i := 35) (oi := ({ dst := some 152, op := Go.Op.load 3 (Go.Operand.tmp 151), type := 3, pos := "law.go:128", after := #[{ on := 34, ground := Go.Ground.data }, { on := 27, ground := Go.Ground.guard }], guard := some (27, false) } : Oper)) (v := ?_) rfl (by kernel_rfl) (by kernel_rfl) (by kernel_rfl) (fun _ _ _ h => h) (Or.inl ⟨by rfl, ?_⟩) (by assumption) ?_
              rotate_left
              · (intro w' hSw; (try dsimp only at hSw); go_simp; (try with_reducible rfl))
              try simp only [Act.put, List.setIfInBounds_toArray, List.set_cons_zero, List.set_cons_succ]
              refine wpAnyH_take (i := 36) (oi := ({ dst := some 153, op := Go.Op.binOp Go.BinOp.eql 3 (Go.Operand.tmp 148) (Go.Operand.tmp 152) 3, type := 4, pos := "law.go:128", after := #[{ on := 31, ground := Go.Ground.data }, { on := 35, ground := Go.Ground.data }, { on := 27, ground := Go.Ground.guard }], guard := some (27, false) } : Oper)) (v := ?_) rfl (by kernel_rfl) (by kernel_rfl) (by kernel_rfl) (fun _ _ _ h => h) (Or.inl ⟨by rfl, ?_⟩) (by assumption) ?_
              rotate_left
              · (intro w' hSw; (try dsimp only at hSw); go_simp; (try with_reducible rfl))
              try simp only [Act.put, List.setIfInBounds_toArray, List.set_cons_zero, List.set_cons_succ]
              refine wpAnyH_take (i := 37) (oi := ({ dst := some 154, op := Go.Op.move (Go.Operand.tmp 153), type := 4, pos := "law.go:128", after := #[{ on := 36, ground := Go.Ground.data }, { on := 27, ground := Go.Ground.chain }, { on := 27, ground := Go.Ground.guard }], guard := some (27, false) } : Oper)) (v := ?_) rfl (by kernel_rfl) (by kernel_rfl) (by kernel_rfl) (fun _ _ _ h => h) (Or.inl ⟨by rfl, ?_⟩) (by assumption) ?_
              rotate_left
              · (intro w' hSw; (try dsimp only at hSw); go_simp; (try with_reducible rfl))
              try simp only [Act.put, List.setIfInBounds_toArray, List.set_cons_zero, List.set_cons_succ]
              refine wpAnyH_take (i := 38) (oi := ({ dst := some 155, op := Go.Op.move (Go.Operand.tmp 9), type := 25, pos := "law.go:128", after := #[{ on := 37, ground := Go.Ground.guard }], guard := some (37, true) } : Oper)) (v := undef) rfl (by kernel_rfl) (by kernel_rfl) (by kernel_rfl) (fun _ _ _ h => h) (Or.inr ⟨by rfl, rfl⟩) (by assumption) ?_
              try simp only [Act.put, List.setIfInBounds_toArray, List.set_cons_zero, List.set_cons_succ]
              refine wpAnyH_take (i := 39) (oi := ({ dst := some 156, op := Go.Op.move (Go.Operand.tmp 13), type := 3, pos := "law.go:128", after := #[{ on := 37, ground := Go.Ground.guard }], guard := some (37, true) } : Oper)) (v := undef) rfl (by kernel_rfl) (by kernel_rfl) (by kernel_rfl) (fun _ _ _ h => h) (Or.inr ⟨by rfl, rfl⟩) (by assumption) ?_
              try simp only [Act.put, List.setIfInBounds_toArray, List.set_cons_zero, List.set_cons_succ]
              refine wpAnyH_take (i := 40) (oi := ({ dst := some 157, op := Go.Op.indexAddr 25 (Go.Operand.tmp 155) (Go.Operand.tmp 156), type := 0, pos := "law.go:128", after := #[{ on := 38, ground := Go.Ground.data }, { on := 39, ground := Go.Ground.data }, { on := 37, ground := Go.Ground.guard }], guard := some (37, true) } : Oper)) (v := undef) rfl (by kernel_rfl) (by kernel_rfl) (by kernel_rfl) (fun _ _ _ h => h) (Or.inr ⟨by rfl, rfl⟩) (by assumption) ?_
              try simp only [Act.put, List.setIfInBounds_toArray, List.set_cons_zero, List.set_cons_succ]
              refine wpAnyH_take (i := 41) (oi := ({ dst := some 158, op := Go.Op.load 37 (Go.Operand.tmp 157), type := 37, pos := "law.go:128", after := #[{ on := 40, ground := Go.Ground.data }, { on := 37, ground := Go.Ground.guard }], guard := some (37, true) } : Oper)) (v := undef) rfl (by kernel_rfl) (by kernel_rfl) (by kernel_rfl) (fun _ _ _ h => h) (Or.inr ⟨by rfl, rfl⟩) (by assumption) ?_
              try simp only [Act.put, List.setIfInBounds_toArray, List.set_cons_zero, List.set_cons_succ]
              refine wpAnyH_take (i := 42) (oi := ({ dst := some 159, op := Go.Op.move (Go.Operand.tmp 9), type := 25, pos := "law.go:128", after := #[{ on := 37, ground := Go.Ground.guard }], guard := some (37, true) } : Oper)) (v := undef) rfl (by kernel_rfl) (by kernel_rfl) (by kernel_rfl) (fun _ _ _ h => h) (Or.inr ⟨by rfl, rfl⟩) (by assumption) ?_
              try simp only [Act.put, List.setIfInBounds_toArray, List.set_cons_zero, List.set_cons_succ]
              refine wpAnyH_take (i := 43) (oi := ({ dst := some 160, op := Go.Op.move (Go.Operand.tmp 14), type := 3, pos := "law.go:128", after := #[{ on := 37, ground := Go.Ground.guard }], guard := some (37, true) } : Oper)) (v := undef) rfl (by kernel_rfl) (by kernel_rfl) (by kernel_rfl) (fun _ _ _ h => h) (Or.inr ⟨by rfl, rfl⟩) (by assumption) ?_
              try simp only [Act.put, List.setIfInBounds_toArray, List.set_cons_zero, List.set_cons_succ]
              refine wpAnyH_take (i := 44) (oi := ({ dst := some 161, op := Go.Op.indexAddr 25 (Go.Operand.tmp 159) (Go.Operand.tmp 160), type := 0, pos := "law.go:128", after := #[{ on := 42, ground := Go.Ground.data }, { on := 43, ground := Go.Ground.data }, { on := 37, ground := Go.Ground.guard }], guard := some (37, true) } : Oper)) (v := undef) rfl (by kernel_rfl) (by kernel_rfl) (by kernel_rfl) (fun _ _ _ h => h) (Or.inr ⟨by rfl, rfl⟩) (by assumption) ?_
              try simp only [Act.put, List.setIfInBounds_toArray, List.set_cons_zero, List.set_cons_succ]
              refine wpAnyH_take (i := 45) (oi := ({ dst := some 162, op := Go.Op.load 37 (Go.Operand.tmp 161), type := 37, pos := "law.go:128", after := #[{ on := 44, ground := Go.Ground.data }, { on := 37, ground := Go.Ground.guard }], guard := some (37, true) } : Oper)) (v := undef) rfl (by kernel_rfl) (by kernel_rfl) (by kernel_rfl) (fun _ _ _ h => h) (Or.inr ⟨by rfl, rfl⟩) (by assumption) ?_
              try simp only [Act.put, List.setIfInBounds_toArray, List.set_cons_zero, List.set_cons_succ]
              refine wpAnyH_take (i := 46) (oi := ({ dst := some 163, op := Go.Op.binOp Go.BinOp.neq 37 (Go.Operand.tmp 158) (Go.Operand.tmp 162) 37, type := 4, pos := "law.go:128", after := #[{ on := 41, ground := Go.Ground.data }, { on := 45, ground := Go.Ground.data }, { on := 37, ground := Go.Ground.guard }], guard := some (37, true) } : Oper)) (v := undef) rfl (by kernel_rfl) (by kernel_rfl) (by kernel_rfl) (fun _ _ _ h => h) (Or.inr ⟨by rfl, rfl⟩) (by assumption) ?_
              try simp only [Act.put, List.setIfInBounds_toArray, List.set_cons_zero, List.set_cons_succ]
              refine wpAnyH_take (i := 47) (oi := ({ dst := some 164, op := Go.Op.pick (Go.Operand.tmp 154) (Go.Operand.tmp 163) (Go.Operand.const (Go.Value.bool false)), type := 4, pos := "law.go:128", after := #[{ on := 37, ground := Go.Ground.data }, { on := 46, ground := Go.Ground.data }, { on := 27, ground := Go.Ground.guard }], guard := some (27, false) } : Oper)) (v := ?_) rfl (by kernel_rfl) (by kernel_rfl) (by kernel_rfl) (fun _ _ _ h => h) (Or.inl ⟨by rfl, ?_⟩) (by assumption) ?_
              rotate_left
              · (intro w' hSw; (try dsimp only at hSw); go_simp; (try with_reducible rfl))
              try simp only [Act.put, List.setIfInBounds_toArray, List.set_cons_zero, List.set_cons_succ]
              refine wpAnyH_take (i := 48) (oi := ({ dst := some 165, op := Go.Op.pick (Go.Operand.tmp 144) (Go.Operand.const (Go.Value.bool true)) (Go.Operand.tmp 164), type := 4, pos := "law.go:128", after := #[{ on := 27, ground := Go.Ground.data }, { on := 47, ground := Go.Ground.data }], guard := none } : Oper)) (v := ?_) rfl (by kernel_rfl) (by kernel_rfl) (by kernel_rfl) (fun _ _ _ h => h) (Or.inl ⟨by rfl, ?_⟩) (by assumption) ?_
              rotate_left
              · (intro w' hSw; (try dsimp only at hSw); go_simp; (try with_reducible rfl))
              try simp only [Act.put, List.setIfInBounds_toArray, List.set_cons_zero, List.set_cons_succ]
              refine wpAnyH_done (by kernel_rfl) ?_ _
              go_wp2_with fail
              go_roundw
              case rel => exact ⟨k + 1, by omega, by go_num, hY0.out⟩
              case measure => simp [intOf]; omega
        · have : k = n := by omega
          subst this
          replace hY := Lib.hid hY
          go_wp2
          go_roundw
          case rel => exact ⟨i + 1, by omega, by go_num, hY.out⟩
          case measure => simp [intOf]; omega
    · have : n = i := by omega
      subst this
      have u0 := hX.out wr hY
      have kM1 := Lib.hid (kM.out wr u0.2)
      have kk2 := Lib.hid (a2.out wr u0.2)
      replace u0 := Lib.hid u0
      have hY1 := Lib.hid hY
      replace hY := Lib.hid hY
      go_wp2_with fail
      refine kM1.out.mono ?_
      rintro _ X4 ⟨rfl, rfl⟩
      go_wp2_with fail
      refine kk2.out.mono ?_
      rintro _ X5 ⟨A5, N5, cp5, rfl, hb5, hN5, f5⟩
      replace hN5 := hN5.symm
      subst hN5
      have z5 := bel_trans u0.out.2 hb5
      have zX := bel_trans hY1.out hb5
      have kV2 := Lib.hid (v2.out X5 z5 A5 cp5 f5)
      obtain ⟨g5, rfl, hbl5⟩ := f5 (by omega)
      clear u0 kM1 kk2
      replace z5 := Lib.hid z5
      replace zX := Lib.hid zX
      replace f5 := Lib.hid f5
      replace hbl5 := Lib.hid hbl5
      replace hb5 := Lib.hid hb5
      go_wp2_with fail
      refine kV2.out.mono ?_
      rintro _ X6 ⟨rfl, j6, rfl⟩
      go_wp2_with fail
      go_loopw [19, 6] (fun i _ wr => ∃ k : Nat, k ≤ n ∧ i = .int .i64 (k : Nat) ∧ Below X5.heap.size X5 wr) (fun i _ _ => n - (intOf i).toNat)
      case atStart => exact ⟨0, by omega, rfl, below_drewN (Below.refl _ _) _⟩
      case round =>
        obtain ⟨i, hi, rfl, hY⟩ := hrel
        by_cases hin : i < n
        · have hin2 : (i : Int) < (n : Int) := by omega
          have hcel : ∀ X, Below wr.heap.size wr X → X.cell? ⟨g, i * 2, none⟩ = some (.int .i64 (F i).n) ∧ X.cell? ⟨g, i * 2 + 1, none⟩ = some (.int .i64 (F i).d) ∧ X.cell? ⟨g5, i * 2, none⟩ = some (.int .i64 (G i).n) ∧ X.cell? ⟨g5, i * 2 + 1, none⟩ = some (.int .i64 (G i).d) := fun X hX' => by
            have hz := bel_trans hY hX'
            have u := hX.out X (bel_trans zX.out hz)
            have u5 := hbl5.out.up hz
            exact ⟨u.1.c0 hin, u.1.c1 hin, u5.c0 hin, u5.c1 hin⟩
          have hup := fun X (hX' : Below wr.heap.size wr X) => bel_trans hY hX'
          have q1 := hg1.out i hin
          have q2 := hg2.out i hin
          have hxi := hxs.out i hin
          have hle := hmo.out i hin
          have h0 : Below wr.heap.size wr wr.drew := below_drewN (Below.refl _ _) 1
          generalize F i = a at *
          generalize G i = b at *
          obtain ⟨an, ad⟩ := a
          obtain ⟨bn, bd⟩ := b
          obtain ⟨⟨g11, g12⟩, g13, g14⟩ := q1
          obtain ⟨⟨g21, g22⟩, g23, g24⟩ := q2
          unfold okC at hxi
          simp only at *
          have p1 := mul_b (a := el l i) (b := ad) (A := 1000) (B := 10000) hxi (by omega)
          have p2 := mul_b (a := el l i) (b := bd) (A := 1000) (B := 10000) hxi (by omega)
          have m1 : ∀ X, Calls Try.prog 50 #[.agg #[.int .i64 an, .int .i64 ad], .agg #[.int .i64 bn, .int .i64 bd]] X fun e w' => e = .returned (.bool true) ∧ Below X.heap.size X w' := fun X => by
            obtain ⟨f1, f2⟩ := fit_cross (a := ⟨an, ad⟩) (b := ⟨bn, bd⟩) ⟨by simp only; omega, by simp only; omega, by simp only; omega⟩ ⟨by simp only; omega, by simp only; omega, by simp only; omega⟩
            exact most_true ⟨an, ad⟩ ⟨bn, bd⟩ X f1 f2 hle
          have s0 := hcel _ h0
          clear p1 p2 g11 g12 g13 g14 g21 g22 g23 g24 hxi hle
          replace hcel := Lib.hid hcel
          replace hup := Lib.hid hup
          replace m1 := Lib.hid m1
          replace hY := Lib.hid hY
          go_wp2_with fail
          go_region_held3 (fun X => X.cell? ⟨g, i * 2, none⟩ = some (.int .i64 an) ∧ X.cell? ⟨g, i * 2 + 1, none⟩ = some (.int .i64 ad) ∧ X.cell? ⟨g5, i * 2, none⟩ = some (.int .i64 bn) ∧ X.cell? ⟨g5, i * 2 + 1, none⟩ = some (.int .i64 bd)) (first | with_reducible exact s0 | with_reducible exact hcel.out _ (by assumption)) ((go_at_call 50; refine (m1.out _).mono ?_; rintro _ Z1 ⟨rfl, hz1⟩; have hz2 := bel_trans h0 hz1))
          all_goals
            have hfin := Lib.hid (hup.out _ hz2)
            go_wp2_with fail
            go_roundw
            case rel => exact ⟨i + 1, by omega, by go_num, hfin.out⟩
            case measure => simp [intOf]; omega
        · have : i = n := by omega
          subst this
          have hz := Lib.hid (bel_trans z5.out hY)
          replace hY := Lib.hid hY
          go_wp2_with fail
          refine (Sane_any _).mono ?_
          rintro _ X7 ⟨rfl, hb7⟩
          have hz7 := Lib.hid (bel_trans hz.out hb7)
          clear hb7
          go_wp2
          go_ret
          exact ⟨rfl, hz7.out⟩
theorem walk (A : Option Addr) (c : Nat) (l : List Int) (e q x : Int) (w : World) (h : Row w w.heap.size A l) (_ : -9223372036854775808 ≤ e ∧ e ≤ 9223372036854775807) (_ : -9223372036854775808 ≤ q ∧ q ≤ 9223372036854775807) (hx : 0 ≤ x ∧ x ≤ 65535) :
    Calls Try.prog 10 #[.slice A l.length c, .agg #[.int .i64 e, .int .i64 q], .int .u16 x] w fun r w' => r = .returned (.bool true) ∧ Below w.heap.size w w' := by
  by_cases hl : 40 < l.length
  · exact out A c l.length e q x w h.1 hl
  · by_cases hk : okS l e q
    · exact inn A c l e q x w h hl hk hx
    · exact bad A c l e q x w h hl hk

/-! ### the row's step -/
set_option maxRecDepth 100000 in
theorem lifted (os : Os) (started : os.Started) (H : Type) (enc : TypeId × Value → H) :
    ReturnsInHanded {} Try.checked os 10 .any (Rows.fundFairSpec.pre6 enc Try.prog Try.f10 Rows.fundFairRow.domain false) (Rows.fundFairSpec.post enc Try.prog Try.f10 false true false false) := by
  refine returnsInHanded_of_change (C := Try.checked) own started (by kernel_rfl) Try.func10
    (ChangeSpec.witness6 (enc := enc) (C := Try.checked) false ⟨#[], #[.slice none 0 0, .agg #[.int .i64 0, .int .i64 0], .int .u16 0], []⟩ 8 (by kernel_rfl) (by kernel_rfl) (by kernel_rfl) (by kernel_rfl)) ?_
  intro W base args ds gs before hval0 hW hcnd _
  have hval : ∀ (j : Nat) t v, Try.f10.params[j]? = some t → args[j]? = some v → Value.okWide Try.prog W .any base t v := hval0
  have hW' := hW
  obtain ⟨p, q, hA0, hV, rfl, hfz, hnd⟩ := hW
  have hA : DataW.TrodAll enc Try.prog W 0 (fun _ => true) true Try.f10.params.toList args.toList ds p := hA0
  rw [Try.params10] at hA hval
  obtain ⟨v0, vs0, d0, ds0, p0, q0, hargs, rfl, rfl, h0, r0⟩ := trodAll_cons hA
  obtain ⟨v1, vs1, d1, ds1, p1, q1, rfl, rfl, rfl, h1, r1⟩ := trodAll_cons r0
  obtain ⟨v2, vs2, d2, ds2, p2, q2, rfl, rfl, rfl, h2, r2⟩ := trodAll_cons r1
  obtain ⟨rfl, rfl, rfl⟩ := trodAll_nil r2
  obtain rfl : args = #[v0, v1, v2] := by cases args; simp_all
  obtain ⟨rfl, rfl⟩ := trodVars_none hV
  have k0 := h0
  have lt0 : ∀ x ∈ p0, x.block < W.heap.size := by obtain ⟨m, hm⟩ := k0; exact DataW.trod_lt m _ _ _ hm
  obtain ⟨a0, len0, cap0, T0, rfl, rfl, w0⟩ : ∃ A len cap D, v0 = .slice A len cap ∧ D.length = len ∧ Row W W.heap.size A D := by
    obtain ⟨s0, s1, s2, rfl⟩ := okWide_slice Try.underlying22 (hval 0 22 v0 rfl rfl)
    obtain ⟨fuel, hf⟩ := h0
    exact row_of (by simpa [Value.cells] using hf)
  have k1 := h1
  have lt1 : ∀ x ∈ p1, x.block < W.heap.size := by obtain ⟨m, hm⟩ := k1; exact DataW.trod_lt m _ _ _ hm
  obtain ⟨x10, x11, rfl, y10, y11⟩ := arr2_in (hval 1 55 v1 rfl rfl) h1
  obtain ⟨a2, rfl, rfl, rfl, w2⟩ := open_int Try.underlying56 (hval 2 56 v2 rfl rfl) h2
  clear hA0 hval0
  refine (walk a0 cap0 T0 x10 x11 a2 W w0 y10 y11 (u16_range w2)).mono fun e W' ⟨he, bel⟩ => ?_
  subst he
  exact ⟨_, rfl, _, _, _, [], _, [], hW', trodAll_mk1 (shut_bool Try.underlying4 _), (trodAll_cons_mk (Below.trod laidOut (by kernel_rfl) (of_decide_eq_true (by kernel_rfl)) k0 bel lt0) (trodAll_cons_mk (Below.trod laidOut (by kernel_rfl) (of_decide_eq_true (by kernel_rfl)) k1 bel lt1) (trodAll_cons_mk (shut_int Try.underlying56 w2) trodAll_mk0))), rfl, bel.frame _, fun h => by cases h⟩

theorem over : Rows.fundFairRow.holds Try.pinned (OpenSpec.ofChange Rows.fundFairSpec) :=
  OpenClaim.holds_of_wide 10 Try.f10 rfl rfl rfl rfl rfl rfl rfl ⟨rfl, rfl, rfl, rfl, rfl⟩ rfl rfl rfl rfl rfl (by kernel_rfl) Try.func10 (by kernel_rfl)
    (of_decide_eq_true (by kernel_rfl)) (by unfold Func.isWrapper; first | (rw [if_pos (by decide +kernel)]; kernel_rfl) | (rw [if_neg (by decide +kernel)]; exact ⟨rfl, rfl⟩))
    (fun os started H enc _ => lifted os started H enc)

/-- The statement. -/
theorem proved : Rows.FundFairSaid := over
end Go.Proofs.Ythleekdkbgnabaa.lawFundFair
