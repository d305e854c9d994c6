/-
  Whole and Least of the program.
-/
import Derived.Test.YthleekdkbgnabaaMathS
import Derived.Test.YthleekdkbgnabaaT
namespace Go.Proofs.Ythleekdkbgnabaa
open Go.RowKit Go.Deep M
set_option linter.unusedVariables false
set_option linter.unusedSimpArgs false
namespace M
theorem lsI_lt {f : Nat → Rt} : ∀ k, 1 ≤ k → lsI f k < k := by
  intro k
  induction k with
  | zero => intro h; omega
  | succ k ih =>
    intro _
    by_cases h0 : k = 0
    · subst h0; simp [lsI]
    · have := ih (by omega); simp only [lsI]; split <;> omega
end M
/-- Ratios whose cross products fit. -/
def crsR (f : Nat → Rt) (n : Nat) : Prop := ∀ i, i < n → (-100000000 ≤ (f i).n ∧ (f i).n ≤ 100000000) ∧ 1 ≤ (f i).d ∧ (f i).d ≤ 100000000
theorem crs_fit {a b : Rt} (ha : (-100000000 ≤ a.n ∧ a.n ≤ 100000000) ∧ 1 ≤ a.d ∧ a.d ≤ 100000000) (hb : (-100000000 ≤ b.n ∧ b.n ≤ 100000000) ∧ 1 ≤ b.d ∧ b.d ≤ 100000000) : fitP (a.n * b.d) ∧ fitP (b.n * a.d) := by
  have p1 := prod_b (a := a.n) (b := b.d) (x := 100000000) (y := 100000000) (by omega) (by omega) (by omega)
  have p2 := prod_b (a := b.n) (b := a.d) (x := 100000000) (y := 100000000) (by omega) (by omega) (by omega)
  unfold fitP
  omega
set_option maxRecDepth 100000 in
set_option maxHeartbeats 4000000 in
theorem least_any (g cp n : Nat) (F : Nat → Rt) (w : World) (hn : 1 ≤ n ∧ n ≤ 8) (hA : BlR w g n F) (hc : crsR F n) :
    Calls Try.prog 73 #[.slice (some ⟨g, 0, none⟩) n cp] w fun r w' => r = .returned (.int .i64 (lsI F n : Nat)) ∧ Below w.heap.size w w' := by
  have hcel := fun X (hX : Below w.heap.size w X) i (hi : i < n) => And.intro ((hA.up hX).c0 hi) ((hA.up hX).c1 hi)
  have kk := fun i j (hi : i < n) (hj : j < n) X => compared_any (F i) (F j) X (crs_fit (hc i hi) (hc j hj)).1 (crs_fit (hc i hi) (hc j hj)).2
  have hls := fun k (h : 1 ≤ k) => lsI_lt (f := F) k h
  have hsu := fun k => (show lsI F (k + 1) = if (F k).n * (F (lsI F k)).d < (F (lsI F k)).n * (F k).d then k else lsI F k from rfl)
  have hz : lsI F 0 = 0 := rfl
  unfold rtV at kk
  replace hcel := Lib.hid hcel
  replace kk := Lib.hid kk
  replace hls := Lib.hid hls
  replace hsu := Lib.hid hsu
  replace hz := Lib.hid hz
  replace hA := Lib.hid hA
  replace hc := Lib.hid hc
  obtain ⟨hn1, hn8⟩ := hn
  go_enter Try.func73, Try.ntmps73
  go_wp2
  go_loopw [8, 3, 4, 5] (fun iv fv _ _ wr => ∃ i : Nat, i ≤ n ∧ iv = .int .i64 (i : Nat) ∧ fv = .int .i64 (lsI F i : Nat) ∧ Below w.heap.size w wr) (fun iv _ _ _ _ => n - (intOf iv).toNat)
  case atStart => exact ⟨0, by omega, rfl, by rw [hz.out]; rfl, Below.refl _ _⟩
  case round =>
    obtain ⟨i, hi, rfl, rfl, hX⟩ := hrel
    by_cases hin : i < n
    · have hini : (i : Int) < (n : Int) := by omega
      have hjn : lsI F i < n := by
        by_cases h0 : i = 0
        · subst h0; rw [hz.out]; omega
        · have := hls.out i (by omega); omega
      obtain ⟨a0, a1⟩ := hcel.out wr hX i hin
      have hk := fun X => kk.out i (lsI F i) hin hjn X
      have hsi := hsu.out i
      have hS : ∀ Z, Below (wr.alloc (.cells #[.int .i64 (F i).n, .int .i64 (F i).d] 37)).heap.size (wr.alloc (.cells #[.int .i64 (F i).n, .int .i64 (F i).d] 37)) Z → Z.cell? ⟨wr.heap.size, 0, none⟩ = some (.int .i64 (F i).n) ∧ Z.cell? ⟨wr.heap.size, 1, none⟩ = some (.int .i64 (F i).d) ∧ Z.cell? ⟨g, lsI F i * 2, none⟩ = some (.int .i64 (F (lsI F i)).n) ∧ Z.cell? ⟨g, lsI F i * 2 + 1, none⟩ = some (.int .i64 (F (lsI F i)).d) := fun Z hZ => by
        have q := (Bxr.new wr (F i).n (F i).d).up hZ
        obtain ⟨u, v⟩ := hcel.out Z (bel_trans (bel_trans hX (ba1 _ _)) hZ) (lsI F i) hjn
        exact ⟨q.c0, q.c1, u, v⟩
      have hup := fun Z (hZ : Below (wr.alloc (.cells #[.int .i64 (F i).n, .int .i64 (F i).d] 37)).heap.size (wr.alloc (.cells #[.int .i64 (F i).n, .int .i64 (F i).d] 37)) Z) => bel_trans (bel_trans hX (ba1 wr (.cells #[.int .i64 (F i).n, .int .i64 (F i).d] 37))) hZ
      obtain ⟨j, hj⟩ : ∃ j, j = lsI F i := ⟨_, rfl⟩
      rw [← hj] at hk hsi hS hjn ⊢
      have hjI : (j : Int) < (n : Int) := by omega
      have hcn := cmpR_neg ((F i).n * (F j).d) ((F j).n * (F i).d)
      generalize hC : cmpR ((F i).n * (F j).d) ((F j).n * (F i).d) = C at *
      generalize (F i).n * (F j).d = P1 at *
      generalize (F j).n * (F i).d = P2 at *
      generalize (F i).n = an at *
      generalize (F i).d = ad at *
      generalize (F j).n = bn at *
      generalize (F j).d = bd at *
      have h0 : Below (wr.alloc (.cells #[.int .i64 an, .int .i64 ad] 37)).heap.size (wr.alloc (.cells #[.int .i64 an, .int .i64 ad] 37)) (wr.alloc (.cells #[.int .i64 an, .int .i64 ad] 37)).drew := below_drewN (Below.refl _ _) 1
      have t0 := hS _ h0
      replace hj := Lib.hid hj
      replace hC := Lib.hid hC
      replace hk := Lib.hid hk
      replace hS := Lib.hid hS
      replace hup := Lib.hid hup
      replace hX := Lib.hid hX
      by_cases hlt : P1 < P2
      · rw [if_pos hlt] at hsi
        have hneg : decide (C < 0) = true := decide_eq_true (hcn.2 hlt)
        have hneg2 := hcn.2 hlt
        replace hsi := Lib.hid hsi
        replace hcn := Lib.hid hcn
        go_wp2
        go_region_held3 (fun Z => Z.cell? ⟨wr.heap.size, 0, none⟩ = some (.int .i64 an) ∧ Z.cell? ⟨wr.heap.size, 1, none⟩ = some (.int .i64 ad) ∧ Z.cell? ⟨g, j * 2, none⟩ = some (.int .i64 bn) ∧ Z.cell? ⟨g, j * 2 + 1, none⟩ = some (.int .i64 bd)) (first | with_reducible exact t0 | with_reducible exact hS.out _ (by assumption)) ((go_at_call 100; refine (hk.out _).mono ?_; rintro _ Z1 ⟨rfl, hz1⟩; have hz2 := bel_trans h0 hz1))
        all_goals
          have hfin := Lib.hid (hup.out _ hz2)
          replace hz2 := Lib.hid hz2
          go_wp2
          go_roundw
          case rel => exact ⟨i + 1, by omega, by go_num, by rw [hsi.out], hfin.out⟩
          case measure => simp [intOf]; omega
      · rw [if_neg hlt] at hsi
        have hneg2 : ¬ C < 0 := fun h => hlt (hcn.1 h)
        have hneg : decide (C < 0) = false := decide_eq_false hneg2
        replace hsi := Lib.hid hsi
        replace hcn := Lib.hid hcn
        go_wp2
        go_region_held3 (fun Z => Z.cell? ⟨wr.heap.size, 0, none⟩ = some (.int .i64 an) ∧ Z.cell? ⟨wr.heap.size, 1, none⟩ = some (.int .i64 ad) ∧ Z.cell? ⟨g, j * 2, none⟩ = some (.int .i64 bn) ∧ Z.cell? ⟨g, j * 2 + 1, none⟩ = some (.int .i64 bd)) (first | with_reducible exact t0 | with_reducible exact hS.out _ (by assumption)) ((go_at_call 100; refine (hk.out _).mono ?_; rintro _ Z1 ⟨rfl, hz1⟩; have hz2 := bel_trans h0 hz1))
        all_goals
          have hfin := Lib.hid (hup.out _ hz2)
          replace hz2 := Lib.hid hz2
          go_wp2
          go_roundw
          case rel => exact ⟨i + 1, by omega, by go_num, by rw [hsi.out], hfin.out⟩
          case measure => simp [intOf]; omega
    · have : n = i := by omega
      subst this
      replace hX := Lib.hid hX
      go_wp2
      go_ret
      exact ⟨rfl, hX.out⟩
set_option maxRecDepth 100000 in
set_option maxHeartbeats 4000000 in
theorem Whole_ok (B : Nat) (A : Option Addr) (c : Nat) (l : List Int) (e : Int) (w : World) (h : Row w B A l) (hB : B ≤ w.heap.size) (hk : okE l e) (k : Nat) (hk1 : k < 4) :
    Calls Try.prog 38 #[.slice A l.length c, .int .i64 e, .int .i64 (k + 1 : Nat)] w fun r w' => ∃ g Q s L σ, r = .returned (.tuple #[.slice (some ⟨g, 0, none⟩) l.length l.length, .int .i64 0]) ∧ Below w.heap.size w w' ∧ BlI w' g l.length (addW (qW (shR l e (k + 1 : Nat))) σ L) ∧ Keys l.length e (shR l e (k + 1 : Nat)) Q s L ∧ InsI s l.length l.length σ := by
  have kc := cRule_ok B A c l e w h hk k hk1
  have hh := fun X (hX : Below w.heap.size w X) => h.below (hX.mono hB)
  have hBB := fun X (hX : Below w.heap.size w X) => Nat.le_trans hB hX.size
  have f1 := fun X (hX : Below w.heap.size w X) => inProp_any B A c l e X (hh X hX) (hBB X hX) hk
  have f2 := fun X (hX : Below w.heap.size w X) => eqAw_any B A c l e X (hh X hX) (hBB X hX) hk
  have f3 := fun X (hX : Below w.heap.size w X) => eqLoss_any B A c l e X (hh X hX) (hBB X hX) hk
  have f4 := fun X (hX : Below w.heap.size w X) => old_any B A c l e X (hh X hX) (hBB X hX) hk
  rw [← shR1] at f1
  rw [← shR2] at f2
  rw [← shR3] at f3
  rw [← shR4] at f4
  have tr := fun X Y g f (hX : Below w.heap.size w X) (hW : AwW X l.length g f Y) => AwW.trans (w := w) hW hX
  have hn := val_len hk.1
  have hg := fun i (hi : i < l.length) => gd_sh hk (k + 1 : Nat) hi
  have hd := fun i (hi : i < l.length) => (hg i hi).2.1
  obtain ⟨Q, s, L, hK⟩ := keys_of (cm_sh hk (k + 1 : Nat)) hd
  have hx := fun i (hi : i < l.length) => hk.1.2 i hi
  have hsm := sm_b hk.1
  have he := hk.2
  have wa : ∀ X g, BlR X g l.length (shR l e (k + 1 : Nat)) → _ := fun X g hb => whole_any g l.length l.length (shR l e (k + 1 : Nat)) e s L X hn hb (fun i hi => by
      obtain ⟨⟨a, b⟩, cc, d⟩ := hg i hi
      have hxi := hx i hi
      unfold okC at hxi
      have : el l i * (shR l e (k + 1 : Nat) i).d ≤ 1000 * (shR l e (k + 1 : Nat) i).d := Int.mul_le_mul_of_nonneg_right hxi.2 (by omega)
      exact ⟨⟨a, by omega⟩, cc, d⟩) (by omega) (fun x y hx hy => hK.cmp hd hx hy) hK.left hK.le
  generalize l.length = n at *
  clear hn hsm he
  replace wa := Lib.hid wa
  replace hK := Lib.hid hK
  replace hg := Lib.hid hg
  replace hd := Lib.hid hd
  replace hx := Lib.hid hx
  replace tr := Lib.hid tr
  replace kc := Lib.hid kc
  replace h := Lib.hid h
  replace hh := Lib.hid hh
  replace hBB := Lib.hid hBB
  replace hk := Lib.hid hk
  replace f1 := Lib.hid f1
  replace f2 := Lib.hid f2
  replace f3 := Lib.hid f3
  replace f4 := Lib.hid f4
  unfold fnV at *
  rcases (show k = 0 ∨ k = 1 ∨ k = 2 ∨ k = 3 by omega) with rfl | rfl | rfl | rfl
  all_goals
    go_enter Try.func38, Try.ntmps38
    go_wp2_with fail
    refine kc.out.mono ?_
    rintro _ X ⟨rfl, hbX⟩
    have g1 := Lib.hid (f1.out X hbX)
    have g2 := Lib.hid (f2.out X hbX)
    have g3 := Lib.hid (f3.out X hbX)
    have g4 := Lib.hid (f4.out X hbX)
    replace hbX := Lib.hid hbX
    go_wp2_with fail
    first
    | with_reducible refine g1.out.mono ?_
    | with_reducible refine g2.out.mono ?_
    | with_reducible refine g3.out.mono ?_
    | with_reducible refine g4.out.mono ?_
    rintro _ X2 ⟨g, rfl, hW⟩
    have hw2 := tr.out X X2 g _ hbX.out hW
    have kw := Lib.hid (wa.out X2 g hW.blk)
    have hb2 := Lib.hid hw2.below
    clear hW hw2 g1 g2 g3 g4
    go_wp2_with fail
    refine kw.out.mono ?_
    rintro _ X3 ⟨g', σ, rfl, hb3, hbl, hI⟩
    have hfin := Lib.hid (And.intro (bel_trans hb2.out hb3) (And.intro hbl hI))
    clear hb3 hbl hI
    go_wp2
    exact bodyPost_ret (by simp [results, Try.results38, go_sem]) rfl ⟨g', Q, s, L, σ, rfl, hfin.out.1, hfin.out.2.1, hK.out, hfin.out.2.2⟩
set_option maxRecDepth 100000 in
set_option maxHeartbeats 4000000 in
theorem Least_ok (B : Nat) (A : Option Addr) (c : Nat) (l : List Int) (e : Int) (w : World) (h : Row w B A l) (hB : B ≤ w.heap.size) (hk : okE l e) (k : Nat) (hk1 : k < 4) :
    Calls Try.prog 36 #[.slice A l.length c, .int .i64 e, .int .i64 (k + 1 : Nat)] w fun r w' => r = .returned (.tuple #[.int .i64 (lsI (shR l e (k + 1 : Nat)) l.length : Nat), .int .i64 0]) ∧ Below w.heap.size w w' := by
  have kc := cRule_ok B A c l e w h hk k hk1
  have hh := fun X (hX : Below w.heap.size w X) => h.below (hX.mono hB)
  have hBB := fun X (hX : Below w.heap.size w X) => Nat.le_trans hB hX.size
  have f1 := fun X (hX : Below w.heap.size w X) => inProp_any B A c l e X (hh X hX) (hBB X hX) hk
  have f2 := fun X (hX : Below w.heap.size w X) => eqAw_any B A c l e X (hh X hX) (hBB X hX) hk
  have f3 := fun X (hX : Below w.heap.size w X) => eqLoss_any B A c l e X (hh X hX) (hBB X hX) hk
  have f4 := fun X (hX : Below w.heap.size w X) => old_any B A c l e X (hh X hX) (hBB X hX) hk
  rw [← shR1] at f1
  rw [← shR2] at f2
  rw [← shR3] at f3
  rw [← shR4] at f4
  have tr := fun X Y g f (hX : Below w.heap.size w X) (hW : AwW X l.length g f Y) => AwW.trans (w := w) hW hX
  have hn := val_len hk.1
  have hcr : crsR (shR l e (k + 1 : Nat)) l.length := fun i hi => by have := shR_b (q := (k + 1 : Nat)) hk.1 hk.2 hi; omega
  have la : ∀ X g, BlR X g l.length (shR l e (k + 1 : Nat)) → _ := fun X g hb => least_any g l.length l.length (shR l e (k + 1 : Nat)) X hn hb hcr
  generalize l.length = n at *
  clear hn hcr
  replace la := Lib.hid la
  replace tr := Lib.hid tr
  replace kc := Lib.hid kc
  replace h := Lib.hid h
  replace hh := Lib.hid hh
  replace hBB := Lib.hid hBB
  replace hk := Lib.hid hk
  replace f1 := Lib.hid f1
  replace f2 := Lib.hid f2
  replace f3 := Lib.hid f3
  replace f4 := Lib.hid f4
  unfold fnV at *
  rcases (show k = 0 ∨ k = 1 ∨ k = 2 ∨ k = 3 by omega) with rfl | rfl | rfl | rfl
  all_goals
    go_enter Try.func36, Try.ntmps36
    go_wp2_with fail
    refine kc.out.mono ?_
    rintro _ X ⟨rfl, hbX⟩
    have g1 := Lib.hid (f1.out X hbX)
    have g2 := Lib.hid (f2.out X hbX)
    have g3 := Lib.hid (f3.out X hbX)
    have g4 := Lib.hid (f4.out X hbX)
    replace hbX := Lib.hid hbX
    go_wp2_with fail
    first
    | with_reducible refine g1.out.mono ?_
    | with_reducible refine g2.out.mono ?_
    | with_reducible refine g3.out.mono ?_
    | with_reducible refine g4.out.mono ?_
    rintro _ X2 ⟨g, rfl, hW⟩
    have hw2 := tr.out X X2 g _ hbX.out hW
    have kw := Lib.hid (la.out X2 g hW.blk)
    have hb2 := Lib.hid hw2.below
    clear hW hw2 g1 g2 g3 g4
    go_wp2_with fail
    refine kw.out.mono ?_
    rintro _ X3 ⟨rfl, hb3⟩
    have hfin := Lib.hid (bel_trans hb2.out hb3)
    clear hb3
    go_wp2
    exact bodyPost_ret (by simp [results, Try.results36, go_sem]) rfl ⟨rfl, hfin.out⟩
set_option maxRecDepth 100000 in
set_option maxHeartbeats 2000000 in
theorem Whole_bad (B : Nat) (A : Option Addr) (c : Nat) (l : List Int) (e q : Int) (w : World) (h : Row w B A l) (hk : ¬ okS l e q) :
    Calls Try.prog 38 #[.slice A l.length c, .int .i64 e, .int .i64 q] w fun r w' => r = .returned (.tuple #[.slice none 0 0, .int .i64 (errS l e q)]) ∧ Below w.heap.size w w' := by
  have k1 := cRule_bad B A c l e q w h hk
  have hne := errS_ne hk
  generalize l.length = n at *
  generalize errS l e q = E at *
  have hn : (E != 0) = true := by simp; omega
  replace k1 := Lib.hid k1
  replace h := Lib.hid h
  replace hk := Lib.hid hk
  replace hne := Lib.hid hne
  go_enter Try.func38, Try.ntmps38
  go_wp2_with fail
  refine k1.out.mono ?_
  rintro _ X ⟨rfl, hb⟩
  replace hb := Lib.hid hb
  go_wp2
  go_ret2
  exact ⟨rfl, hb.out⟩
set_option maxRecDepth 100000 in
set_option maxHeartbeats 2000000 in
theorem Least_bad (B : Nat) (A : Option Addr) (c : Nat) (l : List Int) (e q : Int) (w : World) (h : Row w B A l) (hk : ¬ okS l e q) :
    Calls Try.prog 36 #[.slice A l.length c, .int .i64 e, .int .i64 q] w fun r w' => r = .returned (.tuple #[.int .i64 0, .int .i64 (errS l e q)]) ∧ Below w.heap.size w w' := by
  have k1 := cRule_bad B A c l e q w h hk
  have hne := errS_ne hk
  generalize l.length = n at *
  generalize errS l e q = E at *
  have hn : (E != 0) = true := by simp; omega
  replace k1 := Lib.hid k1
  replace h := Lib.hid h
  replace hk := Lib.hid hk
  replace hne := Lib.hid hne
  go_enter Try.func36, Try.ntmps36
  go_wp2_with fail
  refine k1.out.mono ?_
  rintro _ X ⟨rfl, hb⟩
  replace hb := Lib.hid hb
  go_wp2
  go_ret2
  exact ⟨rfl, hb.out⟩
end Go.Proofs.Ythleekdkbgnabaa
