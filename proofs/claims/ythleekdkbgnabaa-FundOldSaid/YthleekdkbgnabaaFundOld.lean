/-
  For any claims, estate and awards, the law FundOld returns true: the awards of the old rule agree, no others do, and with two claims they are the garment's, and the means over both orders.
  Conditions: none.
-/
import Derived.Test.YthleekdkbgnabaaLr
import Derived.Test.YthleekdkbgnabaaV
import Derived.Test.YthleekdkbgnabaaK
import Derived.Deep.DeepCutAuto
import Derived.Deep.CutBlock
namespace Go.Proofs.Ythleekdkbgnabaa.lawFundOld
open Go.Joins Go.ChangeShapes Go.WideShapes Go.ChangeAt Go.RowKit Go.Deep Go.Proofs.Ythleekdkbgnabaa M
set_option linter.unusedVariables false
set_option linter.unusedSimpArgs false
attribute [local go_sem high] run_eql2

/-! ### two new boxes around a call -/
/-- A box of zeros that can be written to. -/
abbrev Zf (X : World) (b : Nat) : Prop := X.cell? ⟨b, 0, none⟩ = some (.int .i64 0) ∧ X.cell? ⟨b, 1, none⟩ = some (.int .i64 0) ∧ X.frozen? ⟨b, 0, none⟩ = false ∧ X.frozen? ⟨b, 1, none⟩ = false ∧ b < X.heap.size
theorem zf_of {X : World} {b : Nat} (h : Bxr X b 0 0) : Zf X b := ⟨h.c0, h.c1, h.fz 0, h.fz 1, h.lt⟩
abbrev Oz : Obj := .cells #[.int .i64 0, .int .i64 0] 37
abbrev Ob (n d : Int) : Obj := .cells #[.int .i64 n, .int .i64 d] 37
abbrev st2 (X : World) (b : Nat) (n d : Int) : World := (X.setCell ⟨b, 0, none⟩ (.int .i64 n)).setCell ⟨b, 1, none⟩ (.int .i64 d)
/-- Both boxes. -/
def Fin2 (wr : World) (an ad bn bd : Int) (X : World) (b1 b2 : Nat) : Prop := Below wr.heap.size wr X ∧ Bxr X b1 an ad ∧ Bxr X b2 bn bd
theorem z2 {wr X : World} (an ad bn bd : Int) (hb : Below ((wr.alloc (.cells #[.int .i64 0, .int .i64 0] 37)).alloc (.cells #[.int .i64 0, .int .i64 0] 37)).drew.heap.size ((wr.alloc (.cells #[.int .i64 0, .int .i64 0] 37)).alloc (.cells #[.int .i64 0, .int .i64 0] 37)).drew X) :
    Below wr.heap.size wr X ∧ Zf X wr.heap.size ∧ Zf X (wr.heap.size + 1) ∧
    (Below wr.heap.size wr (st2 X wr.heap.size an ad) ∧ Zf (st2 X wr.heap.size an ad) (wr.heap.size + 1) ∧ Fin2 wr an ad bn bd (st2 (st2 X wr.heap.size an ad) (wr.heap.size + 1) bn bd) wr.heap.size (wr.heap.size + 1)) ∧
    (Below wr.heap.size wr (st2 X (wr.heap.size + 1) an ad) ∧ Zf (st2 X (wr.heap.size + 1) an ad) wr.heap.size ∧ Fin2 wr an ad bn bd (st2 (st2 X (wr.heap.size + 1) an ad) wr.heap.size bn bd) (wr.heap.size + 1) wr.heap.size) := by
  have h1 : Below wr.heap.size wr ((wr.alloc Oz).alloc Oz).drew := below_drewN (bel_trans (ba1 wr _) (ba1 _ _)) 1
  have e1 : Bxr ((wr.alloc Oz).alloc Oz).drew wr.heap.size 0 0 := by
    have q := (Bxr.new wr 0 0).up (ba1 (wr.alloc Oz) Oz)
    exact q
  have e2 : Bxr ((wr.alloc Oz).alloc Oz).drew (wr.heap.size + 1) 0 0 := by
    have := Bxr.new (wr.alloc Oz) 0 0
    rw [show (wr.alloc Oz).heap.size = wr.heap.size + 1 by simp] at this
    exact this
  have hX := bel_trans h1 hb
  have f1 := e1.up hb
  have f2 := e2.up hb
  have g1 : Bxr (st2 X wr.heap.size an ad) (wr.heap.size + 1) 0 0 := f2.to (set2_far (by omega) _ _)
  have g2 : Bxr (st2 X (wr.heap.size + 1) an ad) wr.heap.size 0 0 := f1.to (set2_far (by omega) _ _)
  have b1 := set2_below hX (Nat.le_refl _) (.int .i64 an) (.int .i64 ad)
  have b2 := set2_below hX (Nat.le_succ wr.heap.size) (.int .i64 an) (.int .i64 ad)
  exact ⟨hX, zf_of f1, zf_of f2, ⟨b1, zf_of g1, set2_below b1 (Nat.le_succ _) _ _, (f1.set an ad).to (set2_far (by omega) _ _), g1.set bn bd⟩, ⟨b2, zf_of g2, set2_below b2 (Nat.le_refl _) _ _, (f2.set an ad).to (set2_far (by omega) _ _), g2.set bn bd⟩⟩
theorem z1 {wr X : World} (an ad bn bd : Int) (hb : Below (wr.alloc (.cells #[.int .i64 0, .int .i64 0] 37)).drew.heap.size (wr.alloc (.cells #[.int .i64 0, .int .i64 0] 37)).drew X) :
    Below wr.heap.size wr X ∧ Below wr.heap.size wr (X.alloc Oz) ∧ Zf (X.alloc Oz) wr.heap.size ∧
    (Below wr.heap.size wr (st2 (X.alloc Oz) wr.heap.size an ad) ∧ Zf (st2 (X.alloc Oz) wr.heap.size an ad) X.heap.size ∧ Fin2 wr an ad bn bd (st2 (st2 (X.alloc Oz) wr.heap.size an ad) X.heap.size bn bd) wr.heap.size X.heap.size) ∧
    (Below wr.heap.size wr (X.alloc (Ob an ad)) ∧ Zf (X.alloc (Ob an ad)) wr.heap.size ∧ Fin2 wr an ad bn bd (st2 (X.alloc (Ob an ad)) wr.heap.size bn bd) X.heap.size wr.heap.size) := by
  have h1 : Below wr.heap.size wr (wr.alloc Oz).drew := below_drewN (ba1 wr _) 1
  have e1 : Bxr (wr.alloc Oz).drew wr.heap.size 0 0 := Bxr.new wr 0 0
  have hX := bel_trans h1 hb
  have f1 := e1.up hb
  have hlt := f1.lt
  have hle : wr.heap.size ≤ X.heap.size := hX.size
  have f2 : Bxr (X.alloc Oz) wr.heap.size 0 0 := f1.up (ba1 _ _)
  have f3 : Bxr (X.alloc Oz) X.heap.size 0 0 := Bxr.new X 0 0
  have f4 : Bxr (X.alloc (Ob an ad)) wr.heap.size 0 0 := f1.up (ba1 _ _)
  have f5 : Bxr (X.alloc (Ob an ad)) X.heap.size an ad := Bxr.new X an ad
  have y1 : Below wr.heap.size wr (X.alloc Oz) := bel_trans hX (ba1 _ _)
  have y2 : Below wr.heap.size wr (X.alloc (Ob an ad)) := bel_trans hX (ba1 _ _)
  have g1 : Bxr (st2 (X.alloc Oz) wr.heap.size an ad) X.heap.size 0 0 := f3.to (set2_far (by omega) _ _)
  have b1 := set2_below y1 (Nat.le_refl _) (.int .i64 an) (.int .i64 ad)
  exact ⟨hX, y1, zf_of f2, ⟨b1, zf_of g1, set2_below b1 hle _ _, (f2.set an ad).to (set2_far (by omega) _ _), g1.set bn bd⟩, ⟨y2, zf_of f4, set2_below y2 (Nat.le_refl _) _ _, f5.to (set2_far (by omega) _ _), f4.set bn bd⟩⟩
theorem z0 {wr X : World} (an ad bn bd : Int) (hb : Below wr.drew.heap.size wr.drew X) :
    Below wr.heap.size wr X ∧ Below wr.heap.size wr (X.alloc Oz) ∧ Below wr.heap.size wr ((X.alloc Oz).alloc Oz) ∧ Below wr.heap.size wr ((X.alloc (Ob an ad)).alloc Oz) ∧ Below wr.heap.size wr ((X.alloc Oz).alloc (Ob an ad)) ∧
    Fin2 wr an ad bn bd ((X.alloc (Ob an ad)).alloc (Ob bn bd)) X.heap.size (X.heap.size + 1) ∧ Fin2 wr an ad bn bd ((X.alloc (Ob bn bd)).alloc (Ob an ad)) (X.heap.size + 1) X.heap.size := by
  have hX : Below wr.heap.size wr X := bel_trans (below_drewN (Below.refl _ _) 1) hb
  have al : ∀ a b : Obj, Below wr.heap.size wr ((X.alloc a).alloc b) := fun a b => bel_trans hX (bel_trans (ba1 X a) (ba1 _ b))
  have q1 := (Bxr.new X an ad).up (ba1 _ (Ob bn bd))
  have q2 := Bxr.new (X.alloc (Ob an ad)) bn bd
  rw [show (X.alloc (Ob an ad)).heap.size = X.heap.size + 1 by simp] at q2
  have q3 := (Bxr.new X bn bd).up (ba1 _ (Ob an ad))
  have q4 := Bxr.new (X.alloc (Ob bn bd)) an ad
  rw [show (X.alloc (Ob bn bd)).heap.size = X.heap.size + 1 by simp] at q4
  exact ⟨hX, bel_trans hX (ba1 _ _), al _ _, al _ _, al _ _, ⟨al _ _, q1, q2⟩, ⟨al _ _, q4, q3⟩⟩
theorem blR_congr {w : World} {g n : Nat} {f f' : Nat → Rt} (h : BlR w g n f) (he : ∀ i, i < n → f i = f' i) : BlR w g n f' := by
  obtain ⟨cs, h1, h2⟩ := h
  exact ⟨cs, h1, fun i hi => by rw [← he i hi]; exact h2 i hi⟩
theorem rtF_congr {w : World} {A : Option Addr} {n : Nat} {f f' : Nat → Rt} (h : RtF w A n f) (he : ∀ i, i < n → f i = f' i) : RtF w A n f' := fun hn => by
  obtain ⟨g, e, hb⟩ := h hn
  exact ⟨g, e, blR_congr hb he⟩

set_option maxRecDepth 100000 in
set_option maxHeartbeats 4000000 in
theorem out (A Aw : Option Addr) (c n cw m : Nat) (e : Int) (w : World) (hn : n ≤ 9223372036854775807) (hl : 40 < n) :
    Calls Try.prog 13 #[.slice A n c, .int .i64 e, .slice Aw m cw] w fun r w' => r = .returned (.bool true) ∧ Below w.heap.size w w' := by
  have k1 := Long_any A c n w hn
  rw [show decide (40 < (n : Int)) = true from decide_eq_true (by omega)] at k1
  replace k1 := Lib.hid k1
  go_enter Try.func13, Try.ntmps13
  go_wp2_with fail
  refine k1.out.mono ?_
  rintro _ X ⟨rfl, rfl⟩
  go_wp2_with fail
  refine (Sane_any _).mono ?_
  rintro _ X2 ⟨rfl, hb⟩
  go_wp2
  go_ret
  exact ⟨rfl, hb⟩
set_option maxRecDepth 100000 in
set_option maxHeartbeats 4000000 in
theorem out2 (A Aw : Option Addr) (c n cw m : Nat) (e : Int) (w : World) (hn : n ≤ 9223372036854775807) (hl : ¬ 40 < n) (hm : 40 < m) :
    Calls Try.prog 13 #[.slice A n c, .int .i64 e, .slice Aw m cw] w fun r w' => r = .returned (.bool true) ∧ Below w.heap.size w w' := by
  have k1 := Long_any A c n w hn
  rw [show decide (40 < (n : Int)) = false from decide_eq_false (by omega)] at k1
  replace k1 := Lib.hid k1
  have hm2 : (40 : Int) < m := by omega
  replace hl := Lib.hid hl
  go_enter Try.func13, Try.ntmps13
  go_wp2_with fail
  refine k1.out.mono ?_
  rintro _ X ⟨rfl, rfl⟩
  go_wp2_with fail
  refine (Sane_any _).mono ?_
  rintro _ X2 ⟨rfl, hb⟩
  go_wp2
  go_ret
  exact ⟨rfl, hb⟩
set_option maxRecDepth 100000 in
set_option maxHeartbeats 4000000 in
theorem bad (A Aw : Option Addr) (c cw m : Nat) (l : List Int) (e : Int) (w : World) (h : Row w w.heap.size A l) (hl : ¬ 40 < l.length) (hm : ¬ 40 < m) (hk : ¬ okE l e) :
    Calls Try.prog 13 #[.slice A l.length c, .int .i64 e, .slice Aw m cw] w fun r w' => r = .returned (.bool true) ∧ Below w.heap.size w w' := by
  have k1 := Long_any A c l.length w h.1
  rw [show decide (40 < (l.length : Int)) = false from decide_eq_false (by omega)] at k1
  have hks : ¬ okS l e 4 := fun hh => hk hh.1
  have a1 := Share_any w.heap.size A c l e 4 w h (Nat.le_refl _)
  unfold ShR at a1
  rw [shN_bad hks] at a1
  have hne := errS_ne hks
  generalize errS l e 4 = E at *
  generalize l.length = n at *
  have hn : (E != 0) = true := by simp; omega
  have hm2 : ¬ (40 : Int) < m := by omega
  replace k1 := Lib.hid k1
  replace a1 := Lib.hid a1
  replace h := Lib.hid h
  replace hl := Lib.hid hl
  replace hk := Lib.hid hk
  replace hks := Lib.hid hks
  replace hne := Lib.hid hne
  go_enter Try.func13, Try.ntmps13
  go_wp2_with fail
  refine k1.out.mono ?_
  rintro _ X ⟨rfl, rfl⟩
  go_wp2_with fail
  refine a1.out.mono ?_
  rintro _ X1 ⟨A1, N1, cp1, rfl, hb1, hN1, f1⟩
  subst hN1
  replace hb1 := Lib.hid hb1
  replace f1 := Lib.hid f1
  go_wp2_with fail
  refine (Sane_any _).mono ?_
  rintro _ X2 ⟨rfl, hb2⟩
  have hz := Lib.hid (bel_trans hb1.out hb2)
  go_wp2
  go_ret
  exact ⟨rfl, hz.out⟩
set_option maxRecDepth 100000 in
set_option maxHeartbeats 8000000 in
theorem inn (A Aw : Option Addr) (c cw : Nat) (l : List Int) (D : List Rt) (e : Int) (w : World) (h : Row w w.heap.size A l) (hw : Rts w w.heap.size Aw D) (hl : ¬ 40 < l.length) (hm : ¬ 40 < D.length) (hE : okE l e) :
    Calls Try.prog 13 #[.slice A l.length c, .int .i64 e, .slice Aw D.length cw] w fun r w' => r = .returned (.bool true) ∧ Below w.heap.size w w' := by
  have hk : okS l e 4 := ⟨hE, by decide, by decide⟩
  have hv := hE.1
  have hn := val_len hv
  have k1 := Long_any A c l.length w h.1
  rw [show decide (40 < (l.length : Int)) = false from decide_eq_false (by omega)] at k1
  have a1 := Share_any w.heap.size A c l e 4 w h (Nat.le_refl _)
  unfold ShR at a1
  rw [shN_ok hk, errS_ok hk] at a1
  have aS := fun X g cp (hX : Below w.heap.size w X) (hb : BlR X g l.length (shR l e 4)) => Agrees_any A (some ⟨g, 0, none⟩) c cp l e (mkQ (shR l e 4) l.length) X (h.up hX) (rts_blk hb (by omega)) (by rw [mkQ_len]; omega)
  simp only [mkQ_len, old_agrees hE, errA_ok (sh_share hE 4).1] at aS
  have aD := fun X (hX : Below w.heap.size w X) => Agrees_any A Aw c cw l e D X (h.up hX) (hw.up hX) (by omega)
  have v1 := fun X (hX : Below w.heap.size w X) A' cp (hf : RtF X A' l.length (shR l e 4)) => valid_true A A' c cp l _ X (h.up hX) hv hf (fun i hi => gd_sh hE 4 hi)
  have hyes : agB l e D = true → D.length = l.length ∧ errA l e D = 0 ∧ ∀ i, i < l.length → okW (rt D i) ∧ (rt D i).n * (shR l e 4 i).d = (shR l e 4 i).n * (rt D i).d := fun hag => by
    obtain ⟨p, q⟩ := old_alone hag
    have hok : okA l e D := by
      unfold agB at hag
      by_cases hh : okA l e D
      · exact hh
      · rw [if_neg hh] at hag; cases hag
    exact ⟨p, errA_ok hok, fun i hi => ⟨hok.2.2 i (by omega), q i hi⟩⟩
  have herr : errA l e D = 0 ∨ errA l e D = 2 := by
    unfold errA
    rw [if_pos hE]
    by_cases hh : isA l D
    · rw [if_pos hh]; exact .inl rfl
    · rw [if_neg hh]; exact .inr rfl
  have hg1 := fun i (hi : i < l.length) => gd_sh hE 4 hi
  have hxs := fun i (hi : i < l.length) => hv.2 i hi
  have hat := fun X (hX : Below w.heap.size w X) k (hk : k < l.length) => (h.below hX).at_ k hk
  have hwt := fun X (hX : Below w.heap.size w X) k (hk : k < D.length) => (hw.below hX).at_ k hk
  have kG : l.length = 2 → ∀ X, Calls Try.prog 34 #[.int .i64 (el l 0), .int .i64 (el l 1), .int .i64 e] X fun r w' => r = .returned (.tuple #[.agg #[.int .i64 (shR l e 4 0).n, .int .i64 (shR l e 4 0).d], .agg #[.int .i64 (shR l e 4 1).n, .int .i64 (shR l e 4 1).d], .int .i64 0]) ∧ Below X.heap.size X w' := fun h2 X => by
    have k := Garment_any (el l 0) (el l 1) e X
    obtain ⟨p, q0, q1⟩ := two_gar hE h2
    unfold gaX gaY gaE at k
    rw [if_pos p, if_pos p, if_pos p, ← q0, ← q1] at k
    exact k
  have kM : l.length = 2 → ∀ X, Below w.heap.size w X → Calls Try.prog 47 #[.slice A l.length c, .int .i64 e] X fun r w' => ∃ A' N cp, r = .returned (.tuple #[.slice A' N cp, .int .i64 0]) ∧ Below X.heap.size X w' ∧ N = l.length ∧ RtF w' A' N (shR l e 4) := fun h2 X hX => by
    have k := Middle_any A c l e X (h.up hX)
    have hV : okV l e := ⟨hE, by omega⟩
    unfold ShR miN errV at k
    rw [if_pos hV, if_pos hV.1, if_pos hV.2] at k
    refine k.mono ?_
    rintro _ w' ⟨A', N, cp, rfl, hb, hN, hf⟩
    exact ⟨A', N, cp, rfl, hb, hN, rtF_congr hf fun i hi => two_mid hE h2 (by omega)⟩
  have kR := fun X A' A'' cp cp' (hf : RtF X A' l.length (shR l e 4)) (hf' : RtF X A'' l.length (shR l e 4)) => same_true A' A'' l.length cp cp' (shR l e 4) X hf hf' (by omega)
  have hd40 : decide ((40 : Int) < D.length) = false := decide_eq_false (by omega)
  have hm2 : ¬ (40 : Int) < D.length := by omega
  generalize shR l e 4 = F at *
  obtain ⟨AG, hAG⟩ : ∃ b, b = agB l e D := ⟨_, rfl⟩
  obtain ⟨ER, hER⟩ : ∃ b, b = errA l e D := ⟨_, rfl⟩
  rw [← hAG] at hyes
  rw [← hER] at hyes herr
  simp only [← hAG, ← hER] at aD
  generalize l.length = n at *
  generalize D.length = m at *
  replace hAG := Lib.hid hAG
  replace hER := Lib.hid hER
  replace k1 := Lib.hid k1
  replace a1 := Lib.hid a1
  replace aS := Lib.hid aS
  replace aD := Lib.hid aD
  replace v1 := Lib.hid v1
  replace hyes := Lib.hid hyes
  replace herr := Lib.hid herr
  replace hg1 := Lib.hid hg1
  replace hxs := Lib.hid hxs
  replace hat := Lib.hid hat
  replace hwt := Lib.hid hwt
  replace kG := Lib.hid kG
  replace kM := Lib.hid kM
  replace kR := Lib.hid kR
  replace h := Lib.hid h
  replace hw := Lib.hid hw
  replace hl := Lib.hid hl
  replace hm := Lib.hid hm
  replace hv := Lib.hid hv
  replace hE := Lib.hid hE
  replace hk := Lib.hid hk
  obtain ⟨hn1, hn8⟩ := hn
  go_enter Try.func13, Try.ntmps13
  go_wp2_with fail
  refine k1.out.mono ?_
  rintro _ X ⟨rfl, rfl⟩
  go_wp2_with fail
  refine a1.out.mono ?_
  rintro _ X1 ⟨A1, N1, cp1, rfl, hb1, hN1, f1⟩
  replace hN1 := hN1.symm
  subst hN1
  obtain ⟨g, rfl, hbl⟩ := f1 (by omega)
  have kS := Lib.hid (aS.out X1 g cp1 hb1 hbl)
  have hX := fun Z (hZ : Below X1.heap.size X1 Z) => And.intro (hbl.up hZ) (bel_trans hb1 hZ)
  replace hX := Lib.hid hX
  replace f1 := Lib.hid f1
  replace hbl := Lib.hid hbl
  replace hb1 := Lib.hid hb1
  go_wp2_with fail
  refine kS.out.mono ?_
  rintro _ X2 ⟨rfl, hb2⟩
  have kD := Lib.hid (aD.out X2 (hX.out X2 hb2).2)
  replace hb2 := Lib.hid hb2
  go_wp2_with fail
  refine kD.out.mono ?_
  rintro _ X3 ⟨rfl, hb3⟩
  have z3 := bel_trans hb2.out hb3
  have u3 := hX.out X3 z3
  have kV := Lib.hid (v1.out X3 u3.2 (some ⟨g, 0, none⟩) cp1 (fun _ => ⟨g, rfl, u3.1⟩))
  replace hb3 := Lib.hid hb3
  replace u3 := Lib.hid u3
  replace z3 := Lib.hid z3
  go_upto_region 8 with fail
  go_cut [82] from 53 to 82 (fun v wx => v = .bool false ∧ Below X1.heap.size X1 wx)
  case first =>
    cases AG with
    | true =>
      obtain ⟨hDn, hER0, hD⟩ := hyes.out rfl
      subst hER0 hDn
      replace hD := Lib.hid hD
      replace herr := Lib.hid herr
      go_wp2_with fail
      refine kV.out.mono ?_
      rintro _ X4 ⟨rfl, j4, rfl⟩
      have b4 := Lib.hid (fun N => below_drewN z3.out N)
      go_wp2_with fail
      go_meet
      exact ⟨rfl, b4.out _⟩
    | false =>
      have hc := herr.out
      rcases hc with h0 | h0
      all_goals
        subst h0
        go_wp2_with fail
        refine kV.out.mono ?_
        rintro _ X4 ⟨rfl, j4, rfl⟩
        have b4 := Lib.hid (fun N => below_drewN z3.out N)
        go_wp2_with fail
        go_meet
        exact ⟨rfl, b4.out _⟩
  case rest =>
  obtain ⟨rfl, hw1⟩ := hcut
  replace hw1 := Lib.hid hw1
  go_upto_block 0 with fail
  go_cut [13] from 83 to 114 (fun v wx => Below X1.heap.size X1 wx)
  case first =>
    cases AG with
    | true =>
      obtain ⟨hDn, hER0, hD⟩ := hyes.out rfl
      subst hER0 hDn
      replace hD := Lib.hid hD
      replace herr := Lib.hid herr
      go_wp2_with fail
      go_loopw [13] (fun i wr => ∃ k : Nat, k ≤ m ∧ i = .int .i64 (k : Nat) ∧ Below X1.heap.size X1 wr) (fun i _ => m - (intOf i).toNat)
      case atStart => exact ⟨0, by omega, rfl, hw1.out⟩
      case round =>
        clear hw1
        obtain ⟨k, hkk, rfl, hY⟩ := hrel
        by_cases hkn : k < m
        · have hkn2 : (k : Int) < (m : Int) := by omega
          have u1 := hX.out wr hY
          obtain ⟨bw, ow, rfl, _, x0, x1⟩ := hwt.out wr u1.2 k hkn
          have y0 := u1.1.c0 hkn
          have y1 := u1.1.c1 hkn
          obtain ⟨o1, o2⟩ := hD.out k hkn
          obtain ⟨⟨g1, g2⟩, g3, g4⟩ := hg1.out k hkn
          have hxk := hxs.out k hkn
          unfold okC at hxk
          unfold okW at o1
          have hYd := Lib.hid (fun N => below_drewN hY N)
          generalize rt D k = dk at *
          generalize F k = fk at *
          obtain ⟨p, q⟩ := dk
          obtain ⟨r, s⟩ := fk
          simp only at *
          have pb := mul_b (a := el l k) (b := s) (A := 1000) (B := 10000) hxk (by omega)
          have pr := prod_b (a := p) (b := s) (x := 1000000000) (y := 10000) (by omega) (by omega) (by omega)
          obtain ⟨t, ht⟩ : ∃ z, z = p * s := ⟨_, rfl⟩
          rw [← ht] at pr o2
          have w1 : IntKind.i64.wrap (p * s) = t := by rw [← ht]; exact IntWalk.i64_in _ (by omega)
          have w2 : IntKind.i64.wrap (r * q) = t := by rw [← o2]; exact IntWalk.i64_in _ (by omega)
          have hne : (t != t) = false := by simp
          clear pb pr o1 g1 g2 g3 g4 hxk u1
          replace o2 := Lib.hid o2
          replace ht := Lib.hid ht
          replace hY := Lib.hid hY
          go_wp2_with fail
          go_quiet (fail)
          go_wp2
          go_roundw
          case rel => exact ⟨k + 1, by omega, by go_num, hYd.out _⟩
          case measure => simp [intOf]; omega
        · have hkk2 : m = k := by omega
          subst hkk2
          replace hY := Lib.hid hY
          go_wp2_with fail
          go_meet
          exact hY.out
    | false =>
      go_wp2_with fail
      go_loopw [13] (fun i wr => ∃ k : Nat, k ≤ n ∧ i = .int .i64 (k : Nat) ∧ Below X1.heap.size X1 wr) (fun i _ => n - (intOf i).toNat)
      case atStart => exact ⟨0, by omega, rfl, hw1.out⟩
      case round =>
        clear hw1
        obtain ⟨k, hkk, rfl, hY⟩ := hrel
        replace hY := Lib.hid hY
        by_cases hkn : k < n
        · have hkn2 : (k : Int) < (n : Int) := by omega
          go_wp2_with fail
          go_meet
          exact hY.out
        · have hkk2 : n = k := by omega
          subst hkk2
          go_wp2_with fail
          go_meet
          exact hY.out
  case rest =>
  clear hyes herr kV z3
  have u4 := hX.out wc hcut
  by_cases h2 : n = 2
  · subst h2
    have kG2 := kG.out rfl
    have kM2 := kM.out rfl
    obtain ⟨ba, oa, rfl, _, _⟩ := hat.out wc u4.2 0 (by omega)
    have hcel : ∀ Z, Below wc.heap.size wc Z → Z.cell? ⟨ba, oa, none⟩ = some (.int .i64 (el l 0)) ∧ Z.cell? ⟨ba, oa + 1, none⟩ = some (.int .i64 (el l 1)) := fun Z hZ => by
      have u := hX.out Z (bel_trans hcut hZ)
      obtain ⟨b', o', he', _, s0⟩ := hat.out Z u.2 0 (by omega)
      cases he'
      obtain ⟨b', o', he', _, s1⟩ := hat.out Z u.2 1 (by omega)
      cases he'
      exact ⟨s0, s1⟩
    have hup := fun Z (hZ : Below wc.heap.size wc Z) => bel_trans hcut hZ
    obtain ⟨an, han⟩ : ∃ z, z = (F 0).n := ⟨_, rfl⟩
    obtain ⟨ad, had⟩ : ∃ z, z = (F 0).d := ⟨_, rfl⟩
    obtain ⟨bn, hbn⟩ : ∃ z, z = (F 1).n := ⟨_, rfl⟩
    obtain ⟨bd, hbd⟩ : ∃ z, z = (F 1).d := ⟨_, rfl⟩
    simp only [← han, ← had, ← hbn, ← hbd] at kG2
    replace han := Lib.hid han
    replace had := Lib.hid had
    replace hbn := Lib.hid hbn
    replace hbd := Lib.hid hbd
    have hp0 : Below wc.heap.size wc wc.drew := below_drewN (Below.refl _ _) 1
    have hp1 : Below wc.heap.size wc (wc.alloc (.cells #[.int .i64 0, .int .i64 0] 37)).drew := below_drewN (ba1 wc _) 1
    have hp2 : Below wc.heap.size wc ((wc.alloc (.cells #[.int .i64 0, .int .i64 0] 37)).alloc (.cells #[.int .i64 0, .int .i64 0] 37)).drew := below_drewN (bel_trans (ba1 wc _) (ba1 _ _)) 1
    have s0 := hcel _ hp0
    have s1 := hcel _ hp1
    have s2 := hcel _ hp2
    replace hcel := Lib.hid hcel
    replace hup := Lib.hid hup
    replace kG2 := Lib.hid kG2
    replace kM2 := Lib.hid kM2
    replace u4 := Lib.hid u4
    replace hcut := Lib.hid hcut
    replace hp0 := Lib.hid hp0
    replace hp1 := Lib.hid hp1
    replace hp2 := Lib.hid hp2
    go_upto_region 17 with fail
    go_cut [8, 14, 15] from 119 to 130 (fun v p q wx => ∃ b1 b2 : Nat, v = .int .i64 0 ∧ p = .pointer (some ⟨b1, 0, none⟩) ∧ q = .pointer (some ⟨b2, 0, none⟩) ∧ Fin2 wc an ad bn bd wx b1 b2)
    case first =>
      go_region_held3 (fun X => X.cell? ⟨ba, oa, none⟩ = some (.int .i64 (el l 0)) ∧ X.cell? ⟨ba, oa + 1, none⟩ = some (.int .i64 (el l 1))) (first | with_reducible exact s0 | with_reducible exact s1 | with_reducible exact s2 | with_reducible exact k0 | with_reducible exact k1 | with_reducible exact k2 | with_reducible exact k3 | with_reducible exact k4 | with_reducible exact k5 | with_reducible exact k6) ((go_at_call 34; refine (kG2.out _).mono ?_; rintro _ X4 ⟨rfl, hb4⟩; first | (have z := z2 (wr := wc) an ad bn bd hb4; dsimp only [Zf, st2, Oz, Ob] at z; obtain ⟨w0, ⟨c1, c2, c3, c4, c5⟩, ⟨c6, c7, c8, c9, c10⟩, ⟨w1, ⟨d1, d2, d3, d4, d5⟩, fa⟩, ⟨w2, ⟨d6, d7, d8, d9, d10⟩, fb⟩⟩ := z; have k0 := hcel.out _ w0; have k1 := hcel.out _ w1; have k2 := hcel.out _ w2; have k3 := hcel.out _ fa.1; have k4 := hcel.out _ fb.1; replace fa := Lib.hid fa; replace fb := Lib.hid fb; clear w0 w1 w2) | (have z := z1 (wr := wc) an ad bn bd hb4; dsimp only [Zf, st2, Oz, Ob] at z; obtain ⟨w0, w1, ⟨c1, c2, c3, c4, c5⟩, ⟨w2, ⟨d1, d2, d3, d4, d5⟩, fa⟩, ⟨w3, ⟨d6, d7, d8, d9, d10⟩, fb⟩⟩ := z; have k0 := hcel.out _ w0; have k1 := hcel.out _ w1; have k2 := hcel.out _ w2; have k3 := hcel.out _ fa.1; have k4 := hcel.out _ w3; have k5 := hcel.out _ fb.1; replace fa := Lib.hid fa; replace fb := Lib.hid fb; clear w0 w1 w2 w3) | (have z := z0 (wr := wc) an ad bn bd hb4; dsimp only [Zf, st2, Oz, Ob] at z; obtain ⟨w0, w1, w2, w3, w4, fa, fb⟩ := z; have k0 := hcel.out _ w0; have k1 := hcel.out _ w1; have k2 := hcel.out _ w2; have k3 := hcel.out _ w3; have k4 := hcel.out _ w4; have k5 := hcel.out _ fa.1; have k6 := hcel.out _ fb.1; replace fa := Lib.hid fa; replace fb := Lib.hid fb; clear w0 w1 w2 w3 w4)))
      all_goals
        go_wp2_with fail
        go_meet
        first
          | exact ⟨_, _, rfl, rfl, rfl, fa.out⟩
          | exact ⟨_, _, rfl, rfl, rfl, fb.out⟩
    case rest =>
    obtain ⟨b1, b2, rfl, rfl, rfl, hf, d1, d2⟩ := hcut
    have u5 := hX.out wc (hup.out wc hf)
    have kM3 := Lib.hid (kM2.out wc u5.2)
    replace hf := Lib.hid hf
    replace d1 := Lib.hid d1
    replace d2 := Lib.hid d2
    replace u5 := Lib.hid u5
    clear s0 s1 s2
    go_wp2_with fail
    refine kM3.out.mono ?_
    rintro _ X6 ⟨A6, N6, cp6, rfl, hb6, hN6, f6⟩
    subst hN6
    have z6 := hup.out X6 (bel_trans hf.out hb6)
    have kR2 : ∀ Z, Below X6.heap.size X6 Z → Calls Try.prog 25 #[.slice A6 2 cp6, .slice (some ⟨g, 0, none⟩) 2 cp1] Z fun r w' => r = .returned (.bool true) ∧ Below Z.heap.size Z w' := fun Z hZ => by
      have u := hX.out Z (bel_trans z6 hZ)
      exact kR.out Z A6 (some ⟨g, 0, none⟩) cp6 cp1 (f6.up hZ) (fun _ => ⟨g, rfl, u.1⟩)
    have hS : ∀ Z, Below X6.heap.size X6 Z → Z.cell? ⟨b1, 0, none⟩ = some (.int .i64 an) ∧ Z.cell? ⟨b1, 1, none⟩ = some (.int .i64 ad) ∧ Z.cell? ⟨b2, 0, none⟩ = some (.int .i64 bn) ∧ Z.cell? ⟨b2, 1, none⟩ = some (.int .i64 bd) ∧ Z.cell? ⟨g, 0, none⟩ = some (.int .i64 an) ∧ Z.cell? ⟨g, 1, none⟩ = some (.int .i64 ad) ∧ Z.cell? ⟨g, 2, none⟩ = some (.int .i64 bn) ∧ Z.cell? ⟨g, 3, none⟩ = some (.int .i64 bd) := fun Z hZ => by
      have u := hX.out Z (bel_trans z6 hZ)
      have q1 := (d1.out.up hb6).up hZ
      have q2 := (d2.out.up hb6).up hZ
      have g0 := u.1.c0 (i := 0) (by omega)
      have g1 := u.1.c1 (i := 0) (by omega)
      have g2 := u.1.c0 (i := 1) (by omega)
      have g3 := u.1.c1 (i := 1) (by omega)
      rw [← han.out] at g0
      rw [← had.out] at g1
      rw [← hbn.out] at g2
      rw [← hbd.out] at g3
      exact ⟨q1.c0, q1.c1, q2.c0, q2.c1, g0, g1, g2, g3⟩
    have hd0 : Below X6.heap.size X6 X6.drew := below_drewN (Below.refl _ _) 1
    have t0 := hS _ hd0
    have hfin := fun Z (hZ : Below X6.heap.size X6 Z) => (hX.out Z (bel_trans z6 hZ)).2
    have he1 : e2 an ad an ad = true := by simp [e2]
    have he2 : e2 bn bd bn bd = true := by simp [e2]
    replace kR2 := Lib.hid kR2
    replace hS := Lib.hid hS
    replace hfin := Lib.hid hfin
    replace z6 := Lib.hid z6
    replace f6 := Lib.hid f6
    replace hb6 := Lib.hid hb6
    go_wp2_with fail
    go_region_held3 (fun Z => Z.cell? ⟨b1, 0, none⟩ = some (.int .i64 an) ∧ Z.cell? ⟨b1, 1, none⟩ = some (.int .i64 ad) ∧ Z.cell? ⟨b2, 0, none⟩ = some (.int .i64 bn) ∧ Z.cell? ⟨b2, 1, none⟩ = some (.int .i64 bd) ∧ Z.cell? ⟨g, 0, none⟩ = some (.int .i64 an) ∧ Z.cell? ⟨g, 1, none⟩ = some (.int .i64 ad) ∧ Z.cell? ⟨g, 2, none⟩ = some (.int .i64 bn) ∧ Z.cell? ⟨g, 3, none⟩ = some (.int .i64 bd)) (first | with_reducible exact t0 | with_reducible exact hS.out _ (by assumption)) ((first | (go_at_call 25; refine (kR2.out _ hd0).mono ?_; rintro _ X8 ⟨rfl, hb8⟩; have hd8 := bel_trans hd0 hb8) | (go_at_call 18; refine (Sane_any _).mono ?_; rintro _ X9 ⟨rfl, hb9⟩; have hd9 := bel_trans hd8 hb9)))
    all_goals
      have hz9 := Lib.hid (hfin.out _ hd9)
      go_wp2
      go_ret
      exact ⟨rfl, hz9.out⟩
  · have hn2 : ((n : Int) != 2) = true := by simp; omega
    have hn3 : ¬ (n : Int) = 2 := by omega
    replace u4 := Lib.hid u4
    replace hcut := Lib.hid hcut
    go_wp2_with fail
    refine (Sane_any _).mono ?_
    rintro _ X7 ⟨rfl, hb7⟩
    have hz7 := Lib.hid (bel_trans u4.out.2 hb7)
    clear hb7
    go_wp2
    go_ret
    exact ⟨rfl, hz7.out⟩
theorem walk (A : Option Addr) (c : Nat) (l : List Int) (e : Int) (Aw : Option Addr) (cw : Nat) (D : List Rt) (w : World) (h : Row w w.heap.size A l) (_ : -9223372036854775808 ≤ e ∧ e ≤ 9223372036854775807) (hw : Rts w w.heap.size Aw D) :
    Calls Try.prog 13 #[.slice A l.length c, .int .i64 e, .slice Aw D.length cw] w fun r w' => r = .returned (.bool true) ∧ Below w.heap.size w w' := by
  by_cases hl : 40 < l.length
  · exact out A Aw c l.length cw D.length e w h.1 hl
  · by_cases hm : 40 < D.length
    · exact out2 A Aw c l.length cw D.length e w h.1 hl hm
    · by_cases hE : okE l e
      · exact inn A Aw c cw l D e w h hw hl hm hE
      · exact bad A Aw c cw D.length l e w h hl hm hE

/-! ### the row's step -/
set_option maxRecDepth 100000 in
theorem lifted (os : Os) (started : os.Started) (H : Type) (enc : TypeId × Value → H) :
    ReturnsInHanded {} Try.checked os 13 .any (Rows.fundOldSpec.pre6 enc Try.prog Try.f13 Rows.fundOldRow.domain false) (Rows.fundOldSpec.post enc Try.prog Try.f13 false true false false) := by
  refine returnsInHanded_of_change (C := Try.checked) own started (by kernel_rfl) Try.func13
    (ChangeSpec.witness6 (enc := enc) (C := Try.checked) false ⟨#[], #[.slice none 0 0, .int .i64 0, .slice none 0 0], []⟩ 8 (by kernel_rfl) (by kernel_rfl) (by kernel_rfl) (by kernel_rfl)) ?_
  intro W base args ds gs before hval0 hW hcnd _
  have hval : ∀ (j : Nat) t v, Try.f13.params[j]? = some t → args[j]? = some v → Value.okWide Try.prog W .any base t v := hval0
  have hW' := hW
  obtain ⟨p, q, hA0, hV, rfl, hfz, hnd⟩ := hW
  have hA : DataW.TrodAll enc Try.prog W 0 (fun _ => true) true Try.f13.params.toList args.toList ds p := hA0
  rw [Try.params13] at hA hval
  obtain ⟨v0, vs0, d0, ds0, p0, q0, hargs, rfl, rfl, h0, r0⟩ := trodAll_cons hA
  obtain ⟨v1, vs1, d1, ds1, p1, q1, rfl, rfl, rfl, h1, r1⟩ := trodAll_cons r0
  obtain ⟨v2, vs2, d2, ds2, p2, q2, rfl, rfl, rfl, h2, r2⟩ := trodAll_cons r1
  obtain ⟨rfl, rfl, rfl⟩ := trodAll_nil r2
  obtain rfl : args = #[v0, v1, v2] := by cases args; simp_all
  obtain ⟨rfl, rfl⟩ := trodVars_none hV
  have k0 := h0
  have lt0 : ∀ x ∈ p0, x.block < W.heap.size := by obtain ⟨m, hm⟩ := k0; exact DataW.trod_lt m _ _ _ hm
  obtain ⟨a0, len0, cap0, T0, rfl, rfl, w0⟩ : ∃ A len cap D, v0 = .slice A len cap ∧ D.length = len ∧ Row W W.heap.size A D := by
    obtain ⟨s0, s1, s2, rfl⟩ := okWide_slice Try.underlying22 (hval 0 22 v0 rfl rfl)
    obtain ⟨fuel, hf⟩ := h0
    exact row_of (by simpa [Value.cells] using hf)
  obtain ⟨a1, rfl, rfl, rfl, w1⟩ := open_int Try.underlying3 (hval 1 3 v1 rfl rfl) h1
  have k2 := h2
  have lt2 : ∀ x ∈ p2, x.block < W.heap.size := by obtain ⟨m, hm⟩ := k2; exact DataW.trod_lt m _ _ _ hm
  obtain ⟨a2, len2, cap2, T2, rfl, rfl, w2⟩ : ∃ A len cap D, v2 = .slice A len cap ∧ D.length = len ∧ Rts W W.heap.size A D := by
    obtain ⟨s0, s1, s2, rfl⟩ := okWide_slice Try.underlying25 (hval 2 25 v2 rfl rfl)
    obtain ⟨fuel, hf⟩ := h2
    obtain ⟨A, len, cap, D, e1, e2, e3, _⟩ := rts_of (by simpa [Value.cells] using hf)
    exact ⟨A, len, cap, D, e1, e2, e3⟩
  clear hA0 hval0
  refine (walk a0 cap0 T0 a1 a2 cap2 T2 W w0 (i64_range w1) w2).mono fun e W' ⟨he, bel⟩ => ?_
  subst he
  exact ⟨_, rfl, _, _, _, [], _, [], hW', trodAll_mk1 (shut_bool Try.underlying4 _), (trodAll_cons_mk (Below.trod laidOut (by kernel_rfl) (of_decide_eq_true (by kernel_rfl)) k0 bel lt0) (trodAll_cons_mk (shut_int Try.underlying3 w1) (trodAll_cons_mk (Below.trod laidOut (by kernel_rfl) (of_decide_eq_true (by kernel_rfl)) k2 bel lt2) trodAll_mk0))), rfl, bel.frame _, fun h => by cases h⟩

theorem over : Rows.fundOldRow.holds Try.pinned (OpenSpec.ofChange Rows.fundOldSpec) :=
  OpenClaim.holds_of_wide 13 Try.f13 rfl rfl rfl rfl rfl rfl rfl ⟨rfl, rfl, rfl, rfl, rfl⟩ rfl rfl rfl rfl rfl (by kernel_rfl) Try.func13 (by kernel_rfl)
    (of_decide_eq_true (by kernel_rfl)) (by unfold Func.isWrapper; first | (rw [if_pos (by decide +kernel)]; kernel_rfl) | (rw [if_neg (by decide +kernel)]; exact ⟨rfl, rfl⟩))
    (fun os started H enc _ => lifted os started H enc)

/-- The statement. -/
theorem proved : Rows.FundOldSaid := over
end Go.Proofs.Ythleekdkbgnabaa.lawFundOld
