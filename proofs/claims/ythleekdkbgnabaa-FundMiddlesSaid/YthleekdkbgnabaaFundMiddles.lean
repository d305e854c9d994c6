/-
  For any claims, order and estate, the law FundMiddles returns true: what claimants get who come in an order shares the estate, and so does the mean over all orders.
  Conditions: none.
-/
import Derived.Test.YthleekdkbgnabaaK
import Derived.Test.YthleekdkbgnabaaTf
import Derived.Test.YthleekdkbgnabaaMathJ
import Derived.Deep.DeepCutAuto
namespace Go.Proofs.Ythleekdkbgnabaa.lawFundMiddles
open Go.Joins Go.ChangeShapes Go.WideShapes Go.ChangeAt Go.RowKit Go.Deep Go.Proofs.Ythleekdkbgnabaa M
set_option linter.unusedVariables false
set_option linter.unusedSimpArgs false

set_option maxRecDepth 100000 in
set_option maxHeartbeats 4000000 in
theorem out (A Ao : Option Addr) (c n co m : Nat) (e : Int) (w : World) (hn : n ≤ 9223372036854775807) (hl : 40 < n) :
    Calls Try.prog 15 #[.slice A n c, .slice Ao m co, .int .i64 e] w fun r w' => r = .returned (.bool true) ∧ Below w.heap.size w w' := by
  have k1 := Long_any A c n w hn
  rw [show decide (40 < (n : Int)) = true from decide_eq_true (by omega)] at k1
  replace k1 := Lib.hid k1
  go_enter Try.func15, Try.ntmps15
  go_wp2_with fail
  refine k1.out.mono ?_
  rintro _ X ⟨rfl, rfl⟩
  go_wp2_with fail
  refine (Sane_any _).mono ?_
  rintro _ X2 ⟨rfl, hb⟩
  go_wp2
  go_ret
  exact ⟨rfl, hb⟩
set_option maxRecDepth 100000 in
set_option maxHeartbeats 4000000 in
theorem out2 (A Ao : Option Addr) (c n co m : Nat) (e : Int) (w : World) (hn : n ≤ 9223372036854775807) (hl : ¬ 40 < n) (hm : 40 < m) :
    Calls Try.prog 15 #[.slice A n c, .slice Ao m co, .int .i64 e] w fun r w' => r = .returned (.bool true) ∧ Below w.heap.size w w' := by
  have k1 := Long_any A c n w hn
  rw [show decide (40 < (n : Int)) = false from decide_eq_false (by omega)] at k1
  replace k1 := Lib.hid k1
  have hm2 : (40 : Int) < m := by omega
  replace hl := Lib.hid hl
  go_enter Try.func15, Try.ntmps15
  go_wp2_with fail
  refine k1.out.mono ?_
  rintro _ X ⟨rfl, rfl⟩
  go_wp2_with fail
  refine (Sane_any _).mono ?_
  rintro _ X2 ⟨rfl, hb⟩
  go_wp2
  go_ret
  exact ⟨rfl, hb⟩
set_option maxRecDepth 100000 in
set_option maxHeartbeats 4000000 in
theorem out3 (A Ao : Option Addr) (c co m : Nat) (l : List Int) (e : Int) (w : World) (h : Row w w.heap.size A l) (hl : ¬ 40 < l.length) (hm : ¬ 40 < m) (hv : valB l = false) :
    Calls Try.prog 15 #[.slice A l.length c, .slice Ao m co, .int .i64 e] w fun r w' => r = .returned (.bool true) ∧ Below w.heap.size w w' := by
  have k1 := Long_any A c l.length w h.1
  rw [show decide (40 < (l.length : Int)) = false from decide_eq_false (by omega)] at k1
  have k2 := Valid_ref w.heap.size A c l w h
  rw [hv] at k2
  generalize l.length = n at *
  have hm2 : ¬ (40 : Int) < m := by omega
  replace k1 := Lib.hid k1
  replace k2 := Lib.hid k2
  replace h := Lib.hid h
  replace hl := Lib.hid hl
  replace hv := Lib.hid hv
  go_enter Try.func15, Try.ntmps15
  go_wp2_with fail
  refine k1.out.mono ?_
  rintro _ X ⟨rfl, rfl⟩
  go_wp2_with fail
  refine k2.out.mono ?_
  rintro _ X ⟨rfl, rfl⟩
  go_wp2_with fail
  refine (Sane_any _).mono ?_
  rintro _ X2 ⟨rfl, hb⟩
  go_wp2
  go_ret
  exact ⟨rfl, hb⟩
set_option maxRecDepth 100000 in
set_option maxHeartbeats 8000000 in
theorem inn (A Ao : Option Addr) (c co : Nat) (l o : List Int) (e : Int) (w : World) (h : Row w w.heap.size A l) (ho : Row w w.heap.size Ao o) (hl : ¬ 40 < l.length) (hm : ¬ 40 < o.length) (hv : vC l) :
    Calls Try.prog 15 #[.slice A l.length c, .slice Ao o.length co, .int .i64 e] w fun r w' => r = .returned (.bool true) ∧ Below w.heap.size w w' := by
  have hn := val_len hv
  have k1 := Long_any A c l.length w h.1
  rw [show decide (40 < (l.length : Int)) = false from decide_eq_false (by omega)] at k1
  have hvB : valB l = true := decide_eq_true hv
  have k2 := Valid_ref w.heap.size A c l w h
  rw [hvB] at k2
  have a1 := Turn_any A Ao c co l o e w h ho
  have a3 := fun X (hX : Below w.heap.size w X) => Middle_any A c l e X (h.up hX)
  have aS := fun X (hX : Below w.heap.size w X) => Total_ref w.heap.size A c l X (h.below hX) hv.2 (by omega)
  have aH := fun X g cp (hX : Below w.heap.size w X) (hb : BlR X g l.length (meR l e)) => Shares_any A (some ⟨g, 0, none⟩) c cp l e (mkQ (meR l e) l.length) X (h.up hX) (rts_blk hb (by omega)) (by rw [mkQ_len]; omega)
  simp only [mkQ_len] at aH
  have hat := fun X (hX : Below w.heap.size w X) k (hk : k < l.length) => (h.below hX).at_ k hk
  have hx := fun k (hk : k < l.length) => hv.2 k hk
  have hsm := sm_b hv
  have hm2 : ¬ (40 : Int) < o.length := by omega
  have kT : ∀ X g cp, okU l o e → BlI X g l.length (tuS l o e o.length).2 → Calls Try.prog 51 #[.slice (some ⟨g, 0, none⟩) l.length cp] X fun r w' => r = .returned (.int .i64 e) ∧ w' = X := fun X g cp hU hX => by
    obtain ⟨s1, s2⟩ := turn_sum hU
    have q := Total_ref X.heap.size (some ⟨g, 0, none⟩) cp (liF _ l.length) X (row_blk hX (by omega)) (by rw [liF_len]; exact fun i hi => by rw [liF_at _ _ _ hi]; have := s2 i hi; have := hv.2 i hi; unfold okC at *; omega) (by rw [liF_len]; omega)
    rw [liF_len, liF_sm, s1] at q
    exact q
  have hTb := fun hU : okU l o e => (turn_sum hU).2
  have hE1 : okU l o e → errU l o e = 0 ∧ tuN l o e = l.length := fun hU => ⟨by unfold errU; rw [if_pos hU.1, if_pos hU.2], by unfold tuN; rw [if_pos hU]⟩
  have hE0 : ¬ okU l o e → errU l o e ≠ 0 := fun hU => by
    unfold errU
    by_cases hk : okE l e
    · rw [if_pos hk, if_neg (fun hh => hU ⟨hk, hh⟩)]; decide
    · rw [if_neg hk]; have := errC_ne hk; omega
  have hE2 : ¬ okE l e → errU l o e = 2 ∧ errV l e = 2 ∧ miN l e = 0 := fun hk => by
    unfold errU errV miN
    rw [if_neg hk, if_neg hk, if_neg (fun hh => hk hh.1)]
    unfold errC
    rw [if_pos hvB, if_neg (fun hh => hk ⟨hv, hh⟩)]
    exact ⟨rfl, rfl, rfl⟩
  have hV0 : okV l e → errV l e = 0 ∧ miN l e = l.length := fun hk => by
    unfold errV miN
    rw [if_pos hk.1, if_pos hk.2, if_pos hk]; exact ⟨rfl, rfl⟩
  have hV5 : okE l e → ¬ l.length ≤ 7 → errV l e = 5 ∧ miN l e = 0 := fun hk h7 => by
    unfold errV miN
    rw [if_pos hk, if_neg h7, if_neg (fun hh => h7 hh.2)]; exact ⟨rfl, rfl⟩
  have hSh : okV l e → shaB l e (mkQ (meR l e) l.length) = true ∧ errA l e (mkQ (meR l e) l.length) = 0 := fun hk => by
    obtain ⟨p, q⟩ := me_share hk
    unfold shaB
    rw [if_pos p, q, errA_ok p]; exact ⟨rfl, rfl⟩
  have hme := fun hk : okV l e => fun k (hkl : k < l.length) => me_ok hk hkl
  have hVV : okE l e → l.length ≤ 7 → okV l e := fun a b => ⟨a, b⟩
  have hee : okV l e → (0 ≤ e ∧ e ≤ 8000) ∧ e ≤ sm l := fun hk => by have := hk.1.2; omega
  have hd40 : decide ((40 : Int) < o.length) = false := decide_eq_false hm2
  unfold TuR at a1
  unfold ShR at a3
  generalize shaB l e (mkQ (meR l e) l.length) = SB at *
  generalize errA l e (mkQ (meR l e) l.length) = SE at *
  generalize (tuS l o e o.length).2 = f at *
  generalize meR l e = ME at *
  generalize errU l o e = E at *
  generalize errV l e = F at *
  generalize tuN l o e = N at *
  generalize miN l e = M at *
  generalize sm l = S at *
  generalize l.length = n at *
  generalize o.length = m at *
  replace k1 := Lib.hid k1
  replace k2 := Lib.hid k2
  replace a1 := Lib.hid a1
  replace a3 := Lib.hid a3
  replace aS := Lib.hid aS
  replace aH := Lib.hid aH
  replace hat := Lib.hid hat
  replace hx := Lib.hid hx
  replace kT := Lib.hid kT
  replace hTb := Lib.hid hTb
  replace hE1 := Lib.hid hE1
  replace hE0 := Lib.hid hE0
  replace hE2 := Lib.hid hE2
  replace hV0 := Lib.hid hV0
  replace hV5 := Lib.hid hV5
  replace hSh := Lib.hid hSh
  replace hme := Lib.hid hme
  replace hee := Lib.hid hee
  replace hVV := Lib.hid hVV
  replace h := Lib.hid h
  replace ho := Lib.hid ho
  replace hv := Lib.hid hv
  replace hvB := Lib.hid hvB
  replace hl := Lib.hid hl
  replace hm := Lib.hid hm
  obtain ⟨hn1, hn8⟩ := hn
  go_enter Try.func15, Try.ntmps15
  go_wp2_with fail
  refine k1.out.mono ?_
  rintro _ X ⟨rfl, rfl⟩
  go_wp2_with fail
  refine k2.out.mono ?_
  rintro _ X ⟨rfl, rfl⟩
  go_wp2_with fail
  refine a1.out.mono ?_
  rintro _ X1 ⟨A1, N1, c1, rfl, hb1, hN1, f1⟩
  replace hN1 := Lib.hid hN1
  replace f1 := Lib.hid f1
  replace hb1 := Lib.hid hb1
  go_upto_if 37 with fail
  go_cut [9] from 37 to 70 (fun v wx => Below X.heap.size X wx)
  case first =>
    by_cases hU : okU l o e
    · obtain ⟨e1, e2⟩ := hE1.out hU
      have hNn : N1 = n := by rw [hN1.out, e2]
      subst hNn
      obtain ⟨g, rfl, hbl⟩ := f1.out (by omega)
      have hEq : (E == 0) = true := by rw [e1]; rfl
      have kk := kT.out X1 g c1 hU hbl
      have hb9 := hTb.out hU
      have hup := fun Y (hY : Below X1.heap.size X1 Y) => And.intro (hbl.up hY) (bel_trans hb1.out hY)
      have hee2 : (e != e) = false := by simp
      replace kk := Lib.hid kk
      replace hb9 := Lib.hid hb9
      replace hup := Lib.hid hup
      replace hbl := Lib.hid hbl
      replace hU := Lib.hid hU
      replace e1 := Lib.hid e1
      replace e2 := Lib.hid e2
      go_wp2_with fail
      refine kk.out.mono ?_
      rintro _ X1 ⟨rfl, rfl⟩
      go_wp2_with fail
      go_loopw [9] (fun i wr => ∃ k : Nat, k ≤ N1 ∧ i = .int .i64 (k : Nat) ∧ Below X1.heap.size X1 wr) (fun i _ => N1 - (intOf i).toNat)
      case atStart => exact ⟨0, by omega, rfl, Below.refl _ _⟩
      case round =>
        obtain ⟨k, hkk, rfl, hY⟩ := hrel
        by_cases hkn : k < N1
        · have hkn2 : (k : Int) < (N1 : Int) := by omega
          have u0 := hup.out wr hY
          have u1 := hup.out wr.drew (below_drewN hY 1)
          obtain ⟨b, o', rfl, _, x0⟩ := hat.out wr u0.2 k hkn
          obtain ⟨b', o'', he', _, x1⟩ := hat.out wr.drew u1.2 k hkn
          cases he'
          have y0 := u0.1.cell hkn
          have y1 := u1.1.cell hkn
          have bb := hb9.out k hkn
          have hxk := hx.out k hkn
          unfold okC at hxk
          have hlt := u0.1.lt
          have hYd := Lib.hid (fun N => below_drewN hY N)
          generalize f k = fk at *
          generalize el l k = x at *
          have n1 : ¬ fk < 0 := by omega
          have n2 : ¬ x < fk := by omega
          replace u0 := Lib.hid u0
          replace u1 := Lib.hid u1
          replace hY := Lib.hid hY
          go_wp2_with fail
          go_quiet (fail)
          go_wp2
          go_roundw
          case rel => exact ⟨k + 1, by omega, by simp, hYd.out _⟩
          case measure => simp [intOf]; omega
        · have hkk2 : N1 = k := by omega
          subst hkk2
          have hfin := Lib.hid (hup.out wr hY).2
          replace hY := Lib.hid hY
          go_wp2_with fail
          go_meet
          exact hfin.out
    · have hne := hE0.out hU
      have hEq : (E == 0) = false := by simpa using hne
      have hfin := hb1
      replace hU := Lib.hid hU
      replace hne := Lib.hid hne
      go_wp2_with fail
      go_meet
      exact hfin.out
  case rest =>
  have b3 := Lib.hid (a3.out wc hcut)
  have hcw := Lib.hid hcut
  replace hcut := Lib.hid hcut
  go_wp2_with fail
  refine b3.out.mono ?_
  rintro _ X2 ⟨A2, N2, c2, rfl, hb2, hN2, f2⟩
  have z2 := bel_trans hcw.out hb2
  replace hb2 := Lib.hid hb2
  by_cases hE : okE l e
  · by_cases h7 : n ≤ 7
    · have hV : okV l e := hVV.out hE h7
      obtain ⟨e1, e2⟩ := hV0.out hV
      have hNn : N2 = n := by rw [hN2, e2]
      subst hNn
      obtain ⟨g, rfl, hbl⟩ := f2 (by omega)
      obtain ⟨s1, s2⟩ := hSh.out hV
      have kk := aH.out X2 g c2 z2 hbl
      have hmm := hme.out hV
      obtain ⟨⟨he0, he1⟩, heS⟩ := hee.out hV
      subst e1 s1 s2
      have hup := fun Y (hY : Below X2.heap.size X2 Y) => And.intro (hbl.up hY) (bel_trans z2 hY)
      replace kk := Lib.hid kk
      replace hmm := Lib.hid hmm
      replace hup := Lib.hid hup
      replace hbl := Lib.hid hbl
      replace hV := Lib.hid hV
      replace hE := Lib.hid hE
      replace e2 := Lib.hid e2
      replace f2 := Lib.hid f2
      replace hN2 := Lib.hid hN2
      replace z2 := Lib.hid z2
      go_wp2_with fail
      refine kk.out.mono ?_
      rintro _ X3 ⟨rfl, hb3⟩
      replace hb3 := Lib.hid hb3
      go_wp2_with fail
      go_loopw [14, 15] (fun i _ wr => ∃ k : Nat, k ≤ N2 ∧ i = .int .i64 (k : Nat) ∧ Below X2.heap.size X2 wr) (fun i _ _ => N2 - (intOf i).toNat)
      case atStart => exact ⟨0, by omega, rfl, hb3.out⟩
      case round =>
        clear hb3
        obtain ⟨k, hkk, rfl, hY⟩ := hrel
        by_cases hkn : k < N2
        · have hkn2 : (k : Int) < (N2 : Int) := by omega
          have u0 := hup.out wr hY
          have u1 := hup.out wr.drew (below_drewN hY 1)
          obtain ⟨b, o', rfl, _, x0⟩ := hat.out wr u0.2 k hkn
          obtain ⟨b', o'', he', _, x1⟩ := hat.out wr.drew u1.2 k hkn
          cases he'
          have aS1 := aS.out wr.drew u1.2
          have aSd := fun N => aS.out (wr.drewN N) (hup.out _ (below_drewN hY N)).2
          have hxk := hx.out k hkn
          unfold okC at hxk
          obtain ⟨⟨m1, m2⟩, ⟨m3, m4⟩, m5, m6⟩ := hmm.out k hkn
          have hYd := fun N => below_drewN hY N
          have hat3 := fun Y (hY : Below X2.heap.size X2 Y) => hat.out Y (hup.out Y hY).2 k hkn
          have hup3 := fun Y (hY : Below X2.heap.size X2 Y) => And.intro ((hup.out Y hY).1.c0 hkn) ((hup.out Y hY).1.c1 hkn)
          generalize (ME k).n = p at *
          generalize (ME k).d = q at *
          generalize el l k = x at *
          obtain ⟨la, hla⟩ : ∃ z, z = max (e - (S - x)) 0 := ⟨_, rfl⟩
          rw [← hla] at m1
          have hla2 : 0 ≤ la ∧ la ≤ 8000 := by omega
          have hla' := Lib.hid hla.symm
          replace hla := Lib.hid hla
          have pb1 := mul_b (a := la) (b := q) (A := 8000) (B := 5040) hla2 (by omega)
          obtain ⟨p1, hp1⟩ : ∃ z, z = la * q := ⟨_, rfl⟩
          rw [← hp1] at pb1 m1
          have w1 : IntKind.i64.wrap (la * q) = p1 := by rw [← hp1]; exact IntWalk.i64_in _ (by omega)
          have hmi : 0 ≤ min x e ∧ min x e ≤ 1000 := by omega
          have pb2 := mul_b (a := min x e) (b := q) (A := 1000) (B := 5040) hmi (by omega)
          obtain ⟨p2, hp2⟩ : ∃ z, z = min x e * q := ⟨_, rfl⟩
          rw [← hp2] at pb2 m2
          have w2 : IntKind.i64.wrap (min x e * q) = p2 := by rw [← hp2]; exact IntWalk.i64_in _ (by omega)
          have n1 : ¬ p < p1 := by omega
          have n2 : ¬ p2 < p := by omega
          replace u0 := Lib.hid u0
          replace u1 := Lib.hid u1
          replace hY := Lib.hid hY
          replace hYd := Lib.hid hYd
          replace aS1 := Lib.hid aS1
          replace aSd := Lib.hid aSd
          replace hat3 := Lib.hid hat3
          replace hup3 := Lib.hid hup3
          replace hp1 := Lib.hid hp1
          replace hp2 := Lib.hid hp2
          go_wp2_with fail
          go_quiet (first | (go_at_call 51; exact Calls.quiet_of_same (aSd.out _)) | (go_at_call 51; exact Calls.quiet_of_same aS1.out))
          rw [hla'.out]
          have hq := hYd.out nq
          generalize wr.drewN nq = Y at hq ⊢
          have r0 := hat3.out Y hq
          have r1 := hat3.out Y.drew (below_drewN hq 1)
          obtain ⟨_, _, he1', _, x2⟩ := r0
          cases he1'
          obtain ⟨_, _, he2', _, x3⟩ := r1
          cases he2'
          obtain ⟨q0, q1⟩ := hup3.out Y hq
          obtain ⟨q2, q3⟩ := hup3.out Y.drew (below_drewN hq 1)
          have hqd := Lib.hid (fun N => below_drewN hq N)
          replace hq := Lib.hid hq
          clear x0 x1
          go_wp2_with fail
          go_quiet (fail)
          go_wp2
          go_roundw
          case rel => exact ⟨k + 1, by omega, by simp, hqd.out _⟩
          case measure => simp [intOf]; omega
        · have hkk2 : N2 = k := by omega
          subst hkk2
          have hfin := Lib.hid (hup.out wr hY).2
          replace hY := Lib.hid hY
          go_wp2_with fail
          refine (Sane_any _).mono ?_
          rintro _ X5 ⟨rfl, hb5⟩
          have z5 := Lib.hid (bel_trans hfin.out hb5)
          clear hb5
          go_wp2
          go_ret
          exact ⟨rfl, z5.out⟩
    · obtain ⟨e1, e2⟩ := hV5.out hE h7
      have hNn : N2 = 0 := by rw [hN2, e2]
      subst hNn e1
      have h72 : (7 : Int) < n := by omega
      replace f2 := Lib.hid f2
      replace e2 := Lib.hid e2
      replace hE := Lib.hid hE
      replace h7 := Lib.hid h7
      replace z2 := Lib.hid z2
      replace hN2 := Lib.hid hN2
      go_wp2_with fail
      refine (Sane_any _).mono ?_
      rintro _ X5 ⟨rfl, hb5⟩
      have z5 := Lib.hid (bel_trans z2.out hb5)
      clear hb5
      go_wp2
      go_ret
      exact ⟨rfl, z5.out⟩
  · obtain ⟨e1, e2, e3⟩ := hE2.out hE
    have hNn : N2 = 0 := by rw [hN2, e3]
    subst hNn e1 e2
    replace f2 := Lib.hid f2
    replace e3 := Lib.hid e3
    replace hE := Lib.hid hE
    replace z2 := Lib.hid z2
    replace hN2 := Lib.hid hN2
    go_wp2_with fail
    refine (Sane_any _).mono ?_
    rintro _ X5 ⟨rfl, hb5⟩
    have z5 := Lib.hid (bel_trans z2.out hb5)
    clear hb5
    go_wp2
    go_ret
    exact ⟨rfl, z5.out⟩
theorem walk (A : Option Addr) (c : Nat) (l : List Int) (Ao : Option Addr) (co : Nat) (o : List Int) (e : Int) (w : World) (h : Row w w.heap.size A l) (ho : Row w w.heap.size Ao o) (_ : -9223372036854775808 ≤ e ∧ e ≤ 9223372036854775807) :
    Calls Try.prog 15 #[.slice A l.length c, .slice Ao o.length co, .int .i64 e] w fun r w' => r = .returned (.bool true) ∧ Below w.heap.size w w' := by
  by_cases hl : 40 < l.length
  · exact out A Ao c l.length co o.length e w h.1 hl
  · by_cases hm : 40 < o.length
    · exact out2 A Ao c l.length co o.length e w h.1 hl hm
    · cases hv : valB l with
      | false => exact out3 A Ao c co o.length l e w h hl hm hv
      | true => exact inn A Ao c co l o e w h ho hl hm (val_of hv)

/-! ### the row's step -/
set_option maxRecDepth 100000 in
theorem lifted (os : Os) (started : os.Started) (H : Type) (enc : TypeId × Value → H) :
    ReturnsInHanded {} Try.checked os 15 .any (Rows.fundMiddlesSpec.pre6 enc Try.prog Try.f15 Rows.fundMiddlesRow.domain false) (Rows.fundMiddlesSpec.post enc Try.prog Try.f15 false true false false) := by
  refine returnsInHanded_of_change (C := Try.checked) own started (by kernel_rfl) Try.func15
    (ChangeSpec.witness6 (enc := enc) (C := Try.checked) false ⟨#[], #[.slice none 0 0, .slice none 0 0, .int .i64 0], []⟩ 8 (by kernel_rfl) (by kernel_rfl) (by kernel_rfl) (by kernel_rfl)) ?_
  intro W base args ds gs before hval0 hW hcnd _
  have hval : ∀ (j : Nat) t v, Try.f15.params[j]? = some t → args[j]? = some v → Value.okWide Try.prog W .any base t v := hval0
  have hW' := hW
  obtain ⟨p, q, hA0, hV, rfl, hfz, hnd⟩ := hW
  have hA : DataW.TrodAll enc Try.prog W 0 (fun _ => true) true Try.f15.params.toList args.toList ds p := hA0
  rw [Try.params15] at hA hval
  obtain ⟨v0, vs0, d0, ds0, p0, q0, hargs, rfl, rfl, h0, r0⟩ := trodAll_cons hA
  obtain ⟨v1, vs1, d1, ds1, p1, q1, rfl, rfl, rfl, h1, r1⟩ := trodAll_cons r0
  obtain ⟨v2, vs2, d2, ds2, p2, q2, rfl, rfl, rfl, h2, r2⟩ := trodAll_cons r1
  obtain ⟨rfl, rfl, rfl⟩ := trodAll_nil r2
  obtain rfl : args = #[v0, v1, v2] := by cases args; simp_all
  obtain ⟨rfl, rfl⟩ := trodVars_none hV
  have k0 := h0
  have lt0 : ∀ x ∈ p0, x.block < W.heap.size := by obtain ⟨m, hm⟩ := k0; exact DataW.trod_lt m _ _ _ hm
  obtain ⟨a0, len0, cap0, T0, rfl, rfl, w0⟩ : ∃ A len cap D, v0 = .slice A len cap ∧ D.length = len ∧ Row W W.heap.size A D := by
    obtain ⟨s0, s1, s2, rfl⟩ := okWide_slice Try.underlying22 (hval 0 22 v0 rfl rfl)
    obtain ⟨fuel, hf⟩ := h0
    exact row_of (by simpa [Value.cells] using hf)
  have k1 := h1
  have lt1 : ∀ x ∈ p1, x.block < W.heap.size := by obtain ⟨m, hm⟩ := k1; exact DataW.trod_lt m _ _ _ hm
  obtain ⟨a1, len1, cap1, T1, rfl, rfl, w1⟩ : ∃ A len cap D, v1 = .slice A len cap ∧ D.length = len ∧ Row W W.heap.size A D := by
    obtain ⟨s0, s1, s2, rfl⟩ := okWide_slice Try.underlying22 (hval 1 22 v1 rfl rfl)
    obtain ⟨fuel, hf⟩ := h1
    exact row_of (by simpa [Value.cells] using hf)
  obtain ⟨a2, rfl, rfl, rfl, w2⟩ := open_int Try.underlying3 (hval 2 3 v2 rfl rfl) h2
  clear hA0 hval0
  refine (walk a0 cap0 T0 a1 cap1 T1 a2 W w0 w1 (i64_range w2)).mono fun e W' ⟨he, bel⟩ => ?_
  subst he
  exact ⟨_, rfl, _, _, _, [], _, [], hW', trodAll_mk1 (shut_bool Try.underlying4 _), (trodAll_cons_mk (Below.trod laidOut (by kernel_rfl) (of_decide_eq_true (by kernel_rfl)) k0 bel lt0) (trodAll_cons_mk (Below.trod laidOut (by kernel_rfl) (of_decide_eq_true (by kernel_rfl)) k1 bel lt1) (trodAll_cons_mk (shut_int Try.underlying3 w2) trodAll_mk0))), rfl, bel.frame _, fun h => by cases h⟩

theorem over : Rows.fundMiddlesRow.holds Try.pinned (OpenSpec.ofChange Rows.fundMiddlesSpec) :=
  OpenClaim.holds_of_wide 15 Try.f15 rfl rfl rfl rfl rfl rfl rfl ⟨rfl, rfl, rfl, rfl, rfl⟩ rfl rfl rfl rfl rfl (by kernel_rfl) Try.func15 (by kernel_rfl)
    (of_decide_eq_true (by kernel_rfl)) (by unfold Func.isWrapper; first | (rw [if_pos (by decide +kernel)]; kernel_rfl) | (rw [if_neg (by decide +kernel)]; exact ⟨rfl, rfl⟩))
    (fun os started H enc _ => lifted os started H enc)

/-- The statement. -/
theorem proved : Rows.FundMiddlesSaid := over
end Go.Proofs.Ythleekdkbgnabaa.lawFundMiddles
