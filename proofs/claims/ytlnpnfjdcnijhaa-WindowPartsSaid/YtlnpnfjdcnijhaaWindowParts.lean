/-
  For any two windows, the law WindowParts returns true: the parts of a window and of not are 1 together, those of both and of one of two are those of two, and where the periods have no common divisor the part of both is the product.
  Conditions: none.
-/
import Derived.Test.YtlnpnfjdcnijhaaBq
namespace Go.Proofs.Ytlnpnfjdcnijhaa.lawWindowParts
open Go.Joins Go.ChangeShapes Go.WideShapes Go.ChangeAt Go.RowKit Go.Deep Go.Proofs.Ytlnpnfjdcnijhaa M
set_option linter.unusedVariables false
set_option linter.unusedSimpArgs false

theorem valid_is {X : World} {b c : Nat} {x : Wn} {A : Option Addr} {q : Bool} (h : Bw X b x A c) (hq : winB x 60 = q) : Calls Try.prog 25 #[.agg #[.int .i64 x.p, .slice A x.hs.length c]] X fun e Y => e = .returned (.bool q) ∧ Below X.heap.size X Y := by
  have := valid_call h
  rw [hq] at this
  exact this
theorem wr_nat (n : Nat) (h : n ≤ 1000000000000) : IntKind.i64.wrap (n : Int) = (n : Int) := IntWalk.i64_in _ (by omega)
set_option maxRecDepth 100000 in
set_option maxHeartbeats 4000000 in
theorem out0 (A A' : Option Addr) (c c' : Nat) (x y : Wn) (w : World) (h : Row w w.heap.size A x.hs) (h' : Row w w.heap.size A' y.hs) (v3 : winB x 60 = false) :
    Calls Try.prog 13 #[wnV x.p A x.hs.length c, wnV y.p A' y.hs.length c'] w fun e w' => e = .returned (.bool true) ∧ Below w.heap.size w w' := by
  have h63 := h.1
  have h63' := h'.1
  have hT := twO_new w x.p y.p A A' x.hs.length y.hs.length c c'
  have hbel := hT.below
  have B2 : Bw _ w.heap.size x A c := ⟨hT.b1, (h.below hT.below).more hT.below.size⟩
  have B3 : Bw _ (w.heap.size + 1) y A' c' := ⟨hT.b2, (h'.below hT.below).more hT.below.size⟩
  unfold wnV
  clear hT
  replace v3 := Lib.hid v3
  go_enter Try.func13, Try.ntmps13
  have fB20 := B2.c0
  have fB21 := B2.c1
  have K := Lib.hid (valid_is B2 v3.out)
  go_wp2_with fail
  refine K.out.mono ?_
  rintro e X1 ⟨rfl, hb1⟩
  clear K
  clear fB20 fB21
  replace B2 := B2.up hb1
  replace B3 := B3.up hb1
  replace hbel := bel_trans hbel hb1
  go_wp2_with fail
  refine (awake_any X1).mono ?_
  rintro e X2 ⟨rfl, hb2⟩
  replace hbel := bel_trans hbel hb2
  go_wp2
  go_ret
  exact ⟨rfl, hbel⟩

set_option maxRecDepth 100000 in
set_option maxHeartbeats 4000000 in
theorem out1 (A A' : Option Addr) (c c' : Nat) (x y : Wn) (w : World) (h : Row w w.heap.size A x.hs) (h' : Row w w.heap.size A' y.hs) (v3 : winB x 60 = true) (v4 : winB y 60 = false) :
    Calls Try.prog 13 #[wnV x.p A x.hs.length c, wnV y.p A' y.hs.length c'] w fun e w' => e = .returned (.bool true) ∧ Below w.heap.size w w' := by
  have h63 := h.1
  have h63' := h'.1
  have hT := twO_new w x.p y.p A A' x.hs.length y.hs.length c c'
  have hbel := hT.below
  have B2 : Bw _ w.heap.size x A c := ⟨hT.b1, (h.below hT.below).more hT.below.size⟩
  have B3 : Bw _ (w.heap.size + 1) y A' c' := ⟨hT.b2, (h'.below hT.below).more hT.below.size⟩
  unfold wnV
  clear hT
  replace v3 := Lib.hid v3
  replace v4 := Lib.hid v4
  go_enter Try.func13, Try.ntmps13
  have fB20 := B2.c0
  have fB21 := B2.c1
  have K := Lib.hid (valid_is B2 v3.out)
  go_wp2_with fail
  refine K.out.mono ?_
  rintro e X1 ⟨rfl, hb1⟩
  clear K
  clear fB20 fB21
  replace B2 := B2.up hb1
  replace B3 := B3.up hb1
  replace hbel := bel_trans hbel hb1
  have fB30 := B3.c0
  have fB31 := B3.c1
  have K := Lib.hid (valid_is B3 v4.out)
  go_wp2_with fail
  refine K.out.mono ?_
  rintro e X2 ⟨rfl, hb2⟩
  clear K
  clear fB30 fB31
  replace B2 := B2.up hb2
  replace B3 := B3.up hb2
  replace hbel := bel_trans hbel hb2
  go_wp2_with fail
  refine (awake_any X2).mono ?_
  rintro e X3 ⟨rfl, hb3⟩
  replace hbel := bel_trans hbel hb3
  go_wp2
  go_ret
  exact ⟨rfl, hbel⟩

set_option maxRecDepth 100000 in
set_option maxHeartbeats 8000000 in
theorem inn (A A' : Option Addr) (c c' : Nat) (x y : Wn) (w : World) (h : Row w w.heap.size A x.hs) (h' : Row w w.heap.size A' y.hs) (hx : winB x 60 = true) (hy : winB y 60 = true) :
    Calls Try.prog 13 #[wnV x.p A x.hs.length c, wnV y.p A' y.hs.length c'] w fun e w' => e = .returned (.bool true) ∧ Below w.heap.size w w' := by
  have h63 := h.1
  have h63' := h'.1
  have hT := twO_new w x.p y.p A A' x.hs.length y.hs.length c c'
  have hbel := hT.below
  have B2 : Bw _ w.heap.size x A c := ⟨hT.b1, (h.below hT.below).more hT.below.size⟩
  have B3 : Bw _ (w.heap.size + 1) y A' c' := ⟨hT.b2, (h'.below hT.below).more hT.below.size⟩
  unfold wnV
  clear hT
  have hx36 := win_more hx (show (60 : Int) ≤ 3600 by omega)
  have hy36 := win_more hy (show (60 : Int) ≤ 3600 by omega)
  obtain ⟨p, hp, p1, p2, _⟩ := win_nat hx
  obtain ⟨q, hq, q1, q2, _⟩ := win_nat hy
  obtain ⟨z1, hz1⟩ : ∃ z, BothIs x y z := ⟨_, bothIs hx hy⟩
  obtain ⟨z2, hz2⟩ : ∃ z, EithIs x y z := ⟨_, eithIs hx hy⟩
  obtain ⟨n1, hn1⟩ : ∃ z, NotIs x z := ⟨_, notIs hx36⟩
  obtain ⟨aN, aD, ha⟩ := partIs hx36
  obtain ⟨bN, bD, hb⟩ := partIs hy36
  obtain ⟨cN, cD, hc⟩ := partIs (hn1.win 3600 hx36)
  obtain ⟨dN, dD, hd⟩ := partIs hz1.win
  obtain ⟨xN, xD, he⟩ := partIs hz2.win
  have hpr := prts hx hy hz1 hz2 hn1 hp hq ha hb hc hd he
  obtain ⟨⟨_, g1⟩, _⟩ := winB_iff.1 hx36
  obtain ⟨⟨_, g2⟩, _⟩ := winB_iff.1 hy36
  obtain ⟨⟨_, g3⟩, _⟩ := winB_iff.1 (hn1.win 3600 hx36)
  obtain ⟨⟨_, g4⟩, _⟩ := winB_iff.1 hz1.win
  obtain ⟨⟨_, g5⟩, _⟩ := winB_iff.1 hz2.win
  have aD9 : aD ≤ 60 := by have := ha.d9; omega
  have bD9 : bD ≤ 60 := by have := hb.d9; omega
  have cD9 : cD ≤ 60 := by have := hc.d9; rw [hn1.p] at this; omega
  have dD9 : dD ≤ 3600 := by have := hd.d9; omega
  have xD9 : xD ≤ 3600 := by have := he.d9; omega
  have aN9 := Nat.le_trans ha.nd aD9
  have bN9 := Nat.le_trans hb.nd bD9
  have cN9 := Nat.le_trans hc.nd cD9
  have dN9 := Nat.le_trans hd.nd dD9
  have xN9 := Nat.le_trans he.nd xD9
  have P1b : aN * cD ≤ 60 * 60 := Nat.mul_le_mul aN9 cD9
  have P2b : cN * aD ≤ 60 * 60 := Nat.mul_le_mul cN9 aD9
  have P3b : aD * cD ≤ 60 * 60 := Nat.mul_le_mul aD9 cD9
  have Q1b : dN * xD ≤ 3600 * 3600 := Nat.mul_le_mul dN9 xD9
  have Q2b : xN * dD ≤ 3600 * 3600 := Nat.mul_le_mul xN9 dD9
  have Q3b : dN * xD + xN * dD ≤ 3600 * 3600 + 3600 * 3600 := Nat.add_le_add Q1b Q2b
  have Q4b : (dN * xD + xN * dD) * aD ≤ (3600 * 3600 + 3600 * 3600) * 60 := Nat.mul_le_mul Q3b aD9
  have Q5b : (dN * xD + xN * dD) * aD * bD ≤ (3600 * 3600 + 3600 * 3600) * 60 * 60 := Nat.mul_le_mul Q4b bD9
  have R1b : aN * bD ≤ 60 * 60 := Nat.mul_le_mul aN9 bD9
  have R2b : bN * aD ≤ 60 * 60 := Nat.mul_le_mul bN9 aD9
  have R3b : aN * bD + bN * aD ≤ 60 * 60 + 60 * 60 := Nat.add_le_add R1b R2b
  have R4b : (aN * bD + bN * aD) * dD ≤ (60 * 60 + 60 * 60) * 3600 := Nat.mul_le_mul R3b dD9
  have T1b : dN * aD ≤ 3600 * 60 := Nat.mul_le_mul dN9 aD9
  have T2b : dN * aD * bD ≤ 3600 * 60 * 60 := Nat.mul_le_mul T1b bD9
  have U1b : aN * bN ≤ 60 * 60 := Nat.mul_le_mul aN9 bN9
  have U2b : aN * bN * dD ≤ 60 * 60 * 3600 := Nat.mul_le_mul U1b dD9
  have one := hpr.one
  have two := hpr.two
  have co := hpr.co
  obtain ⟨P1, P1e⟩ : ∃ n, n = aN * cD := ⟨_, rfl⟩
  have P1m : (aN : Int) * (cD : Int) = (P1 : Int) := by rw [P1e, Int.natCast_mul]
  rw [← P1e] at P1b
  rw [← P1e] at one
  obtain ⟨P2, P2e⟩ : ∃ n, n = cN * aD := ⟨_, rfl⟩
  have P2m : (cN : Int) * (aD : Int) = (P2 : Int) := by rw [P2e, Int.natCast_mul]
  rw [← P2e] at P2b
  rw [← P2e] at one
  obtain ⟨P3, P3e⟩ : ∃ n, n = aD * cD := ⟨_, rfl⟩
  have P3m : (aD : Int) * (cD : Int) = (P3 : Int) := by rw [P3e, Int.natCast_mul]
  rw [← P3e] at P3b
  rw [← P3e] at one
  obtain ⟨Q1, Q1e⟩ : ∃ n, n = dN * xD := ⟨_, rfl⟩
  have Q1m : (dN : Int) * (xD : Int) = (Q1 : Int) := by rw [Q1e, Int.natCast_mul]
  rw [← Q1e] at Q1b
  rw [← Q1e] at Q3b
  rw [← Q1e] at Q4b
  rw [← Q1e] at Q5b
  rw [← Q1e] at two
  obtain ⟨Q2, Q2e⟩ : ∃ n, n = xN * dD := ⟨_, rfl⟩
  have Q2m : (xN : Int) * (dD : Int) = (Q2 : Int) := by rw [Q2e, Int.natCast_mul]
  rw [← Q2e] at Q2b
  rw [← Q2e] at Q3b
  rw [← Q2e] at Q4b
  rw [← Q2e] at Q5b
  rw [← Q2e] at two
  obtain ⟨Q3, Q3e⟩ : ∃ n, n = Q1 + Q2 := ⟨_, rfl⟩
  have Q3m : (Q1 : Int) + (Q2 : Int) = (Q3 : Int) := by rw [Q3e, Int.natCast_add]
  rw [← Q3e] at Q3b
  rw [← Q3e] at Q4b
  rw [← Q3e] at Q5b
  rw [← Q3e] at two
  obtain ⟨Q4, Q4e⟩ : ∃ n, n = Q3 * aD := ⟨_, rfl⟩
  have Q4m : (Q3 : Int) * (aD : Int) = (Q4 : Int) := by rw [Q4e, Int.natCast_mul]
  rw [← Q4e] at Q4b
  rw [← Q4e] at Q5b
  rw [← Q4e] at two
  obtain ⟨Q5, Q5e⟩ : ∃ n, n = Q4 * bD := ⟨_, rfl⟩
  have Q5m : (Q4 : Int) * (bD : Int) = (Q5 : Int) := by rw [Q5e, Int.natCast_mul]
  rw [← Q5e] at Q5b
  rw [← Q5e] at two
  obtain ⟨R1, R1e⟩ : ∃ n, n = aN * bD := ⟨_, rfl⟩
  have R1m : (aN : Int) * (bD : Int) = (R1 : Int) := by rw [R1e, Int.natCast_mul]
  rw [← R1e] at R1b
  rw [← R1e] at R3b
  rw [← R1e] at R4b
  rw [← R1e] at two
  obtain ⟨R2, R2e⟩ : ∃ n, n = bN * aD := ⟨_, rfl⟩
  have R2m : (bN : Int) * (aD : Int) = (R2 : Int) := by rw [R2e, Int.natCast_mul]
  rw [← R2e] at R2b
  rw [← R2e] at R3b
  rw [← R2e] at R4b
  rw [← R2e] at two
  obtain ⟨R3, R3e⟩ : ∃ n, n = R1 + R2 := ⟨_, rfl⟩
  have R3m : (R1 : Int) + (R2 : Int) = (R3 : Int) := by rw [R3e, Int.natCast_add]
  rw [← R3e] at R3b
  rw [← R3e] at R4b
  rw [← R3e] at two
  obtain ⟨R4, R4e⟩ : ∃ n, n = R3 * dD := ⟨_, rfl⟩
  have R4m : (R3 : Int) * (dD : Int) = (R4 : Int) := by rw [R4e, Int.natCast_mul]
  rw [← R4e] at R4b
  rw [← R4e] at two
  have R5m : (R4 : Int) * (xD : Int) = (Q5 : Int) := by rw [two, Int.natCast_mul]
  obtain ⟨T1, T1e⟩ : ∃ n, n = dN * aD := ⟨_, rfl⟩
  have T1m : (dN : Int) * (aD : Int) = (T1 : Int) := by rw [T1e, Int.natCast_mul]
  rw [← T1e] at T1b
  rw [← T1e] at T2b
  rw [← T1e] at co
  obtain ⟨T2, T2e⟩ : ∃ n, n = T1 * bD := ⟨_, rfl⟩
  have T2m : (T1 : Int) * (bD : Int) = (T2 : Int) := by rw [T2e, Int.natCast_mul]
  rw [← T2e] at T2b
  rw [← T2e] at co
  obtain ⟨U1, U1e⟩ : ∃ n, n = aN * bN := ⟨_, rfl⟩
  have U1m : (aN : Int) * (bN : Int) = (U1 : Int) := by rw [U1e, Int.natCast_mul]
  rw [← U1e] at U1b
  rw [← U1e] at U2b
  rw [← U1e] at co
  obtain ⟨U2, U2e⟩ : ∃ n, n = U1 * dD := ⟨_, rfl⟩
  have U2m : (U1 : Int) * (dD : Int) = (U2 : Int) := by rw [U2e, Int.natCast_mul]
  rw [← U2e] at U2b
  rw [← U2e] at co
  have P4m : (P1 : Int) + (P2 : Int) = (P3 : Int) := by rw [← one, Int.natCast_add]
  have P1w := wr_nat P1 (by omega)
  have P2w := wr_nat P2 (by omega)
  have P3w := wr_nat P3 (by omega)
  have Q1w := wr_nat Q1 (by omega)
  have Q2w := wr_nat Q2 (by omega)
  have Q3w := wr_nat Q3 (by omega)
  have Q4w := wr_nat Q4 (by omega)
  have Q5w := wr_nat Q5 (by omega)
  have R1w := wr_nat R1 (by omega)
  have R2w := wr_nat R2 (by omega)
  have R3w := wr_nat R3 (by omega)
  have R4w := wr_nat R4 (by omega)
  have T1w := wr_nat T1 (by omega)
  have T2w := wr_nat T2 (by omega)
  have U1w := wr_nat U1 (by omega)
  have U2w := wr_nat U2 (by omega)
  clear P1e P2e P3e Q1e Q2e Q3e Q4e Q5e R1e R2e R3e R4e T1e T2e U1e U2e P1b P2b P3b Q1b Q2b Q3b Q4b Q5b R1b R2b R3b R4b T1b T2b U1b U2b one two aN9 bN9 cN9 dN9 xN9 aD9 bD9 cD9 dD9 xD9
  have hcop := @cop_of p q (by omega)
  replace hx := Lib.hid hx
  replace hy := Lib.hid hy
  replace hx36 := Lib.hid hx36
  replace hy36 := Lib.hid hy36
  replace hz1 := Lib.hid hz1
  replace hz2 := Lib.hid hz2
  replace hn1 := Lib.hid hn1
  replace ha := Lib.hid ha
  replace hb := Lib.hid hb
  replace hc := Lib.hid hc
  replace hd := Lib.hid hd
  replace he := Lib.hid he
  replace hpr := Lib.hid hpr
  replace co := Lib.hid co
  replace hcop := Lib.hid hcop
  replace hp := Lib.hid hp
  replace hq := Lib.hid hq
  clear p2 q2
  go_enter Try.func13, Try.ntmps13
  have fB20 := B2.c0
  have fB21 := B2.c1
  have K := Lib.hid (valid_is B2 hx.out)
  go_wp2_with fail
  refine K.out.mono ?_
  rintro e X1 ⟨rfl, hb1⟩
  clear K
  clear fB20 fB21
  replace B2 := B2.up hb1
  replace B3 := B3.up hb1
  replace hbel := bel_trans hbel hb1
  have fB30 := B3.c0
  have fB31 := B3.c1
  have K := Lib.hid (valid_is B3 hy.out)
  go_wp2_with fail
  refine K.out.mono ?_
  rintro e X2 ⟨rfl, hb2⟩
  clear K
  clear fB30 fB31
  replace B2 := B2.up hb2
  replace B3 := B3.up hb2
  replace hbel := bel_trans hbel hb2
  have fB20 := B2.c0
  have fB21 := B2.c1
  have K := Lib.hid (not_call B2 hn1.out)
  go_wp2_with fail
  refine K.out.mono ?_
  rintro e X3 ⟨A3, c3, rfl, hb3, hr3⟩
  clear K
  clear fB20 fB21
  replace B2 := B2.up hb3
  replace B3 := B3.up hb3
  replace hbel := bel_trans hbel hb3
  replace B2 := B2.up (ba1 X3 (.cells #[.int .i64 n1.p, .slice A3 n1.hs.length c3] 24))
  replace B3 := B3.up (ba1 X3 (.cells #[.int .i64 n1.p, .slice A3 n1.hs.length c3] 24))
  replace hbel := bel_trans hbel (ba1 X3 (.cells #[.int .i64 n1.p, .slice A3 n1.hs.length c3] 24))
  have B5 := Bw.new c3 hr3
  clear hr3
  have fB20 := B2.c0
  have fB21 := B2.c1
  have fB30 := B3.c0
  have fB31 := B3.c1
  have K := Lib.hid (both_call B2 B3 hz1.out)
  go_wp2_with fail
  refine K.out.mono ?_
  rintro e X4 ⟨A4, c4, rfl, hb4, hr4⟩
  clear K
  clear fB20 fB21 fB30 fB31
  replace B2 := B2.up hb4
  replace B3 := B3.up hb4
  replace B5 := B5.up hb4
  replace hbel := bel_trans hbel hb4
  replace B2 := B2.up (ba1 X4 (.cells #[.int .i64 z1.p, .slice A4 z1.hs.length c4] 24))
  replace B3 := B3.up (ba1 X4 (.cells #[.int .i64 z1.p, .slice A4 z1.hs.length c4] 24))
  replace B5 := B5.up (ba1 X4 (.cells #[.int .i64 z1.p, .slice A4 z1.hs.length c4] 24))
  replace hbel := bel_trans hbel (ba1 X4 (.cells #[.int .i64 z1.p, .slice A4 z1.hs.length c4] 24))
  have B7 := Bw.new c4 hr4
  clear hr4
  have fB20 := B2.c0
  have fB21 := B2.c1
  have fB30 := B3.c0
  have fB31 := B3.c1
  have K := Lib.hid (eith_call B2 B3 hz2.out)
  go_wp2_with fail
  refine K.out.mono ?_
  rintro e X5 ⟨A5, c5, rfl, hb5, hr5⟩
  clear K
  clear fB20 fB21 fB30 fB31
  replace B2 := B2.up hb5
  replace B3 := B3.up hb5
  replace B5 := B5.up hb5
  replace B7 := B7.up hb5
  replace hbel := bel_trans hbel hb5
  replace B2 := B2.up (ba1 X5 (.cells #[.int .i64 z2.p, .slice A5 z2.hs.length c5] 24))
  replace B3 := B3.up (ba1 X5 (.cells #[.int .i64 z2.p, .slice A5 z2.hs.length c5] 24))
  replace B5 := B5.up (ba1 X5 (.cells #[.int .i64 z2.p, .slice A5 z2.hs.length c5] 24))
  replace B7 := B7.up (ba1 X5 (.cells #[.int .i64 z2.p, .slice A5 z2.hs.length c5] 24))
  replace hbel := bel_trans hbel (ba1 X5 (.cells #[.int .i64 z2.p, .slice A5 z2.hs.length c5] 24))
  have B9 := Bw.new c5 hr5
  clear hr5
  have fB20 := B2.c0
  have fB21 := B2.c1
  have K := Lib.hid (part_call B2 ha.out g1)
  go_wp2_with fail
  refine K.out.mono ?_
  rintro e X6 ⟨rfl, hb6⟩
  clear K
  clear fB20 fB21
  replace B2 := B2.up hb6
  replace B3 := B3.up hb6
  replace B5 := B5.up hb6
  replace B7 := B7.up hb6
  replace B9 := B9.up hb6
  replace hbel := bel_trans hbel hb6
  replace B2 := B2.up (ba1 X6 (.cells #[.int .i64 (aN : Nat), .int .i64 (aD : Nat)] 33))
  replace B3 := B3.up (ba1 X6 (.cells #[.int .i64 (aN : Nat), .int .i64 (aD : Nat)] 33))
  replace B5 := B5.up (ba1 X6 (.cells #[.int .i64 (aN : Nat), .int .i64 (aD : Nat)] 33))
  replace B7 := B7.up (ba1 X6 (.cells #[.int .i64 (aN : Nat), .int .i64 (aD : Nat)] 33))
  replace B9 := B9.up (ba1 X6 (.cells #[.int .i64 (aN : Nat), .int .i64 (aD : Nat)] 33))
  replace hbel := bel_trans hbel (ba1 X6 (.cells #[.int .i64 (aN : Nat), .int .i64 (aD : Nat)] 33))
  have R11 : BxP (X6.alloc (.cells #[.int .i64 (aN : Nat), .int .i64 (aD : Nat)] 33)) X6.heap.size aN aD := heap_alloc_new X6 _
  have fB30 := B3.c0
  have fB31 := B3.c1
  have K := Lib.hid (part_call B3 hb.out g2)
  go_wp2_with fail
  refine K.out.mono ?_
  rintro e X7 ⟨rfl, hb7⟩
  clear K
  clear fB30 fB31
  replace B2 := B2.up hb7
  replace B3 := B3.up hb7
  replace B5 := B5.up hb7
  replace B7 := B7.up hb7
  replace B9 := B9.up hb7
  replace R11 := R11.up hb7
  replace hbel := bel_trans hbel hb7
  replace B2 := B2.up (ba1 X7 (.cells #[.int .i64 (bN : Nat), .int .i64 (bD : Nat)] 33))
  replace B3 := B3.up (ba1 X7 (.cells #[.int .i64 (bN : Nat), .int .i64 (bD : Nat)] 33))
  replace B5 := B5.up (ba1 X7 (.cells #[.int .i64 (bN : Nat), .int .i64 (bD : Nat)] 33))
  replace B7 := B7.up (ba1 X7 (.cells #[.int .i64 (bN : Nat), .int .i64 (bD : Nat)] 33))
  replace B9 := B9.up (ba1 X7 (.cells #[.int .i64 (bN : Nat), .int .i64 (bD : Nat)] 33))
  replace R11 := R11.up (ba1 X7 (.cells #[.int .i64 (bN : Nat), .int .i64 (bD : Nat)] 33))
  replace hbel := bel_trans hbel (ba1 X7 (.cells #[.int .i64 (bN : Nat), .int .i64 (bD : Nat)] 33))
  have R13 : BxP (X7.alloc (.cells #[.int .i64 (bN : Nat), .int .i64 (bD : Nat)] 33)) X7.heap.size bN bD := heap_alloc_new X7 _
  have fB50 := B5.c0
  have fB51 := B5.c1
  have K := Lib.hid (part_call B5 hc.out g3)
  go_wp2_with fail
  refine K.out.mono ?_
  rintro e X8 ⟨rfl, hb8⟩
  clear K
  clear fB50 fB51
  replace B2 := B2.up hb8
  replace B3 := B3.up hb8
  replace B5 := B5.up hb8
  replace B7 := B7.up hb8
  replace B9 := B9.up hb8
  replace R11 := R11.up hb8
  replace R13 := R13.up hb8
  replace hbel := bel_trans hbel hb8
  replace B2 := B2.up (ba1 X8 (.cells #[.int .i64 (cN : Nat), .int .i64 (cD : Nat)] 33))
  replace B3 := B3.up (ba1 X8 (.cells #[.int .i64 (cN : Nat), .int .i64 (cD : Nat)] 33))
  replace B5 := B5.up (ba1 X8 (.cells #[.int .i64 (cN : Nat), .int .i64 (cD : Nat)] 33))
  replace B7 := B7.up (ba1 X8 (.cells #[.int .i64 (cN : Nat), .int .i64 (cD : Nat)] 33))
  replace B9 := B9.up (ba1 X8 (.cells #[.int .i64 (cN : Nat), .int .i64 (cD : Nat)] 33))
  replace R11 := R11.up (ba1 X8 (.cells #[.int .i64 (cN : Nat), .int .i64 (cD : Nat)] 33))
  replace R13 := R13.up (ba1 X8 (.cells #[.int .i64 (cN : Nat), .int .i64 (cD : Nat)] 33))
  replace hbel := bel_trans hbel (ba1 X8 (.cells #[.int .i64 (cN : Nat), .int .i64 (cD : Nat)] 33))
  have R15 : BxP (X8.alloc (.cells #[.int .i64 (cN : Nat), .int .i64 (cD : Nat)] 33)) X8.heap.size cN cD := heap_alloc_new X8 _
  have fB70 := B7.c0
  have fB71 := B7.c1
  have K := Lib.hid (part_call B7 hd.out g4)
  go_wp2_with fail
  refine K.out.mono ?_
  rintro e X9 ⟨rfl, hb9⟩
  clear K
  clear fB70 fB71
  replace B2 := B2.up hb9
  replace B3 := B3.up hb9
  replace B5 := B5.up hb9
  replace B7 := B7.up hb9
  replace B9 := B9.up hb9
  replace R11 := R11.up hb9
  replace R13 := R13.up hb9
  replace R15 := R15.up hb9
  replace hbel := bel_trans hbel hb9
  replace B2 := B2.up (ba1 X9 (.cells #[.int .i64 (dN : Nat), .int .i64 (dD : Nat)] 33))
  replace B3 := B3.up (ba1 X9 (.cells #[.int .i64 (dN : Nat), .int .i64 (dD : Nat)] 33))
  replace B5 := B5.up (ba1 X9 (.cells #[.int .i64 (dN : Nat), .int .i64 (dD : Nat)] 33))
  replace B7 := B7.up (ba1 X9 (.cells #[.int .i64 (dN : Nat), .int .i64 (dD : Nat)] 33))
  replace B9 := B9.up (ba1 X9 (.cells #[.int .i64 (dN : Nat), .int .i64 (dD : Nat)] 33))
  replace R11 := R11.up (ba1 X9 (.cells #[.int .i64 (dN : Nat), .int .i64 (dD : Nat)] 33))
  replace R13 := R13.up (ba1 X9 (.cells #[.int .i64 (dN : Nat), .int .i64 (dD : Nat)] 33))
  replace R15 := R15.up (ba1 X9 (.cells #[.int .i64 (dN : Nat), .int .i64 (dD : Nat)] 33))
  replace hbel := bel_trans hbel (ba1 X9 (.cells #[.int .i64 (dN : Nat), .int .i64 (dD : Nat)] 33))
  have R17 : BxP (X9.alloc (.cells #[.int .i64 (dN : Nat), .int .i64 (dD : Nat)] 33)) X9.heap.size dN dD := heap_alloc_new X9 _
  have fB90 := B9.c0
  have fB91 := B9.c1
  have K := Lib.hid (part_call B9 he.out g5)
  go_wp2_with fail
  refine K.out.mono ?_
  rintro e X10 ⟨rfl, hb10⟩
  clear K
  clear fB90 fB91
  replace B2 := B2.up hb10
  replace B3 := B3.up hb10
  replace B5 := B5.up hb10
  replace B7 := B7.up hb10
  replace B9 := B9.up hb10
  replace R11 := R11.up hb10
  replace R13 := R13.up hb10
  replace R15 := R15.up hb10
  replace R17 := R17.up hb10
  replace hbel := bel_trans hbel hb10
  replace B2 := B2.up (ba1 X10 (.cells #[.int .i64 (xN : Nat), .int .i64 (xD : Nat)] 33))
  replace B3 := B3.up (ba1 X10 (.cells #[.int .i64 (xN : Nat), .int .i64 (xD : Nat)] 33))
  replace B5 := B5.up (ba1 X10 (.cells #[.int .i64 (xN : Nat), .int .i64 (xD : Nat)] 33))
  replace B7 := B7.up (ba1 X10 (.cells #[.int .i64 (xN : Nat), .int .i64 (xD : Nat)] 33))
  replace B9 := B9.up (ba1 X10 (.cells #[.int .i64 (xN : Nat), .int .i64 (xD : Nat)] 33))
  replace R11 := R11.up (ba1 X10 (.cells #[.int .i64 (xN : Nat), .int .i64 (xD : Nat)] 33))
  replace R13 := R13.up (ba1 X10 (.cells #[.int .i64 (xN : Nat), .int .i64 (xD : Nat)] 33))
  replace R15 := R15.up (ba1 X10 (.cells #[.int .i64 (xN : Nat), .int .i64 (xD : Nat)] 33))
  replace R17 := R17.up (ba1 X10 (.cells #[.int .i64 (xN : Nat), .int .i64 (xD : Nat)] 33))
  replace hbel := bel_trans hbel (ba1 X10 (.cells #[.int .i64 (xN : Nat), .int .i64 (xD : Nat)] 33))
  have R19 : BxP (X10.alloc (.cells #[.int .i64 (xN : Nat), .int .i64 (xD : Nat)] 33)) X10.heap.size xN xD := heap_alloc_new X10 _
  have fR110 := R11.c0
  have fR111 := R11.c1
  have fR130 := R13.c0
  have fR131 := R13.c1
  have fR150 := R15.c0
  have fR151 := R15.c1
  have fR170 := R17.c0
  have fR171 := R17.c1
  have fR190 := R19.c0
  have fR191 := R19.c1
  have e2 := B2.c0
  have e3 := B3.c0
  rw [hp.out] at e2
  rw [hq.out] at e3
  go_wp2
  go_loop [22] (fun i => ∃ k : Nat, 2 ≤ k ∧ k ≤ 61 ∧ i = .int .i64 (k : Nat) ∧ ∀ j, 2 ≤ j → j < k → ¬ (p % j = 0 ∧ q % j = 0)) (fun i => 61 - (intOf i).toNat)
  case atStart => exact ⟨2, Nat.le_refl _, by omega, rfl, fun j h1 h2 => by omega⟩
  case round =>
    obtain ⟨k, hk2, hk, rfl, hj⟩ := hrel
    by_cases hlt : k < 61
    · have hk0 : ¬ ((k : Int) = 0) := by omega
      have hkn : ¬ (k = 0) := by omega
      have hki : (1 : Int) ≤ (k : Int) := by omega
      have ma : ((p : Int)).tmod (k : Int) = ((p % k : Nat) : Int) := rfl
      have mb : ((q : Int)).tmod (k : Int) = ((q % k : Nat) : Int) := rfl
      have hst : ¬ (p % k = 0 ∧ q % k = 0) → ∀ j, 2 ≤ j → j < k + 1 → ¬ (p % j = 0 ∧ q % j = 0) := fun h j h1 h2 => by
        rcases Nat.lt_succ_iff_lt_or_eq.1 h2 with h' | rfl
        · exact hj j h1 h'
        · exact h
      replace hj := Lib.hid hj
      by_cases ra : p % k = 0
      · by_cases rb : q % k = 0
        · rw [ra] at ma
          rw [rb] at mb
          have ma' : ((p : Int)).tmod (k : Int) = 0 := ma
          have mb' : ((q : Int)).tmod (k : Int) = 0 := mb
          clear hst ma mb
          go_wp2_with fail
          refine (awake_any _).mono ?_
          rintro e X11 ⟨rfl, hb11⟩
          replace hbel := bel_trans hbel hb11
          go_wp2
          go_ret
          exact ⟨rfl, hbel⟩
        · have hs := Lib.hid (hst (fun h => rb h.2))
          rw [ra] at ma
          have ma' : ((p : Int)).tmod (k : Int) = 0 := ma
          have rbi : ¬ (((q % k : Nat) : Int) = 0) := by omega
          have hmm : q % k < k := Nat.mod_lt _ (by omega)
          clear hst ma
          generalize q % k = r at *
          go_wp2
          go_round
          case rel => exact ⟨k + 1, by omega, by omega, by go_num, hs.out⟩
          case measure => simp [intOf]; omega
      · have hs := Lib.hid (hst (fun h => ra h.1))
        have rai : ¬ (((p % k : Nat) : Int) = 0) := by omega
        have hmm : p % k < k := Nat.mod_lt _ (by omega)
        clear hst mb
        generalize p % k = r at *
        go_wp2
        go_round
        case rel => exact ⟨k + 1, by omega, by omega, by go_num, hs.out⟩
        case measure => simp [intOf]; omega
    · have hk' : k = 61 := by omega
      subst hk'
      have hTU := co.out (hcop.out hj)
      subst hTU
      replace hj := Lib.hid hj
      go_wp2_with fail
      refine (awake_any _).mono ?_
      rintro e X11 ⟨rfl, hb11⟩
      replace hbel := bel_trans hbel hb11
      go_wp2
      go_ret
      exact ⟨rfl, hbel⟩

theorem walk (A : Option Addr) (c : Nat) (x : Wn) (A' : Option Addr) (c' : Nat) (y : Wn) (w : World) (h : Row w w.heap.size A x.hs) (h' : Row w w.heap.size A' y.hs) :
    Calls Try.prog 13 #[wnV x.p A x.hs.length c, wnV y.p A' y.hs.length c'] w fun e w' => e = .returned (.bool true) ∧ Below w.heap.size w w' := by
  cases v3 : winB x 60 with
  | false => exact out0 A A' c c' x y w h h' v3
  | true =>
    cases v4 : winB y 60 with
    | false => exact out1 A A' c c' x y w h h' v3 v4
    | true => exact inn A A' c c' x y w h h' v3 v4

/-! ### the row's step -/
set_option maxRecDepth 100000 in
theorem lifted (os : Os) (started : os.Started) (H : Type) (enc : TypeId × Value → H) :
    ReturnsInHanded {} Try.checked os 13 .any (Rows.windowPartsSpec.pre6 enc Try.prog Try.f13 Rows.windowPartsRow.domain false) (Rows.windowPartsSpec.post enc Try.prog Try.f13 false true false false) := by
  refine returnsInHanded_of_change (C := Try.checked) own started (by kernel_rfl) Try.func13
    (ChangeSpec.witness6 (enc := enc) (C := Try.checked) false ⟨#[], #[.agg #[.int .i64 0, .slice none 0 0], .agg #[.int .i64 0, .slice none 0 0]], []⟩ 8 (by kernel_rfl) (by kernel_rfl) (by kernel_rfl) (by kernel_rfl)) ?_
  intro W base args ds gs before hval0 hW hcnd _
  have hval : ∀ (j : Nat) t v, Try.f13.params[j]? = some t → args[j]? = some v → Value.okWide Try.prog W .any base t v := hval0
  have hW' := hW
  obtain ⟨p, q, hA0, hV, rfl, hfz, hnd⟩ := hW
  have hA : DataW.TrodAll enc Try.prog W 0 (fun _ => true) true Try.f13.params.toList args.toList ds p := hA0
  rw [Try.params13] at hA hval
  obtain ⟨v0, vs0, d0, ds0, p0, q0, hargs, rfl, rfl, h0, r0⟩ := trodAll_cons hA
  obtain ⟨v1, vs1, d1, ds1, p1, q1, rfl, rfl, rfl, h1, r1⟩ := trodAll_cons r0
  obtain ⟨rfl, rfl, rfl⟩ := trodAll_nil r1
  obtain rfl : args = #[v0, v1] := by cases args; simp_all
  obtain ⟨rfl, rfl⟩ := trodVars_none hV
  have k0 := h0
  have lt0 : ∀ x ∈ p0, x.block < W.heap.size := by obtain ⟨m, hm⟩ := k0; exact DataW.trod_lt m _ _ _ hm
  obtain ⟨a0, cap0, T0, rfl, w0⟩ := wn_in (hval 0 24 v0 rfl rfl) h0
  have k1 := h1
  have lt1 : ∀ x ∈ p1, x.block < W.heap.size := by obtain ⟨m, hm⟩ := k1; exact DataW.trod_lt m _ _ _ hm
  obtain ⟨a1, cap1, T1, rfl, w1⟩ := wn_in (hval 1 24 v1 rfl rfl) h1
  clear hA0 hval0
  refine (walk a0 cap0 T0 a1 cap1 T1 W w0 w1).mono fun e W' ⟨he, bel⟩ => ?_
  subst he
  exact ⟨_, rfl, _, _, _, [], _, [], hW', trodAll_mk1 (shut_bool Try.underlying4 _), (trodAll_cons_mk (Below.trod laidOut (by kernel_rfl) (of_decide_eq_true (by kernel_rfl)) k0 bel lt0) (trodAll_cons_mk (Below.trod laidOut (by kernel_rfl) (of_decide_eq_true (by kernel_rfl)) k1 bel lt1) trodAll_mk0)), rfl, bel.frame _, fun h => by cases h⟩

theorem over : Rows.windowPartsRow.holds Try.pinned (OpenSpec.ofChange Rows.windowPartsSpec) :=
  OpenClaim.holds_of_wide 13 Try.f13 rfl rfl rfl rfl rfl rfl rfl ⟨rfl, rfl, rfl, rfl, rfl⟩ rfl rfl rfl rfl rfl (by kernel_rfl) Try.func13 (by kernel_rfl)
    (of_decide_eq_true (by kernel_rfl)) (by unfold Func.isWrapper; first | (rw [if_pos (by decide +kernel)]; kernel_rfl) | (rw [if_neg (by decide +kernel)]; exact ⟨rfl, rfl⟩))
    (fun os started H enc _ => lifted os started H enc)

/-- The statement. -/
theorem proved : Rows.WindowPartsSaid := over
end Go.Proofs.Ytlnpnfjdcnijhaa.lawWindowParts
