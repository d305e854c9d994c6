/-
  For any two windows and hour, the law WindowSets returns true: both, one of two and not are open as they should, and not of one of two is both of not.
  Conditions: none.
-/
import Derived.Test.YtlnpnfjdcnijhaaBi
namespace Go.Proofs.Ytlnpnfjdcnijhaa.lawWindowSets
open Go.Joins Go.ChangeShapes Go.WideShapes Go.ChangeAt Go.RowKit Go.Deep Go.Proofs.Ytlnpnfjdcnijhaa M
set_option linter.unusedVariables false
set_option linter.unusedSimpArgs false

theorem equal_self {X : World} {b c b' c' : Nat} {x : Wn} {A A' : Option Addr} (h : Bw X b x A c) (h' : Bw X b' x A' c') : Calls Try.prog 32 #[.agg #[.int .i64 x.p, .slice A x.hs.length c], .agg #[.int .i64 x.p, .slice A' x.hs.length c']] X fun e Y => e = .returned (.bool true) ∧ Below X.heap.size X Y := by
  have := equal_call h h'
  rw [eqW_self] at this
  exact this
set_option maxRecDepth 100000 in
set_option maxHeartbeats 2000000 in
theorem out (A A' : Option Addr) (c c' : Nat) (x y : Wn) (hour : Int) (w : World) (h : Row w w.heap.size A x.hs) (h' : Row w w.heap.size A' y.hs) (hv : (winB x 60 && winB y 60) = false) :
    Calls Try.prog 10 #[wnV x.p A x.hs.length c, wnV y.p A' y.hs.length c', .int .u32 hour] w fun e w' => e = .returned (.bool true) ∧ Below w.heap.size w w' := by
  have h63 := h.1
  have h63' := h'.1
  have hT := twO_new w x.p y.p A A' x.hs.length y.hs.length c c'
  have hbel := hT.below
  have B3 : Bw _ w.heap.size x A c := ⟨hT.b1, (h.below hT.below).more hT.below.size⟩
  have B4 : Bw _ (w.heap.size + 1) y A' c' := ⟨hT.b2, (h'.below hT.below).more hT.below.size⟩
  have k1 := valid_call B3
  unfold wnV
  clear hT
  have f0 := B3.c0
  have f1 := B3.c1
  cases hx : winB x 60 with
  | false =>
    rw [hx] at k1
    clear hv
    replace k1 := Lib.hid k1
    replace hx := Lib.hid hx
    go_enter Try.func10, Try.ntmps10
    go_wp2_with fail
    refine k1.out.mono ?_
    rintro e X1 ⟨rfl, hb1⟩
    replace hbel := bel_trans hbel hb1
    go_wp2_with fail
    refine (awake_any X1).mono ?_
    rintro e X2 ⟨rfl, hb2⟩
    go_wp2
    go_ret
    exact ⟨rfl, bel_trans hbel hb2⟩
  | true =>
    rw [hx] at k1 hv
    have hy : winB y 60 = false := by simpa using hv
    replace k1 := Lib.hid k1
    clear hv
    replace hx := Lib.hid hx
    go_enter Try.func10, Try.ntmps10
    go_wp2_with fail
    refine k1.out.mono ?_
    rintro e X1 ⟨rfl, hb1⟩
    clear f0 f1
    replace hbel := bel_trans hbel hb1
    replace B4 := B4.up hb1
    have f0 := B4.c0
    have f1 := B4.c1
    have k2 := valid_call B4
    rw [hy] at k2
    replace k2 := Lib.hid k2
    replace hy := Lib.hid hy
    go_wp2_with fail
    refine k2.out.mono ?_
    rintro e X2 ⟨rfl, hb2⟩
    replace hbel := bel_trans hbel hb2
    go_wp2_with fail
    refine (awake_any X2).mono ?_
    rintro e X3 ⟨rfl, hb3⟩
    go_wp2
    go_ret
    exact ⟨rfl, bel_trans hbel hb3⟩

set_option maxRecDepth 100000 in
set_option maxHeartbeats 8000000 in
theorem inn (A A' : Option Addr) (c c' : Nat) (x y : Wn) (hour : Nat) (w : World) (h : Row w w.heap.size A x.hs) (h' : Row w w.heap.size A' y.hs) (hx : winB x 60 = true) (hy : winB y 60 = true) (hh9 : hour ≤ 4294967295) :
    Calls Try.prog 10 #[wnV x.p A x.hs.length c, wnV y.p A' y.hs.length c', .int .u32 hour] w fun e w' => e = .returned (.bool true) ∧ Below w.heap.size w w' := by
  have h63 := h.1
  have h63' := h'.1
  have hT := twO_new w x.p y.p A A' x.hs.length y.hs.length c c'
  have hbel := hT.below
  have B3 : Bw _ w.heap.size x A c := ⟨hT.b1, (h.below hT.below).more hT.below.size⟩
  have B4 : Bw _ (w.heap.size + 1) y A' c' := ⟨hT.b2, (h'.below hT.below).more hT.below.size⟩
  unfold wnV
  clear hT
  have hx36 := win_more hx (show (60 : Int) ≤ 3600 by omega)
  have hy36 := win_more hy (show (60 : Int) ≤ 3600 by omega)
  obtain ⟨z1, hz1⟩ : ∃ z, BothIs x y z := ⟨_, bothIs hx hy⟩
  obtain ⟨z2, hz2⟩ : ∃ z, EithIs x y z := ⟨_, eithIs hx hy⟩
  obtain ⟨n1, hn1⟩ : ∃ z, NotIs x z := ⟨_, notIs hx36⟩
  obtain ⟨n2, hn2⟩ : ∃ z, NotIs y z := ⟨_, notIs hy36⟩
  have hn3 : NotIs n1 x := by
    have := notIs (hn1.win 3600 hx36)
    rwa [not_not hx36 hn1] at this
  obtain ⟨u1, hu1⟩ : ∃ z, NotIs z2 z := ⟨_, notIs hz2.win⟩
  have hu2 : BothIs n1 n2 u1 := by
    have := bothIs (hn1.win 60 hx) (hn2.win 60 hy)
    rwa [← neither hx hy hz2 hn1 hn2, hu1.ret] at this
  have hu36 := hu1.win 3600 hz2.win
  have hsame := same_self hu36
  obtain ⟨at_, hat⟩ : ∃ at_ : Nat, at_ = hour % 1000000000 := ⟨_, rfl⟩
  have hmod : ((hour : Nat) : Int) % 1000000000 = (at_ : Int) := by omega
  have hat9 : at_ ≤ 1000000000 := by omega
  obtain ⟨a, ha⟩ : ∃ a, opB x (at_ : Nat) = a := ⟨_, rfl⟩
  obtain ⟨b, hb⟩ : ∃ b, opB y (at_ : Nat) = b := ⟨_, rfl⟩
  have hc : opB z1 (at_ : Nat) = (a && b) := by
    rw [hz1.op]
    show (opB x _ && opB y _) = _
    rw [ha, hb]
  have hd : opB z2 (at_ : Nat) = (a || b) := by
    rw [hz2.op]
    show (opB x _ || opB y _) = _
    rw [ha, hb]
  have hn : opB n1 (at_ : Nat) = (!a) := by
    rw [hn1.op]
    show (!opB x _) = _
    rw [ha]
  have l1 := win_len hz1.win (by omega)
  have l2 := win_len hz2.win (by omega)
  have l3 := win_len (hn1.win 3600 hx36) (by omega)
  have l4 := win_len (hn2.win 3600 hy36) (by omega)
  have l5 := win_len hu36 (by omega)
  have l6 := win_len hx36 (by omega)
  have hz1w := hz1.win
  have hz2w := hz2.win
  have hn1w := hn1.win 3600 hx36
  have hn2w := hn2.win 3600 hy36
  have hat0 : (0 : Int) ≤ (at_ : Int) := by omega
  have hat1 : (at_ : Int) ≤ 1000000000 := by omega
  have heq := eqW_self x
  clear hat
  replace hx := Lib.hid hx
  replace hy := Lib.hid hy
  replace hx36 := Lib.hid hx36
  replace hy36 := Lib.hid hy36
  replace hz1 := Lib.hid hz1
  replace hz2 := Lib.hid hz2
  replace hn1 := Lib.hid hn1
  replace hn2 := Lib.hid hn2
  replace hn3 := Lib.hid hn3
  replace hu1 := Lib.hid hu1
  replace hu2 := Lib.hid hu2
  replace hu36 := Lib.hid hu36
  replace hsame := Lib.hid hsame
  replace ha := Lib.hid ha
  replace hb := Lib.hid hb
  replace hc := Lib.hid hc
  replace hd := Lib.hid hd
  replace hn := Lib.hid hn
  replace hz1w := Lib.hid hz1w
  replace hz2w := Lib.hid hz2w
  replace hn1w := Lib.hid hn1w
  replace hn2w := Lib.hid hn2w
  replace heq := Lib.hid heq
  go_enter Try.func10, Try.ntmps10
  have fB30 := B3.c0
  have fB31 := B3.c1
  have K := Lib.hid (by have := valid_call B3; rw [hx.out] at this; exact this)
  go_wp2_with fail
  refine K.out.mono ?_
  rintro e X1 ⟨rfl, hb1⟩
  clear K
  clear fB30 fB31
  replace B3 := B3.up hb1
  replace B4 := B4.up hb1
  replace hbel := bel_trans hbel hb1
  have fB40 := B4.c0
  have fB41 := B4.c1
  have K := Lib.hid (by have := valid_call B4; rw [hy.out] at this; exact this)
  go_wp2_with fail
  refine K.out.mono ?_
  rintro e X2 ⟨rfl, hb2⟩
  clear K
  clear fB40 fB41
  replace B3 := B3.up hb2
  replace B4 := B4.up hb2
  replace hbel := bel_trans hbel hb2
  have fB30 := B3.c0
  have fB31 := B3.c1
  have fB40 := B4.c0
  have fB41 := B4.c1
  have K := Lib.hid (both_call B3 B4 hz1.out)
  go_wp2_with fail
  refine K.out.mono ?_
  rintro e X3 ⟨A3, c3, rfl, hb3, hr3⟩
  clear K
  clear fB30 fB31 fB40 fB41
  replace B3 := B3.up hb3
  replace B4 := B4.up hb3
  replace hbel := bel_trans hbel hb3
  replace B3 := B3.up (ba1 X3 (.cells #[.int .i64 z1.p, .slice A3 z1.hs.length c3] 24))
  replace B4 := B4.up (ba1 X3 (.cells #[.int .i64 z1.p, .slice A3 z1.hs.length c3] 24))
  replace hbel := bel_trans hbel (ba1 X3 (.cells #[.int .i64 z1.p, .slice A3 z1.hs.length c3] 24))
  have B7 := Bw.new c3 hr3
  clear hr3
  have fB30 := B3.c0
  have fB31 := B3.c1
  have fB40 := B4.c0
  have fB41 := B4.c1
  have K := Lib.hid (eith_call B3 B4 hz2.out)
  go_wp2_with fail
  refine K.out.mono ?_
  rintro e X4 ⟨A4, c4, rfl, hb4, hr4⟩
  clear K
  clear fB30 fB31 fB40 fB41
  replace B3 := B3.up hb4
  replace B4 := B4.up hb4
  replace B7 := B7.up hb4
  replace hbel := bel_trans hbel hb4
  replace B3 := B3.up (ba1 X4 (.cells #[.int .i64 z2.p, .slice A4 z2.hs.length c4] 24))
  replace B4 := B4.up (ba1 X4 (.cells #[.int .i64 z2.p, .slice A4 z2.hs.length c4] 24))
  replace B7 := B7.up (ba1 X4 (.cells #[.int .i64 z2.p, .slice A4 z2.hs.length c4] 24))
  replace hbel := bel_trans hbel (ba1 X4 (.cells #[.int .i64 z2.p, .slice A4 z2.hs.length c4] 24))
  have B9 := Bw.new c4 hr4
  clear hr4
  have fB30 := B3.c0
  have fB31 := B3.c1
  have K := Lib.hid (not_call B3 hn1.out)
  go_wp2_with fail
  refine K.out.mono ?_
  rintro e X5 ⟨A5, c5, rfl, hb5, hr5⟩
  clear K
  clear fB30 fB31
  replace B3 := B3.up hb5
  replace B4 := B4.up hb5
  replace B7 := B7.up hb5
  replace B9 := B9.up hb5
  replace hbel := bel_trans hbel hb5
  replace B3 := B3.up (ba1 X5 (.cells #[.int .i64 n1.p, .slice A5 n1.hs.length c5] 24))
  replace B4 := B4.up (ba1 X5 (.cells #[.int .i64 n1.p, .slice A5 n1.hs.length c5] 24))
  replace B7 := B7.up (ba1 X5 (.cells #[.int .i64 n1.p, .slice A5 n1.hs.length c5] 24))
  replace B9 := B9.up (ba1 X5 (.cells #[.int .i64 n1.p, .slice A5 n1.hs.length c5] 24))
  replace hbel := bel_trans hbel (ba1 X5 (.cells #[.int .i64 n1.p, .slice A5 n1.hs.length c5] 24))
  have B11 := Bw.new c5 hr5
  clear hr5
  have fB40 := B4.c0
  have fB41 := B4.c1
  have K := Lib.hid (not_call B4 hn2.out)
  go_wp2_with fail
  refine K.out.mono ?_
  rintro e X6 ⟨A6, c6, rfl, hb6, hr6⟩
  clear K
  clear fB40 fB41
  replace B3 := B3.up hb6
  replace B4 := B4.up hb6
  replace B7 := B7.up hb6
  replace B9 := B9.up hb6
  replace B11 := B11.up hb6
  replace hbel := bel_trans hbel hb6
  replace B3 := B3.up (ba1 X6 (.cells #[.int .i64 n2.p, .slice A6 n2.hs.length c6] 24))
  replace B4 := B4.up (ba1 X6 (.cells #[.int .i64 n2.p, .slice A6 n2.hs.length c6] 24))
  replace B7 := B7.up (ba1 X6 (.cells #[.int .i64 n2.p, .slice A6 n2.hs.length c6] 24))
  replace B9 := B9.up (ba1 X6 (.cells #[.int .i64 n2.p, .slice A6 n2.hs.length c6] 24))
  replace B11 := B11.up (ba1 X6 (.cells #[.int .i64 n2.p, .slice A6 n2.hs.length c6] 24))
  replace hbel := bel_trans hbel (ba1 X6 (.cells #[.int .i64 n2.p, .slice A6 n2.hs.length c6] 24))
  have B13 := Bw.new c6 hr6
  clear hr6
  have fB70 := B7.c0
  have fB71 := B7.c1
  have K := Lib.hid (widelaw_call B7 l1)
  go_wp2_with fail
  refine K.out.mono ?_
  rintro e X7 ⟨rfl, hb7⟩
  clear K
  clear fB70 fB71
  replace B3 := B3.up hb7
  replace B4 := B4.up hb7
  replace B7 := B7.up hb7
  replace B9 := B9.up hb7
  replace B11 := B11.up hb7
  replace B13 := B13.up hb7
  replace hbel := bel_trans hbel hb7
  have fB90 := B9.c0
  have fB91 := B9.c1
  have K := Lib.hid (widelaw_call B9 l2)
  go_wp2_with fail
  refine K.out.mono ?_
  rintro e X8 ⟨rfl, hb8⟩
  clear K
  clear fB90 fB91
  replace B3 := B3.up hb8
  replace B4 := B4.up hb8
  replace B7 := B7.up hb8
  replace B9 := B9.up hb8
  replace B11 := B11.up hb8
  replace B13 := B13.up hb8
  replace hbel := bel_trans hbel hb8
  have fB110 := B11.c0
  have fB111 := B11.c1
  have K := Lib.hid (widelaw_call B11 l3)
  go_wp2_with fail
  refine K.out.mono ?_
  rintro e X9 ⟨rfl, hb9⟩
  clear K
  clear fB110 fB111
  replace B3 := B3.up hb9
  replace B4 := B4.up hb9
  replace B7 := B7.up hb9
  replace B9 := B9.up hb9
  replace B11 := B11.up hb9
  replace B13 := B13.up hb9
  replace hbel := bel_trans hbel hb9
  have fB130 := B13.c0
  have fB131 := B13.c1
  have K := Lib.hid (widelaw_call B13 l4)
  go_wp2_with fail
  refine K.out.mono ?_
  rintro e X10 ⟨rfl, hb10⟩
  clear K
  clear fB130 fB131
  replace B3 := B3.up hb10
  replace B4 := B4.up hb10
  replace B7 := B7.up hb10
  replace B9 := B9.up hb10
  replace B11 := B11.up hb10
  replace B13 := B13.up hb10
  replace hbel := bel_trans hbel hb10
  have fB30 := B3.c0
  have fB31 := B3.c1
  have K := Lib.hid (opens_call B3 hx36.out hat0 hat1 ha.out)
  go_wp2_with fail
  refine K.out.mono ?_
  rintro e X11 ⟨rfl, hb11⟩
  clear K
  clear fB30 fB31
  replace B3 := B3.up hb11
  replace B4 := B4.up hb11
  replace B7 := B7.up hb11
  replace B9 := B9.up hb11
  replace B11 := B11.up hb11
  replace B13 := B13.up hb11
  replace hbel := bel_trans hbel hb11
  have fB40 := B4.c0
  have fB41 := B4.c1
  have K := Lib.hid (opens_call B4 hy36.out hat0 hat1 hb.out)
  go_wp2_with fail
  refine K.out.mono ?_
  rintro e X12 ⟨rfl, hb12⟩
  clear K
  clear fB40 fB41
  replace B3 := B3.up hb12
  replace B4 := B4.up hb12
  replace B7 := B7.up hb12
  replace B9 := B9.up hb12
  replace B11 := B11.up hb12
  replace B13 := B13.up hb12
  replace hbel := bel_trans hbel hb12
  have fB70 := B7.c0
  have fB71 := B7.c1
  have K := Lib.hid (opens_call B7 hz1w.out hat0 hat1 hc.out)
  go_wp2_with fail
  refine K.out.mono ?_
  rintro e X13 ⟨rfl, hb13⟩
  clear K
  clear fB70 fB71
  replace B3 := B3.up hb13
  replace B4 := B4.up hb13
  replace B7 := B7.up hb13
  replace B9 := B9.up hb13
  replace B11 := B11.up hb13
  replace B13 := B13.up hb13
  replace hbel := bel_trans hbel hb13
  have fB90 := B9.c0
  have fB91 := B9.c1
  have K := Lib.hid (opens_call B9 hz2w.out hat0 hat1 hd.out)
  go_wp2_with fail
  refine K.out.mono ?_
  rintro e X14 ⟨rfl, hb14⟩
  clear K
  clear fB90 fB91
  replace B3 := B3.up hb14
  replace B4 := B4.up hb14
  replace B7 := B7.up hb14
  replace B9 := B9.up hb14
  replace B11 := B11.up hb14
  replace B13 := B13.up hb14
  replace hbel := bel_trans hbel hb14
  have fB110 := B11.c0
  have fB111 := B11.c1
  have K := Lib.hid (opens_call B11 hn1w.out hat0 hat1 hn.out)
  go_wp2_with fail
  refine K.out.mono ?_
  rintro e X15 ⟨rfl, hb15⟩
  clear K
  clear fB110 fB111
  replace B3 := B3.up hb15
  replace B4 := B4.up hb15
  replace B7 := B7.up hb15
  replace B9 := B9.up hb15
  replace B11 := B11.up hb15
  replace B13 := B13.up hb15
  replace hbel := bel_trans hbel hb15
  replace ha := Lib.hid True.intro
  replace hb := Lib.hid True.intro
  replace hc := Lib.hid True.intro
  replace hd := Lib.hid True.intro
  replace hn := Lib.hid True.intro
  cases a <;> cases b
  all_goals
    have fB110 := B11.c0
    have fB111 := B11.c1
    have K := Lib.hid (not_call B11 hn3.out)
    go_wp2_with fail
    refine K.out.mono ?_
    rintro e X16 ⟨A16, c16, rfl, hb16, hr16⟩
    clear K
    clear fB110 fB111
    replace B3 := B3.up hb16
    replace B4 := B4.up hb16
    replace B7 := B7.up hb16
    replace B9 := B9.up hb16
    replace B11 := B11.up hb16
    replace B13 := B13.up hb16
    replace hbel := bel_trans hbel hb16
    replace B3 := B3.up (ba1 X16 (.cells #[.int .i64 x.p, .slice A16 x.hs.length c16] 24))
    replace B4 := B4.up (ba1 X16 (.cells #[.int .i64 x.p, .slice A16 x.hs.length c16] 24))
    replace B7 := B7.up (ba1 X16 (.cells #[.int .i64 x.p, .slice A16 x.hs.length c16] 24))
    replace B9 := B9.up (ba1 X16 (.cells #[.int .i64 x.p, .slice A16 x.hs.length c16] 24))
    replace B11 := B11.up (ba1 X16 (.cells #[.int .i64 x.p, .slice A16 x.hs.length c16] 24))
    replace B13 := B13.up (ba1 X16 (.cells #[.int .i64 x.p, .slice A16 x.hs.length c16] 24))
    replace hbel := bel_trans hbel (ba1 X16 (.cells #[.int .i64 x.p, .slice A16 x.hs.length c16] 24))
    have B26 := Bw.new c16 hr16
    clear hr16
    have fB90 := B9.c0
    have fB91 := B9.c1
    have K := Lib.hid (not_call B9 hu1.out)
    go_wp2_with fail
    refine K.out.mono ?_
    rintro e X17 ⟨A17, c17, rfl, hb17, hr17⟩
    clear K
    clear fB90 fB91
    replace B3 := B3.up hb17
    replace B4 := B4.up hb17
    replace B7 := B7.up hb17
    replace B9 := B9.up hb17
    replace B11 := B11.up hb17
    replace B13 := B13.up hb17
    replace B26 := B26.up hb17
    replace hbel := bel_trans hbel hb17
    replace B3 := B3.up (ba1 X17 (.cells #[.int .i64 u1.p, .slice A17 u1.hs.length c17] 24))
    replace B4 := B4.up (ba1 X17 (.cells #[.int .i64 u1.p, .slice A17 u1.hs.length c17] 24))
    replace B7 := B7.up (ba1 X17 (.cells #[.int .i64 u1.p, .slice A17 u1.hs.length c17] 24))
    replace B9 := B9.up (ba1 X17 (.cells #[.int .i64 u1.p, .slice A17 u1.hs.length c17] 24))
    replace B11 := B11.up (ba1 X17 (.cells #[.int .i64 u1.p, .slice A17 u1.hs.length c17] 24))
    replace B13 := B13.up (ba1 X17 (.cells #[.int .i64 u1.p, .slice A17 u1.hs.length c17] 24))
    replace B26 := B26.up (ba1 X17 (.cells #[.int .i64 u1.p, .slice A17 u1.hs.length c17] 24))
    replace hbel := bel_trans hbel (ba1 X17 (.cells #[.int .i64 u1.p, .slice A17 u1.hs.length c17] 24))
    have B27 := Bw.new c17 hr17
    clear hr17
    have fB110 := B11.c0
    have fB111 := B11.c1
    have fB130 := B13.c0
    have fB131 := B13.c1
    have K := Lib.hid (both_call B11 B13 hu2.out)
    go_wp2_with fail
    refine K.out.mono ?_
    rintro e X18 ⟨A18, c18, rfl, hb18, hr18⟩
    clear K
    clear fB110 fB111 fB130 fB131
    replace B3 := B3.up hb18
    replace B4 := B4.up hb18
    replace B7 := B7.up hb18
    replace B9 := B9.up hb18
    replace B11 := B11.up hb18
    replace B13 := B13.up hb18
    replace B26 := B26.up hb18
    replace B27 := B27.up hb18
    replace hbel := bel_trans hbel hb18
    replace B3 := B3.up (ba1 X18 (.cells #[.int .i64 u1.p, .slice A18 u1.hs.length c18] 24))
    replace B4 := B4.up (ba1 X18 (.cells #[.int .i64 u1.p, .slice A18 u1.hs.length c18] 24))
    replace B7 := B7.up (ba1 X18 (.cells #[.int .i64 u1.p, .slice A18 u1.hs.length c18] 24))
    replace B9 := B9.up (ba1 X18 (.cells #[.int .i64 u1.p, .slice A18 u1.hs.length c18] 24))
    replace B11 := B11.up (ba1 X18 (.cells #[.int .i64 u1.p, .slice A18 u1.hs.length c18] 24))
    replace B13 := B13.up (ba1 X18 (.cells #[.int .i64 u1.p, .slice A18 u1.hs.length c18] 24))
    replace B26 := B26.up (ba1 X18 (.cells #[.int .i64 u1.p, .slice A18 u1.hs.length c18] 24))
    replace B27 := B27.up (ba1 X18 (.cells #[.int .i64 u1.p, .slice A18 u1.hs.length c18] 24))
    replace hbel := bel_trans hbel (ba1 X18 (.cells #[.int .i64 u1.p, .slice A18 u1.hs.length c18] 24))
    have B28 := Bw.new c18 hr18
    clear hr18
    have fB270 := B27.c0
    have fB271 := B27.c1
    have fB280 := B28.c0
    have fB281 := B28.c1
    have K := Lib.hid (same_call B27 B28 hsame.out)
    go_wp2_with fail
    refine K.out.mono ?_
    rintro e X19 ⟨rfl, hb19⟩
    clear K
    clear fB270 fB271 fB280 fB281
    replace B3 := B3.up hb19
    replace B4 := B4.up hb19
    replace B7 := B7.up hb19
    replace B9 := B9.up hb19
    replace B11 := B11.up hb19
    replace B13 := B13.up hb19
    replace B26 := B26.up hb19
    replace B27 := B27.up hb19
    replace B28 := B28.up hb19
    replace hbel := bel_trans hbel hb19
    have fB260 := B26.c0
    have fB261 := B26.c1
    have fB30 := B3.c0
    have fB31 := B3.c1
    have K := Lib.hid (equal_self B26 B3)
    go_wp2_with fail
    refine K.out.mono ?_
    rintro e X20 ⟨rfl, hb20⟩
    clear K
    clear fB260 fB261 fB30 fB31
    replace B3 := B3.up hb20
    replace B4 := B4.up hb20
    replace B7 := B7.up hb20
    replace B9 := B9.up hb20
    replace B11 := B11.up hb20
    replace B13 := B13.up hb20
    replace B26 := B26.up hb20
    replace B27 := B27.up hb20
    replace B28 := B28.up hb20
    replace hbel := bel_trans hbel hb20
    go_wp2_with fail
    refine (awake_any X20).mono ?_
    rintro e X21 ⟨rfl, hb21⟩
    replace hbel := bel_trans hbel hb21
    go_wp2
    go_ret
    exact ⟨rfl, hbel⟩

theorem walk (A : Option Addr) (c : Nat) (x : Wn) (A' : Option Addr) (c' : Nat) (y : Wn) (hour : Int) (w : World) (h : Row w w.heap.size A x.hs) (h' : Row w w.heap.size A' y.hs) (hh : 0 ≤ hour ∧ hour ≤ 4294967295) :
    Calls Try.prog 10 #[wnV x.p A x.hs.length c, wnV y.p A' y.hs.length c', .int .u32 hour] w fun e w' => e = .returned (.bool true) ∧ Below w.heap.size w w' := by
  obtain ⟨h0, rfl⟩ := Int.eq_ofNat_of_zero_le hh.1
  cases hv : (winB x 60 && winB y 60) with
  | false => exact out A A' c c' x y h0 w h h' hv
  | true =>
    rw [Bool.and_eq_true] at hv
    exact inn A A' c c' x y h0 w h h' hv.1 hv.2 (by omega)

/-! ### the row's step -/
set_option maxRecDepth 100000 in
theorem lifted (os : Os) (started : os.Started) (H : Type) (enc : TypeId × Value → H) :
    ReturnsInHanded {} Try.checked os 10 .any (Rows.windowSetsSpec.pre6 enc Try.prog Try.f10 Rows.windowSetsRow.domain false) (Rows.windowSetsSpec.post enc Try.prog Try.f10 false true false false) := by
  refine returnsInHanded_of_change (C := Try.checked) own started (by kernel_rfl) Try.func10
    (ChangeSpec.witness6 (enc := enc) (C := Try.checked) false ⟨#[], #[.agg #[.int .i64 0, .slice none 0 0], .agg #[.int .i64 0, .slice none 0 0], .int .u32 0], []⟩ 8 (by kernel_rfl) (by kernel_rfl) (by kernel_rfl) (by kernel_rfl)) ?_
  intro W base args ds gs before hval0 hW hcnd _
  have hval : ∀ (j : Nat) t v, Try.f10.params[j]? = some t → args[j]? = some v → Value.okWide Try.prog W .any base t v := hval0
  have hW' := hW
  obtain ⟨p, q, hA0, hV, rfl, hfz, hnd⟩ := hW
  have hA : DataW.TrodAll enc Try.prog W 0 (fun _ => true) true Try.f10.params.toList args.toList ds p := hA0
  rw [Try.params10] at hA hval
  obtain ⟨v0, vs0, d0, ds0, p0, q0, hargs, rfl, rfl, h0, r0⟩ := trodAll_cons hA
  obtain ⟨v1, vs1, d1, ds1, p1, q1, rfl, rfl, rfl, h1, r1⟩ := trodAll_cons r0
  obtain ⟨v2, vs2, d2, ds2, p2, q2, rfl, rfl, rfl, h2, r2⟩ := trodAll_cons r1
  obtain ⟨rfl, rfl, rfl⟩ := trodAll_nil r2
  obtain rfl : args = #[v0, v1, v2] := by cases args; simp_all
  obtain ⟨rfl, rfl⟩ := trodVars_none hV
  have k0 := h0
  have lt0 : ∀ x ∈ p0, x.block < W.heap.size := by obtain ⟨m, hm⟩ := k0; exact DataW.trod_lt m _ _ _ hm
  obtain ⟨a0, cap0, T0, rfl, w0⟩ := wn_in (hval 0 24 v0 rfl rfl) h0
  have k1 := h1
  have lt1 : ∀ x ∈ p1, x.block < W.heap.size := by obtain ⟨m, hm⟩ := k1; exact DataW.trod_lt m _ _ _ hm
  obtain ⟨a1, cap1, T1, rfl, w1⟩ := wn_in (hval 1 24 v1 rfl rfl) h1
  obtain ⟨a2, rfl, rfl, rfl, w2⟩ := open_int Try.underlying56 (hval 2 56 v2 rfl rfl) h2
  clear hA0 hval0
  refine (walk a0 cap0 T0 a1 cap1 T1 a2 W w0 w1 (u32_range w2)).mono fun e W' ⟨he, bel⟩ => ?_
  subst he
  exact ⟨_, rfl, _, _, _, [], _, [], hW', trodAll_mk1 (shut_bool Try.underlying4 _), (trodAll_cons_mk (Below.trod laidOut (by kernel_rfl) (of_decide_eq_true (by kernel_rfl)) k0 bel lt0) (trodAll_cons_mk (Below.trod laidOut (by kernel_rfl) (of_decide_eq_true (by kernel_rfl)) k1 bel lt1) (trodAll_cons_mk (shut_int Try.underlying56 w2) trodAll_mk0))), rfl, bel.frame _, fun h => by cases h⟩

theorem over : Rows.windowSetsRow.holds Try.pinned (OpenSpec.ofChange Rows.windowSetsSpec) :=
  OpenClaim.holds_of_wide 10 Try.f10 rfl rfl rfl rfl rfl rfl rfl ⟨rfl, rfl, rfl, rfl, rfl⟩ rfl rfl rfl rfl rfl (by kernel_rfl) Try.func10 (by kernel_rfl)
    (of_decide_eq_true (by kernel_rfl)) (by unfold Func.isWrapper; first | (rw [if_pos (by decide +kernel)]; kernel_rfl) | (rw [if_neg (by decide +kernel)]; exact ⟨rfl, rfl⟩))
    (fun os started H enc _ => lifted os started H enc)

/-- The statement. -/
theorem proved : Rows.WindowSetsSaid := over
end Go.Proofs.Ytlnpnfjdcnijhaa.lawWindowSets
