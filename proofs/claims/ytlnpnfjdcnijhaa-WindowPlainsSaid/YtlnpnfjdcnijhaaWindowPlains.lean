/-
  For any two windows and hour, the law WindowPlains returns true: a plain window is the same as the window, plain itself, its period divides the old one, and windows are the same exactly if their plain ones are equal.
  Conditions: none.
-/
import Derived.Test.YtlnpnfjdcnijhaaBi
namespace Go.Proofs.Ytlnpnfjdcnijhaa.lawWindowPlains
open Go.Joins Go.ChangeShapes Go.WideShapes Go.ChangeAt Go.RowKit Go.Deep Go.Proofs.Ytlnpnfjdcnijhaa M
set_option linter.unusedVariables false
set_option linter.unusedSimpArgs false

theorem equal_self {X : World} {b c b' c' : Nat} {x : Wn} {A A' : Option Addr} (h : Bw X b x A c) (h' : Bw X b' x A' c') : Calls Try.prog 32 #[.agg #[.int .i64 x.p, .slice A x.hs.length c], .agg #[.int .i64 x.p, .slice A' x.hs.length c']] X fun e Y => e = .returned (.bool true) ∧ Below X.heap.size X Y := by
  have := equal_call h h'
  rw [eqW_self] at this
  exact this
theorem equal_is {X : World} {b c b' c' : Nat} {x y : Wn} {A A' : Option Addr} {q : Bool} (h : Bw X b x A c) (h' : Bw X b' y A' c') (hq : eqW x.p x.hs y.p y.hs = q) : Calls Try.prog 32 #[.agg #[.int .i64 x.p, .slice A x.hs.length c], .agg #[.int .i64 y.p, .slice A' y.hs.length c']] X fun e Y => e = .returned (.bool q) ∧ Below X.heap.size X Y := by
  have := equal_call h h'
  rw [hq] at this
  exact this
theorem widelaw_big {X : World} {b c : Nat} {x : Wn} {A : Option Addr} (h : Bw X b x A c) (hl : 4000 < x.hs.length) : Calls Try.prog 18 #[.agg #[.int .i64 x.p, .slice A x.hs.length c]] X fun e Y => e = .returned (.bool true) ∧ Below X.heap.size X Y := by
  have := wide_law A c x.hs.length x.p X h.2.1
  rw [decide_eq_true hl] at this
  exact this
theorem wideref_is {X : World} {b c : Nat} {x : Wn} {A : Option Addr} {q : Bool} (h : Bw X b x A c) (hq : winB x 3600 = q) : Calls Try.prog 58 #[.agg #[.int .i64 x.p, .slice A x.hs.length c]] X fun e Y => e = .returned (.bool q) ∧ Below X.heap.size X Y := by
  have := wideref_call h
  rw [hq] at this
  exact this
theorem plain_is {X : World} {b c : Nat} {x z : Wn} {A : Option Addr} (h : Bw X b x A c) (hv : winB x 3600 = true) (hz : plW x = z) : Calls Try.prog 37 #[.agg #[.int .i64 x.p, .slice A x.hs.length c]] X (Got X z) := by
  rw [← hz]; exact plain_call h hv
/-- The plain window. -/
structure PlIs (x z : Wn) : Prop where
  ret : plW x = z
  op : opB z = opB x
  win : winB z 3600 = true
  again : plW z = z
  dvd : x.p.tmod z.p = 0
theorem plIs {x : Wn} (h : winB x 3600 = true) : PlIs x (plW x) := by
  obtain ⟨p, hp, h1, h2, hg⟩ := win_nat h
  refine ⟨rfl, plW_fun hp h1, plW_win hp h1 h2, plW_again hp h1, ?_⟩
  have := (plN_spec h1 (opB_perM hp)).2.1
  have e : (plW x).p = (plN p (opB x) : Nat) := by unfold plW; rw [hp, Int.toNat_natCast]
  rw [e, hp]
  show ((p % plN p (opB x) : Nat) : Int) = 0
  rw [Nat.mod_eq_zero_of_dvd this]; rfl

set_option maxRecDepth 100000 in
set_option maxHeartbeats 4000000 in
theorem out0 (A A' : Option Addr) (c c' : Nat) (x y : Wn) (hour : Nat) (w : World) (h : Row w w.heap.size A x.hs) (h' : Row w w.heap.size A' y.hs) (l3 : 4000 < x.hs.length) :
    Calls Try.prog 12 #[wnV x.p A x.hs.length c, wnV y.p A' y.hs.length c', .int .u32 hour] w fun e w' => e = .returned (.bool true) ∧ Below w.heap.size w w' := by
  have h63 := h.1
  have h63' := h'.1
  have hT := twO_new w x.p y.p A A' x.hs.length y.hs.length c c'
  have hbel := hT.below
  have B3 : Bw _ w.heap.size x A c := ⟨hT.b1, (h.below hT.below).more hT.below.size⟩
  have B4 : Bw _ (w.heap.size + 1) y A' c' := ⟨hT.b2, (h'.below hT.below).more hT.below.size⟩
  unfold wnV
  clear hT
  go_enter Try.func12, Try.ntmps12
  have fB30 := B3.c0
  have fB31 := B3.c1
  have K := Lib.hid (widelaw_big B3 l3)
  go_wp2_with fail
  refine K.out.mono ?_
  rintro e X1 ⟨rfl, hb1⟩
  clear K
  clear fB30 fB31
  replace B3 := B3.up hb1
  replace B4 := B4.up hb1
  replace hbel := bel_trans hbel hb1
  go_wp2_with fail
  refine (awake_any X1).mono ?_
  rintro e X2 ⟨rfl, hb2⟩
  replace hbel := bel_trans hbel hb2
  go_wp2
  go_ret
  exact ⟨rfl, hbel⟩

set_option maxRecDepth 100000 in
set_option maxHeartbeats 4000000 in
theorem out1 (A A' : Option Addr) (c c' : Nat) (x y : Wn) (hour : Nat) (w : World) (h : Row w w.heap.size A x.hs) (h' : Row w w.heap.size A' y.hs) (l3 : x.hs.length ≤ 4000) (l4 : 4000 < y.hs.length) :
    Calls Try.prog 12 #[wnV x.p A x.hs.length c, wnV y.p A' y.hs.length c', .int .u32 hour] w fun e w' => e = .returned (.bool true) ∧ Below w.heap.size w w' := by
  have h63 := h.1
  have h63' := h'.1
  have hT := twO_new w x.p y.p A A' x.hs.length y.hs.length c c'
  have hbel := hT.below
  have B3 : Bw _ w.heap.size x A c := ⟨hT.b1, (h.below hT.below).more hT.below.size⟩
  have B4 : Bw _ (w.heap.size + 1) y A' c' := ⟨hT.b2, (h'.below hT.below).more hT.below.size⟩
  unfold wnV
  clear hT
  go_enter Try.func12, Try.ntmps12
  have fB30 := B3.c0
  have fB31 := B3.c1
  have K := Lib.hid (widelaw_call B3 l3)
  go_wp2_with fail
  refine K.out.mono ?_
  rintro e X1 ⟨rfl, hb1⟩
  clear K
  clear fB30 fB31
  replace B3 := B3.up hb1
  replace B4 := B4.up hb1
  replace hbel := bel_trans hbel hb1
  have fB40 := B4.c0
  have fB41 := B4.c1
  have K := Lib.hid (widelaw_big B4 l4)
  go_wp2_with fail
  refine K.out.mono ?_
  rintro e X2 ⟨rfl, hb2⟩
  clear K
  clear fB40 fB41
  replace B3 := B3.up hb2
  replace B4 := B4.up hb2
  replace hbel := bel_trans hbel hb2
  go_wp2_with fail
  refine (awake_any X2).mono ?_
  rintro e X3 ⟨rfl, hb3⟩
  replace hbel := bel_trans hbel hb3
  go_wp2
  go_ret
  exact ⟨rfl, hbel⟩

set_option maxRecDepth 100000 in
set_option maxHeartbeats 4000000 in
theorem out2 (A A' : Option Addr) (c c' : Nat) (x y : Wn) (hour : Nat) (w : World) (h : Row w w.heap.size A x.hs) (h' : Row w w.heap.size A' y.hs) (l3 : x.hs.length ≤ 4000) (l4 : y.hs.length ≤ 4000) (v3 : winB x 3600 = false) :
    Calls Try.prog 12 #[wnV x.p A x.hs.length c, wnV y.p A' y.hs.length c', .int .u32 hour] w fun e w' => e = .returned (.bool true) ∧ Below w.heap.size w w' := by
  have h63 := h.1
  have h63' := h'.1
  have hT := twO_new w x.p y.p A A' x.hs.length y.hs.length c c'
  have hbel := hT.below
  have B3 : Bw _ w.heap.size x A c := ⟨hT.b1, (h.below hT.below).more hT.below.size⟩
  have B4 : Bw _ (w.heap.size + 1) y A' c' := ⟨hT.b2, (h'.below hT.below).more hT.below.size⟩
  unfold wnV
  clear hT
  replace v3 := Lib.hid v3
  go_enter Try.func12, Try.ntmps12
  have fB30 := B3.c0
  have fB31 := B3.c1
  have K := Lib.hid (widelaw_call B3 l3)
  go_wp2_with fail
  refine K.out.mono ?_
  rintro e X1 ⟨rfl, hb1⟩
  clear K
  clear fB30 fB31
  replace B3 := B3.up hb1
  replace B4 := B4.up hb1
  replace hbel := bel_trans hbel hb1
  have fB40 := B4.c0
  have fB41 := B4.c1
  have K := Lib.hid (widelaw_call B4 l4)
  go_wp2_with fail
  refine K.out.mono ?_
  rintro e X2 ⟨rfl, hb2⟩
  clear K
  clear fB40 fB41
  replace B3 := B3.up hb2
  replace B4 := B4.up hb2
  replace hbel := bel_trans hbel hb2
  have fB30 := B3.c0
  have fB31 := B3.c1
  have K := Lib.hid (wideref_is B3 v3.out)
  go_wp2_with fail
  refine K.out.mono ?_
  rintro e X3 ⟨rfl, hb3⟩
  clear K
  clear fB30 fB31
  replace B3 := B3.up hb3
  replace B4 := B4.up hb3
  replace hbel := bel_trans hbel hb3
  go_wp2_with fail
  refine (awake_any X3).mono ?_
  rintro e X4 ⟨rfl, hb4⟩
  replace hbel := bel_trans hbel hb4
  go_wp2
  go_ret
  exact ⟨rfl, hbel⟩

set_option maxRecDepth 100000 in
set_option maxHeartbeats 4000000 in
theorem out3 (A A' : Option Addr) (c c' : Nat) (x y : Wn) (hour : Nat) (w : World) (h : Row w w.heap.size A x.hs) (h' : Row w w.heap.size A' y.hs) (l3 : x.hs.length ≤ 4000) (l4 : y.hs.length ≤ 4000) (v3 : winB x 3600 = true) (v4 : winB y 3600 = false) :
    Calls Try.prog 12 #[wnV x.p A x.hs.length c, wnV y.p A' y.hs.length c', .int .u32 hour] w fun e w' => e = .returned (.bool true) ∧ Below w.heap.size w w' := by
  have h63 := h.1
  have h63' := h'.1
  have hT := twO_new w x.p y.p A A' x.hs.length y.hs.length c c'
  have hbel := hT.below
  have B3 : Bw _ w.heap.size x A c := ⟨hT.b1, (h.below hT.below).more hT.below.size⟩
  have B4 : Bw _ (w.heap.size + 1) y A' c' := ⟨hT.b2, (h'.below hT.below).more hT.below.size⟩
  unfold wnV
  clear hT
  replace v3 := Lib.hid v3
  replace v4 := Lib.hid v4
  go_enter Try.func12, Try.ntmps12
  have fB30 := B3.c0
  have fB31 := B3.c1
  have K := Lib.hid (widelaw_call B3 l3)
  go_wp2_with fail
  refine K.out.mono ?_
  rintro e X1 ⟨rfl, hb1⟩
  clear K
  clear fB30 fB31
  replace B3 := B3.up hb1
  replace B4 := B4.up hb1
  replace hbel := bel_trans hbel hb1
  have fB40 := B4.c0
  have fB41 := B4.c1
  have K := Lib.hid (widelaw_call B4 l4)
  go_wp2_with fail
  refine K.out.mono ?_
  rintro e X2 ⟨rfl, hb2⟩
  clear K
  clear fB40 fB41
  replace B3 := B3.up hb2
  replace B4 := B4.up hb2
  replace hbel := bel_trans hbel hb2
  have fB30 := B3.c0
  have fB31 := B3.c1
  have K := Lib.hid (wideref_is B3 v3.out)
  go_wp2_with fail
  refine K.out.mono ?_
  rintro e X3 ⟨rfl, hb3⟩
  clear K
  clear fB30 fB31
  replace B3 := B3.up hb3
  replace B4 := B4.up hb3
  replace hbel := bel_trans hbel hb3
  have fB40 := B4.c0
  have fB41 := B4.c1
  have K := Lib.hid (wideref_is B4 v4.out)
  go_wp2_with fail
  refine K.out.mono ?_
  rintro e X4 ⟨rfl, hb4⟩
  clear K
  clear fB40 fB41
  replace B3 := B3.up hb4
  replace B4 := B4.up hb4
  replace hbel := bel_trans hbel hb4
  go_wp2_with fail
  refine (awake_any X4).mono ?_
  rintro e X5 ⟨rfl, hb5⟩
  replace hbel := bel_trans hbel hb5
  go_wp2
  go_ret
  exact ⟨rfl, hbel⟩

set_option maxRecDepth 100000 in
set_option maxHeartbeats 8000000 in
theorem inn (A A' : Option Addr) (c c' : Nat) (x y : Wn) (hour : Nat) (w : World) (h : Row w w.heap.size A x.hs) (h' : Row w w.heap.size A' y.hs) (l3 : x.hs.length ≤ 4000) (l4 : y.hs.length ≤ 4000) (v3 : winB x 3600 = true) (v4 : winB y 3600 = true) (hh9 : hour ≤ 4294967295) :
    Calls Try.prog 12 #[wnV x.p A x.hs.length c, wnV y.p A' y.hs.length c', .int .u32 hour] w fun e w' => e = .returned (.bool true) ∧ Below w.heap.size w w' := by
  have h63 := h.1
  have h63' := h'.1
  have hT := twO_new w x.p y.p A A' x.hs.length y.hs.length c c'
  have hbel := hT.below
  have B3 : Bw _ w.heap.size x A c := ⟨hT.b1, (h.below hT.below).more hT.below.size⟩
  have B4 : Bw _ (w.heap.size + 1) y A' c' := ⟨hT.b2, (h'.below hT.below).more hT.below.size⟩
  unfold wnV
  clear hT
  obtain ⟨a, ha⟩ : ∃ z, PlIs x z := ⟨_, plIs v3⟩
  obtain ⟨b, hb⟩ : ∃ z, PlIs y z := ⟨_, plIs v4⟩
  obtain ⟨q, hq⟩ : ∃ q, eqW a.p a.hs b.p b.hs = q := ⟨_, rfl⟩
  obtain ⟨at_, hat⟩ : ∃ at_ : Nat, at_ = hour % 1000000000 := ⟨_, rfl⟩
  have hmod : ((hour : Nat) : Int) % 1000000000 = (at_ : Int) := by omega
  have hat9 : at_ ≤ 1000000000 := by omega
  have hat0 : (0 : Int) ≤ (at_ : Int) := by omega
  have hat1 : (at_ : Int) ≤ 1000000000 := by omega
  have hs1 : sameR x a = (true, 0) := by
    unfold sameR; rw [v3, ha.win, ha.ret, ha.again]; simp [eqW_self]
  have hs2 : sameR x y = (q, 0) := by
    unfold sameR; rw [v3, v4, ha.ret, hb.ret, hq]; simp
  obtain ⟨v, hv⟩ : ∃ v, opB x (at_ : Nat) = v := ⟨_, rfl⟩
  obtain ⟨u, hu⟩ : ∃ v, opB y (at_ : Nat) = v := ⟨_, rfl⟩
  have hva : opB a (at_ : Nat) = v := by rw [ha.op, hv]
  have huv : q = true → u = v := fun h => by
    rw [h] at hq
    unfold eqW at hq
    rw [Bool.and_eq_true, decide_eq_true_iff, decide_eq_true_iff] at hq
    have e : a = b := by
      cases a; cases b
      simp only [] at hq
      rw [hq.1, hq.2]
    rw [← hu, ← hv, ← ha.op, ← hb.op, e]
  have haw := ha.win
  have hbw := hb.win
  have har := ha.ret
  have hbr := hb.ret
  have hag := ha.again
  obtain ⟨⟨p1, p2⟩, _⟩ := winB_iff.1 haw
  have hap0 : ¬ a.p = 0 := by omega
  have hdv := ha.dvd
  have hvv : (v == v) = true := by simp
  obtain ⟨⟨x1, x2⟩, _⟩ := winB_iff.1 v3
  clear hat
  replace v3 := Lib.hid v3
  replace v4 := Lib.hid v4
  replace ha := Lib.hid ha
  replace hb := Lib.hid hb
  replace hq := Lib.hid hq
  replace hs1 := Lib.hid hs1
  replace hs2 := Lib.hid hs2
  replace hv := Lib.hid hv
  replace hu := Lib.hid hu
  replace hva := Lib.hid hva
  replace haw := Lib.hid haw
  replace hbw := Lib.hid hbw
  replace har := Lib.hid har
  replace hbr := Lib.hid hbr
  replace hag := Lib.hid hag
  cases q
  all_goals
    first | (have huv2 := huv rfl; subst huv2) | skip
    clear huv
    go_enter Try.func12, Try.ntmps12
    have fB30 := B3.c0
    have fB31 := B3.c1
    have K := Lib.hid (widelaw_call B3 l3)
    go_wp2_with fail
    refine K.out.mono ?_
    rintro e X1 ⟨rfl, hb1⟩
    clear K
    clear fB30 fB31
    replace B3 := B3.up hb1
    replace B4 := B4.up hb1
    replace hbel := bel_trans hbel hb1
    have fB40 := B4.c0
    have fB41 := B4.c1
    have K := Lib.hid (widelaw_call B4 l4)
    go_wp2_with fail
    refine K.out.mono ?_
    rintro e X2 ⟨rfl, hb2⟩
    clear K
    clear fB40 fB41
    replace B3 := B3.up hb2
    replace B4 := B4.up hb2
    replace hbel := bel_trans hbel hb2
    have fB30 := B3.c0
    have fB31 := B3.c1
    have K := Lib.hid (wideref_is B3 v3.out)
    go_wp2_with fail
    refine K.out.mono ?_
    rintro e X3 ⟨rfl, hb3⟩
    clear K
    clear fB30 fB31
    replace B3 := B3.up hb3
    replace B4 := B4.up hb3
    replace hbel := bel_trans hbel hb3
    have fB40 := B4.c0
    have fB41 := B4.c1
    have K := Lib.hid (wideref_is B4 v4.out)
    go_wp2_with fail
    refine K.out.mono ?_
    rintro e X4 ⟨rfl, hb4⟩
    clear K
    clear fB40 fB41
    replace B3 := B3.up hb4
    replace B4 := B4.up hb4
    replace hbel := bel_trans hbel hb4
    have fB30 := B3.c0
    have fB31 := B3.c1
    have K := Lib.hid (plain_is B3 v3.out har.out)
    go_wp2_with fail
    refine K.out.mono ?_
    rintro e X5 ⟨A5, c5, rfl, hb5, hr5⟩
    clear K
    clear fB30 fB31
    replace B3 := B3.up hb5
    replace B4 := B4.up hb5
    replace hbel := bel_trans hbel hb5
    replace B3 := B3.up (ba1 X5 (.cells #[.int .i64 a.p, .slice A5 a.hs.length c5] 24))
    replace B4 := B4.up (ba1 X5 (.cells #[.int .i64 a.p, .slice A5 a.hs.length c5] 24))
    replace hbel := bel_trans hbel (ba1 X5 (.cells #[.int .i64 a.p, .slice A5 a.hs.length c5] 24))
    have B7 := Bw.new c5 hr5
    clear hr5
    have fB40 := B4.c0
    have fB41 := B4.c1
    have K := Lib.hid (plain_is B4 v4.out hbr.out)
    go_wp2_with fail
    refine K.out.mono ?_
    rintro e X6 ⟨A6, c6, rfl, hb6, hr6⟩
    clear K
    clear fB40 fB41
    replace B3 := B3.up hb6
    replace B4 := B4.up hb6
    replace B7 := B7.up hb6
    replace hbel := bel_trans hbel hb6
    replace B3 := B3.up (ba1 X6 (.cells #[.int .i64 b.p, .slice A6 b.hs.length c6] 24))
    replace B4 := B4.up (ba1 X6 (.cells #[.int .i64 b.p, .slice A6 b.hs.length c6] 24))
    replace B7 := B7.up (ba1 X6 (.cells #[.int .i64 b.p, .slice A6 b.hs.length c6] 24))
    replace hbel := bel_trans hbel (ba1 X6 (.cells #[.int .i64 b.p, .slice A6 b.hs.length c6] 24))
    have B9 := Bw.new c6 hr6
    clear hr6
    have fB30 := B3.c0
    have fB31 := B3.c1
    have fB70 := B7.c0
    have fB71 := B7.c1
    have K := Lib.hid (same_call B3 B7 hs1.out)
    go_wp2_with fail
    refine K.out.mono ?_
    rintro e X7 ⟨rfl, hb7⟩
    clear K
    clear fB30 fB31 fB70 fB71
    replace B3 := B3.up hb7
    replace B4 := B4.up hb7
    replace B7 := B7.up hb7
    replace B9 := B9.up hb7
    replace hbel := bel_trans hbel hb7
    have fB30 := B3.c0
    have fB31 := B3.c1
    have fB40 := B4.c0
    have fB41 := B4.c1
    have K := Lib.hid (same_call B3 B4 hs2.out)
    go_wp2_with fail
    refine K.out.mono ?_
    rintro e X8 ⟨rfl, hb8⟩
    clear K
    clear fB30 fB31 fB40 fB41
    replace B3 := B3.up hb8
    replace B4 := B4.up hb8
    replace B7 := B7.up hb8
    replace B9 := B9.up hb8
    replace hbel := bel_trans hbel hb8
    have fB70 := B7.c0
    have fB71 := B7.c1
    have K := Lib.hid (wideref_is B7 haw.out)
    go_wp2_with fail
    refine K.out.mono ?_
    rintro e X9 ⟨rfl, hb9⟩
    clear K
    clear fB70 fB71
    replace B3 := B3.up hb9
    replace B4 := B4.up hb9
    replace B7 := B7.up hb9
    replace B9 := B9.up hb9
    replace hbel := bel_trans hbel hb9
    have fB30 := B3.c0
    have fB31 := B3.c1
    have fB70 := B7.c0
    have fB71 := B7.c1
    have fB90 := B9.c0
    have fB91 := B9.c1
    have K := Lib.hid (equal_is B7 B9 hq.out)
    go_wp2_with fail
    refine K.out.mono ?_
    rintro e X10 ⟨rfl, hb10⟩
    clear K
    clear fB30 fB31 fB70 fB71 fB90 fB91
    replace B3 := B3.up hb10
    replace B4 := B4.up hb10
    replace B7 := B7.up hb10
    replace B9 := B9.up hb10
    replace hbel := bel_trans hbel hb10
    have fB70 := B7.c0
    have fB71 := B7.c1
    have K := Lib.hid (plain_is B7 haw.out hag.out)
    go_wp2_with fail
    refine K.out.mono ?_
    rintro e X11 ⟨A11, c11, rfl, hb11, hr11⟩
    clear K
    clear fB70 fB71
    replace B3 := B3.up hb11
    replace B4 := B4.up hb11
    replace B7 := B7.up hb11
    replace B9 := B9.up hb11
    replace hbel := bel_trans hbel hb11
    replace B3 := B3.up (ba1 X11 (.cells #[.int .i64 a.p, .slice A11 a.hs.length c11] 24))
    replace B4 := B4.up (ba1 X11 (.cells #[.int .i64 a.p, .slice A11 a.hs.length c11] 24))
    replace B7 := B7.up (ba1 X11 (.cells #[.int .i64 a.p, .slice A11 a.hs.length c11] 24))
    replace B9 := B9.up (ba1 X11 (.cells #[.int .i64 a.p, .slice A11 a.hs.length c11] 24))
    replace hbel := bel_trans hbel (ba1 X11 (.cells #[.int .i64 a.p, .slice A11 a.hs.length c11] 24))
    have B15 := Bw.new c11 hr11
    clear hr11
    have fB30 := B3.c0
    have fB31 := B3.c1
    have K := Lib.hid (opens_call B3 v3.out hat0 hat1 hv.out)
    go_wp2_with fail
    refine K.out.mono ?_
    rintro e X12 ⟨rfl, hb12⟩
    clear K
    clear fB30 fB31
    replace B3 := B3.up hb12
    replace B4 := B4.up hb12
    replace B7 := B7.up hb12
    replace B9 := B9.up hb12
    replace B15 := B15.up hb12
    replace hbel := bel_trans hbel hb12
    have fB40 := B4.c0
    have fB41 := B4.c1
    have K := Lib.hid (opens_call B4 v4.out hat0 hat1 hu.out)
    go_wp2_with fail
    refine K.out.mono ?_
    rintro e X13 ⟨rfl, hb13⟩
    clear K
    clear fB40 fB41
    replace B3 := B3.up hb13
    replace B4 := B4.up hb13
    replace B7 := B7.up hb13
    replace B9 := B9.up hb13
    replace B15 := B15.up hb13
    replace hbel := bel_trans hbel hb13
    have fB70 := B7.c0
    have fB71 := B7.c1
    have K := Lib.hid (opens_call B7 haw.out hat0 hat1 hva.out)
    go_wp2_with fail
    refine K.out.mono ?_
    rintro e X14 ⟨rfl, hb14⟩
    clear K
    clear fB70 fB71
    replace B3 := B3.up hb14
    replace B4 := B4.up hb14
    replace B7 := B7.up hb14
    replace B9 := B9.up hb14
    replace B15 := B15.up hb14
    replace hbel := bel_trans hbel hb14
    have fB150 := B15.c0
    have fB151 := B15.c1
    have fB70 := B7.c0
    have fB71 := B7.c1
    have K := Lib.hid (equal_self B15 B7)
    go_wp2_with fail
    refine K.out.mono ?_
    rintro e X15 ⟨rfl, hb15⟩
    clear K
    clear fB150 fB151 fB70 fB71
    replace B3 := B3.up hb15
    replace B4 := B4.up hb15
    replace B7 := B7.up hb15
    replace B9 := B9.up hb15
    replace B15 := B15.up hb15
    replace hbel := bel_trans hbel hb15
    go_wp2_with fail
    refine (awake_any X15).mono ?_
    rintro e X16 ⟨rfl, hb16⟩
    replace hbel := bel_trans hbel hb16
    go_wp2
    go_ret
    exact ⟨rfl, hbel⟩

theorem walk (A : Option Addr) (c : Nat) (x : Wn) (A' : Option Addr) (c' : Nat) (y : Wn) (hour : Int) (w : World) (h : Row w w.heap.size A x.hs) (h' : Row w w.heap.size A' y.hs) (hh : 0 ≤ hour ∧ hour ≤ 4294967295) :
    Calls Try.prog 12 #[wnV x.p A x.hs.length c, wnV y.p A' y.hs.length c', .int .u32 hour] w fun e w' => e = .returned (.bool true) ∧ Below w.heap.size w w' := by
  obtain ⟨h0, rfl⟩ := Int.eq_ofNat_of_zero_le hh.1
  rcases Nat.lt_or_ge 4000 x.hs.length with l3 | l3
  · exact out0 A A' c c' x y h0 w h h' l3
  rcases Nat.lt_or_ge 4000 y.hs.length with l4 | l4
  · exact out1 A A' c c' x y h0 w h h' l3 l4
  cases v3 : winB x 3600 with
  | false => exact out2 A A' c c' x y h0 w h h' l3 l4 v3
  | true =>
    cases v4 : winB y 3600 with
    | false => exact out3 A A' c c' x y h0 w h h' l3 l4 v3 v4
    | true => exact inn A A' c c' x y h0 w h h' l3 l4 v3 v4 (by omega)

/-! ### the row's step -/
set_option maxRecDepth 100000 in
theorem lifted (os : Os) (started : os.Started) (H : Type) (enc : TypeId × Value → H) :
    ReturnsInHanded {} Try.checked os 12 .any (Rows.windowPlainsSpec.pre6 enc Try.prog Try.f12 Rows.windowPlainsRow.domain false) (Rows.windowPlainsSpec.post enc Try.prog Try.f12 false true false false) := by
  refine returnsInHanded_of_change (C := Try.checked) own started (by kernel_rfl) Try.func12
    (ChangeSpec.witness6 (enc := enc) (C := Try.checked) false ⟨#[], #[.agg #[.int .i64 0, .slice none 0 0], .agg #[.int .i64 0, .slice none 0 0], .int .u32 0], []⟩ 8 (by kernel_rfl) (by kernel_rfl) (by kernel_rfl) (by kernel_rfl)) ?_
  intro W base args ds gs before hval0 hW hcnd _
  have hval : ∀ (j : Nat) t v, Try.f12.params[j]? = some t → args[j]? = some v → Value.okWide Try.prog W .any base t v := hval0
  have hW' := hW
  obtain ⟨p, q, hA0, hV, rfl, hfz, hnd⟩ := hW
  have hA : DataW.TrodAll enc Try.prog W 0 (fun _ => true) true Try.f12.params.toList args.toList ds p := hA0
  rw [Try.params12] at hA hval
  obtain ⟨v0, vs0, d0, ds0, p0, q0, hargs, rfl, rfl, h0, r0⟩ := trodAll_cons hA
  obtain ⟨v1, vs1, d1, ds1, p1, q1, rfl, rfl, rfl, h1, r1⟩ := trodAll_cons r0
  obtain ⟨v2, vs2, d2, ds2, p2, q2, rfl, rfl, rfl, h2, r2⟩ := trodAll_cons r1
  obtain ⟨rfl, rfl, rfl⟩ := trodAll_nil r2
  obtain rfl : args = #[v0, v1, v2] := by cases args; simp_all
  obtain ⟨rfl, rfl⟩ := trodVars_none hV
  have k0 := h0
  have lt0 : ∀ x ∈ p0, x.block < W.heap.size := by obtain ⟨m, hm⟩ := k0; exact DataW.trod_lt m _ _ _ hm
  obtain ⟨a0, cap0, T0, rfl, w0⟩ := wn_in (hval 0 24 v0 rfl rfl) h0
  have k1 := h1
  have lt1 : ∀ x ∈ p1, x.block < W.heap.size := by obtain ⟨m, hm⟩ := k1; exact DataW.trod_lt m _ _ _ hm
  obtain ⟨a1, cap1, T1, rfl, w1⟩ := wn_in (hval 1 24 v1 rfl rfl) h1
  obtain ⟨a2, rfl, rfl, rfl, w2⟩ := open_int Try.underlying56 (hval 2 56 v2 rfl rfl) h2
  clear hA0 hval0
  refine (walk a0 cap0 T0 a1 cap1 T1 a2 W w0 w1 (u32_range w2)).mono fun e W' ⟨he, bel⟩ => ?_
  subst he
  exact ⟨_, rfl, _, _, _, [], _, [], hW', trodAll_mk1 (shut_bool Try.underlying4 _), (trodAll_cons_mk (Below.trod laidOut (by kernel_rfl) (of_decide_eq_true (by kernel_rfl)) k0 bel lt0) (trodAll_cons_mk (Below.trod laidOut (by kernel_rfl) (of_decide_eq_true (by kernel_rfl)) k1 bel lt1) (trodAll_cons_mk (shut_int Try.underlying56 w2) trodAll_mk0))), rfl, bel.frame _, fun h => by cases h⟩

theorem over : Rows.windowPlainsRow.holds Try.pinned (OpenSpec.ofChange Rows.windowPlainsSpec) :=
  OpenClaim.holds_of_wide 12 Try.f12 rfl rfl rfl rfl rfl rfl rfl ⟨rfl, rfl, rfl, rfl, rfl⟩ rfl rfl rfl rfl rfl (by kernel_rfl) Try.func12 (by kernel_rfl)
    (of_decide_eq_true (by kernel_rfl)) (by unfold Func.isWrapper; first | (rw [if_pos (by decide +kernel)]; kernel_rfl) | (rw [if_neg (by decide +kernel)]; exact ⟨rfl, rfl⟩))
    (fun os started H enc _ => lifted os started H enc)

/-- The statement. -/
theorem proved : Rows.WindowPlainsSaid := over
end Go.Proofs.Ytlnpnfjdcnijhaa.lawWindowPlains
