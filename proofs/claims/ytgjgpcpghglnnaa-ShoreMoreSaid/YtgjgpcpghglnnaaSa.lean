/-
  The lead, the greatest one and the best order of jobs whose Harm may be below 0: the program's functions.
-/
import Derived.Test.YtgjgpcpghglnnaaB
namespace Go.Proofs.Ytgjgpcpghglnnaa
open Go.RowKit Go.Deep M
set_option linter.unusedVariables false
set_option linter.unusedSimpArgs false

namespace M
/-- Jobs whose Harm may be below 0. -/
def okS (x : Jb) : Prop := (1 ≤ x.h ∧ x.h ≤ 100) ∧ -100 ≤ x.m ∧ x.m ≤ 100
def OksS (l : List Jb) (k : Nat) : Prop := ∀ i, i < k → okS (jb l i)
theorem s_bS {l : List Jb} {f : Nat} (h : OksS l l.length) : ∀ k, f + k ≤ l.length → ((k : Int) ≤ sh l f k ∧ sh l f k ≤ 100 * k) ∧ -100 * k ≤ sm l f k ∧ sm l f k ≤ 100 * k := by
  intro k
  induction k with
  | zero => intro _; simp [sh, sm]
  | succ k ih =>
    intro hk
    have h1 := ih (by omega)
    obtain ⟨⟨a, b⟩, c, d⟩ := h (f + k) (by omega)
    rw [sh_succ, sm_succ]
    omega
def vS (J : List (List Jb)) : Prop := (1 ≤ J.length ∧ J.length ≤ 6) ∧ tn J J.length ≤ 12 ∧ ∀ i, i < J.length → OksS (be J i) (be J i).length
end M

set_option maxRecDepth 100000 in
set_option maxHeartbeats 2000000 in
theorem withS_any (h m last : Int) (x : Jb) (w : World) (hh : 0 ≤ h ∧ h ≤ 100000) (hm : -100000 ≤ m ∧ m ≤ 100000) (hl : 0 ≤ last ∧ last ≤ 100000) (hx : okS x) :
    Calls Try.prog 85 #[.agg #[.int .i64 h, .int .i64 m, .int .i64 last], .agg #[.int .i64 x.h, .int .i64 x.m]] w fun e w' => e = .returned (.agg #[.int .i64 (h + x.h), .int .i64 (m + x.m), .int .i64 (last + 1)]) ∧ Below w.heap.size w w' := by
  obtain ⟨⟨x1, x2⟩, x3, x4⟩ := hx
  obtain ⟨xh, xm⟩ := x
  simp only [] at *
  have hb3 : Below w.heap.size w (((w.alloc (.cells #[.int .i64 h, .int .i64 m, .int .i64 last] 74)).alloc (.cells #[.int .i64 xh, .int .i64 xm] 54)).alloc (.cells #[.int .i64 0, .int .i64 0, .int .i64 0] 74)) := ((Below.refl _ _).alloc (Nat.le_refl _) _).alloc (by simp) _ |>.alloc (by simp; omega) _
  have hfin := Lib.hid (set3_below hb3 (show w.heap.size ≤ w.heap.size + 1 + 1 by omega) (.int .i64 (h + xh)) (.int .i64 (m + xm)) (.int .i64 (last + 1)))
  have hb4 := Lib.hid (show Below w.heap.size w (((w.alloc (.cells #[.int .i64 h, .int .i64 m, .int .i64 last] 74)).alloc (.cells #[.int .i64 xh, .int .i64 xm] 54)).alloc (.cells #[.int .i64 (h + xh), .int .i64 (m + xm), .int .i64 (last + 1)] 74)) from ((Below.refl _ _).alloc (Nat.le_refl _) _).alloc (by simp) _ |>.alloc (by simp; omega) _)
  replace hb3 := Lib.hid hb3
  go_enter Try.func85, Try.ntmps85
  go_wp2
  exact bodyPost_ret (v := .agg #[.int .i64 (h + xh), .int .i64 (m + xm), .int .i64 (last + 1)]) (by simp [results, Try.results85, go_sem]) rfl ⟨rfl, by first | exact hfin.out | exact hb4.out⟩

set_option maxRecDepth 100000 in
set_option maxHeartbeats 2000000 in
theorem belowS_any (h m last h' m' last' : Int) (w : World) (hh : 0 ≤ h ∧ h ≤ 100000) (hm : -100000 ≤ m ∧ m ≤ 100000) (hh' : 0 ≤ h' ∧ h' ≤ 100000) (hm' : -100000 ≤ m' ∧ m' ≤ 100000) (q : Bool) (hq : q = decide (m * h' < m' * h)) :
    Calls Try.prog 86 #[.agg #[.int .i64 h, .int .i64 m, .int .i64 last], .agg #[.int .i64 h', .int .i64 m', .int .i64 last']] w fun e w' => e = .returned (.bool q) ∧ Below w.heap.size w w' := by
  have hb2 : Below w.heap.size w ((w.alloc (.cells #[.int .i64 h, .int .i64 m, .int .i64 last] 74)).alloc (.cells #[.int .i64 h', .int .i64 m', .int .i64 last'] 74)) := ((Below.refl _ _).alloc (Nat.le_refl _) _).alloc (by simp) _
  have p1 : -(100000 * 100000) ≤ m * h' ∧ m * h' ≤ 100000 * 100000 := ⟨by have := Int.mul_le_mul (show -m ≤ 100000 by omega) hh'.2 hh'.1 (by omega); rw [Int.neg_mul] at this; omega, Int.mul_le_mul hm.2 hh'.2 hh'.1 (by omega)⟩
  have p2 : -(100000 * 100000) ≤ m' * h ∧ m' * h ≤ 100000 * 100000 := ⟨by have := Int.mul_le_mul (show -m' ≤ 100000 by omega) hh.2 hh.1 (by omega); rw [Int.neg_mul] at this; omega, Int.mul_le_mul hm'.2 hh.2 hh.1 (by omega)⟩
  obtain ⟨a, ha⟩ : ∃ a, a = m * h' := ⟨_, rfl⟩
  obtain ⟨b, hb⟩ : ∃ a, a = m' * h := ⟨_, rfl⟩
  rw [← ha] at p1 hq
  rw [← hb] at p2 hq
  have w1 : IntKind.i64.wrap (m * h') = a := by rw [← ha]; exact IntWalk.i64_in _ (by omega)
  have w2 : IntKind.i64.wrap (m' * h) = b := by rw [← hb]; exact IntWalk.i64_in _ (by omega)
  have v1 : m * h' = a := ha.symm
  have v2 : m' * h = b := hb.symm
  replace ha := Lib.hid ha
  replace hb := Lib.hid hb
  replace hb2 := Lib.hid hb2
  by_cases hlt : a < b
  · rw [decide_eq_true hlt] at hq
    subst hq
    go_enter Try.func86, Try.ntmps86
    go_wp2
    go_ret
    exact ⟨rfl, hb2.out⟩
  · rw [decide_eq_false hlt] at hq
    subst hq
    go_enter Try.func86, Try.ntmps86
    go_wp2
    go_ret
    exact ⟨rfl, hb2.out⟩

set_option maxRecDepth 100000 in
set_option maxHeartbeats 4000000 in
theorem leadS_any (B : Nat) (A : Option Addr) (c : Nat) (l : List Jb) (f : Nat) (w : World) (h : Jbs w B A l) (hB : B ≤ w.heap.size) (hf : f < l.length) (h12 : l.length ≤ 12) (hok : OksS l l.length) (hc : l.length ≤ c) :
    Calls Try.prog 68 #[.slice A l.length c, .int .i64 (f : Nat)] w fun e w' => e = .returned (.agg #[.int .i64 (sh l f (ld l f)), .int .i64 (sm l f (ld l f)), .int .i64 ((f + ld l f - 1 : Nat) : Int)]) ∧ Below w.heap.size w w' := by
  have h63 := h.1
  obtain ⟨b, o, rfl, hb, d0, d1⟩ := (h.below ((ba1 w (.cells #[.int .i64 0, .int .i64 0, .int .i64 0] 74)).mono hB)).at_ f hf
  have hsb := s_bS (f := f) hok
  have hbk := bk_b l f
  have hbs := bk_succ l f
  have hs1 := sh_succ l f
  have hm1 := sm_succ l f
  have hld : ld l f = bk l f (l.length - f - 1) := rfl
  have s1 : sh l f 1 = (jb l f).h := by rw [hs1]; simp [sh]
  have m1 : sm l f 1 = (jb l f).m := by rw [hm1]; simp [sm]
  have b0 : bk l f 0 = 1 := rfl
  have hW := ldW_new w (jb l f).h (jb l f).m (f : Nat)
  rw [← s1, ← m1] at hW
  obtain ⟨n, hn⟩ : ∃ n, n = l.length := ⟨_, rfl⟩
  obtain ⟨m, hm⟩ : ∃ m, m = n - (f + 1) := ⟨_, rfl⟩
  have hat := fun X (hX : Below w.heap.size w X) j (hj : f + 1 + j < n) => (h.below (hX.mono hB)).at_ (f + 1 + j) (hn ▸ hj)
  rw [hld, ← hn, show n - f - 1 = m by omega]
  rw [← hn] at h63 hf h12 hc hsb hok
  have hfm : f + 1 + m = n := by omega
  have hm12 : m ≤ 12 := by omega
  rw [s1, m1] at hW
  obtain ⟨RH, hRH⟩ : ∃ z, z = sh l f (bk l f m) := ⟨_, rfl⟩
  obtain ⟨RM, hRM⟩ : ∃ z, z = sm l f (bk l f m) := ⟨_, rfl⟩
  obtain ⟨RL, hRL⟩ : ∃ z, z = f + bk l f m - 1 := ⟨_, rfl⟩
  rw [← hRH, ← hRM, ← hRL]
  generalize hxx : jb l f = x0 at *
  have hfi : (f : Int) + 1 ≤ (n : Int) := by omega
  have hfn : f + 1 ≤ n := by omega
  replace hn := Lib.hid hn
  replace hm := Lib.hid hm
  replace hfm := Lib.hid hfm
  replace hat := Lib.hid hat
  replace hsb := Lib.hid hsb
  replace hbk := Lib.hid hbk
  replace hbs := Lib.hid hbs
  replace hs1 := Lib.hid hs1
  replace hm1 := Lib.hid hm1
  replace hld := Lib.hid hld
  replace s1 := Lib.hid s1
  replace m1 := Lib.hid m1
  replace b0 := Lib.hid b0
  replace hRH := Lib.hid hRH
  replace hRM := Lib.hid hRM
  replace hRL := Lib.hid hRL
  replace hW := Lib.hid hW
  replace hok := Lib.hid hok
  replace hxx := Lib.hid hxx
  by_cases hcf : c = f + 1
  · obtain rfl : m = 0 := by rw [hm.out]; omega
    subst hcf
    go_enter Try.func68, Try.ntmps68
    go_wp2
    go_loopw [21] (fun i X => ∃ j : Nat, j ≤ 0 ∧ i = .int .i64 (j : Nat) ∧ LdW w (sh l f (j + 1)) (sm l f (j + 1)) ((f + j : Nat) : Int) (sh l f (bk l f j)) (sm l f (bk l f j)) ((f + bk l f j - 1 : Nat) : Int) X) (fun i _ => 0 - (intOf i).toNat)
    case atStart => exact ⟨0, by omega, rfl, by
      rw [b0.out, s1.out, m1.out]
      exact hW.out⟩
    case round =>
      clear hW
      obtain ⟨j, hj, rfl, hX⟩ := hrel
      by_cases hlj : j < 0
      · exact absurd hlj (Nat.not_lt_zero _)
      · have hj' : j = 0 := by omega
        subst hj'
        rw [← hRH.out, ← hRM.out, ← hRL.out] at hX
        have q0 := hX.q.c0
        have q1 := hX.q.c1
        have q2 := hX.q.c2
        have r0 := hX.r.c0
        have r1 := hX.r.c1
        have r2 := hX.r.c2
        have f0 := hX.r.fz 0
        have f1 := hX.r.fz 1
        have f2 := hX.r.fz 2
        have rl := hX.r.lt
        have hend := Lib.hid (set3_below hX.below (Nat.le_refl w.heap.size) (.int .i64 RH) (.int .i64 RM) (.int .i64 (RL : Nat)))
        have y := hX.r.set RH RM (RL : Nat)
        have y0 := y.c0
        have y1 := y.c1
        have y2 := y.c2
        replace y := Lib.hid y
        replace hX := Lib.hid hX
        go_wp2
        exact bodyPost_ret (v := .agg #[.int .i64 RH, .int .i64 RM, .int .i64 (RL : Nat)]) (by simp [results, Try.results68, go_sem, y0, y1, y2]) rfl ⟨rfl, hend.out⟩
  · go_enter Try.func68, Try.ntmps68
    go_wp2
    rw [← hm.out]
    go_loopw [21] (fun i X => ∃ j : Nat, j ≤ m ∧ i = .int .i64 (j : Nat) ∧ LdW w (sh l f (j + 1)) (sm l f (j + 1)) ((f + j : Nat) : Int) (sh l f (bk l f j)) (sm l f (bk l f j)) ((f + bk l f j - 1 : Nat) : Int) X) (fun i _ => m - (intOf i).toNat)
    case atStart => exact ⟨0, by omega, rfl, by
      rw [b0.out, s1.out, m1.out]
      exact hW.out⟩
    case round =>
      clear hW
      obtain ⟨j, hj, rfl, hX⟩ := hrel
      by_cases hlj : j < m
      · have hX' := hX
        obtain ⟨b2, o2, hbo, hb', d0, d1⟩ := hat.out wr hX.below j (by have := hfm.out; omega)
        injection hbo with hbo
        injection hbo with hb_ ho_ _
        subst hb_ ho_
        have hxo := hok.out (f + 1 + j) (by have := hfm.out; omega)
        have sj := hs1.out (j + 1)
        have mj := hm1.out (j + 1)
        have bj := hbs.out j
        obtain ⟨⟨g1, g2⟩, g3, g4⟩ := hsb.out (j + 1) (by have := hfm.out; omega)
        obtain ⟨⟨g5, g6⟩, g7, g8⟩ := hsb.out (j + 2) (by have := hfm.out; omega)
        have bb := hbk.out j
        obtain ⟨⟨g9, ga⟩, gb, gc⟩ := hsb.out (bk l f j) (by have := hfm.out; omega)
        rw [show f + (j + 1) = f + 1 + j by omega] at sj mj
        rw [show o + (f + 1 + j) * 2 = o + (f + 1) * 2 + j * 2 by omega] at d0 d1
        generalize jb l (f + 1 + j) = x at *
        obtain ⟨P, hP⟩ : ∃ P, P = sh l f (j + 1) := ⟨_, rfl⟩
        obtain ⟨PM, hPM⟩ : ∃ P, P = sm l f (j + 1) := ⟨_, rfl⟩
        obtain ⟨P2, hP2⟩ : ∃ P, P = sh l f (j + 2) := ⟨_, rfl⟩
        obtain ⟨PM2, hPM2⟩ : ∃ P, P = sm l f (j + 2) := ⟨_, rfl⟩
        obtain ⟨Q, hQ⟩ : ∃ P, P = sh l f (bk l f j) := ⟨_, rfl⟩
        obtain ⟨QM, hQM⟩ : ∃ P, P = sm l f (bk l f j) := ⟨_, rfl⟩
        obtain ⟨QL, hQL⟩ : ∃ P, P = f + bk l f j - 1 := ⟨_, rfl⟩
        obtain ⟨L, hL⟩ : ∃ P, P = f + j := ⟨_, rfl⟩
        rw [← hP, ← hP2] at sj
        rw [← hPM, ← hPM2] at mj
        rw [← hPM2, ← hQ, ← hQM, ← hP2] at bj
        rw [← hP] at g1 g2
        rw [← hPM] at g3 g4
        rw [← hP2] at g5 g6
        rw [← hPM2] at g7 g8
        rw [← hQ] at g9 ga
        rw [← hQM] at gb gc
        rw [← hP, ← hPM, ← hQ, ← hQM, ← hQL, ← hL] at hX
        have hY1 := ba1 wr (.cells #[.int .i64 x.h, .int .i64 x.m] 54)
        have hXY := hX.up hY1
        have k85 := withS_any P PM (L : Nat) x (wr.alloc (.cells #[.int .i64 x.h, .int .i64 x.m] 54)) (by omega) (by omega) (by omega) hxo
        rw [← sj, ← mj] at k85
        have hqq : decide (PM2 * Q < QM * P2) = decide (PM2 * Q < QM * P2) := rfl
        have k86 := fun X => belowS_any P2 PM2 ((L : Int) + 1) Q QM (QL : Nat) X (by omega) (by omega) (by omega) (by omega) _ rfl
        have p0 := hXY.p.c0
        have p1 := hXY.p.c1
        have p2 := hXY.p.c2
        have q0 := hXY.q.c0
        have q1 := hXY.q.c1
        have q2 := hXY.q.c2
        obtain ⟨Y, hY⟩ : ∃ Y, Y = wr.alloc (.cells #[.int .i64 x.h, .int .i64 x.m] 54) := ⟨_, rfl⟩
        rw [← hY] at k85 hXY
        have hL1 : f + (j + 1) = L + 1 := by omega
        replace hY := Lib.hid hY
        replace hY1 := Lib.hid hY1
        replace hX := Lib.hid hX
        replace hX' := Lib.hid hX'
        replace hXY := Lib.hid hXY
        replace k85 := Lib.hid k85
        replace hP := Lib.hid hP
        replace hPM := Lib.hid hPM
        replace hP2 := Lib.hid hP2
        replace hPM2 := Lib.hid hPM2
        replace hQ := Lib.hid hQ
        replace hQM := Lib.hid hQM
        replace hQL := Lib.hid hQL
        replace hL := Lib.hid hL
        replace hL1 := Lib.hid hL1
        replace sj := Lib.hid sj
        replace mj := Lib.hid mj
        replace bj := Lib.hid bj
        replace hxo := Lib.hid hxo
        replace bb := Lib.hid bb
        clear hqq g1 g2 g3 g4 g5 g6 g7 g8 g9 ga gb gc
        cases hlt : decide (PM2 * Q < QM * P2) with
        | true =>
          rw [hlt] at k86
          have hbk1 := Lib.hid (show bk l f (j + 1) = bk l f j by rw [bj.out, if_pos (of_decide_eq_true hlt)])
          replace hlt := Lib.hid hlt
          replace k86 := Lib.hid k86
          go_wp2_with fail
          rw [← hY.out]
          refine k85.out.mono ?_
          rintro e X3 ⟨rfl, hb3⟩
          have hX3 := hXY.out.up hb3
          clear p0 p1 p2 q0 q1 q2
          have u0 := hX3.p.c0
          have u1 := hX3.p.c1
          have u2 := hX3.p.c2
          have u3 := hX3.p.fz 0
          have u4 := hX3.p.fz 1
          have u5 := hX3.p.fz 2
          have u6 := hX3.p.lt
          have hX4 := hX3.setp P2 PM2 ((L : Int) + 1)
          have p0 := hX4.p.c0
          have p1 := hX4.p.c1
          have p2 := hX4.p.c2
          have q0 := hX4.q.c0
          have q1 := hX4.q.c1
          have q2 := hX4.q.c2
          replace hX3 := Lib.hid hX3
          replace hX4 := Lib.hid hX4
          replace hb3 := Lib.hid hb3
          have k := Lib.hid (k86.out (((X3.setCell ⟨w.heap.size + 1, 0, none⟩ (.int .i64 P2)).setCell ⟨w.heap.size + 1, 1, none⟩ (.int .i64 PM2)).setCell ⟨w.heap.size + 1, 2, none⟩ (.int .i64 ((L : Int) + 1))))
          go_wp2_with fail
          refine k.out.mono ?_
          rintro e X5 ⟨rfl, hb5⟩
          have hX5 := Lib.hid (hX4.out.up hb5)
          clear hb5
          go_wp2
          go_roundw
          case rel => exact ⟨j + 1, by omega, by go_num, by
            rw [hbk1.out, ← hP2.out, ← hPM2.out, ← hQ.out, ← hQM.out, ← hQL.out, hL1.out]
            exact hX5.out⟩
          case measure => simp [intOf]; omega
        | false =>
          rw [hlt] at k86
          have hbk1 := Lib.hid (show bk l f (j + 1) = j + 2 by rw [bj.out, if_neg (of_decide_eq_false hlt)])
          replace hlt := Lib.hid hlt
          replace k86 := Lib.hid k86
          go_wp2_with fail
          rw [← hY.out]
          refine k85.out.mono ?_
          rintro e X3 ⟨rfl, hb3⟩
          have hX3 := hXY.out.up hb3
          clear p0 p1 p2 q0 q1 q2
          have u0 := hX3.p.c0
          have u1 := hX3.p.c1
          have u2 := hX3.p.c2
          have u3 := hX3.p.fz 0
          have u4 := hX3.p.fz 1
          have u5 := hX3.p.fz 2
          have u6 := hX3.p.lt
          have hX4 := hX3.setp P2 PM2 ((L : Int) + 1)
          have p0 := hX4.p.c0
          have p1 := hX4.p.c1
          have p2 := hX4.p.c2
          have q0 := hX4.q.c0
          have q1 := hX4.q.c1
          have q2 := hX4.q.c2
          replace hX3 := Lib.hid hX3
          replace hX4 := Lib.hid hX4
          replace hb3 := Lib.hid hb3
          have k := Lib.hid (k86.out (((X3.setCell ⟨w.heap.size + 1, 0, none⟩ (.int .i64 P2)).setCell ⟨w.heap.size + 1, 1, none⟩ (.int .i64 PM2)).setCell ⟨w.heap.size + 1, 2, none⟩ (.int .i64 ((L : Int) + 1))))
          go_wp2_with fail
          refine k.out.mono ?_
          rintro e X5 ⟨rfl, hb5⟩
          have hX5 := hX4.out.up hb5
          clear hb5 p0 p1 p2 q0 q1 q2 u0 u1 u2 u3 u4 u5 u6
          have p0 := hX5.p.c0
          have p1 := hX5.p.c1
          have p2 := hX5.p.c2
          have q0 := hX5.q.c0
          have q1 := hX5.q.c1
          have q2 := hX5.q.c2
          have u3 := hX5.q.fz 0
          have u4 := hX5.q.fz 1
          have u5 := hX5.q.fz 2
          have u6 := hX5.q.lt
          have hX6 := Lib.hid (hX5.setq P2 PM2 ((L : Int) + 1))
          replace hX5 := Lib.hid hX5
          go_wp2
          go_roundw
          case rel => exact ⟨j + 1, by omega, by go_num, by
            rw [hbk1.out, ← hP2.out, ← hPM2.out, hL1.out, show f + (j + 2) - 1 = L + 1 by have := hL1.out; omega]
            exact hX6.out⟩
          case measure => simp [intOf]; omega
      · have hj' : j = m := by omega
        subst hj'
        rw [← hRH.out, ← hRM.out, ← hRL.out] at hX
        have q0 := hX.q.c0
        have q1 := hX.q.c1
        have q2 := hX.q.c2
        have r0 := hX.r.c0
        have r1 := hX.r.c1
        have r2 := hX.r.c2
        have f0 := hX.r.fz 0
        have f1 := hX.r.fz 1
        have f2 := hX.r.fz 2
        have rl := hX.r.lt
        have hend := Lib.hid (set3_below hX.below (Nat.le_refl w.heap.size) (.int .i64 RH) (.int .i64 RM) (.int .i64 (RL : Nat)))
        have y := hX.r.set RH RM (RL : Nat)
        have y0 := y.c0
        have y1 := y.c1
        have y2 := y.c2
        replace y := Lib.hid y
        replace hX := Lib.hid hX
        go_wp2
        exact bodyPost_ret (v := .agg #[.int .i64 RH, .int .i64 RM, .int .i64 (RL : Nat)]) (by simp [results, Try.results68, go_sem, y0, y1, y2]) rfl ⟨rfl, hend.out⟩
end Go.Proofs.Ytgjgpcpghglnnaa
