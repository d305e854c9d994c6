/-
  The means over all orders: the program's function.
-/
import Derived.Test.YthleekdkbgnabaaTh
import Derived.Test.YthleekdkbgnabaaJ
import Derived.Deep.DeepCutAuto
import Derived.Deep.RegionLaw
namespace Go.Proofs.Ythleekdkbgnabaa
open Go.RowKit Go.Deep M
set_option linter.unusedVariables false
set_option linter.unusedSimpArgs false

namespace M
/-- The totals behind S sets and k claimants of the next one. -/
def midF (l : List Int) (e : Int) (S k : Nat) (i : Nat) : Int := if i < k then toS l e i (S + 1) else toS l e i S
theorem midF_zero (l : List Int) (e : Int) (S : Nat) : midF l e S 0 = fun i => toS l e i S := by funext i; simp [midF]
theorem midF_full {l : List Int} {e : Int} {S n : Nat} : ∀ i, i < n → midF l e S n i = midF l e (S + 1) 0 i := by intro i hi; simp [midF, hi]
theorem midF_at (l : List Int) (e : Int) (S k : Nat) : midF l e S k k = toS l e k S := by simp [midF]
theorem midF_step (l : List Int) (e : Int) (S k : Nat) : (fun i => if i = k then toS l e k S + trS l e k S else midF l e S k i) = midF l e S (k + 1) := by
  funext i
  unfold midF
  by_cases h : i = k
  · subst h; simp [toS_succ]
  · by_cases h2 : i < k
    · rw [if_neg h, if_pos h2, if_pos (by omega)]
    · rw [if_neg h, if_neg h2, if_neg (by omega)]
theorem midF_same {l : List Int} {e : Int} {S k : Nat} (h : inS S k = true) : midF l e S k = midF l e S (k + 1) := by
  rw [← midF_step, trS_in h]
  funext i
  by_cases hi : i = k
  · subst hi; rw [midF_at]; simp
  · rw [if_neg hi]
end M
structure MiW (w : World) (n g : Nat) (f : Nat → Int) (X : World) : Prop where
  below : Below w.heap.size w X
  hi : w.heap.size ≤ g
  blk : BlI X g n f
theorem MiW.set {w X : World} {n g k : Nat} {f : Nat → Int} (h : MiW w n g f X) (hk : k < n) (x : Int) : MiW w n g (fun i => if i = k then x else f i) (X.setCell ⟨g, k, none⟩ (.int .i64 x)) :=
  ⟨h.below.setCell (p := ⟨g, k, none⟩) h.hi _, h.hi, h.blk.set hk x⟩
theorem MiW.drew {w X : World} {n g : Nat} {f : Nat → Int} (h : MiW w n g f X) : MiW w n g f X.drew := ⟨below_drewN h.below 1, h.hi, h.blk⟩
theorem MiW.congr {w X : World} {n g : Nat} {f f' : Nat → Int} (h : MiW w n g f X) (e : ∀ i, i < n → f i = f' i) : MiW w n g f' X := ⟨h.below, h.hi, h.blk.congr e⟩
/-- A made list of ratios, behind the totals. -/
structure MrW (w : World) (n g a : Nat) (f : Nat → Int) (F : Nat → Rt) (X : World) : Prop where
  tot : MiW w n g f X
  far : g < a
  blk : BlR X a n F
theorem MrW.up {w X Y : World} {n g a : Nat} {f : Nat → Int} {F : Nat → Rt} (h : MrW w n g a f F X) (hb : Below X.heap.size X Y) : MrW w n g a f F Y :=
  ⟨⟨bel_trans h.tot.below hb, h.tot.hi, h.tot.blk.up hb⟩, h.far, h.blk.up hb⟩
theorem MrW.set {w X : World} {n g a k : Nat} {f : Nat → Int} {F : Nat → Rt} (h : MrW w n g a f F X) (hk : k < n) (x : Rt) : MrW w n g a f (fun i => if i = k then x else F i) ((X.setCell ⟨a, k * 2, none⟩ (.int .i64 x.n)).setCell ⟨a, k * 2 + 1, none⟩ (.int .i64 x.d)) :=
  have hf := h.far
  have hh := h.tot.hi
  ⟨⟨(h.tot.below.setCell (p := ⟨a, k * 2, none⟩) (by show w.heap.size ≤ a; omega) _).setCell (p := ⟨a, k * 2 + 1, none⟩) (by show w.heap.size ≤ a; omega) _, hh, h.tot.blk.to ((setCell_far (X := X.setCell ⟨a, k * 2, none⟩ (.int .i64 x.n)) (k := k * 2 + 1) (v := .int .i64 x.d) (by omega)).trans (setCell_far (by omega)))⟩, hf, h.blk.set hk x⟩

set_option maxRecDepth 100000 in
set_option maxHeartbeats 4000000 in
theorem middle_any (A : Option Addr) (c : Nat) (l : List Int) (e : Int) (w : World) (h : Row w w.heap.size A l) (hk : okE l e) (hl : l.length ≤ 7) :
    Calls Try.prog 84 #[.slice A l.length c, .int .i64 e] w fun r w' => ∃ g, r = .returned (.slice (some ⟨g, 0, none⟩) l.length l.length) ∧ Below w.heap.size w w' ∧ w.heap.size ≤ g ∧ BlR w' g l.length (meR l e) := by
  have hn := val_len hk.1
  have hsm := sm_b hk.1
  have he8 : 0 ≤ e ∧ e ≤ 8000 := by have := hk.2; omega
  have hmk := run_mkI w l.length (by omega)
  have hmr := fun X => run_mkR X l.length (by omega)
  have hat := fun X (hX : Below w.heap.size w X) k (hk : k < l.length) => (h.below hX).at_ k hk
  have hx := fun k (hkl : k < l.length) => hk.1.2 k hkl
  have k106 := fun X (hX : Below w.heap.size w X) S (hS : S < 128) => sumOf_any A c l S X ((h.below hX).more hX.size) hk.1.2 hl hS
  have k107 := fun X S (hS : S < 2 ^ l.length) => onesCount_any S X (by have := pow_le7 hl; omega)
  have hno := fun S (hS : S < 2 ^ l.length) => in_no l.length (by omega) S hS
  replace k107 := fun X S (hS : S < 2 ^ l.length) => (hno S hS) ▸ k107 X S hS
  have hp2 := pow_le7 hl
  have hsu := fun S => suS_b hk.1.2 S l.length (Nat.le_refl _)
  have hb := fun S k (hkl : k < l.length) => toS_b he8 hk.1.2 hl hkl S
  have hlf : ∀ S, max 0 (e - suS l S l.length) = lfS l e S := fun S => rfl
  have hlfb := fun S => lfS_b he8 hk.1.2 S
  have htr := fun i S (h : inS S i = false) => trS_out (l := l) (e := e) h
  have htrb := fun i S (hi : i < l.length) => trS_b he8 hk.1.2 hl hi S
  have hcl := fun S => cnS_le S l.length
  have hct := fun i S (h : inS S i = false) (hi : i < l.length) => cnS_lt h l.length hi
  have hsame := fun i S (h : inS S i = true) => midF_same (l := l) (e := e) h
  have hstep := midF_step l e
  have hat2 := midF_at l e
  have hfull := fun S => midF_full (l := l) (e := e) (S := S) (n := l.length)
  have hm0 := midF_zero l e
  have hW0 : MiW w l.length w.heap.size (midF l e 0 0) (mkI w l.length) := ⟨mkI_below _ _, Nat.le_refl _, (mkI_blk _ _).congr fun i _ => by rw [midF_zero]; rfl⟩
  have hfb := fac_b l.length (by omega)
  have hmeR : ∀ i, mk (toS l e i (2 ^ l.length)) (fac l.length) = meR l e i := fun i => rfl
  generalize midF l e = MF at *
  generalize meR l e = ME at *
  generalize l.length = n at *
  generalize toS l e = TS at *
  generalize trS l e = RS at *
  generalize suS l = US at *
  generalize lfS l e = LS at *
  obtain ⟨g, hg⟩ : ∃ g, g = w.heap.size := ⟨_, rfl⟩
  rw [← hg] at hmk hW0
  obtain ⟨Y, hY⟩ : ∃ Y, Y = mkI w n := ⟨_, rfl⟩
  rw [← hY] at hmk hW0
  obtain ⟨N2, hN2⟩ : ∃ N2, N2 = 2 ^ n := ⟨_, rfl⟩
  have hpw : wrap64 ((2 : Int) ^ n) = (N2 : Nat) := by
    have e1 : (2 : Int) ^ n = ((2 ^ n : Nat) : Int) := by push_cast; rfl
    rw [e1, ← hN2]; exact IntWalk.wrap64_in _ (by omega)
  replace hpw := Lib.hid hpw
  rw [← hN2] at hp2 k107 hno hmeR
  replace hN2 := Lib.hid hN2
  replace hg := Lib.hid hg
  replace hY := Lib.hid hY
  replace hat := Lib.hid hat
  replace hx := Lib.hid hx
  replace k106 := Lib.hid k106
  replace k107 := Lib.hid k107
  replace hno := Lib.hid hno
  replace hsu := Lib.hid hsu
  replace hb := Lib.hid hb
  replace hlf := Lib.hid hlf
  replace hlfb := Lib.hid hlfb
  replace htr := Lib.hid htr
  replace htrb := Lib.hid htrb
  replace hcl := Lib.hid hcl
  replace hct := Lib.hid hct
  replace hsame := Lib.hid hsame
  replace hstep := Lib.hid hstep
  replace hat2 := Lib.hid hat2
  replace hfull := Lib.hid hfull
  replace hm0 := Lib.hid hm0
  replace hmeR := Lib.hid hmeR
  replace hmr := Lib.hid hmr
  replace h := Lib.hid h
  replace hk := Lib.hid hk
  replace hsm := Lib.hid hsm
  replace hfb := Lib.hid hfb
  replace hW0 := Lib.hid hW0
  obtain ⟨hn1, hn8⟩ := hn
  obtain ⟨he0, he1⟩ := he8
  go_enter Try.func84, Try.ntmps84
  go_wp2
  rw [hpw.out]
  go_loopw [20, 6, 7, 8, 9, 10] (fun i _ _ _ _ _ wr => ∃ S : Nat, S ≤ N2 ∧ i = .int .i64 (S : Nat) ∧ MiW w n g (MF S 0) wr) (fun i _ _ _ _ _ _ => N2 - (intOf i).toNat)
  case atStart => exact ⟨0, by omega, rfl, hW0.out⟩
  case round =>
    clear hW0 hmk
    obtain ⟨S, hSS, rfl, hW⟩ := hrel
    by_cases hSn : S < N2
    · have d106 := k106.out wr hW.below S (by omega)
      have d107 := k107.out wr S hSn
      have hus := hsu.out S
      have hl1 := hlf.out S
      have hl2 := hlfb.out S
      have hc1 := hcl.out S
      obtain ⟨lf, hlfe⟩ : ∃ x, x = LS S := ⟨_, rfl⟩
      rw [← hlfe] at hl1 hl2
      obtain ⟨cn, hcne⟩ : ∃ x, x = cnS S n := ⟨_, rfl⟩
      rw [← hcne] at d107 hc1
      generalize US S n = us at *
      have hSn2 : (S : Int) < (N2 : Int) := by omega
      replace d106 := Lib.hid d106
      replace d107 := Lib.hid d107
      replace hlfe := Lib.hid hlfe
      replace hcne := Lib.hid hcne
      replace hW := Lib.hid hW
      replace hl1 := Lib.hid hl1
      go_upto_region 5 with fail
      go_cut [7] from 23 to 28 (fun v wx => v = .int .i64 lf ∧ wx = wr)
      case first =>
        go_wp2_with fail
        refine d106.out.mono ?_
        rintro _ _ ⟨rfl, rfl⟩
        go_wp2_with fail
        go_meet
        exact ⟨by rw [hl1.out], rfl⟩
      case rest =>
      obtain ⟨rfl, rfl⟩ := hcut
      go_wp2_with fail
      refine d107.out.mono ?_
      rintro _ _ ⟨rfl, rfl⟩
      go_wp2
      replace hl1 := Lib.hid hl1
      rename_i wq
      have hn8' : (n : Int) ≤ 7 := by omega
      go_loopw [34, 9, 10] (fun i _ _ wr => ∃ k : Nat, k ≤ n ∧ i = .int .i64 (k : Nat) ∧ MiW w n g (MF S k) wr) (fun i _ _ _ => n - (intOf i).toNat)
      case atStart => exact ⟨0, by omega, rfl, hW.out⟩
      case round =>
        clear hW
        obtain ⟨k, hkk, rfl, hW⟩ := hrel
        by_cases hkn : k < n
        · obtain ⟨b, o, rfl, _, e0⟩ := hat.out wr hW.below k hkn
          have hkn2 : (k : Int) < (n : Int) := by omega
          have hxk := hx.out k hkn
          unfold okC at hxk
          have hS7 : k < 7 := by omega
          cases hin : inS S k with
          | true =>
            have e1 := bit_in (by omega) hS7 hin
            have e2 : (bits .and .i64 ((S : Int) / 2 ^ k) 1 == 0) = false := by rw [e1]; decide
            have hW2 := Lib.hid (show MiW w n g (MF S (k + 1)) wr by rw [← hsame.out k S hin]; exact hW)
            replace hin := Lib.hid hin
            replace hW := Lib.hid hW
            clear e1
            go_wp2
            go_roundw
            case rel => exact ⟨k + 1, by omega, by simp, hW2.out⟩
            case measure => simp [intOf]; omega
          | false =>
            have e1 := bit_out (by omega) hS7 hin
            have e2 : (bits .and .i64 ((S : Int) / 2 ^ k) 1 == 0) = true := by rw [e1]; decide
            have r0 := htr.out k S hin
            have r1 := htrb.out k S hkn
            have t0 := hb.out S k hkn
            have c0 := hct.out k S hin hkn
            rw [← hcne.out] at r0 c0
            rw [← hlfe.out] at r0
            have hWd := hW.drew
            have z0 := hWd.blk.cell hkn
            have z1 := hWd.blk.fz k
            have z2 := hWd.blk.lt
            rw [hat2.out] at z0
            have hst := (hW.set hkn (TS k S + RS k S)).drew
            rw [hstep.out] at hst
            have y0 := e0
            obtain ⟨b2, o2, he2, _, e5⟩ := hat.out wr.drew hWd.below k hkn
            cases he2
            obtain ⟨tt, htt⟩ : ∃ t, t = TS k S := ⟨_, rfl⟩
            obtain ⟨rr, hrr⟩ : ∃ t, t = RS k S := ⟨_, rfl⟩
            rw [← htt] at t0 z0 hst
            rw [← hrr] at r0 r1 hst
            have f1 := fac_b7 cn (by omega)
            have f2 := fac_b7 (n - cn - 1) (by omega)
            have k1 := fun X => factorial_any cn X (by omega)
            have k2 := fun X => factorial_any (n - cn - 1) X (by omega)
            have ca : ((n - cn - 1 : Nat) : Int) = (n : Int) - (cn : Int) - 1 := by omega
            have w4 : IntKind.i64.wrap ((n : Int) - (cn : Int)) = (n : Int) - (cn : Int) := IntWalk.i64_in _ (by omega)
            have w5 : IntKind.i64.wrap ((n : Int) - (cn : Int) - 1) = ((n - cn - 1 : Nat) : Int) := by rw [ca]; exact IntWalk.i64_in _ (by omega)
            obtain ⟨d, hd⟩ : ∃ d, d = n - cn - 1 := ⟨_, rfl⟩
            rw [← hd] at w5 k2 r0 f2
            replace hd := Lib.hid hd
            generalize fac cn = fa at *
            generalize fac d = fb at *
            generalize el l k = x at *
            obtain ⟨m, hm, hm2⟩ : ∃ m, m = min x lf ∧ 0 ≤ m ∧ m ≤ 1000 := ⟨min x lf, rfl, by omega⟩
            rw [← hm] at r0
            have p1b := mul_b (a := m) (b := fa) (A := 1000) (B := 5040) (by omega) (by omega)
            obtain ⟨p1, hp1⟩ : ∃ p, p = m * fa := ⟨_, rfl⟩
            rw [← hp1] at r0 p1b
            have w2 : IntKind.i64.wrap (p1 * fb) = rr := by rw [← r0]; exact IntWalk.i64_in _ (by omega)
            have w3 : IntKind.i64.wrap (tt + rr) = tt + rr := IntWalk.i64_in _ (by omega)
            have w1 : IntKind.i64.wrap (m * fa) = p1 := by rw [← hp1]; exact IntWalk.i64_in _ (by omega)
            have hq := Lib.hid (show wrap64 (tt + wrap64 (wrap64 (min x lf * fa) * fb)) = tt + rr by rw [← hm]; simp only [← IntWalk.i64_left]; rw [w1, w2, w3])
            replace hp1 := Lib.hid hp1
            replace r0 := Lib.hid r0
            replace htt := Lib.hid htt
            replace hrr := Lib.hid hrr
            replace ca := Lib.hid ca
            replace hin := Lib.hid hin
            replace hW := Lib.hid hW
            replace hWd := Lib.hid hWd
            replace hst := Lib.hid hst
            replace k1 := Lib.hid k1
            replace k2 := Lib.hid k2
            clear e1
            have hmin : (if lf < x then lf else x) = m := by rw [hm]; split <;> omega
            replace hm := Lib.hid hm
            go_wp2
            go_region_law (first | (go_simp; go_at_call_of 108 (Value.int .i64 (cn : Nat)); refine (k1.out _).mono ?_; rintro _ _ ⟨rfl, rfl⟩) | (go_simp; go_at_call_of 108 (Value.int .i64 (d : Nat)); refine (k2.out _).mono ?_; rintro _ _ ⟨rfl, rfl⟩))
            all_goals
              go_wp2
              go_roundw
              case rel => first | exact ⟨k + 1, by omega, by simp, hst.out⟩ | exact ⟨k + 1, by omega, by simp, by rw [hq.out]; exact hst.out⟩
              case measure => simp [intOf]; omega
        · have : k = n := by omega
          subst this
          have hW2 := Lib.hid (hW.congr (hfull.out S))
          replace hW := Lib.hid hW
          go_wp2
          go_roundw
          case rel => exact ⟨S + 1, by omega, by simp, hW2.out⟩
          case measure => simp [intOf]; omega
    · have : S = N2 := by omega
      subst this
      have hm1 := hmr.out wr
      have hm2 := mkR_below wr n
      have hm3 := mkR_blk wr n
      have hW1 : MrW w n g wr.heap.size (MF S 0) (fun _ => ⟨0, 0⟩) (mkR wr n) := ⟨⟨bel_trans hW.below hm2, hW.hi, hW.blk.up hm2⟩, hW.blk.lt, hm3⟩
      obtain ⟨a, ha⟩ : ∃ a, a = wr.heap.size := ⟨_, rfl⟩
      rw [← ha] at hm1 hW1
      obtain ⟨Y2, hY2⟩ : ∃ Y, Y = mkR wr n := ⟨_, rfl⟩
      rw [← hY2] at hm1 hW1
      have k8 := fun X => factorial_any n X (by omega)
      generalize fac n = fn at *
      have hfb' := hfb.out
      have k70 := fun X t (ht : 0 ≤ t ∧ t ≤ 25401600000 * 128) => ratio_any t fn X (by omega) (by omega)
      replace k8 := Lib.hid k8
      replace k70 := Lib.hid k70
      replace hfb' := Lib.hid hfb'
      replace ha := Lib.hid ha
      replace hY2 := Lib.hid hY2
      replace hW := Lib.hid hW
      replace hm2 := Lib.hid hm2
      replace hm3 := Lib.hid hm3
      replace hW1 := Lib.hid hW1
      go_wp2
      go_loopw [70, 12, 13] (fun i _ _ wr => ∃ k : Nat, k ≤ n ∧ i = .int .i64 (k : Nat) ∧ MrW w n g a (MF S 0) (upto k ME fun _ => ⟨0, 0⟩) wr) (fun i _ _ _ => n - (intOf i).toNat)
      case atStart => exact ⟨0, by omega, rfl, hW1.out⟩
      case round =>
        clear hW1 hm1
        obtain ⟨k, hkk, rfl, hW⟩ := hrel
        by_cases hkn : k < n
        · have hkn2 : (k : Int) < (n : Int) := by omega
          have z0 : wr.cell? ⟨g, k, none⟩ = some (.int .i64 (TS k S)) := by have q := hW.tot.blk.cell hkn; rw [hm0.out] at q; exact q
          have t0 := hb.out S k hkn
          have hme := hmeR.out k
          have d70 := fun X => k70.out X (TS k S) (by omega)
          rw [hme] at d70
          unfold rtV at d70
          have hcel : ∀ X, Below wr.heap.size wr X → X.cell? ⟨a, k * 2, none⟩ = some (.int .i64 0) ∧ X.cell? ⟨a, k * 2 + 1, none⟩ = some (.int .i64 0) ∧ X.frozen? ⟨a, k * 2, none⟩ = false ∧ X.frozen? ⟨a, k * 2 + 1, none⟩ = false := fun X hX => by
            have q := (hW.up hX).blk
            have q0 := q.c0 hkn
            have q1 := q.c1 hkn
            rw [upto_at] at q0 q1
            exact ⟨q0, q1, q.fz _, q.fz _⟩
          have hfin : ∀ X, Below wr.heap.size wr X → MrW w n g a (MF S 0) (upto (k + 1) ME fun _ => ⟨0, 0⟩) ((X.setCell ⟨a, k * 2, none⟩ (.int .i64 (ME k).n)).setCell ⟨a, k * 2 + 1, none⟩ (.int .i64 (ME k).d)) := fun X hX => by
            have q := (hW.up hX).set hkn (ME k)
            have e3 : (fun i => if i = k then ME k else upto k ME (fun _ => ⟨0, 0⟩) i) = upto (k + 1) ME fun _ => ⟨0, 0⟩ := by
              funext i; exact upto_succ k ME _ i
            rw [e3] at q
            exact q
          generalize ME k = Q at *
          generalize TS k S = tt at *
          replace hcel := Lib.hid hcel
          replace hfin := Lib.hid hfin
          replace d70 := Lib.hid d70
          replace hme := Lib.hid hme
          replace hW := Lib.hid hW
          go_wp2_with fail
          refine (k8.out _).mono ?_
          rintro _ _ ⟨rfl, rfl⟩
          go_wp2_with fail
          refine (d70.out _).mono ?_
          rintro _ X2 ⟨rfl, hb2⟩
          obtain ⟨q0, q1, q2, q3⟩ := hcel.out X2 hb2
          have hf2 := Lib.hid (hfin.out X2 hb2)
          replace hb2 := Lib.hid hb2
          go_wp2
          go_roundw
          case rel => exact ⟨k + 1, by omega, by simp, hf2.out⟩
          case measure => simp [intOf]; omega
        · have : k = n := by omega
          subst this
          have hfin := Lib.hid (And.intro hW.tot.below (show w.heap.size ≤ a by have := hW.far; have := hW.tot.hi; omega))
          have hbl := Lib.hid hW.blk
          replace hW := Lib.hid hW
          go_wp2
          go_ret
          exact ⟨a, rfl, hfin.out.1, hfin.out.2, hbl.out.congr fun i hi => by simp [upto, hi]⟩
end Go.Proofs.Ythleekdkbgnabaa
