/-
  The lead, the greatest one and the best order of jobs whose Harm may be below 0: the program's functions.
-/
import Derived.Test.YtgjgpcpghglnnaaSa
import Derived.Test.YtgjgpcpghglnnaaD
namespace Go.Proofs.Ytgjgpcpghglnnaa
open Go.RowKit Go.Deep M
set_option linter.unusedVariables false
set_option linter.unusedSimpArgs false

set_option maxRecDepth 100000 in
set_option maxHeartbeats 4000000 in
theorem greatestS_any (B : Nat) (A : Option Addr) (c g : Nat) (D : List Bc) (nx : Nat → Nat) (w : World) (h : Bcs w B A D) (hB : B ≤ w.heap.size) (hv : vS (bl D)) (hg : BlI w g D.length (fun i => (nx i : Nat))) (hnx : ∀ i, nx i ≤ (be (bl D) i).length) :
    Calls Try.prog 81 #[.slice A D.length c, .slice (some ⟨g, 0, none⟩) D.length D.length] w fun e w' => e = .returned (.tuple #[.int .i64 (grR (bl D) nx).1, .int .i64 (grR (bl D) nx).2]) ∧ Below w.heap.size w w' := by
  have h63 := h.1
  have hlen := bl_len D
  have hgl := hg.lt
  have hn6 : D.length ≤ 6 := by have := hv.1.2; rw [hlen] at this; exact this
  have hend : ∀ b hq mq lq, GrS (bl D) nx D.length b hq mq lq → grR (bl D) nx = (b, lq) := fun b hq mq lq hh => grS_end (by rw [hlen]; exact hh)
  have hbl : ∀ k, k < D.length → (be (bl D) k).length ≤ 12 ∧ OksS (be (bl D) k) (be (bl D) k).length ∧ (be (bl D) k).length ≤ (bc D k).c := fun k hk => ⟨Nat.le_trans (be_le (by rw [hlen]; exact hk)) hv.2.1, hv.2.2 k (by rw [hlen]; exact hk), h.2.2 k hk⟩
  have hat := fun X (hX : Below w.heap.size w X) k (hk : k < D.length) => (h.below (hX.mono hB)).at_ k hk
  obtain ⟨⟨R1, R2⟩, hR⟩ : ∃ R, R = grR (bl D) nx := ⟨_, rfl⟩
  rw [← hR] at hend ⊢
  simp only []
  have hW0 : GrW w g D.length (fun i => (nx i : Nat)) 0 0 0 (w.alloc (.cells #[.int .i64 0, .int .i64 0, .int .i64 0] 74)) := ⟨ba1 _ _, Bxp.new w 0 0 0, hg.up (ba1 _ _)⟩
  have hS0 := Lib.hid (grS_zero (bl D) nx)
  have hsk := Lib.hid (fun k b hq mq lq => @grS_skip (bl D) nx k b hq mq lq)
  have hfi := Lib.hid (fun k => @grS_first (bl D) nx k)
  have hys := Lib.hid (fun k i c => @grS_yes (bl D) nx k i c)
  have hno := Lib.hid (fun k i c => @grS_no (bl D) nx k i c)
  have hgs := Lib.hid (gr_spec (bl D) nx hnx)
  obtain ⟨J, hJ⟩ : ∃ J, J = bl D := ⟨_, rfl⟩
  rw [← hJ] at hlen hv hnx hend hbl hat hS0 hsk hfi hys hno hgs
  obtain ⟨n, hn⟩ : ∃ n, n = D.length := ⟨_, rfl⟩
  rw [← hn] at h63 hg hend hbl hat hW0 hlen hn6 ⊢
  replace hn := Lib.hid hn
  replace hJ := Lib.hid hJ
  replace hR := Lib.hid hR
  replace hlen := Lib.hid hlen
  replace hv := Lib.hid hv
  replace hnx := Lib.hid hnx
  replace hend := Lib.hid hend
  replace hbl := Lib.hid hbl
  replace hat := Lib.hid hat
  replace hW0 := Lib.hid hW0
  replace hg := Lib.hid hg
  replace h := Lib.hid h
  go_enter Try.func81, Try.ntmps81
  go_wp2
  go_loopw [4, 12] (fun b i X => ∃ (k : Nat) (bz hq mq lq : Int), k ≤ n ∧ i = .int .i64 (k : Nat) ∧ b = .int .i64 bz ∧ GrS J nx k bz hq mq lq ∧ GrW w g n (fun i => (nx i : Nat)) hq mq lq X) (fun _ i _ => n - (intOf i).toNat)
  case atStart => exact ⟨0, -1, 0, 0, 0, by omega, rfl, rfl, hS0.out, hW0.out⟩
  case round =>
    clear hW0
    obtain ⟨k, bz, hq, mq, lq, hk, rfl, rfl, hS, hW⟩ := hrel
    by_cases hlk : k < n
    · obtain ⟨b, o, rfl, hb, e0, hjb⟩ := hat.out wr hW.below k hlk
      obtain ⟨l12, lok, lcap⟩ := hbl.out k hlk
      have hnk := hnx.out k
      have x0 := hW.nxt.cell hlk
      have hsk' := hsk.out k _ _ _ _ hS
      have hfi' := hfi.out k
      have hys' := hys.out k
      have hno' := hno.out k
      obtain ⟨l, hl⟩ : ∃ l, l = be J k := ⟨_, rfl⟩
      rw [← hl] at e0 hjb l12 lok lcap hnk hsk' hfi' hys' hno'
      generalize (bc D k).A = Ak at *
      generalize (bc D k).c = ck at *
      obtain ⟨f, hf⟩ : ∃ f, f = nx k := ⟨_, rfl⟩
      try simp only [] at x0
      rw [← hf] at x0 hnk hsk' hfi' hys' hno'
      replace hl := Lib.hid hl
      replace hf := Lib.hid hf
      by_cases hfl : f = l.length
      · have hS2 := Lib.hid (hsk' hfl)
        clear hsk' hfi' hys' hno'
        replace hS := Lib.hid hS
        replace hW := Lib.hid hW
        replace hjb := Lib.hid hjb
        replace lok := Lib.hid lok
        have hfl' : ((f : Int) == (l.length : Int)) = true := by rw [beq_iff_eq]; omega
        replace hfl := Lib.hid hfl
        go_wp2
        go_roundw
        case rel => exact ⟨k + 1, bz, hq, mq, lq, by omega, by go_num, rfl, hS2.out, hW.out⟩
        case measure => simp [intOf]; omega
      · have hflt : f < l.length := by omega
        have k68 := leadS_any B Ak ck l f wr hjb (Nat.le_trans hB hW.below.size) hflt l12 lok lcap
        have hsb := s_bS (f := f) lok (ld l f) (ld_b l f hflt).2
        have hldb := ld_b l f hflt
        obtain ⟨PH, hPH⟩ : ∃ P, P = sh l f (ld l f) := ⟨_, rfl⟩
        obtain ⟨PM, hPM⟩ : ∃ P, P = sm l f (ld l f) := ⟨_, rfl⟩
        obtain ⟨PL, hPL⟩ : ∃ P, P = f + ld l f - 1 := ⟨_, rfl⟩
        rw [← hPH, ← hPM, ← hPL] at k68 hfi'
        rw [← hPH, ← hPM] at hsb
        have hys2 := fun i c (h1 : gr J nx k = some (i, c)) => (by have := hys' i c h1 hfl; rw [← hPH, ← hPM, ← hPL] at this; exact this : _ → _)
        have hno2 := fun i c (h1 : gr J nx k = some (i, c)) => (by have := hno' i c h1 hfl; rw [← hPH, ← hPM] at this; exact this : _ → _)
        have hfl' : ((f : Int) == (l.length : Int)) = false := by rw [beq_eq_false_iff_ne]; omega
        clear hsk' hys' hno'
        obtain ⟨⟨g1, g2⟩, g3, g4⟩ := hsb
        have hp9 : (0 ≤ PH ∧ PH ≤ 100000) ∧ -100000 ≤ PM ∧ PM ≤ 100000 := by omega
        clear g1 g2 g3 g4
        replace hPH := Lib.hid hPH
        replace hPM := Lib.hid hPM
        replace hPL := Lib.hid hPL
        replace hldb := Lib.hid hldb
        replace hjb := Lib.hid hjb
        replace lok := Lib.hid lok
        replace k68 := Lib.hid k68
        replace hp9 := Lib.hid hp9
        have hPL9 : PL ≤ 100 := by have := hPL.out; have := hldb.out; omega
        rcases hS with ⟨z1, rfl, rfl, rfl, rfl⟩ | ⟨i, cc, z1, rfl, rfl, rfl, rfl⟩
        · have hS2 := Lib.hid (hfi' z1 hfl)
          clear hfi'
          replace hys2 := Lib.hid hys2
          replace hno2 := Lib.hid hno2
          replace hfl := Lib.hid hfl
          replace hW := Lib.hid hW
          go_wp2_with fail
          refine k68.out.mono ?_
          rintro e X1 ⟨rfl, hb1⟩
          have hW1 := hW.out.up hb1
          have hb2 := ba1 X1 (.cells #[.int .i64 PH, .int .i64 PM, .int .i64 (PL : Nat)] 74)
          have hW2 := hW1.up hb2
          have hp2 := Bxp.new X1 PH PM (PL : Nat)
          obtain ⟨b9, hb9⟩ : ∃ b, b = X1.heap.size := ⟨_, rfl⟩
          obtain ⟨Z, hZ⟩ : ∃ Z, Z = X1.alloc (.cells #[.int .i64 PH, .int .i64 PM, .int .i64 (PL : Nat)] 74) := ⟨_, rfl⟩
          rw [← hZ] at hW2 hp2
          rw [← hb9] at hp2
          replace hZ := Lib.hid hZ
          replace hb9 := Lib.hid hb9
          have hW3 := hW2
          have hp3 := hp2
          have p0 := hp3.c0
          have p1 := hp3.c1
          have p2 := hp3.c2
          have q0 := hW3.box.c0
          have q1 := hW3.box.c1
          have q2 := hW3.box.c2
          have f0 := hW3.box.fz 0
          have f1 := hW3.box.fz 1
          have f2 := hW3.box.fz 2
          have ql := hW3.box.lt
          have hWs := Lib.hid (show GrW w g n (fun i => (nx i : Nat)) PH PM (PL : Nat) (World.drew _) from (hW3.set hgl PH PM (PL : Nat)).drewN 1)
          replace hW1 := Lib.hid hW1
          replace hW2 := Lib.hid hW2
          replace hW3 := Lib.hid hW3
          replace hp2 := Lib.hid hp2
          replace hp3 := Lib.hid hp3
          replace hb2 := Lib.hid hb2
          go_wp2_with fail
          try rw [← hZ.out, ← hb9.out]
          go_region
          all_goals
            go_wp2
            go_roundw
            case rel => exact ⟨k + 1, (k : Nat), PH, PM, (PL : Nat), by omega, by go_num, rfl, hS2.out, hWs.out⟩
            case measure => simp [intOf]; omega
        · obtain ⟨z2, z3, z4⟩ := hgs.out k i cc z1
          obtain ⟨i12, iok, _⟩ := hbl.out i (by omega)
          have hsi := s_bS (f := nx i) iok cc (by rw [z4]; exact (ld_b _ _ z3).2)
          have hcl := (ld_b _ _ z3).2
          rw [← z4] at hcl
          obtain ⟨QH, hQH⟩ : ∃ P, P = sh (be J i) (nx i) cc := ⟨_, rfl⟩
          obtain ⟨QM, hQM⟩ : ∃ P, P = sm (be J i) (nx i) cc := ⟨_, rfl⟩
          obtain ⟨QL, hQL⟩ : ∃ P, P = nx i + cc - 1 := ⟨_, rfl⟩
          rw [← hQH, ← hQM, ← hQL] at hW
          rw [← hQH, ← hQM] at hsi
          have hys3 := hys2 i cc z1
          have hno3 := hno2 i cc z1
          rw [← hQH, ← hQM] at hys3
          rw [← hQH, ← hQM, ← hQL] at hno3
          obtain ⟨⟨g1, g2⟩, g3, g4⟩ := hsi
          have k86 := fun X => belowS_any QH QM (QL : Nat) PH PM (PL : Nat) X (by omega) (by omega) (by have := hp9.out; omega) (by have := hp9.out; omega) (decide (QM * PH < PM * QH)) rfl
          clear hfi' hys2 hno2 g1 g2 g3 g4
          have hib : ¬ ((i : Int) < 0) := by omega
          replace z1 := Lib.hid z1
          replace z3 := Lib.hid z3
          replace z4 := Lib.hid z4
          replace iok := Lib.hid iok
          replace hcl := Lib.hid hcl
          replace hQH := Lib.hid hQH
          replace hQM := Lib.hid hQM
          replace hQL := Lib.hid hQL
          replace hfl := Lib.hid hfl
          have i9 : i ≤ 100 := by omega
          cases hlt : decide (QM * PH < PM * QH) with
          | true =>
            rw [hlt] at k86
            have hS2 := Lib.hid (hys3 (of_decide_eq_true hlt))
            clear hys3 hno3
            replace hlt := Lib.hid hlt
            replace k86 := Lib.hid k86
            replace hW := Lib.hid hW
            go_wp2_with fail
            refine k68.out.mono ?_
            rintro e X1 ⟨rfl, hb1⟩
            have hW1 := hW.out.up hb1
            have hb2 := ba1 X1 (.cells #[.int .i64 PH, .int .i64 PM, .int .i64 (PL : Nat)] 74)
            have hW2 := hW1.up hb2
            have hp2 := Bxp.new X1 PH PM (PL : Nat)
            obtain ⟨b9, hb9⟩ : ∃ b, b = X1.heap.size := ⟨_, rfl⟩
            obtain ⟨Z, hZ⟩ : ∃ Z, Z = X1.alloc (.cells #[.int .i64 PH, .int .i64 PM, .int .i64 (PL : Nat)] 74) := ⟨_, rfl⟩
            have a0 := hW2.box.c0
            have a1 := hW2.box.c1
            have a2 := hW2.box.c2
            rw [← hZ] at hW2 hp2
            rw [← hb9] at hp2
            replace hZ := Lib.hid hZ
            replace hb9 := Lib.hid hb9
            have kc := Lib.hid (k86.out Z)
            replace hW1 := Lib.hid hW1
            replace hW2 := Lib.hid hW2
            replace hp2 := Lib.hid hp2
            replace hb2 := Lib.hid hb2
            go_wp2_with fail
            rw [← hZ.out]
            refine kc.out.mono ?_
            rintro e X5 ⟨rfl, hb5⟩
            have hW3 := hW2.out.up hb5
            have hp3 := hp2.out.up hb5
            clear a0 a1 a2 hb5
            have p0 := hp3.c0
            have p1 := hp3.c1
            have p2 := hp3.c2
            have q0 := hW3.box.c0
            have q1 := hW3.box.c1
            have q2 := hW3.box.c2
            have f0 := hW3.box.fz 0
            have f1 := hW3.box.fz 1
            have f2 := hW3.box.fz 2
            have ql := hW3.box.lt
            have hWs := Lib.hid (show GrW w g n (fun i => (nx i : Nat)) PH PM (PL : Nat) (World.drew _) from (hW3.set hgl PH PM (PL : Nat)).drewN 1)
            replace hW3 := Lib.hid hW3
            replace hp3 := Lib.hid hp3
            go_wp2_with fail
            try rw [← hb9.out]
            go_region
            all_goals
              go_wp2
              go_roundw
              case rel => exact ⟨k + 1, (k : Nat), PH, PM, (PL : Nat), by omega, by go_num, rfl, hS2.out, hWs.out⟩
              case measure => simp [intOf]; omega
          | false =>
            rw [hlt] at k86
            have hS2 := Lib.hid (hno3 (by first | exact of_decide_eq_false hlt | exact Int.not_lt.1 (of_decide_eq_false hlt)))
            clear hys3 hno3
            replace hlt := Lib.hid hlt
            replace k86 := Lib.hid k86
            replace hW := Lib.hid hW
            go_wp2_with fail
            refine k68.out.mono ?_
            rintro e X1 ⟨rfl, hb1⟩
            have hW1 := hW.out.up hb1
            have hb2 := ba1 X1 (.cells #[.int .i64 PH, .int .i64 PM, .int .i64 (PL : Nat)] 74)
            have hW2 := hW1.up hb2
            have hp2 := Bxp.new X1 PH PM (PL : Nat)
            obtain ⟨b9, hb9⟩ : ∃ b, b = X1.heap.size := ⟨_, rfl⟩
            obtain ⟨Z, hZ⟩ : ∃ Z, Z = X1.alloc (.cells #[.int .i64 PH, .int .i64 PM, .int .i64 (PL : Nat)] 74) := ⟨_, rfl⟩
            have a0 := hW2.box.c0
            have a1 := hW2.box.c1
            have a2 := hW2.box.c2
            rw [← hZ] at hW2 hp2
            rw [← hb9] at hp2
            replace hZ := Lib.hid hZ
            replace hb9 := Lib.hid hb9
            have kc := Lib.hid (k86.out Z)
            replace hW1 := Lib.hid hW1
            replace hW2 := Lib.hid hW2
            replace hp2 := Lib.hid hp2
            replace hb2 := Lib.hid hb2
            go_wp2_with fail
            rw [← hZ.out]
            refine kc.out.mono ?_
            rintro e X5 ⟨rfl, hb5⟩
            have hW3 := hW2.out.up hb5
            have hp3 := hp2.out.up hb5
            clear a0 a1 a2 hb5
            replace hW3 := Lib.hid hW3
            replace hp3 := Lib.hid hp3
            go_wp2
            go_roundw
            case rel => exact ⟨k + 1, (i : Nat), QH, QM, (QL : Nat), by omega, by go_num, rfl, hS2.out, hW3.out⟩
            case measure => simp [intOf]; omega
    · have hk' : k = n := by omega
      subst hk'
      have hE := hend.out _ _ _ _ hS
      simp only [Prod.mk.injEq] at hE
      obtain ⟨rfl, rfl⟩ := hE
      have q2 := hW.box.c2
      have hfin := Lib.hid (fun m => (hW.drewN m).below)
      replace hW := Lib.hid hW
      replace hS := Lib.hid hS
      go_wp2_with fail
      go_quiet (fail)
      go_wp2
      exact bodyPost_ret (v := .tuple #[.int .i64 R1, .int .i64 R2]) (by simp [results, Try.results81, go_sem]) rfl ⟨rfl, hfin.out _⟩
end Go.Proofs.Ytgjgpcpghglnnaa
