/-
  The longest span: the specification's function.
-/
import Derived.Test.YtlnpnfjdcnijhaaX
namespace Go.Proofs.Ytlnpnfjdcnijhaa
open Go.RowKit Go.Deep M
set_option linter.unusedVariables false
set_option linter.unusedSimpArgs false

set_option maxRecDepth 100000 in
set_option maxHeartbeats 4000000 in
theorem Longest_ref (B : Nat) (A : Option Addr) (c : Nat) (x : Wn) (w : World) (h : Row w B A x.hs) (hB : B ≤ w.heap.size) :
    Calls Try.prog 42 #[wnV x.p A x.hs.length c] w fun e w' => e = .returned (L3 (longR x)) ∧ Below w.heap.size w w' := by
  have h63 := h.1
  have hW := onW_new w x.p A x.hs.length c
  have c58 := wide_on h hB hW
  have c0 := hW.box.c0
  have c1 := hW.box.c1
  replace hW := Lib.hid hW
  unfold L3
  cases hv : winB x 3600 with
  | false =>
    have hR : longR x = (0, 0, 50) := by unfold longR; rw [hv]; simp
    rw [hR]
    rw [hv] at c58
    unfold wnV at *
    replace c58 := Lib.hid c58
    replace hv := Lib.hid hv
    replace hR := Lib.hid hR
    go_enter Try.func42, Try.ntmps42
    go_wp2_with fail
    refine c58.out.mono ?_
    rintro e X1 ⟨rfl, hX1⟩
    go_wp2
    exact bodyPost_ret (v := .tuple #[.int .i64 0, .int .i64 0, .int .i64 50]) (by simp [results, Try.results42, go_sem]) rfl ⟨rfl, hX1.below⟩
  | true =>
    rw [hv] at c58
    obtain ⟨⟨p1, p2⟩, _⟩ := winB_iff.1 hv
    obtain ⟨p, hp⟩ := Int.eq_ofNat_of_zero_le (show 0 ≤ x.p by omega)
    have hR : longR x = longO p (opB x) := by unfold longR; rw [hv, hp, Int.toNat_natCast]; simp
    rw [hR]
    have c67 : ∀ X, OnW w x.p A x.hs.length c X → _ := fun X hX => hours_ref B A c x p X (h.below (hX.below.mono hB)) (Nat.le_trans hB hX.below.size) hv hp
    have hopq : ∀ (z : Int) (j : Nat), z % (p : Int) = (j : Int) → opN x x.hs.length j = opB x z := fun z j hj => (opB_eq (by rw [hp]; exact hj)).symm
    have hp1 : 1 ≤ p := by omega
    have hp4 : p ≤ 4000 := by omega
    have hper := opB_per (x := x) hp
    have hle := @lgN_le (opB x) p (fun k => span_le hp1 hper _)
    have hss := fun k => lgN_succ (opB x) p k
    have hsl := fun k : Nat => span_le hp1 hper (k : Int)
    have hshut := fun (k : Nat) => @span_shut (opB x) p (k : Int) hp1 (hper _)
    have hz := fun (k : Nat) => @span_zero (opB x) p (k : Int)
    have hsp := fun (k : Nat) => @span_spec (opB x) p (k : Int) hp1 (hper _)
    have hend : longO p (opB x) = if (lgN (opB x) p p).2 = 0 then (0, 0, 5) else ((((lgN (opB x) p p).1 : Nat) : Int), (((lgN (opB x) p p).2 : Nat) : Int), 0) := rfl
    generalize longO p (opB x) = R at *
    obtain ⟨R1, R2, R3⟩ := R
    simp only []
    rw [hp] at c0 c58 p1 p2 ⊢
    rw [hp] at c67
    unfold wnV at *
    have cm : ∀ (k : Nat), k ≤ 4000 → ∀ W, _ := fun k hk W => modulo_ref ((k : Int) - 1) p W (by omega) (by omega)
    clear hper
    replace hp := Lib.hid hp
    replace hv := Lib.hid hv
    replace hR := Lib.hid hR
    replace c58 := Lib.hid c58
    replace c67 := Lib.hid c67
    replace hopq := Lib.hid hopq
    replace hle := Lib.hid hle
    replace hss := Lib.hid hss
    replace hsl := Lib.hid hsl
    replace hshut := Lib.hid hshut
    replace hz := Lib.hid hz
    replace hsp := Lib.hid hsp
    replace hend := Lib.hid hend
    replace cm := Lib.hid cm
    go_enter Try.func42, Try.ntmps42
    go_wp2_with fail
    refine c58.out.mono ?_
    rintro e X1 ⟨rfl, hX1⟩
    have f0 := hX1.box.c0
    have f1 := hX1.box.c1
    rw [← hp.out] at hX1
    replace hX1 := Lib.hid hX1
    go_wp2_with fail
    refine (c67.out _ (by rw [← hp.out]; exact hX1.out)).mono ?_
    rintro e X3 ⟨g, rfl, hb3, hblk, hge⟩
    have hX3 := hX1.out.up hb3
    have g0 := hX3.box.c0
    have g1 := hX3.box.c1
    rw [hp.out] at g0
    have hgl := hblk.lt
    replace hX3 := Lib.hid hX3
    replace hb3 := Lib.hid hb3
    replace hblk := Lib.hid hblk
    clear f0 f1 c0 c1
    go_wp2
    go_loop [2, 3, 15] (fun a b v => ∃ k : Nat, k ≤ p ∧ v = .int .i64 (k : Nat) ∧ a = .int .i64 ((lgN (opB x) p k).1 : Nat) ∧ b = .int .i64 ((lgN (opB x) p k).2 : Nat)) (fun _ _ v => p - (intOf v).toNat)
    case atStart => exact ⟨0, Nat.zero_le _, rfl, rfl, rfl⟩
    case round =>
      obtain ⟨k, hk, rfl, rfl, rfl⟩ := hrel
      obtain ⟨l1, l2⟩ := hle.out k
      by_cases hlt : k < p
      · have hs := hss.out k
        have hn := hsl.out k
        have hcell := hblk.out.cell hlt
        rw [hopq.out (k : Int) k (Int.emod_eq_of_lt (by omega) (by omega))] at hcell
        have hsh := hshut.out k
        have hzz := hz.out k
        have hspk := hsp.out k
        obtain ⟨m, hm⟩ : ∃ m, m = spanN (opB x) p (k : Int) := ⟨_, rfl⟩
        rw [← hm] at hs hn hsh hzz hspk
        obtain ⟨L, hL⟩ : ∃ L, L = lgN (opB x) p k := ⟨_, rfl⟩
        rw [← hL] at l1 l2 hs ⊢
        obtain ⟨L1, L2⟩ := L
        simp only [] at l1 l2 hs ⊢
        clear hm hL
        cases hq0 : opB x (k : Int) with
        | false =>
          have hm0 := hsh hq0
          subst hm0
          rw [if_neg (by omega)] at hs
          rw [hq0] at hcell
          clear hsh hzz hspk
          replace hs := Lib.hid hs
          replace hq0 := Lib.hid hq0
          go_wp2
          go_round
          case rel => exact ⟨k + 1, by omega, by go_num, by rw [hs.out], by rw [hs.out]⟩
          case measure => simp [intOf]; omega
        | true =>
          rw [hq0] at hcell
          have m0 := Int.emod_nonneg ((k : Int) - 1) (show (p : Int) ≠ 0 by omega)
          have m1 := Int.emod_lt_of_pos ((k : Int) - 1) (show (0 : Int) < p by omega)
          obtain ⟨z, hzv⟩ := Int.eq_ofNat_of_zero_le m0
          rw [hzv] at m1
          have hzp : z < p := by omega
          have hcz := hblk.out.cell hzp
          rw [hopq.out _ _ hzv] at hcz
          have ck := cm.out k (by omega)
          rw [hzv] at ck
          clear m0 m1
          cases hq1 : opB x ((k : Int) - 1) with
          | true =>
            have hm0 := hzz hq1
            subst hm0
            rw [if_neg (by omega)] at hs
            rw [hq1] at hcz
            clear hsh hzz hspk
            replace hs := Lib.hid hs
            replace hq0 := Lib.hid hq0
            replace hq1 := Lib.hid hq1
            replace ck := Lib.hid ck
            replace hzv := Lib.hid hzv
            go_wp2_with (go_at_call 80; refine (ck.out _).mono ?_; rintro e X4 ⟨rfl, rfl⟩)
            go_round
            case rel => exact ⟨k + 1, by omega, by go_num, by rw [hs.out], by rw [hs.out]⟩
            case measure => simp [intOf]; omega
          | false =>
            rw [hq1] at hcz
            obtain ⟨s1, s2, s3⟩ := hspk hq1
            clear hsh hzz hspk
            replace hs := Lib.hid hs
            replace hq0 := Lib.hid hq0
            replace hq1 := Lib.hid hq1
            replace ck := Lib.hid ck
            replace hzv := Lib.hid hzv
            replace s1 := Lib.hid s1
            replace s2 := Lib.hid s2
            have hpi0 : ¬ ((p : Int) = 0) := by omega
            have hpn0 : ¬ p = 0 := by omega
            go_wp2_with (go_at_call 80; refine (ck.out _).mono ?_; rintro e X4 ⟨rfl, rfl⟩)
            go_loop [7] (fun v => ∃ n : Nat, n ≤ m ∧ v = .int .i64 (n : Nat)) (fun v => m - (intOf v).toNat)
            case atStart => exact ⟨0, Nat.zero_le _, rfl⟩
            case round =>
              obtain ⟨n, hn', rfl⟩ := hrel
              have m0 := Int.emod_nonneg ((k : Int) + n) (show (p : Int) ≠ 0 by omega)
              have m1 := Int.emod_lt_of_pos ((k : Int) + n) (show (0 : Int) < p by omega)
              obtain ⟨y, hyv⟩ := Int.eq_ofNat_of_zero_le m0
              rw [hyv] at m1
              have hyp : y < p := by omega
              have hcy := hblk.out.cell hyp
              rw [hopq.out _ _ hyv] at hcy
              clear m0 m1
              by_cases hlm : n < m
              · rw [s1.out n hlm] at hcy
                go_wp2
                go_round
                case rel => exact ⟨n + 1, by omega, by go_num⟩
                case measure => simp [intOf]; omega
              · have hnm : n = m := by omega
                subst hnm
                rw [s2.out] at hcy
                by_cases hgt : L2 < n
                · have hs' := hs.out
                  rw [if_pos hgt] at hs'
                  replace hs' := Lib.hid hs'
                  go_wp2
                  go_round
                  case rel => exact ⟨k + 1, by omega, by go_num, by rw [hs'.out], by rw [hs'.out]⟩
                  case measure => simp [intOf]; omega
                · have hs' := hs.out
                  rw [if_neg hgt] at hs'
                  replace hs' := Lib.hid hs'
                  go_wp2
                  go_round
                  case rel => exact ⟨k + 1, by omega, by go_num, by rw [hs'.out], by rw [hs'.out]⟩
                  case measure => simp [intOf]; omega
      · have hk' : k = p := by omega
        subst hk'
        have he := hend.out
        obtain ⟨L, hL⟩ : ∃ L, L = lgN (opB x) k k := ⟨_, rfl⟩
        rw [← hL] at l1 l2 he ⊢
        obtain ⟨L1, L2⟩ := L
        simp only [] at l1 l2 he ⊢
        clear hL
        by_cases h0 : L2 = 0
        · rw [if_pos h0] at he
          obtain ⟨rfl, rfl, rfl⟩ : R1 = 0 ∧ R2 = 0 ∧ R3 = 5 := by simpa using he
          subst h0
          go_wp2
          exact bodyPost_ret (v := .tuple #[.int .i64 0, .int .i64 0, .int .i64 5]) (by simp [results, Try.results42, go_sem]) rfl ⟨rfl, hX3.out.below⟩
        · rw [if_neg h0] at he
          obtain ⟨rfl, rfl, rfl⟩ : R1 = L1 ∧ R2 = L2 ∧ R3 = 0 := by simpa using he
          have h0' : ((L2 : Int) == 0) = false := by simp; omega
          have h0i : ¬ ((L2 : Int) = 0) := by omega
          go_wp2
          exact bodyPost_ret (v := .tuple #[.int .i64 L1, .int .i64 L2, .int .i64 0]) (by simp [results, Try.results42, go_sem]) rfl ⟨rfl, hX3.out.below⟩
end Go.Proofs.Ytlnpnfjdcnijhaa
