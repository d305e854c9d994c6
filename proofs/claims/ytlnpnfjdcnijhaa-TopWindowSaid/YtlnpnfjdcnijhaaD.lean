/-
  Where a list of rounds meets, by the specification.
-/
import Derived.Test.YtlnpnfjdcnijhaaC
namespace Go.Proofs.Ytlnpnfjdcnijhaa
open Go.RowKit Go.Deep M
set_option linter.unusedVariables false
set_option linter.unusedSimpArgs false

/-- The world in which the inner search runs. -/
structure SeW (w : World) (bx : Nat) (x : Rd) (X : World) : Prop where
  below : Below w.heap.size w X
  box : Bx2 X bx x
theorem SeW.drewN {w X : World} {bx : Nat} {x : Rd} (h : SeW w bx x X) (n : Nat) : SeW w bx x (X.drewN n) := ⟨below_drewN h.below n, h.box⟩
theorem SeW.up {w X Y : World} {bx : Nat} {x : Rd} (h : SeW w bx x X) (hb : Below X.heap.size X Y) : SeW w bx x Y := ⟨h.below.trans (hb.mono h.below.size), h.box.up hb⟩
/-- How far the search is: not yet there, or just there. -/
inductive Seek (A M b n k : Nat) : Value → Value → Prop
  | yet (h : ∀ j, j < k → hitB A M b n j = false) : Seek A M b n k (.int .i64 (A : Int)) (.bool false)
  | there (q : Nat) (hk : k = q + 1) (h : fstK A M b n = some q) : Seek A M b n k (.int .i64 ((A + q * M : Nat) : Int)) (.bool true)
theorem mul_cast (k M : Nat) : ((k : Nat) : Int) * ((M : Nat) : Int) = ((k * M : Nat) : Int) := by rw [Int.natCast_mul]
theorem add_cast (a b : Nat) : ((a : Nat) : Int) + ((b : Nat) : Int) = ((a + b : Nat) : Int) := by rw [Int.natCast_add]

set_option maxRecDepth 100000 in
set_option maxHeartbeats 4000000 in
theorem Meet_ref (B : Nat) (A : Option Addr) (c : Nat) (l : List Rd) (w : World) (h : Rds w B A l) (hB : B ≤ w.heap.size) :
    Calls Try.prog 50 #[.slice A l.length c] w fun e w' => e = .returned (M3 (meetR l)) ∧ Below w.heap.size w w' := by
  have h63 := h.1
  have hc := AreRounds_ref B A c l w h hB
  cases hv : validR l with
  | false =>
    rw [meetR_bad hv]
    rw [hv] at hc
    replace hc := Lib.hid hc
    replace hv := Lib.hid hv
    unfold M3
    go_enter Try.func50, Try.ntmps50
    go_wp2_with fail
    refine hc.out.mono ?_
    rintro e w1 ⟨rfl, hb1⟩
    go_wp2
    exact bodyPost_ret (v := .tuple #[.int .i64 0, .int .i64 0, .int .i64 51]) (by simp [results, Try.results50, go_sem]) rfl ⟨rfl, hb1⟩
  | true =>
    rw [hv] at hc
    have hvr := validR_iff.1 hv
    have hnone := fun k (hk : k ≤ l.length) => meetR_none hv hk
    have hdone := fun A M => @meetR_some l hv A M
    generalize meetR l = R at *
    obtain ⟨R1, R2, R3⟩ := R
    unfold M3
    simp only []
    obtain ⟨top, htop⟩ : ∃ top : Nat, top = 1000000000000000000 := ⟨_, rfl⟩
    have ht9 : top + top ≤ 9223372036854775807 := by omega
    have ht1 : 1000 ≤ top := by omega
    replace htop := Lib.hid htop
    replace hc := Lib.hid hc
    replace hv := Lib.hid hv
    replace hvr := Lib.hid hvr
    replace hnone := Lib.hid hnone
    replace hdone := Lib.hid hdone
    go_enter Try.func50, Try.ntmps50
    go_wp2_with fail
    refine hc.out.mono ?_
    rintro e w1 ⟨rfl, hb1⟩
    replace hb1 := Lib.hid hb1
    go_wp2
    go_loopw [2, 3, 14] (fun a m v wr => ∃ k A' M', k ≤ l.length ∧ v = .int .i64 (k : Nat) ∧ a = .int .i64 (A' : Nat) ∧ m = .int .i64 (M' : Nat) ∧ meetN l k = some (A', M') ∧ Met l k A' M' ∧ Below w.heap.size w wr) (fun _ _ v _ => l.length - (intOf v).toNat)
    case atStart => exact ⟨0, 0, 1, Nat.zero_le _, rfl, rfl, rfl, rfl, met_zero l, hb1.out⟩
    case round =>
      obtain ⟨k, A', M', hk, rfl, rfl, rfl, hmn, hmet, hw⟩ := hrel
      by_cases hlt : k < l.length
      · have hrow := h.below (hw.mono hB)
        obtain ⟨bb, o, rfl, hbb, hc0, hc1⟩ := hrow.at_ k hlt
        obtain ⟨⟨g1, g2⟩, g3, g4⟩ := hvr.out.2 k hlt
        obtain ⟨b, hb⟩ := Int.eq_ofNat_of_zero_le g3
        obtain ⟨n, hn⟩ := Int.eq_ofNat_of_zero_le (show 0 ≤ (rd l k).e by omega)
        have hstep := meetN_step hmn hb hn
        rw [hb] at hc0
        rw [hn] at hc1
        have hn1 : 1 ≤ n := by omega
        have hn2 : n ≤ 1000 := by omega
        have hM := hmet.le (by have := hvr.out.1.2; omega)
        have hAM := hmet.lt
        have hM1 : 1 ≤ M' := by omega
        have hMt : M' * 1000 ≤ top := by rw [htop.out]; exact hM
        have hmn9 : M' * n ≤ top := Nat.le_trans (Nat.mul_le_mul_left _ hn2) hMt
        have hMt1 : M' ≤ top := by omega
        have hmet2 : ∀ q, fstK A' M' b n = some q → Met l (k + 1) (A' + q * M') (mulN M' n) := fun q hq => by
          have := met_step hmet hvr.out hlt (q := q) (by rw [hb, hn, Int.toNat_natCast, Int.toNat_natCast]; exact hq)
          rwa [hn, Int.toNat_natCast] at this
        have hx : SeW w wr.heap.size ⟨b, n⟩ (wr.alloc (.cells #[.int .i64 (b : Int), .int .i64 (n : Int)] 68)) := ⟨hw.trans ((ba1 _ _).mono hw.size), Bx2.new wr ⟨b, n⟩⟩
        clear hM g1 g2 g3 g4 hb hn
        replace hx := Lib.hid hx
        replace hw := Lib.hid hw
        replace hmn := Lib.hid hmn
        replace hmet := Lib.hid hmet
        replace hmet2 := Lib.hid hmet2
        replace hstep := Lib.hid hstep
        replace hrow := Lib.hid hrow
        go_wp2
        go_loopw [2, 7, 8] (fun a m kk X => ∃ j, j ≤ n ∧ kk = .int .i64 (j : Nat) ∧ Seek A' M' b n j a m ∧ SeW w wr.heap.size ⟨b, n⟩ X) (fun _ _ kk _ => n - (intOf kk).toNat)
        case atStart => exact ⟨0, Nat.zero_le _, rfl, .yet fun j hj => absurd hj (Nat.not_lt_zero _), hx.out⟩
        case round =>
          obtain ⟨j, hj, rfl, hs, hX⟩ := hrel
          cases hs with
          | yet hno =>
            have c0 := hX.box.c0
            have c1 := hX.box.c1
            simp only [] at c0 c1
            by_cases hjn : j < n
            · have hjM : j * M' ≤ top := Nat.le_trans (Nat.mul_le_mul_right _ (Nat.le_of_lt (Nat.lt_of_lt_of_le hjn hn2))) (by rw [Nat.mul_comm]; exact hMt)
              have hmc := mul_cast j M'
              have hcast := hit_cast A' M' b n j
              have hac := add_cast A' (j * M')
              have hsome := fun hh => fstK_some hjn hh hno
              have hnn : ¬ ((n : Int) = 0) := by omega
              obtain ⟨p, hp⟩ : ∃ p, p = j * M' := ⟨_, rfl⟩
              have hp' := Lib.hid hp
              rw [← hp] at hjM hmc hcast hac
              clear hp
              obtain ⟨s, hs'⟩ : ∃ s, s = A' + p := ⟨_, rfl⟩
              have hs'' := Lib.hid hs'
              rw [← hs'] at hcast hac
              have hst : s ≤ top + top := by omega
              clear hs'
              cases hh : hitB A' M' b n j with
              | true =>
                have hq := Lib.hid (hsome hh)
                rw [hh] at hcast
                replace hX := Lib.hid hX
                replace hno := Lib.hid hno
                replace hsome := Lib.hid hsome
                go_wp2_with fail
                go_quiet (fail)
                go_wp2
                go_roundw
                case rel => exact ⟨j + 1, by omega, by go_num, by rw [hs''.out, hp'.out]; exact .there j rfl hq.out, hX.out.drewN nq⟩
                case measure => simp [intOf]; omega
              | false =>
                rw [hh] at hcast
                have hs1 : ∀ i, i < j + 1 → hitB A' M' b n i = false := fun i hi => by
                  rcases Nat.lt_succ_iff_lt_or_eq.1 hi with h' | rfl
                  · exact hno i h'
                  · exact hh
                replace hs1 := Lib.hid hs1
                replace hX := Lib.hid hX
                replace hno := Lib.hid hno
                replace hsome := Lib.hid hsome
                go_wp2_with fail
                go_quiet (fail)
                go_wp2
                go_roundw
                case rel => exact ⟨j + 1, by omega, by go_num, .yet hs1.out, hX.out.drewN nq⟩
                case measure => simp [intOf]; omega
            · have hq : fstK A' M' b n = none := fstK_none fun i hi => hno i (by omega)
              have hst := hstep.out
              rw [hq] at hst
              have hR := hnone.out (k + 1) (by omega) hst
              obtain ⟨rfl, rfl, rfl⟩ : R1 = 0 ∧ R2 = 0 ∧ R3 = 5 := by simpa using hR
              clear hR hst
              replace hX := Lib.hid hX
              replace hno := Lib.hid hno
              replace hq := Lib.hid hq
              go_wp2
              exact bodyPost_ret (v := .tuple #[.int .i64 0, .int .i64 0, .int .i64 5]) (by simp [results, Try.results50, go_sem]) rfl ⟨rfl, hX.out.below⟩
          | there q hk2 hq =>
            have hR := Lib.hid hq
            have hm := Lib.hid (multiple_ref M' n top wr ⟨hM1, hMt1⟩ (by omega) (by omega) (by omega))
            have hst := hstep.out
            rw [hq] at hst
            simp only [] at hst
            have hm2 := hmet2.out q hq
            obtain ⟨A2, hA2⟩ : ∃ A2, A2 = A' + q * M' := ⟨_, rfl⟩
            obtain ⟨M2, hM2⟩ : ∃ M2, M2 = mulN M' n := ⟨_, rfl⟩
            rw [← hA2, ← hM2] at hst hm2
            rw [← hM2] at hm
            rw [← hA2]
            clear hA2 hM2 hq
            replace hst := Lib.hid hst
            replace hm2 := Lib.hid hm2
            have c0 := hX.box.c0
            have c1 := hX.box.c1
            simp only [] at c0 c1
            replace hX := Lib.hid hX
            by_cases hjn : j < n
            · go_wp2_with fail
              refine hm.out.mono ?_
              rintro e w3 ⟨rfl, z, hz⟩
              have hb3 : Below w.heap.size w w3 := by rw [hz]; exact below_drewN hX.out.below z
              clear hz
              replace hb3 := Lib.hid hb3
              go_wp2
              go_roundw
              case rel => exact ⟨k + 1, A2, M2, by omega, by go_num, rfl, rfl, hst.out, hm2.out, hb3.out⟩
              case measure => simp [intOf]; omega
            · go_wp2_with fail
              refine hm.out.mono ?_
              rintro e w3 ⟨rfl, z, hz⟩
              have hb3 : Below w.heap.size w w3 := by rw [hz]; exact below_drewN hX.out.below z
              clear hz
              replace hb3 := Lib.hid hb3
              go_wp2
              go_roundw
              case rel => exact ⟨k + 1, A2, M2, by omega, by go_num, rfl, rfl, hst.out, hm2.out, hb3.out⟩
              case measure => simp [intOf]; omega
      · have hk' : k = l.length := by omega
        subst hk'
        have hR := hdone.out _ _ hmn
        obtain ⟨rfl, rfl, rfl⟩ : R1 = A' ∧ R2 = M' ∧ R3 = 0 := by simpa using hR
        clear hR
        replace hw := Lib.hid hw
        replace hmet := Lib.hid hmet
        replace hmn := Lib.hid hmn
        go_wp2
        exact bodyPost_ret (v := .tuple #[.int .i64 A', .int .i64 M', .int .i64 0]) (by simp [results, Try.results50, go_sem]) rfl ⟨rfl, hw.out⟩
end Go.Proofs.Ytlnpnfjdcnijhaa
