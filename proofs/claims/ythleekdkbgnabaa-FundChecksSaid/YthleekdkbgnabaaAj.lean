/-
  Do awards add up, share the estate, agree: the specification's functions.
-/
import Derived.Test.YthleekdkbgnabaaAi
namespace Go.Proofs.Ythleekdkbgnabaa
open Go.RowKit Go.Deep M
set_option linter.unusedVariables false
set_option linter.unusedSimpArgs false

set_option maxRecDepth 100000 in
set_option maxHeartbeats 4000000 in
theorem addsUp_any (A : Option Addr) (c : Nat) (D : List Rt) (t : Nat) (w : World) (h : Rts w w.heap.size A D) (hl : D.length ≤ 8) (hg : ∀ i, i < D.length → awG (rt D i)) (ht : t ≤ 8000) :
    Calls Try.prog 93 #[.slice A D.length c, .int .i64 t] w fun r w' => r = .returned (.bool (addsB D t)) ∧ Below w.heap.size w w' := by
  have hat := fun X (hX : Below w.heap.size w X) k (hk : k < D.length) => (h.below hX).at_ k hk
  have htm := fun X a b m hm ha hb => timesR_any a b m X hm ha hb
  have hyes := @adds_mod D t hl hg ht
  have hno := fun m => @adds_ne D t m
  have hsm := fun k m => su_mod D k m
  have hcm := fun k m => cm_mod D k m
  have hlm := fun k m => last_mod D k m t
  have hnn := fun k (hk : k < D.length) => (show (rt D k).n = (nN D k : Nat) ∧ (rt D k).d = (dN D k : Nat) ∧ nN D k ≤ 1000000000 ∧ dN D k ≤ 1000000 by
    have := hg k hk; unfold awG at this; unfold nN dN; omega)
  have hz : ∀ m, suN D 0 % m = 0 := fun m => by simp [suN]
  have hzc : ∀ m, 2 ≤ m → cmN D 0 % m = 1 := fun m hm => by simp [cmN]; exact Nat.mod_eq_of_lt (by omega)
  have hb0 := Below.refl w.heap.size w
  generalize addsB D t = R at *
  have hn9 : D.length ≤ 9223372036854775807 := by omega
  generalize D.length = n at *
  generalize suN D = SU at *
  generalize cmN D = CM at *
  generalize nN D = NN at *
  generalize dN D = DN at *
  replace hat := Lib.hid hat
  replace htm := Lib.hid htm
  replace hyes := Lib.hid hyes
  replace hno := Lib.hid hno
  replace hsm := Lib.hid hsm
  replace hcm := Lib.hid hcm
  replace hlm := Lib.hid hlm
  replace hnn := Lib.hid hnn
  replace hz := Lib.hid hz
  replace hzc := Lib.hid hzc
  replace hg := Lib.hid hg
  replace h := Lib.hid h
  replace hb0 := Lib.hid hb0
  go_enter Try.func93, Try.ntmps93
  go_wp2
  go_loopw [5, 6, 7, 8, 9] (fun i _ _ _ _ wr => ∃ j : Nat, j ≤ 3 ∧ i = .int .i64 ((j : Nat) - 1 : Int) ∧ (∀ j', j' < j → SU n % (2305843009213693951 + j') = CM n * t % (2305843009213693951 + j')) ∧ Below w.heap.size w wr) (fun i _ _ _ _ _ => (2 - intOf i).toNat)
  case atStart => exact ⟨0, by omega, rfl, fun j hj => by omega, hb0.out⟩
  case round =>
    clear hb0
    obtain ⟨j, hj3, rfl, hJ, hX⟩ := hrel
    by_cases hj : j < 3
    · have hj1 : (j : Int) - 1 ≤ 1 := by omega
      obtain ⟨m, hm⟩ : ∃ m : Nat, m = 2305843009213693951 + j := ⟨_, rfl⟩
      have hm6 := Lib.hid (show 2305843009213693952 + ((j : Int) - 1) = ((m : Nat) : Int) by omega)
      have w0 : wrap64 (2305843009213693952 + ((j : Int) - 1)) = (m : Nat) := by rw [show 2305843009213693952 + ((j : Int) - 1) = ((m : Nat) : Int) by omega]; exact IntWalk.wrap64_in _ (by omega)
      have hmb : 1 ≤ m ∧ m ≤ 4611686018427387903 := by omega
      have hz0 := hz.out m
      have hz1 := hzc.out m (by omega)
      have hlt := fun x => Nat.mod_lt x (show m > 0 by omega)
      have ts := fun X k (hk : k < n) => htm.out X (SU k % m) (DN k) m hmb (by have := hlt (SU k); omega) (by have := hnn.out k hk; omega)
      have tn := fun X k (hk : k < n) => htm.out X (NN k) (CM k % m) m hmb (by have := hnn.out k hk; omega) (by have := hlt (CM k); omega)
      have tc := fun X k (hk : k < n) => htm.out X (CM k % m) (DN k) m hmb (by have := hlt (CM k); omega) (by have := hnn.out k hk; omega)
      have tl := fun X => htm.out X t (CM n % m) m hmb (by omega) (by have := hlt (CM n); omega)
      simp only [hcm.out] at tc
      rw [hlm.out] at tl
      replace hJ := Lib.hid hJ
      replace hlt := Lib.hid hlt
      replace ts := Lib.hid ts
      replace tn := Lib.hid tn
      replace tc := Lib.hid tc
      replace tl := Lib.hid tl
      replace hm := Lib.hid hm
      have hX' := Lib.hid hX
      replace hX := Lib.hid hX
      go_wp2
      rw [hm6.out]
      clear w0
      have hm0 : ¬ m = 0 := by omega
      have hm3 : ¬ (m : Int) = 0 := by omega
      have hm4 : 1 ≤ (m : Int) := by omega
      have hmb2 : (m : Int) ≤ 4611686018427387903 := by omega
      go_loopw [9, 7, 8] (fun i s a wx => ∃ k : Nat, k ≤ n ∧ i = .int .i64 (k : Nat) ∧ s = .int .i64 (SU k % m : Nat) ∧ a = .int .i64 (CM k % m : Nat) ∧ Below w.heap.size w wx) (fun i _ _ _ => n - (intOf i).toNat)
      case atStart => exact ⟨0, by omega, rfl, by rw [hz0]; rfl, by rw [hz1]; rfl, hX.out⟩
      case round =>
        clear hX hX'
        obtain ⟨k, hkk, rfl, rfl, rfl, hX⟩ := hrel
        by_cases hkn : k < n
        · have hkn2 : (k : Int) < (n : Int) := by omega
          obtain ⟨en, ed, bn, bd⟩ := hnn.out k hkn
          obtain ⟨b, o, rfl, _, e0, e1⟩ := hat.out wr hX k hkn
          obtain ⟨b', o', he', _, e2, e3⟩ := hat.out wr.drew (below_drewN hX 1) k hkn
          cases he'
          have hXd := fun N => below_drewN hX N
          have hat3 := fun Y (hY : Below w.heap.size w Y) => hat.out Y hY k hkn
          rw [en] at e0 e2
          rw [ed] at e1 e3
          have c1 := fun X => ts.out X k hkn
          have c2 := fun X => tn.out X k hkn
          have c3 := fun X => tc.out X k hkn
          have l1 := hlt.out (SU k)
          have l2 := hlt.out (SU k % m * DN k)
          have l3 := hlt.out (NN k * (CM k % m))
          have l4 := hlt.out (CM k)
          have l5 := hlt.out (CM (k + 1))
          have q := hsm.out k m
          obtain ⟨S1, hS1⟩ : ∃ x, x = SU k % m := ⟨_, rfl⟩
          obtain ⟨C1, hC1⟩ : ∃ x, x = CM k % m := ⟨_, rfl⟩
          obtain ⟨S2, hS2⟩ : ∃ x, x = SU (k + 1) % m := ⟨_, rfl⟩
          obtain ⟨C2, hC2⟩ : ∃ x, x = CM (k + 1) % m := ⟨_, rfl⟩
          rw [← hS1] at c1 l1 l2 q ⊢
          rw [← hC1] at c2 c3 l3 l4 q ⊢
          rw [← hS2] at q
          rw [← hC2] at c3 l5
          generalize S1 * DN k % m = P1 at *
          generalize NN k * C1 % m = P2 at *
          generalize NN k = nn at *
          generalize DN k = dd at *
          obtain ⟨PP, hPP⟩ : ∃ x, x = P1 + P2 := ⟨_, rfl⟩
          have w1 : IntKind.i64.wrap ((P1 : Int) + (P2 : Int)) = (PP : Nat) := by rw [IntWalk.i64_left, wr_add (by omega), hPP]
          have w3 := tm_modv PP m
          rw [hPP, q, ← hPP] at w3
          have w4 : ((PP : Nat) : Int) % (m : Nat) = (S2 : Nat) := by rw [← q, ← hPP]; push_cast; rfl
          replace hPP := Lib.hid hPP
          replace hmb := Lib.hid hmb
          replace hmb2 := Lib.hid hmb2
          replace bn := Lib.hid bn
          replace bd := Lib.hid bd
          clear l1 l2 l3 l4 l5
          replace c1 := Lib.hid c1
          replace c2 := Lib.hid c2
          replace c3 := Lib.hid c3
          replace hX := Lib.hid hX
          replace hXd := Lib.hid hXd
          replace hat3 := Lib.hid hat3
          replace hS1 := Lib.hid hS1
          replace hC1 := Lib.hid hC1
          replace hS2 := Lib.hid hS2
          replace hC2 := Lib.hid hC2
          replace q := Lib.hid q
          replace en := Lib.hid en
          replace ed := Lib.hid ed
          go_wp2_with fail
          go_quiet (first | (go_at_call_of 116 (Value.int .i64 ((S1 : Nat) : Int)); exact Calls.quiet_of_same (c1.out _)) | (go_at_call_of 116 (Value.int .i64 ((C1 : Nat) : Int)); exact Calls.quiet_of_same (c2.out _)))
          have hq := hXd.out nq
          generalize wr.drewN nq = Y at hq ⊢
          obtain ⟨b', o', he', _, e4, e5⟩ := hat3.out Y hq
          cases he'
          rw [ed.out] at e5
          replace hq := Lib.hid hq
          clear e0 e1 e2 e3
          go_wp2_with fail
          refine (c3.out _).mono ?_
          rintro _ _ ⟨rfl, rfl⟩
          go_wp2
          go_roundw
          case rel => exact ⟨k + 1, by omega, by simp, by rw [hS2.out], by rw [hC2.out], hq.out⟩
          case measure => simp [intOf]; omega
        · have : n = k := by omega
          subst this
          have l1 := hlt.out (SU n)
          have l2 := hlt.out (CM n)
          have l3 := hlt.out (CM n * t)
          obtain ⟨S1, hS1⟩ : ∃ x, x = SU n % m := ⟨_, rfl⟩
          obtain ⟨C1, hC1⟩ : ∃ x, x = CM n % m := ⟨_, rfl⟩
          obtain ⟨T1, hT1⟩ : ∃ x, x = CM n * t % m := ⟨_, rfl⟩
          have cl := fun X => tl.out X
          rw [← hS1] at l1 ⊢
          rw [← hC1] at cl l2 ⊢
          rw [← hT1] at cl l3
          replace cl := Lib.hid cl
          replace hX := Lib.hid hX
          replace hS1 := Lib.hid hS1
          replace hC1 := Lib.hid hC1
          replace hT1 := Lib.hid hT1
          by_cases he : S1 = T1
          · have hJ2 := Lib.hid (show ∀ j', j' < j + 1 → SU n % (2305843009213693951 + j') = CM n * t % (2305843009213693951 + j') from fun j' hj' => by
              rcases Nat.lt_succ_iff_lt_or_eq.1 hj' with h' | rfl
              · exact hJ.out j' h'
              · rw [← hm.out, ← hS1.out, ← hT1.out, he])
            have hne : ((S1 : Int) != (T1 : Int)) = false := by rw [he]; simp
            replace he := Lib.hid he
            go_wp2_with fail
            refine (cl.out _).mono ?_
            rintro _ _ ⟨rfl, rfl⟩
            go_wp2
            go_roundw
            case rel => exact ⟨j + 1, by omega, by push_cast; congr 1; omega, hJ2.out, hX.out⟩
            case measure => simp [intOf]; omega
          · have hr := Lib.hid (hno.out m (by rw [← hS1.out, ← hT1.out]; exact he))
            have hne : ((S1 : Int) != (T1 : Int)) = true := by simp; omega
            replace he := Lib.hid he
            go_wp2_with fail
            refine (cl.out _).mono ?_
            rintro _ _ ⟨rfl, rfl⟩
            go_wp2
            go_ret
            exact ⟨by rw [hr.out]; rfl, hX.out⟩
    · have : j = 3 := by omega
      subst this
      have hr := Lib.hid (hyes.out hJ)
      replace hX := Lib.hid hX
      replace hJ := Lib.hid hJ
      go_wp2
      go_ret
      exact ⟨by rw [hr.out]; rfl, hX.out⟩
end Go.Proofs.Ythleekdkbgnabaa
