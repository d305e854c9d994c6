/-
  Two rounds that never meet, by program and specification; the first such pair of a list; whether an hour is in all rounds.
-/
import Derived.Test.YtlnpnfjdcnijhaaD
import Derived.Test.YtlnpnfjdcnijhaaMathB
namespace Go.Proofs.Ytlnpnfjdcnijhaa
open Go.RowKit Go.Deep M
set_option linter.unusedVariables false
set_option linter.unusedSimpArgs false

theorem quiet_ex {P : Program} {f : FuncId} {args : Array Value} {w : World} {n : Nat} {v : Value}
    (h : Calls P f args (w.drewN n) fun e w' => e = .returned v ∧ ∃ m, w' = (w.drewN n).drewN m) : Calls P f args (w.drewN n) fun e w'' => e = .returned v ∧ ∃ m, w'' = w.drewN m :=
  h.mono fun _ _ ⟨he, m, hm⟩ => ⟨he, n + m, by rw [hm, World.drewN_drewN]⟩
theorem quiet_add {P : Program} {f : FuncId} {args : Array Value} {w : World} {a n : Nat} {v : Value}
    (h : Calls P f args (w.drewN (a + n)) fun e w' => e = .returned v ∧ ∃ m, w' = (w.drewN (a + n)).drewN m) :
    Calls P f args (w.drewN (a + n)) fun e w'' => e = .returned v ∧ ∃ m, w'' = w.drewN (a + m) :=
  h.mono fun _ _ ⟨he, m, hm⟩ => ⟨he, n + m, by rw [hm, World.drewN_drewN, Nat.add_assoc]⟩
theorem below_drew {B : Nat} {a w : World} (h : Below B a w) : Below B a w.drew := ⟨h.os, h.tape, h.output, h.size, h.block⟩
def rdN (a e : Nat) : Value := .agg #[.int .i64 (a : Int), .int .i64 (e : Int)]

set_option maxHeartbeats 2000000 in
theorem neverMeet_any (a e b n : Nat) (w : World) (ha : a < e) (he : e ≤ 1000) (hb : b < n) (hn : n ≤ 1000) :
    Calls Try.prog 91 #[rdN a e, rdN b n] w fun x w' => x = .returned (.bool (nevN a e b n)) ∧ Below w.heap.size w w' := by
  have hb1 := ba1 w (.cells #[.int .i64 (a : Int), .int .i64 (e : Int)] 68)
  have hb2 := hb1.trans ((ba1 (w.alloc (.cells #[.int .i64 (a : Int), .int .i64 (e : Int)] 68)) (.cells #[.int .i64 (b : Int), .int .i64 (n : Int)] 68)).mono hb1.size)
  have hx1 := (Bx2.new w ⟨a, e⟩).up (ba1 _ (.cells #[.int .i64 (b : Int), .int .i64 (n : Int)] 68))
  have hx2 := Bx2.new (w.alloc (.cells #[.int .i64 (a : Int), .int .i64 (e : Int)] 68)) ⟨b, n⟩
  rw [show (w.alloc (.cells #[.int .i64 (a : Int), .int .i64 (e : Int)] 68)).heap.size = w.heap.size + 1 by simp] at hx2
  have c0 := hx1.c0
  have c1 := hx1.c1
  have d0 := hx2.c0
  have d1 := hx2.c1
  simp only [] at c0 c1 d0 d1
  have hd : ∀ W, _ := fun W => divisor_any e n 1000 W he hn (by omega)
  have hv : nevN a e b n = (((a : Int) - b).tmod ((Nat.gcd e n : Nat) : Int) != 0) := by unfold nevN; rw [Bool.eq_iff_iff]; simp
  rw [hv]
  clear hv
  have hg := gcd_pos (n := n) (show 1 ≤ e by omega)
  generalize Nat.gcd e n = g at *
  have hg0 : ¬ ((g : Int) = 0) := by omega
  have hg1 : (1 : Int) ≤ (g : Int) := by omega
  unfold rdN
  replace hx1 := Lib.hid hx1
  replace hx2 := Lib.hid hx2
  replace hb1 := Lib.hid hb1
  replace hb2 := Lib.hid hb2
  replace hd := Lib.hid hd
  go_enter Try.func91, Try.ntmps91
  go_wp2_with fail
  go_quiet ((go_at_call 71; with_reducible exact quiet_ex (hd.out _)))
  go_wp2
  go_ret
  exact ⟨rfl, below_drewN hb2.out nq⟩

set_option maxHeartbeats 2000000 in
theorem never_ref (a e b n : Nat) (w : World) (ha : a < e) (he : e ≤ 1000) (hb : b < n) (hn : n ≤ 1000) :
    Calls Try.prog 92 #[rdN a e, rdN b n] w fun x w' => x = .returned (.bool (nevN a e b n)) ∧ Below w.heap.size w w' := by
  have hb1 := ba1 w (.cells #[.int .i64 (a : Int), .int .i64 (e : Int)] 68)
  have hb2 := hb1.trans ((ba1 (w.alloc (.cells #[.int .i64 (a : Int), .int .i64 (e : Int)] 68)) (.cells #[.int .i64 (b : Int), .int .i64 (n : Int)] 68)).mono hb1.size)
  have hx1 := (Bx2.new w ⟨a, e⟩).up (ba1 _ (.cells #[.int .i64 (b : Int), .int .i64 (n : Int)] 68))
  have hx2 := Bx2.new (w.alloc (.cells #[.int .i64 (a : Int), .int .i64 (e : Int)] 68)) ⟨b, n⟩
  rw [show (w.alloc (.cells #[.int .i64 (a : Int), .int .i64 (e : Int)] 68)).heap.size = w.heap.size + 1 by simp] at hx2
  have c0 := hx1.c0
  have c1 := hx1.c1
  have d0 := hx2.c0
  have d1 := hx2.c1
  simp only [] at c0 c1 d0 d1
  have hyes : (∀ k, k < n → hitB a e b n k = false) → nevN a e b n = true := (nev_none (by omega) hb).2
  have hno : ∀ k, k < n → hitB a e b n k = true → nevN a e b n = false := fun k hk hh => by
    cases hq : nevN a e b n with
    | false => rfl
    | true => rw [(nev_none (by omega) hb).1 hq k hk] at hh; cases hh
  generalize nevN a e b n = R at *
  unfold rdN
  replace hx1 := Lib.hid hx1
  replace hx2 := Lib.hid hx2
  replace hb1 := Lib.hid hb1
  replace hb2 := Lib.hid hb2
  replace hyes := Lib.hid hyes
  replace hno := Lib.hid hno
  obtain ⟨W, hW⟩ : ∃ W, W = (w.alloc (.cells #[.int .i64 (a : Int), .int .i64 (e : Int)] 68)).alloc (.cells #[.int .i64 (b : Int), .int .i64 (n : Int)] 68) := ⟨_, rfl⟩
  rw [← hW] at hx1 hx2 hb2
  have hWd : SeW w w.heap.size ⟨a, e⟩ W := ⟨hb2.out, hx1.out⟩
  replace hWd := Lib.hid hWd
  go_enter Try.func92, Try.ntmps92
  go_wp2
  rw [← hW]
  clear c0 c1 d0 d1 hW
  go_loopw [8] (fun v wr => ∃ k, k ≤ n ∧ v = .int .i64 (k : Nat) ∧ (∀ j, j < k → hitB a e b n j = false) ∧ ∃ m, wr = W.drewN m) (fun v _ => n - (intOf v).toNat)
  case atStart => exact ⟨0, Nat.zero_le _, rfl, fun j hj => absurd hj (Nat.not_lt_zero _), 0, rfl⟩
  case round =>
    obtain ⟨k, hk, rfl, hj, m, hm⟩ := hrel
    have f1 : SeW w w.heap.size ⟨a, e⟩ wr := by rw [hm]; exact hWd.out.drewN m
    have f2 : Bx2 wr (w.heap.size + 1) ⟨b, n⟩ := by rw [hm]; exact hx2.out
    replace hm := Lib.hid hm
    have c0 := f1.box.c0
    have c1 := f1.box.c1
    have d0 := f2.c0
    have d1 := f2.c1
    simp only [] at c0 c1 d0 d1
    replace f2 := Lib.hid f2
    by_cases hlt : k < n
    · have hkm : k * e ≤ 1000 * 1000 := Nat.mul_le_mul (by omega) he
      have hmc := mul_cast k e
      have hcast := hit_cast a e b n k
      have hac := add_cast a (k * e)
      have hnn : ¬ ((n : Int) = 0) := by omega
      obtain ⟨p, hp⟩ : ∃ p, p = k * e := ⟨_, rfl⟩
      rw [← hp] at hkm hmc hcast hac
      clear hp
      obtain ⟨s, hs'⟩ : ∃ s, s = a + p := ⟨_, rfl⟩
      rw [← hs'] at hcast hac
      have hst : s ≤ 1002000 := by omega
      clear hs'
      cases hh : hitB a e b n k with
      | true =>
        rw [hh] at hcast
        have hR := hno.out k hlt hh
        subst hR
        replace f1 := Lib.hid f1
        replace hj := Lib.hid hj
        go_wp2_with fail
        go_quiet (fail)
        go_wp2
        go_ret
        exact ⟨rfl, below_drewN f1.out.below nq⟩
      | false =>
        rw [hh] at hcast
        have hs1 : ∀ i, i < k + 1 → hitB a e b n i = false := fun i hi => by
          rcases Nat.lt_succ_iff_lt_or_eq.1 hi with h' | rfl
          · exact hj i h'
          · exact hh
        replace hs1 := Lib.hid hs1
        replace f1 := Lib.hid f1
        replace hj := Lib.hid hj
        go_wp2_with fail
        go_quiet (fail)
        go_wp2
        go_roundw
        case rel => exact ⟨k + 1, by omega, by go_num, hs1.out, m + nq, by rw [hm.out, World.drewN_drewN]⟩
        case measure => simp [intOf]; omega
    · have hR := hyes.out fun i hi => hj i (by omega)
      subst hR
      replace f1 := Lib.hid f1
      replace hj := Lib.hid hj
      go_wp2
      go_ret
      exact ⟨rfl, f1.out.below⟩

end Go.Proofs.Ytlnpnfjdcnijhaa
