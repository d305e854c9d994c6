/-
  The greatest common divisor and the least common multiple, by program and specification; which rounds may be given.
-/
import Derived.Test.YtlnpnfjdcnijhaaData
namespace Go.Proofs.Ytlnpnfjdcnijhaa
open Go.RowKit Go.Deep M
set_option linter.unusedVariables false
set_option linter.unusedSimpArgs false

theorem gcd_step (a b : Nat) : Nat.gcd a b = Nat.gcd b (a % b) := by rw [Nat.gcd_comm, Nat.gcd_rec, Nat.gcd_comm]

set_option maxHeartbeats 1000000 in
theorem divisor_any (a b L : Nat) (w : World) (ha : a ≤ L) (hb : b ≤ L) (hL : L ≤ 9223372036854775807) : Calls Try.prog 71 #[.int .i64 a, .int .i64 b] w fun e w' => e = .returned (.int .i64 (Nat.gcd a b : Nat)) ∧ ∃ n, w' = w.drewN n := by
  obtain ⟨g, hg⟩ : ∃ g, Nat.gcd a b = g := ⟨_, rfl⟩
  rw [hg]
  go_enter Try.func71, Try.ntmps71
  go_wp2
  go_loopw [0, 1] (fun x y wr => ∃ i j n : Nat, x = .int .i64 i ∧ y = .int .i64 j ∧ i ≤ L ∧ j ≤ L ∧ Nat.gcd i j = g ∧ wr = w.drewN n) (fun _ y _ => (intOf y).toNat)
  case atStart => exact ⟨a, b, 0, rfl, rfl, ha, hb, hg, rfl⟩
  case round =>
    obtain ⟨i, j, n, rfl, rfl, hi, hj, hgg, hw⟩ := hrel
    replace hw := Lib.hid hw
    by_cases h0 : j = 0
    · subst h0
      rw [Nat.gcd_zero_right] at hgg
      subst hgg
      have h0' : (((0 : Nat) : Int) != 0) = false := by simp
      go_wp2
      go_ret
      exact ⟨rfl, n, hw.out⟩
    · have h0' : ((j : Int) != 0) = true := by simp; omega
      have h1 : ¬ ((j : Int) = 0) := by omega
      have h2 : (1 : Int) ≤ (j : Int) := by omega
      have hm : i % j < j := Nat.mod_lt _ (by omega)
      have hgg' := Lib.hid ((gcd_step i j).symm.trans hgg)
      have he : ((i : Int)).tmod (j : Int) = ((i % j : Nat) : Int) := rfl
      clear hgg
      go_wp2_with fail
      go_quiet (fail)
      go_wp2
      try rw [he]
      go_roundw
      case rel => exact ⟨j, i % j, n + nq, rfl, rfl, hj, by omega, hgg'.out, by rw [hw.out, World.drewN_drewN]⟩
      case measure => simp [intOf]; omega

theorem tdiv_nat (a b : Nat) : ((a : Int)).tdiv (b : Int) = ((a / b : Nat) : Int) := rfl
theorem mulN_cast (m n : Nat) : ((m / Nat.gcd m n : Nat) : Int) * (n : Int) = ((mulN m n : Nat) : Int) := by unfold mulN; rw [Int.natCast_mul]

set_option maxHeartbeats 1000000 in
theorem multiple_any (m n L : Nat) (w : World) (hm : 1 ≤ m ∧ m ≤ L) (hn : n ≤ L) (hmn : m * n ≤ 9223372036854775807) (hL : L ≤ 9223372036854775807) : Calls Try.prog 100 #[.int .i64 m, .int .i64 n] w fun e w' => e = .returned (.int .i64 (mulN m n : Nat)) ∧ ∃ k, w' = w.drewN k := by
  have hd := Lib.hid (divisor_any m n L w hm.2 hn hL)
  have hc := mulN_cast m n
  have hg1 := gcd_pos (n := n) hm.1
  have hle := mulN_le m n
  have hgl : Nat.gcd m n ≤ m := Nat.gcd_le_left _ hm.1
  have hql : m / Nat.gcd m n ≤ m := Nat.div_le_self _ _
  have htd := tdiv_nat m (Nat.gcd m n)
  have hq9 : (m / Nat.gcd m n : Nat) ≤ L := by omega
  generalize mulN m n = r at *
  generalize m / Nat.gcd m n = q at *
  generalize Nat.gcd m n = g at *
  have hr9 : r ≤ 9223372036854775807 := by omega
  have hgi : ¬ ((g : Int) = 0) := by omega
  have hgi1 : (1 : Int) ≤ (g : Int) := by omega
  clear hmn hle hgl hql
  go_enter Try.func100, Try.ntmps100
  go_wp2_with fail
  refine hd.out.mono ?_
  rintro e w1 ⟨rfl, k, rfl⟩
  go_wp2
  go_ret
  exact ⟨rfl, k, rfl⟩

set_option maxHeartbeats 1000000 in
theorem multiple_ref (m n L : Nat) (w : World) (hm : 1 ≤ m ∧ m ≤ L) (hn : n ≤ L) (hmn : m * n ≤ 9223372036854775807) (hL : L ≤ 9223372036854775807) : Calls Try.prog 90 #[.int .i64 m, .int .i64 n] w fun e w' => e = .returned (.int .i64 (mulN m n : Nat)) ∧ ∃ k, w' = w.drewN k := by
  have hc := mulN_cast m n
  have hg1 := gcd_pos (n := n) hm.1
  have hle := mulN_le m n
  have hql : m / Nat.gcd m n ≤ m := Nat.div_le_self _ _
  have htd := tdiv_nat m (Nat.gcd m n)
  have hq9 : (m / Nat.gcd m n : Nat) ≤ L := by omega
  generalize mulN m n = r at *
  generalize m / Nat.gcd m n = q at *
  obtain ⟨g, hg⟩ : ∃ g, Nat.gcd m n = g := ⟨_, rfl⟩
  rw [hg] at hg1 htd
  have hr9 : r ≤ 9223372036854775807 := by omega
  have hgi : ¬ ((g : Int) = 0) := by omega
  have hgi1 : (1 : Int) ≤ (g : Int) := by omega
  clear hmn hle hql
  have hm1 := Lib.hid hm.1
  have hm2 := hm.2
  clear hm
  go_enter Try.func90, Try.ntmps90
  go_wp2
  go_loopw [5, 6] (fun x y wr => ∃ i j k : Nat, x = .int .i64 i ∧ y = .int .i64 j ∧ i ≤ L ∧ j ≤ L ∧ Nat.gcd i j = g ∧ wr = w.drewN k) (fun _ y _ => (intOf y).toNat)
  case atStart => exact ⟨m, n, 0, rfl, rfl, hm2, hn, hg, rfl⟩
  case round =>
    obtain ⟨i, j, k, rfl, rfl, hi, hj, hgg, hw⟩ := hrel
    replace hw := Lib.hid hw
    by_cases h0 : j = 0
    · subst h0
      rw [Nat.gcd_zero_right] at hgg
      subst hgg
      have h0' : (((0 : Nat) : Int) != 0) = false := by simp
      go_wp2
      go_ret
      exact ⟨rfl, k, hw.out⟩
    · have h0' : ((j : Int) != 0) = true := by simp; omega
      have h1 : ¬ ((j : Int) = 0) := by omega
      have h2 : (1 : Int) ≤ (j : Int) := by omega
      have hmm : i % j < j := Nat.mod_lt _ (by omega)
      have hgg' := Lib.hid ((gcd_step i j).symm.trans hgg)
      have he : ((i : Int)).tmod (j : Int) = ((i % j : Nat) : Int) := rfl
      clear hgg
      replace hgi := Lib.hid hgi
      replace hgi1 := Lib.hid hgi1
      replace htd := Lib.hid htd
      replace hc := Lib.hid hc
      go_wp2_with fail
      go_quiet (fail)
      go_wp2
      try rw [he]
      go_roundw
      case rel => exact ⟨j, i % j, k + nq, rfl, rfl, hj, by omega, hgg'.out, by rw [hw.out, World.drewN_drewN]⟩
      case measure => simp [intOf]; omega

/-! ### a round -/
theorem isIn_any (x : Rd) (h : Int) (w : World) (he : 1 ≤ x.e ∧ x.e ≤ 1000) (hh : 0 ≤ h ∧ h ≤ 9223372036854775807) (ha : 0 ≤ x.a) : Calls Try.prog 95 #[rdV x, .int .i64 h] w fun e w' => e = .returned (.bool (h % x.e == x.a)) ∧ Below w.heap.size w w' := by
  have hb0 := Lib.hid (ba1 w (.cells #[.int .i64 x.a, .int .i64 x.e] 68))
  have hx := Bx2.new w x
  have c0 := hx.c0
  have c1 := hx.c1
  replace hx := Lib.hid hx
  obtain ⟨a, e⟩ := x
  unfold rdV
  simp only at *
  have h1 : ¬ (e = 0) := by omega
  have h2 := he.1
  have h3 := he.2
  clear he
  go_enter Try.func95, Try.ntmps95
  go_wp2_with fail
  go_quiet (fail)
  go_wp2
  go_ret
  exact ⟨rfl, below_drewN hb0.out nq⟩

set_option maxHeartbeats 1000000 in
theorem noRound_any (x : Rd) (w : World) : Calls Try.prog 109 #[rdV x] w fun e w' => e = .returned (.bool (!okR x)) ∧ Below w.heap.size w w' := by
  have hb0 := Lib.hid (ba1 w (.cells #[.int .i64 x.a, .int .i64 x.e] 68))
  have hx := Bx2.new w x
  have c0 := hx.c0
  have c1 := hx.c1
  replace hx := Lib.hid hx
  have hok : (!okR x) = (decide (x.e < 1) || decide (1000 < x.e) || decide (x.a < 0) || decide (x.e ≤ x.a)) := by
    unfold okR
    rw [Bool.eq_iff_iff]; simp
  rw [hok]
  clear hok
  obtain ⟨a, e⟩ := x
  unfold rdV
  simp only at *
  by_cases h1 : e < 1
  · go_enter Try.func109, Try.ntmps109
    go_wp2
    go_ret
    exact ⟨ret_bool (by simp [h1]), hb0.out⟩
  by_cases h2 : 1000 < e
  · go_enter Try.func109, Try.ntmps109
    go_wp2
    go_ret
    exact ⟨ret_bool (by simp [h2]), hb0.out⟩
  by_cases h3 : a < 0
  · go_enter Try.func109, Try.ntmps109
    go_wp2
    go_ret
    exact ⟨ret_bool (by simp [h3]), hb0.out⟩
  by_cases h4 : e ≤ a
  · go_enter Try.func109, Try.ntmps109
    go_wp2
    go_ret
    exact ⟨ret_bool (by simp [h4]), hb0.out⟩
  · go_enter Try.func109, Try.ntmps109
    go_wp2
    go_ret
    exact ⟨ret_bool (by simp [h1, h2, h3, h4]), hb0.out⟩

/-- What a search for something says: the place of the first one, or -1. -/
def Found (all : Bool) (w : World) (e : Ending) (w' : World) : Prop := ∃ x : Int, e = .returned (.int .i64 x) ∧ (all = true → x = -1) ∧ (all = false → 0 ≤ x) ∧ -1 ≤ x ∧ x ≤ 9223372036854775807 ∧ Below w.heap.size w w'

set_option maxHeartbeats 1000000 in
theorem indexNo (B : Nat) (A : Option Addr) (c : Nat) (l : List Rd) (w : World) (h : Rds w B A l) (hB : B ≤ w.heap.size) :
    Calls Try.prog 110 #[.slice A l.length c, .func (Fn.func 109) #[] #[]] w (Found (oksB l) w) := by
  have h63 := h.1
  go_enter Try.func110, Try.ntmps110
  go_wp2
  go_loopw [8] (fun i wr => ∃ k : Nat, k ≤ l.length ∧ i = .int .i64 k ∧ Oks l k ∧ Below w.heap.size w wr) (fun i _ => l.length - (intOf i).toNat)
  case atStart => exact ⟨0, Nat.zero_le _, rfl, oks_zero _, Below.refl _ _⟩
  case round =>
    obtain ⟨k, hk, rfl, hel, hbw⟩ := hrel
    have hr := h.below (hbw.mono hB)
    have hel := Lib.hid hel
    by_cases hlt : k < l.length
    · obtain ⟨b, o, rfl, hb, hc0, hc1⟩ := hr.at_ k hlt
      have hn := Lib.hid (noRound_any (rd l k) wr)
      unfold rdV at hn
      replace hr := Lib.hid hr
      have hbw := Lib.hid hbw
      by_cases hbad : okR (rd l k) = true
      · have hs := Lib.hid (oks_succ hel.out hbad)
        rw [hbad] at hn
        have hbad := Lib.hid hbad
        go_wp2_with (go_at_call 109; refine hn.out.mono ?_; rintro e w' ⟨rfl, hb1⟩)
        go_roundw
        case rel => exact ⟨k + 1, by omega, by go_num, hs.out, hbw.out.trans (hb1.mono hbw.out.size)⟩
        case measure => simp [intOf]; omega
      · have hw := Lib.hid (show oksB l = false by
          unfold oksB; rw [decide_eq_false]; intro hh
          exact hbad (hh k hlt))
        have hbad : okR (rd l k) = false := by simpa using hbad
        rw [hbad] at hn
        have hbad := Lib.hid hbad
        go_wp2_with (go_at_call 109; refine hn.out.mono ?_; rintro e w' ⟨rfl, hb1⟩)
        go_ret
        exact ⟨k, rfl, (by rw [hw.out]; intro h; cases h), (by intro; omega), by omega, by omega, hbw.out.trans (hb1.mono hbw.out.size)⟩
    · have hk' : k = l.length := by omega
      subst hk'
      have hw := Lib.hid (show oksB l = true from decide_eq_true hel.out)
      replace hbw := Lib.hid hbw
      go_wp2
      go_ret
      exact ⟨-1, rfl, (by intro; rfl), (by rw [hw.out]; intro h; cases h), by omega, by omega, hbw.out⟩

set_option maxHeartbeats 1000000 in
theorem containsNo (B : Nat) (A : Option Addr) (c : Nat) (l : List Rd) (w : World) (h : Rds w B A l) (hB : B ≤ w.heap.size) :
    Calls Try.prog 93 #[.slice A l.length c, .func (Fn.func 109) #[] #[]] w fun e w' => e = .returned (.bool (!oksB l)) ∧ Below w.heap.size w w' := by
  go_enter Try.func93, Try.ntmps93
  go_wp2_with fail
  refine (indexNo B _ _ _ _ h hB).mono ?_
  rintro e w' ⟨x, rfl, h1, h2, h3, h4, hbw⟩
  cases he : oksB l with
  | true =>
    have := h1 he
    subst this
    have he := Lib.hid he
    clear h1 h2
    go_wp2
    go_ret
    exact ⟨ret_bool (by rw [he.out]; rfl), hbw⟩
  | false =>
    have hx := h2 he
    have he := Lib.hid he
    clear h1 h2
    go_wp2
    go_ret
    exact ⟨ret_bool (by rw [he.out]; rfl), hbw⟩

def errR (l : List Rd) (fits : Bool) : Int := if validR l = true then (if fits = true then 0 else 2) else 51
set_option maxHeartbeats 1000000 in
theorem checked_any (B : Nat) (A : Option Addr) (c : Nat) (l : List Rd) (fits : Bool) (w : World) (h : Rds w B A l) (hB : B ≤ w.heap.size) :
    Calls Try.prog 88 #[.slice A l.length c, .bool fits] w fun e w' => e = .returned (.int .i64 (errR l fits)) ∧ Below w.heap.size w w' := by
  have h63 := h.1
  have hN := containsNo B A c l w h hB
  by_cases h1 : 1 ≤ l.length
  · by_cases h6 : l.length ≤ 6
    · cases ho : oksB l with
      | true =>
        have he : errR l fits = if fits = true then 0 else 2 := by unfold errR validR; simp [h1, h6, ho]
        rw [ho] at hN
        replace hN := Lib.hid hN
        cases fits with
        | true =>
          rw [he, if_pos rfl]
          replace he := Lib.hid he
          go_enter Try.func88, Try.ntmps88
          go_wp2_with fail
          refine hN.out.mono ?_
          rintro e w1 ⟨rfl, hb1⟩
          go_wp2
          go_ret
          exact ⟨rfl, hb1⟩
        | false =>
          rw [he, if_neg (by simp)]
          replace he := Lib.hid he
          go_enter Try.func88, Try.ntmps88
          go_wp2_with fail
          refine hN.out.mono ?_
          rintro e w1 ⟨rfl, hb1⟩
          go_wp2
          go_ret
          exact ⟨rfl, hb1⟩
      | false =>
        have he : errR l fits = 51 := by unfold errR validR; simp [h1, h6, ho]
        rw [he]
        rw [ho] at hN
        replace hN := Lib.hid hN
        replace he := Lib.hid he
        go_enter Try.func88, Try.ntmps88
        go_wp2_with fail
        refine hN.out.mono ?_
        rintro e w1 ⟨rfl, hb1⟩
        go_wp2
        go_ret
        exact ⟨rfl, hb1⟩
    · have he : errR l fits = 51 := by unfold errR validR; simp [h6]
      rw [he]
      replace he := Lib.hid he
      replace hN := Lib.hid hN
      go_enter Try.func88, Try.ntmps88
      go_wp2
      go_ret
      exact ⟨rfl, Below.refl _ _⟩
  · have he : errR l fits = 51 := by unfold errR validR; simp [h1]
    rw [he]
    replace he := Lib.hid he
    replace hN := Lib.hid hN
    go_enter Try.func88, Try.ntmps88
    go_wp2
    go_ret
    exact ⟨rfl, Below.refl _ _⟩
end Go.Proofs.Ytlnpnfjdcnijhaa
