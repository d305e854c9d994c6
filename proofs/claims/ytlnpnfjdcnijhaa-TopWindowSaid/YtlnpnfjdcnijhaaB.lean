/-
  Which rounds are valid (the specification); where two rounds meet; where a list of rounds meets; the sanity check.
-/
import Derived.Test.YtlnpnfjdcnijhaaA
namespace Go.Proofs.Ytlnpnfjdcnijhaa
open Go.RowKit Go.Deep M
set_option linter.unusedVariables false
set_option linter.unusedSimpArgs false

set_option maxHeartbeats 1000000 in
theorem AreRounds_ref (B : Nat) (A : Option Addr) (c : Nat) (l : List Rd) (w : World) (h : Rds w B A l) (hB : B ≤ w.heap.size) :
    Calls Try.prog 61 #[.slice A l.length c] w fun e w' => e = .returned (.bool (validR l)) ∧ Below w.heap.size w w' := by
  have h63 := h.1
  go_enter Try.func61, Try.ntmps61
  go_wp2
  go_loopw [7] (fun i wr => ∃ k : Nat, k ≤ l.length ∧ i = .int .i64 k ∧ Oks l k ∧ Below w.heap.size w wr) (fun i _ => l.length - (intOf i).toNat)
  case atStart => exact ⟨0, Nat.zero_le _, rfl, oks_zero _, Below.refl _ _⟩
  case round =>
    obtain ⟨k, hk, rfl, hel, hbw⟩ := hrel
    have hr := h.below (hbw.mono hB)
    have hel := Lib.hid hel
    by_cases hlt : k < l.length
    · obtain ⟨b, o, rfl, hb, hc0, hc1⟩ := hr.at_ k hlt
      have hx := Bx2.new wr (rd l k)
      have d0 := hx.c0
      have d1 := hx.c1
      have hb2 := Lib.hid (hbw.trans ((ba1 wr (.cells #[.int .i64 (rd l k).a, .int .i64 (rd l k).e] 68)).mono hbw.size))
      replace hx := Lib.hid hx
      replace hr := Lib.hid hr
      have hbw := Lib.hid hbw
      by_cases hbad : okR (rd l k) = true
      · have hs := Lib.hid (oks_succ hel.out hbad)
        obtain ⟨⟨g1, g2⟩, g3, g4⟩ := okR_iff.1 hbad
        have hbad := Lib.hid hbad
        go_wp2
        go_roundw
        case rel => exact ⟨k + 1, by omega, by go_num, hs.out, hb2.out⟩
        case measure => simp [intOf]; omega
      · have hw : validR l = false := by
          unfold validR oksB
          rw [decide_eq_false (p := Oks l l.length) (fun hh => hbad (hh k hlt))]; simp
        have hbad : okR (rd l k) = false := by simpa using hbad
        have hnot : ¬ ((1 ≤ (rd l k).e ∧ (rd l k).e ≤ 1000) ∧ 0 ≤ (rd l k).a ∧ (rd l k).a < (rd l k).e) := fun hh => by
          rw [okR_iff.2 hh] at hbad; cases hbad
        replace hw := Lib.hid hw
        have hbad := Lib.hid hbad
        by_cases g1 : (rd l k).e < 1
        · replace hnot := Lib.hid hnot
          go_wp2
          go_ret
          exact ⟨ret_bool hw.out.symm, hb2.out⟩
        by_cases g2 : 1000 < (rd l k).e
        · replace hnot := Lib.hid hnot
          go_wp2
          go_ret
          exact ⟨ret_bool hw.out.symm, hb2.out⟩
        by_cases g3 : (rd l k).a < 0
        · replace hnot := Lib.hid hnot
          go_wp2
          go_ret
          exact ⟨ret_bool hw.out.symm, hb2.out⟩
        · have g4 : (rd l k).e ≤ (rd l k).a := by omega
          replace hnot := Lib.hid hnot
          go_wp2
          go_ret
          exact ⟨ret_bool hw.out.symm, hb2.out⟩
    · have hk' : k = l.length := by omega
      subst hk'
      have hw := Lib.hid (show oksB l = true from decide_eq_true hel.out)
      replace hbw := Lib.hid hbw
      by_cases h1 : 1 ≤ l.length
      · by_cases h6 : l.length ≤ 6
        · go_wp2
          go_ret
          exact ⟨ret_bool (by unfold validR; rw [hw.out]; simp [h1, h6] <;> (intros; omega)), hbw.out⟩
        · go_wp2
          go_ret
          exact ⟨ret_bool (by unfold validR; simp [h6] <;> (intros; omega)), hbw.out⟩
      · go_wp2
        go_ret
        exact ⟨ret_bool (by unfold validR; simp [h1]), hbw.out⟩

/-! ### where two rounds meet -/
/-- What meeting says. -/
def meetV (A M b n : Nat) : Value :=
  match fstK A M b n with
  | some k => .tuple #[.agg #[.int .i64 ((A + k * M : Nat) : Int), .int .i64 ((mulN M n : Nat) : Int)], .bool true]
  | none => .tuple #[.agg #[.int .i64 0, .int .i64 0], .bool false]

/-- The world in which meeting runs. -/
structure MtW (w : World) (A M b n : Nat) (X : World) : Prop where
  below : Below w.heap.size w X
  x1 : Bx2 X w.heap.size ⟨A, M⟩
  x2 : Bx2 X (w.heap.size + 1) ⟨b, n⟩
  x3 : Bx2 X (w.heap.size + 1 + 1) ⟨0, 0⟩
theorem MtW.up {w X Y : World} {A M b n : Nat} (h : MtW w A M b n X) (hb : Below X.heap.size X Y) : MtW w A M b n Y := ⟨h.below.trans (hb.mono h.below.size), h.x1.up hb, h.x2.up hb, h.x3.up hb⟩
theorem mt_new (w : World) (A M b n : Nat) : MtW w A M b n (((w.alloc (.cells #[.int .i64 (A : Int), .int .i64 (M : Int)] 68)).alloc (.cells #[.int .i64 (b : Int), .int .i64 (n : Int)] 68)).alloc (.cells #[.int .i64 0, .int .i64 0] 68)) := by
  have hb1 := ba1 w (.cells #[.int .i64 (A : Int), .int .i64 (M : Int)] 68)
  have hb2 := hb1.trans ((ba1 (w.alloc (.cells #[.int .i64 (A : Int), .int .i64 (M : Int)] 68)) (.cells #[.int .i64 (b : Int), .int .i64 (n : Int)] 68)).mono hb1.size)
  refine ⟨hb2.trans ((ba1 _ _).mono hb2.size), ((Bx2.new w ⟨A, M⟩).up (ba1 _ _)).up (ba1 _ _), ?_, ?_⟩
  · have := (Bx2.new (w.alloc (.cells #[.int .i64 (A : Int), .int .i64 (M : Int)] 68)) ⟨b, n⟩).up (ba1 _ (.cells #[.int .i64 0, .int .i64 0] 68))
    rwa [show (w.alloc (.cells #[.int .i64 (A : Int), .int .i64 (M : Int)] 68)).heap.size = w.heap.size + 1 by simp] at this
  · have := Bx2.new ((w.alloc (.cells #[.int .i64 (A : Int), .int .i64 (M : Int)] 68)).alloc (.cells #[.int .i64 (b : Int), .int .i64 (n : Int)] 68)) ⟨0, 0⟩
    rwa [show ((w.alloc (.cells #[.int .i64 (A : Int), .int .i64 (M : Int)] 68)).alloc (.cells #[.int .i64 (b : Int), .int .i64 (n : Int)] 68)).heap.size = w.heap.size + 1 + 1 by simp] at this
theorem hit_cast (A M b n k : Nat) : ((((A + k * M : Nat) : Int)) % ((n : Nat) : Int) == ((b : Nat) : Int)) = hitB A M b n k := by
  unfold hitB
  rw [show (((A + k * M : Nat) : Int)) % ((n : Nat) : Int) = (((A + k * M) % n : Nat) : Int) from rfl, Bool.eq_iff_iff]
  simp only [beq_iff_eq]
  omega
theorem le2 (a : Nat) : a ≤ a + 1 + 1 := by omega
theorem next_at (A M k : Nat) : A + (k + 1) * M = A + k * M + M := by rw [Nat.add_mul, Nat.one_mul, Nat.add_assoc]

set_option maxRecDepth 100000 in
set_option maxHeartbeats 2000000 in
theorem meeting_any (A M b n : Nat) (w : World) (hA : A < M) (hM : M * 1000 ≤ 1000000000000000000) (hn : 1 ≤ n ∧ n ≤ 1000) (hb : b < n) :
    Calls Try.prog 89 #[.agg #[.int .i64 (A : Int), .int .i64 (M : Int)], .agg #[.int .i64 (b : Int), .int .i64 (n : Int)]] w fun e w' => e = .returned (meetV A M b n) ∧ Below w.heap.size w w' := by
  have hM1 : 1 ≤ M := by omega
  obtain ⟨top, htop⟩ : ∃ top : Nat, top = 1000000000000000000 := ⟨_, rfl⟩
  have hMt : M ≤ top := by omega
  have hLM : mulN M n ≤ top := Nat.le_trans (mulN_le M n) (Nat.le_trans (Nat.mul_le_mul_left _ hn.2) (by omega))
  have ht9 : top + top ≤ 9223372036854775807 := by omega
  have hmn : M * n ≤ 9223372036854775807 := Nat.le_trans (Nat.mul_le_mul_left _ hn.2) (by omega)
  have ht1 : 1000 ≤ top := by omega
  clear htop hM
  have hat : ∀ k, A + k * M < mulN M n ↔ k < n / Nat.gcd M n := fun k => at_lt hA hM1
  have hql := q_le M n
  have hno : ∀ k, (∀ j, j < k → hitB A M b n j = false) → k = n / Nat.gcd M n → meetV A M b n = .tuple #[.agg #[.int .i64 0, .int .i64 0], .bool false] := fun k h hk => by
    have : fstK A M b n = none := fstK_none fun j _ => no_hit hM1 hn.1 (by rw [← hk]; exact h) j
    unfold meetV; rw [this]
  have hyes : ∀ k, (∀ j, j < k → hitB A M b n j = false) → k < n → hitB A M b n k = true → meetV A M b n = .tuple #[.agg #[.int .i64 ((A + k * M : Nat) : Int), .int .i64 ((mulN M n : Nat) : Int)], .bool true] := fun k h hk hh => by
    unfold meetV; rw [fstK_some hk hh h]
  generalize meetV A M b n = R at *
  have hm := multiple_any M n top (((w.alloc (.cells #[.int .i64 (A : Int), .int .i64 (M : Int)] 68)).alloc (.cells #[.int .i64 (b : Int), .int .i64 (n : Int)] 68)).alloc (.cells #[.int .i64 0, .int .i64 0] 68)) ⟨hM1, hMt⟩ (by omega) hmn (by omega)
  have hW := mt_new w A M b n
  have c0 := hW.x1.c0
  have c1 := hW.x1.c1
  have d0 := hW.x2.c0
  have d1 := hW.x2.c1
  simp only [] at c0 c1 d0 d1
  generalize mulN M n = L at *
  obtain ⟨hn1, hn2⟩ := hn
  generalize n / Nat.gcd M n = Q at *
  replace hm := Lib.hid hm
  replace hW := Lib.hid hW
  replace hno := Lib.hid hno
  replace hyes := Lib.hid hyes
  replace hat := Lib.hid hat
  go_enter Try.func89, Try.ntmps89
  go_wp2_with fail
  refine hm.out.mono ?_
  rintro e w1 ⟨rfl, q, hq⟩
  have hW1 : MtW w A M b n w1 := ⟨by rw [hq]; exact below_drewN hW.out.below q, by rw [hq]; exact hW.out.x1, by rw [hq]; exact hW.out.x2, by rw [hq]; exact hW.out.x3⟩
  have f0 := hW1.x1.c0
  have f1 := hW1.x1.c1
  simp only [] at f0 f1
  replace hW1 := Lib.hid hW1
  clear hq hW hm c0 c1 d0 d1
  go_wp2
  go_loopw [7] (fun v wr => ∃ k, k ≤ Q ∧ v = .int .i64 ((A + k * M : Nat) : Int) ∧ (∀ j, j < k → hitB A M b n j = false) ∧ MtW w A M b n wr) (fun v _ => top + top - (intOf v).toNat)
  case atStart => exact ⟨0, Nat.zero_le _, by simp, fun j hj => absurd hj (Nat.not_lt_zero _), hW1.out⟩
  case round =>
    obtain ⟨k, hk, rfl, hj, hw⟩ := hrel
    clear f0 f1
    have f0 := hw.x1.c0
    have f1 := hw.x1.c1
    have g0 := hw.x2.c0
    have g1 := hw.x2.c1
    simp only [] at f0 f1 g0 g1
    have hatk := hat.out k
    have hcast := hit_cast A M b n k
    have hnx := next_at A M k
    have hyk := hyes.out k hj
    have hnk := hno.out k hj
    have hx3 := hw.x3
    have hz0 := hx3.fz 0
    have hz1 := hx3.fz 1
    have hlt3 := hx3.lt
    obtain ⟨p, hp⟩ : ∃ p, p = A + k * M := ⟨_, rfl⟩
    have hp' := Lib.hid hp
    rw [← hp] at hatk hcast hnx hyk ⊢
    clear hp
    by_cases hlt : k < Q
    · have hpL := hatk.2 hlt
      have hin := isIn_any ⟨b, n⟩ p wr (by simp only []; omega) (by omega) (by simp only []; omega)
      unfold rdV at hin
      simp only [] at hin
      rw [hcast] at hin
      cases hh : hitB A M b n k with
      | true =>
        rw [hh] at hin
        have hR := hyk (by omega) hh
        replace hin := Lib.hid hin
        replace hh := Lib.hid hh
        replace hR := Lib.hid hR
        replace hj := Lib.hid hj
        replace hw := Lib.hid hw
        replace hx3 := Lib.hid hx3
        replace hyk := Lib.hid hyk
        replace hnk := Lib.hid hnk
        replace hcast := Lib.hid hcast
        replace hnx := Lib.hid hnx
        replace hatk := Lib.hid hatk
        go_wp2_with fail
        refine hin.out.mono ?_
        rintro e w2 ⟨rfl, hb2⟩
        have hw2 := hw.out.up hb2
        have z0 := hw2.x3.fz 0
        have z1 := hw2.x3.fz 1
        have z2 := hw2.x3.c0
        have z3 := hw2.x3.c1
        have z4 := hw2.x3.lt
        have hy := hw2.x3.set ⟨p, L⟩
        have y0 := hy.c0
        have y1 := hy.c1
        simp only [] at y0 y1 z2 z3
        replace hw2 := Lib.hid hw2
        replace hy := Lib.hid hy
        go_wp2
        exact bodyPost_ret (v := .tuple #[.agg #[.int .i64 p, .int .i64 L], .bool true]) (by simp [results, Try.results89, go_sem, y0, y1]) rfl ⟨by rw [hR.out], ((hw2.out.below).setCell (le2 _) _).setCell (le2 _) _⟩
      | false =>
        rw [hh] at hin
        have hs : ∀ j, j < k + 1 → hitB A M b n j = false := fun j hj' => by
          rcases Nat.lt_succ_iff_lt_or_eq.1 hj' with h' | rfl
          · exact hj j h'
          · exact hh
        replace hs := Lib.hid hs
        replace hin := Lib.hid hin
        replace hh := Lib.hid hh
        replace hj := Lib.hid hj
        replace hw := Lib.hid hw
        replace hx3 := Lib.hid hx3
        replace hyk := Lib.hid hyk
        replace hnk := Lib.hid hnk
        replace hcast := Lib.hid hcast
        replace hnx := Lib.hid hnx
        replace hatk := Lib.hid hatk
        go_wp2_with (go_at_call 95; refine hin.out.mono ?_; rintro e w2 ⟨rfl, hb2⟩
                     have hw2 := hw.out.up hb2
                     have e0 := hw2.x1.c0
                     have e1 := hw2.x1.c1
                     simp only [] at e0 e1
                     replace hw2 := Lib.hid hw2)
        go_roundw
        case rel => exact ⟨k + 1, by omega, by rw [hnx.out]; go_num, hs.out, hw2.out⟩
        case measure => simp [intOf]; omega
    · have hpL : L ≤ p := by
        rcases Nat.lt_or_ge p L with h' | h'
        · exact absurd (hatk.1 h') hlt
        · exact h'
      have hR := hnk (by omega)
      replace hR := Lib.hid hR
      replace hj := Lib.hid hj
      replace hyk := Lib.hid hyk
      replace hnk := Lib.hid hnk
      replace hcast := Lib.hid hcast
      replace hnx := Lib.hid hnx
      replace hatk := Lib.hid hatk
      have hy := hx3.set ⟨0, 0⟩
      have y0 := hy.c0
      have y1 := hy.c1
      have z2 := hx3.c0
      have z3 := hx3.c1
      simp only [] at y0 y1 z2 z3
      replace hw := Lib.hid hw
      replace hx3 := Lib.hid hx3
      replace hy := Lib.hid hy
      go_wp2
      exact bodyPost_ret (v := .tuple #[.agg #[.int .i64 0, .int .i64 0], .bool false]) (by simp [results, Try.results89, go_sem, y0, y1]) rfl ⟨by rw [hR.out], ((hw.out.below).setCell (le2 _) _).setCell (le2 _) _⟩
end Go.Proofs.Ytlnpnfjdcnijhaa
