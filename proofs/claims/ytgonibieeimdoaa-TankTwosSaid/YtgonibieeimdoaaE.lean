/-
  Which deeds there are (the specification's function); whether two lists are the same; the next deed of two tanks.
-/
import Derived.Test.YtgonibieeimdoaaB
import Derived.Laws.StructEq
namespace Go.Proofs.Ytgonibieeimdoaa
open Go.RowKit Go.Deep M
set_option linter.unusedVariables false
set_option linter.unusedSimpArgs false

/-! ### are two deeds the same -/
def e3 (a0 a1 a2 b0 b1 b2 : Int) : Bool := decide (a0 = b0 ∧ a1 = b1 ∧ a2 = b2)
theorem e3_iff (x y : Dd) : e3 x.d x.f x.t y.d y.f y.t = decide (x = y) := by
  unfold e3
  obtain ⟨a, b, c⟩ := x
  obtain ⟨a', b', c'⟩ := y
  simp
set_option maxRecDepth 10000 in
theorem run_eq3 (w : World) (a0 a1 a2 b0 b1 b2 : Int) :
    (Op.equalIn 10000 24 (.agg #[.int .i64 a0, .int .i64 a1, .int .i64 a2]) (.agg #[.int .i64 b0, .int .i64 b1, .int .i64 b2])).run Try.prog w = .ok (e3 a0 a1 a2 b0 b1 b2) w := by
  unfold e3
  have q : ∀ a b : Int, (Op.equalIn 9999 3 (.int .i64 a) (.int .i64 b)).run Try.prog w = .ok (a == b) w := fun a b => run_equalIn_int w 9998 3 .i64 .i64 a b Try.underlying3
  have p : ∀ (xs : Array Value) (k : Nat) (v : Value), xs[k]? = some v → (part 3 xs k).run Try.prog w = .ok v w := fun xs k v h => run_part_plain (P := Try.prog) (e := 3) w (by kernel_rfl) h
  have p0 : ∀ (v0 v1 v2 : Value), (part 3 #[v0, v1, v2] 0).run Try.prog w = .ok v0 w := fun _ _ _ => p _ 0 _ rfl
  have p1 : ∀ (v0 v1 v2 : Value), (part 3 #[v0, v1, v2] 1).run Try.prog w = .ok v1 w := fun _ _ _ => p _ 1 _ rfl
  have p2 : ∀ (v0 v1 v2 : Value), (part 3 #[v0, v1, v2] 2).run Try.prog w = .ok v2 w := fun _ _ _ => p _ 2 _ rfl
  have hf : ∃ n0 n1 n2 : String, (Try.prog.fieldsOf 24).toList.map (fun f => (f.name, f.type, f.offset)) = [(n0, 3, 0), (n1, 3, 1), (n2, 3, 2)] ∧ n0 ≠ "_" ∧ n1 ≠ "_" ∧ n2 ≠ "_" :=
    ⟨"Do", "From", "To", by kernel_rfl, by decide, by decide, by decide⟩
  obtain ⟨n0, n1, n2, hm, h0, h1, h2⟩ := hf
  have hl : (Try.prog.fieldsOf 24).toList.length = 3 := by have := congrArg List.length hm; simpa using this
  rw [run_equalIn_struct (P := Try.prog) w 9999 24 _ _ (by kernel_rfl) (by kernel_rfl)]
  generalize (Try.prog.fieldsOf 24).toList = fs at *
  match fs, hl with
  | [f0, f1, f2], _ =>
    simp only [List.map_cons, List.map_nil, List.cons.injEq, Prod.mk.injEq, and_true] at hm
    obtain ⟨⟨m1, m2, m3⟩, ⟨m4, m5, m6⟩, m7, m8, m9⟩ := hm
    simp only [Op.eqFields, m1, m2, m3, m4, m5, m6, m7, m8, m9, h0, h1, h2, ne_eq, not_false_eq_true, if_true, Sem.run_bind, p0, p1, p2, q, Result.andThen_ok]
    by_cases g0 : a0 = b0 <;> by_cases g1 : a1 = b1 <;> by_cases g2 : a2 = b2 <;> simp [g0, g1, g2, p0, p1, p2, q, go_sem]

/-! ### which deeds there are -/
set_option maxHeartbeats 2000000 in
theorem IsDeed_ref (B : Nat) (A : Option Addr) (c : Nat) (n : Nat) (x : Dd) (w : World) (hn : n ≤ 9223372036854775807) :
    Calls Try.prog 90 #[.slice A n c, .agg #[.int .i64 x.d, .int .i64 x.f, .int .i64 x.t]] w fun e w' => e = .returned (.bool (isDB n x)) ∧ Below w.heap.size w w' := by
  have hR : isDB n x = (inB 0 x.t ((n : Int) - 1) && (if (decide (x.d = 1) || decide (x.d = 2)) = true then decide (x.f = 0) else (decide (x.d = 3) && inB 0 x.f ((n : Int) - 1) && !decide (x.f = x.t)))) := by
    unfold isDB isD inB
    rw [Bool.eq_iff_iff]
    by_cases h1 : x.d = 1 <;> by_cases h2 : x.d = 2 <;> by_cases h3 : x.d = 3 <;> simp [h1, h2, h3] <;> omega
  obtain ⟨d, f, t⟩ := x
  simp only at *
  generalize isDB n ⟨d, f, t⟩ = R at *
  replace hR := Lib.hid hR
  cases h1 : inB 0 t ((n : Int) - 1) with
  | false =>
    have h1 := Lib.hid h1
    go_enter Try.func90, Try.ntmps90
    go_wp2_with fail
    refine (within_any _ _ _ _).mono ?_
    rintro e w1 ⟨rfl, rfl⟩
    rw [h1.out]
    go_wp2
    go_ret
    exact ⟨ret_bool (hR.out.trans (by rw [h1.out]; rfl)).symm, (Below.refl _ _).alloc (Nat.le_refl _) _⟩
  | true =>
    have h1 := Lib.hid h1
    by_cases d1 : d = 1
    · subst d1
      by_cases f0 : f = 0
      · subst f0
        go_enter Try.func90, Try.ntmps90
        go_wp2_with fail
        refine (within_any _ _ _ _).mono ?_
        rintro e w1 ⟨rfl, rfl⟩
        rw [h1.out]
        go_wp2
        go_ret
        exact ⟨ret_bool (hR.out.trans (by rw [h1.out]; rfl)).symm, (Below.refl _ _).alloc (Nat.le_refl _) _⟩
      · have f0' : (f == 0) = false := by simpa using f0
        have f0 := Lib.hid f0
        go_enter Try.func90, Try.ntmps90
        go_wp2_with fail
        refine (within_any _ _ _ _).mono ?_
        rintro e w1 ⟨rfl, rfl⟩
        rw [h1.out]
        go_wp2
        go_ret
        exact ⟨ret_bool (hR.out.trans (by rw [h1.out]; simp [f0.out])).symm, (Below.refl _ _).alloc (Nat.le_refl _) _⟩
    by_cases d2 : d = 2
    · subst d2
      by_cases f0 : f = 0
      · subst f0
        go_enter Try.func90, Try.ntmps90
        go_wp2_with fail
        refine (within_any _ _ _ _).mono ?_
        rintro e w1 ⟨rfl, rfl⟩
        rw [h1.out]
        go_wp2
        go_ret
        exact ⟨ret_bool (hR.out.trans (by rw [h1.out]; rfl)).symm, (Below.refl _ _).alloc (Nat.le_refl _) _⟩
      · have f0' : (f == 0) = false := by simpa using f0
        have f0 := Lib.hid f0
        go_enter Try.func90, Try.ntmps90
        go_wp2_with fail
        refine (within_any _ _ _ _).mono ?_
        rintro e w1 ⟨rfl, rfl⟩
        rw [h1.out]
        go_wp2
        go_ret
        exact ⟨ret_bool (hR.out.trans (by rw [h1.out]; simp [f0.out])).symm, (Below.refl _ _).alloc (Nat.le_refl _) _⟩
    by_cases d3 : d = 3
    · subst d3
      cases h2 : inB 0 f ((n : Int) - 1) with
      | false =>
        have h2 := Lib.hid h2
        go_enter Try.func90, Try.ntmps90
        go_wp2_with fail
        refine (within_any _ _ _ _).mono ?_
        rintro e w1 ⟨rfl, rfl⟩
        rw [h1.out]
        go_wp2_with fail
        refine (within_any _ _ _ _).mono ?_
        rintro e w1 ⟨rfl, rfl⟩
        rw [h2.out]
        go_wp2
        go_ret
        exact ⟨ret_bool (hR.out.trans (by rw [h1.out, h2.out]; rfl)).symm, (Below.refl _ _).alloc (Nat.le_refl _) _⟩
      | true =>
        have h2 := Lib.hid h2
        by_cases hft : f = t
        · subst hft
          go_enter Try.func90, Try.ntmps90
          go_wp2_with fail
          refine (within_any _ _ _ _).mono ?_
          rintro e w1 ⟨rfl, rfl⟩
          rw [h1.out]
          go_wp2_with fail
          refine (within_any _ _ _ _).mono ?_
          rintro e w1 ⟨rfl, rfl⟩
          rw [h2.out]
          go_wp2
          go_ret
          exact ⟨ret_bool (hR.out.trans (by rw [h1.out]; simp)).symm, (Below.refl _ _).alloc (Nat.le_refl _) _⟩
        · have f0' : (f != t) = true := by simpa using hft
          have f0 := Lib.hid hft
          go_enter Try.func90, Try.ntmps90
          go_wp2_with fail
          refine (within_any _ _ _ _).mono ?_
          rintro e w1 ⟨rfl, rfl⟩
          rw [h1.out]
          go_wp2_with fail
          refine (within_any _ _ _ _).mono ?_
          rintro e w1 ⟨rfl, rfl⟩
          rw [h2.out]
          go_wp2
          go_ret
          exact ⟨ret_bool (hR.out.trans (by rw [h1.out, h2.out]; simp [f0.out])).symm, (Below.refl _ _).alloc (Nat.le_refl _) _⟩
    · have e1 : (d == 1) = false := by simpa using d1
      have e2 : (d == 2) = false := by simpa using d2
      have e3 : (d == 3) = false := by simpa using d3
      have g1 := Lib.hid d1
      have g2 := Lib.hid d2
      have g3 := Lib.hid d3
      go_enter Try.func90, Try.ntmps90
      go_wp2_with fail
      refine (within_any _ _ _ _).mono ?_
      rintro e w1 ⟨rfl, rfl⟩
      rw [h1.out]
      go_wp2
      go_ret
      exact ⟨ret_bool (hR.out.trans (by rw [h1.out]; simp [g1.out, g2.out, g3.out])).symm, (Below.refl _ _).alloc (Nat.le_refl _) _⟩

/-! ### lists that are the same -/
def sameI (a b : List Int) : Bool := decide (a = b)
set_option maxHeartbeats 2000000 in
theorem SameInts_any (B : Nat) (A A' : Option Addr) (c c' : Nat) (a b : List Int) (w : World) (h : Row w B A a) (h' : Row w B A' b) :
    Calls Try.prog 23 #[.slice A a.length c, .slice A' b.length c'] w fun e w' => e = .returned (.bool (decide (a = b))) ∧ ∃ n, w' = w.drewN n := by
  have h63 := h.1
  have h63' := h'.1
  by_cases hl : a.length = b.length
  · have hl1 : ((a.length : Int) != (b.length : Int)) = false := by simp; omega
    go_enter Try.func23, Try.ntmps23
    go_wp2
    go_loopw [5] (fun i wr => ∃ k n : Nat, k ≤ a.length ∧ i = .int .i64 k ∧ (∀ j, j < k → el a j = el b j) ∧ wr = w.drewN n) (fun i _ => a.length - (intOf i).toNat)
    case atStart => exact ⟨0, 0, Nat.zero_le _, rfl, fun j hj => absurd hj (Nat.not_lt_zero _), rfl⟩
    case round =>
      obtain ⟨k, n, hk, rfl, hel, hw0⟩ := hrel
      have hr : Row wr B A a := h.keep fun p _ => by rw [hw0]; rfl
      have hr' : Row wr B A' b := h'.keep fun p _ => by rw [hw0]; rfl
      replace hw0 := Lib.hid hw0
      replace hel := Lib.hid hel
      by_cases hlt : k < a.length
      · obtain ⟨b1, o, rfl, hb, hc⟩ := hr.at_ k hlt
        obtain ⟨b2, o', rfl, hb', hc'⟩ := hr'.at_ k (by omega)
        by_cases he : el a k = el b k
        · have hs : ∀ j, j < k + 1 → el a j = el b j := fun j hj => by
            rcases Nat.lt_succ_iff_lt_or_eq.1 hj with h' | rfl
            · exact hel.out j h'
            · exact he
          replace hs := Lib.hid hs
          have he' : (el a k != el b k) = false := by simp [he]
          replace he := Lib.hid he
          have hkb : (k : Int) < (b.length : Int) := by omega
          go_wp2_with fail
          go_quiet (fail)
          go_wp2
          go_roundw
          case rel => exact ⟨k + 1, n + nq, by omega, by go_num, hs.out, by rw [hw0.out, World.drewN_drewN]⟩
          case measure => simp [intOf]; omega
        · have he' : (el a k != el b k) = true := by simp [he]
          have hd := Lib.hid (decide_eq_false (fun g => he (by rw [g])) : decide (a = b) = false)
          have hkb : (k : Int) < (b.length : Int) := by omega
          go_wp2_with fail
          go_quiet (fail)
          go_wp2
          go_ret
          exact ⟨ret_bool hd.out.symm, n + nq, by rw [hw0.out, World.drewN_drewN]⟩
      · have hk' : k = a.length := by omega
        subst hk'
        have hd := Lib.hid (decide_eq_true (ints_ext hl hel.out) : decide (a = b) = true)
        go_wp2
        go_ret
        exact ⟨ret_bool hd.out.symm, n, hw0.out⟩
  · have hl1 : ((a.length : Int) != (b.length : Int)) = true := by simp; omega
    have hd := Lib.hid (decide_eq_false (fun g => hl (by rw [g])) : decide (a = b) = false)
    go_enter Try.func23, Try.ntmps23
    go_wp2
    go_ret
    exact ⟨ret_bool hd.out.symm, 0, rfl⟩

theorem run_neq3 (w : World) (a0 a1 a2 b0 b1 b2 : Int) : (binOp .neq 24 (.agg #[.int .i64 a0, .int .i64 a1, .int .i64 a2]) (.agg #[.int .i64 b0, .int .i64 b1, .int .i64 b2])).run Try.prog w = .ok (.bool (!e3 a0 a1 a2 b0 b1 b2)) w := by
  rw [run_neq_struct, run_eq3]; rfl
theorem run_eql3 (w : World) (a0 a1 a2 b0 b1 b2 : Int) : (binOp .eql 24 (.agg #[.int .i64 a0, .int .i64 a1, .int .i64 a2]) (.agg #[.int .i64 b0, .int .i64 b1, .int .i64 b2])).run Try.prog w = .ok (.bool (e3 a0 a1 a2 b0 b1 b2)) w := by
  rw [run_eql_struct, run_eq3]; rfl
attribute [local go_sem high] run_neq3 run_eql3
set_option maxHeartbeats 2000000 in
theorem SameDeeds_any (B : Nat) (A A' : Option Addr) (c c' : Nat) (a b : List Dd) (w : World) (h : Dls w B A a) (h' : Dls w B A' b) :
    Calls Try.prog 36 #[.slice A a.length c, .slice A' b.length c'] w fun e w' => e = .returned (.bool (decide (a = b))) ∧ ∃ n, w' = w.drewN n := by
  have h63 := h.1
  have h63' := h'.1
  by_cases hl : a.length = b.length
  · have hl1 : ((a.length : Int) != (b.length : Int)) = false := by simp; omega
    go_enter Try.func36, Try.ntmps36
    go_wp2
    go_loopw [5] (fun i wr => ∃ k n : Nat, k ≤ a.length ∧ i = .int .i64 k ∧ (∀ j, j < k → dd a j = dd b j) ∧ wr = w.drewN n) (fun i _ => a.length - (intOf i).toNat)
    case atStart => exact ⟨0, 0, Nat.zero_le _, rfl, fun j hj => absurd hj (Nat.not_lt_zero _), rfl⟩
    case round =>
      obtain ⟨k, n, hk, rfl, hel, hw0⟩ := hrel
      have hr : Dls wr B A a := h.keep fun p _ => by rw [hw0]; rfl
      have hr' : Dls wr B A' b := h'.keep fun p _ => by rw [hw0]; rfl
      replace hw0 := Lib.hid hw0
      replace hel := Lib.hid hel
      by_cases hlt : k < a.length
      · obtain ⟨b1, o, rfl, hb, hc0, hc1, hc2⟩ := hr.at_ k hlt
        obtain ⟨b2, o', rfl, hb', hc0', hc1', hc2'⟩ := hr'.at_ k (by omega)
        have hkb : (k : Int) < (b.length : Int) := by omega
        have hka : (k : Int) < (a.length : Int) := by omega
        have h3 := e3_iff (dd a k) (dd b k)
        by_cases he : dd a k = dd b k
        · have hs : ∀ j, j < k + 1 → dd a j = dd b j := fun j hj => by
            rcases Nat.lt_succ_iff_lt_or_eq.1 hj with h' | rfl
            · exact hel.out j h'
            · exact he
          replace hs := Lib.hid hs
          rw [decide_eq_true he] at h3
          replace he := Lib.hid he
          go_wp2_with fail
          go_quiet (fail)
          go_wp2
          go_roundw
          case rel => exact ⟨k + 1, n + nq, by omega, by go_num, hs.out, by rw [hw0.out, World.drewN_drewN]⟩
          case measure => simp [intOf]; omega
        · rw [decide_eq_false he] at h3
          have hd := Lib.hid (decide_eq_false (fun g => he (by rw [g])) : decide (a = b) = false)
          go_wp2_with fail
          go_quiet (fail)
          go_wp2
          go_ret
          exact ⟨ret_bool hd.out.symm, n + nq, by rw [hw0.out, World.drewN_drewN]⟩
      · have hk' : k = a.length := by omega
        subst hk'
        have hd := Lib.hid (decide_eq_true (dds_ext hl hel.out) : decide (a = b) = true)
        go_wp2
        go_ret
        exact ⟨ret_bool hd.out.symm, n, hw0.out⟩
  · have hl1 : ((a.length : Int) != (b.length : Int)) = true := by simp; omega
    have hd := Lib.hid (decide_eq_false (fun g => hl (by rw [g])) : decide (a = b) = false)
    go_enter Try.func36, Try.ntmps36
    go_wp2
    go_ret
    exact ⟨ret_bool hd.out.symm, 0, rfl⟩
end Go.Proofs.Ytgonibieeimdoaa
