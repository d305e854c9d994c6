/-
  One garment: the specification's function; the law's sanity.
-/
import Derived.Test.YthleekdkbgnabaaC
namespace Go.Proofs.Ythleekdkbgnabaa
open Go.RowKit Go.Deep M
set_option linter.unusedVariables false
set_option linter.unusedSimpArgs false

set_option maxRecDepth 100000 in
set_option maxHeartbeats 4000000 in
theorem Garment_ref (a b e : Int) (w : World) : Calls Try.prog 35 #[.int .i64 a, .int .i64 b, .int .i64 e] w fun r w' => r = .returned (.tuple #[rtV (gaX a b e), rtV (gaY a b e), .int .i64 (gaE a b e)]) ∧ Below w.heap.size w w' := by
  have kb := fun x => Lib.hid (fun X => within_any 0 x 1000 X)
  have ke := Lib.hid (fun X => within_any 0 e (a + b) X)
  have hT := Two.new w ⟨0, 0⟩ ⟨0, 0⟩
  simp only at hT
  unfold gaX gaY gaE
  by_cases hok : gaOk a b e
  · rw [if_pos hok, if_pos hok, if_pos hok]
    have hok' := gaOk_comm hok
    have b1 := tgR_b hok
    have b2 := tgR_b hok'
    obtain ⟨oa, ob, oe, os⟩ := hok
    unfold okC at oa ob
    have da : decide (0 ≤ a ∧ a ≤ 1000) = true := by simp; omega
    have db : decide (0 ≤ b ∧ b ≤ 1000) = true := by simp; omega
    have de : decide (0 ≤ e ∧ e ≤ a + b) = true := by simp; omega
    have ka := (kb a).out
    have kbb := (kb b).out
    have kee := ke.out
    rw [da] at ka
    rw [db] at kbb
    rw [de] at kee
    have k3 : ∀ X p, p = tgR a b e → _ := fun X p hp => Ratio_ref p 2 X (by omega) (by omega)
    have k4 : ∀ X p, p = tgR b a e → _ := fun X p hp => Ratio_ref p 2 X (by omega) (by omega)
    have t1 : tgR a b e = 2 * max 0 (e - b) + (e - max 0 (e - b) - max 0 (e - a)) := rfl
    have t2 : tgR b a e = 2 * max 0 (e - a) + (e - max 0 (e - a) - max 0 (e - b)) := rfl
    unfold rtV at *
    generalize tgR a b e = p at *
    generalize tgR b a e = q at *
    have w1 : IntKind.i64.wrap (a + b) = a + b := IntWalk.i64_in _ (by omega)
    obtain ⟨P, hP⟩ : ∃ P, P = mk p 2 := ⟨_, rfl⟩
    obtain ⟨Q, hQ⟩ : ∃ Q, Q = mk q 2 := ⟨_, rfl⟩
    rw [← hP, ← hQ]
    replace hP := Lib.hid hP
    replace hQ := Lib.hid hQ
    obtain ⟨Y, hY⟩ : ∃ Y, Y = (w.alloc (.cells #[.int .i64 0, .int .i64 0] 37)).alloc (.cells #[.int .i64 0, .int .i64 0] 37) := ⟨_, rfl⟩
    rw [← hY] at hT
    replace ka := Lib.hid ka
    replace kbb := Lib.hid kbb
    replace kee := Lib.hid kee
    replace k3 := Lib.hid k3
    replace k4 := Lib.hid k4
    replace hT := Lib.hid hT
    replace hY := Lib.hid hY
    replace b1 := Lib.hid b1
    replace b2 := Lib.hid b2
    replace t1 := Lib.hid t1
    replace t2 := Lib.hid t2
    replace hok' := Lib.hid hok'
    clear kb ke
    rcases Int.lt_or_le (e - b) 0 with h1 | h1
    all_goals rcases Int.lt_or_le (e - a) 0 with h2 | h2
    all_goals
      go_enter Try.func35, Try.ntmps35
      go_wp2_with fail
      rw [← hY.out]
      refine (ka.out _).mono ?_
      rintro _ X ⟨rfl, rfl⟩
      go_wp2_with fail
      refine (kbb.out _).mono ?_
      rintro _ X ⟨rfl, rfl⟩
      go_wp2_with fail
      refine (kee.out _).mono ?_
      rintro _ X ⟨rfl, rfl⟩
      go_wp2_with fail
      refine (k3.out _ _ (by have := t1.out; omega)).mono ?_
      rintro _ X1 ⟨rfl, hb1⟩
      have hT1 := hT.out.up hb1
      rw [show (mk _ 2) = P from (congrArg (fun z => mk z 2) (by have := t1.out; omega)).trans hP.out.symm]
      go_wp2_with fail
      refine (k4.out _ _ (by have := t2.out; omega)).mono ?_
      rintro _ X2 ⟨rfl, hb2⟩
      have hT2 := hT1.up hb2
      rw [show (mk _ 2) = Q from (congrArg (fun z => mk z 2) (by have := t2.out; omega)).trans hQ.out.symm]
      have c0 := hT2.a.c0
      have c1 := hT2.a.c1
      have f0 := hT2.a.fz 0
      have f1 := hT2.a.fz 1
      have hT3 := hT2.seta P
      have d0 := hT3.b.c0
      have d1 := hT3.b.c1
      have g0 := hT3.b.fz 0
      have g1 := hT3.b.fz 1
      have l0 := hT2.a.lt
      have l1 := hT2.b.lt
      have l2 := hT3.b.lt
      have hT4 := hT3.setb Q
      have a0 := hT4.a.c0
      have a1 := hT4.a.c1
      have a2 := hT4.b.c0
      have a3 := hT4.b.c1
      replace hT1 := Lib.hid hT1
      replace hT2 := Lib.hid hT2
      replace hT3 := Lib.hid hT3
      replace hT4 := Lib.hid hT4
      replace hb1 := Lib.hid hb1
      replace hb2 := Lib.hid hb2
      go_wp2
      exact bodyPost_ret (v := .tuple #[.agg #[.int .i64 P.n, .int .i64 P.d], .agg #[.int .i64 Q.n, .int .i64 Q.d], .int .i64 0]) (by simp [results, Try.results35, go_sem, a0, a1, a2, a3]) rfl ⟨rfl, hT4.out.below⟩
  · rw [if_neg hok, if_neg hok, if_neg hok]
    obtain ⟨Y, hY⟩ : ∃ Y, Y = (w.alloc (.cells #[.int .i64 0, .int .i64 0] 37)).alloc (.cells #[.int .i64 0, .int .i64 0] 37) := ⟨_, rfl⟩
    rw [← hY] at hT
    have c0 := hT.a.c0
    have c1 := hT.a.c1
    have f0 := hT.a.fz 0
    have f1 := hT.a.fz 1
    have d0 := hT.b.c0
    have d1 := hT.b.c1
    have g0 := hT.b.fz 0
    have g1 := hT.b.fz 1
    have l0 := hT.a.lt
    have l1 := hT.b.lt
    have hT2 := Lib.hid (set2_below (set2_below hT.below (Nat.le_refl _) (.int .i64 0) (.int .i64 0)) (Nat.le_succ _) (.int .i64 0) (.int .i64 0))
    have ka := Lib.hid (kb a).out
    have kbb := Lib.hid (kb b).out
    replace hT := Lib.hid hT
    replace hY := Lib.hid hY
    unfold rtV
    clear kb
    simp only
    by_cases oa : okC a
    · have da : decide (0 ≤ a ∧ a ≤ 1000) = true := decide_eq_true oa
      rw [da] at ka
      by_cases ob : okC b
      · have db : decide (0 ≤ b ∧ b ≤ 1000) = true := decide_eq_true ob
        rw [db] at kbb
        have oa' := oa
        have ob' := ob
        unfold okC at oa' ob'
        have w1 : IntKind.i64.wrap (a + b) = a + b := IntWalk.i64_in _ (by omega)
        have hc : e < 0 ∨ ¬ e < 0 ∧ a + b < e := by
          rcases Int.lt_or_le e 0 with h | h
          · exact .inl h
          · refine .inr ⟨by omega, ?_⟩
            rcases Int.lt_or_le (a + b) e with h2 | h2
            · exact h2
            · exact absurd ⟨oa, ob, h, h2⟩ hok
        replace hok := Lib.hid hok
        replace oa := Lib.hid oa
        replace ob := Lib.hid ob
        have de : decide (0 ≤ e ∧ e ≤ a + b) = false := decide_eq_false (by omega)
        have kee := ke.out
        rw [de] at kee
        replace kee := Lib.hid kee
        replace oa' := Lib.hid oa'
        replace ob' := Lib.hid ob'
        replace hc := Lib.hid hc
        go_enter Try.func35, Try.ntmps35
        go_wp2_with fail
        rw [← hY.out]
        refine (ka.out _).mono ?_
        rintro _ X ⟨rfl, rfl⟩
        go_wp2_with fail
        refine (kbb.out _).mono ?_
        rintro _ X ⟨rfl, rfl⟩
        go_wp2_with fail
        refine (kee.out _).mono ?_
        rintro _ X ⟨rfl, rfl⟩
        go_wp2
        exact bodyPost_ret (v := .tuple #[.agg #[.int .i64 0, .int .i64 0], .agg #[.int .i64 0, .int .i64 0], .int .i64 2]) (by simp [results, Try.results35, go_sem, c0, c1, d0, d1]) rfl ⟨rfl, hT2.out⟩
      · have db : decide (0 ≤ b ∧ b ≤ 1000) = false := decide_eq_false ob
        rw [db] at kbb
        replace hok := Lib.hid hok
        replace oa := Lib.hid oa
        replace ob := Lib.hid ob
        go_enter Try.func35, Try.ntmps35
        go_wp2_with fail
        rw [← hY.out]
        refine (ka.out _).mono ?_
        rintro _ X ⟨rfl, rfl⟩
        go_wp2_with fail
        refine (kbb.out _).mono ?_
        rintro _ X ⟨rfl, rfl⟩
        go_wp2
        exact bodyPost_ret (v := .tuple #[.agg #[.int .i64 0, .int .i64 0], .agg #[.int .i64 0, .int .i64 0], .int .i64 2]) (by simp [results, Try.results35, go_sem, c0, c1, d0, d1]) rfl ⟨rfl, hT2.out⟩
    · have da : decide (0 ≤ a ∧ a ≤ 1000) = false := decide_eq_false oa
      rw [da] at ka
      replace hok := Lib.hid hok
      replace oa := Lib.hid oa
      go_enter Try.func35, Try.ntmps35
      go_wp2_with fail
      rw [← hY.out]
      refine (ka.out _).mono ?_
      rintro _ X ⟨rfl, rfl⟩
      go_wp2
      exact bodyPost_ret (v := .tuple #[.agg #[.int .i64 0, .int .i64 0], .agg #[.int .i64 0, .int .i64 0], .int .i64 2]) (by simp [results, Try.results35, go_sem, c0, c1, d0, d1]) rfl ⟨rfl, hT2.out⟩

/-! ### are two ratios the same -/
def e2 (a0 a1 b0 b1 : Int) : Bool := decide (a0 = b0 ∧ a1 = b1)
theorem e2_iff (x y : Rt) : e2 x.n x.d y.n y.d = decide (x = y) := by
  unfold e2
  obtain ⟨a, b⟩ := x
  obtain ⟨a', b'⟩ := y
  simp
set_option maxRecDepth 10000 in
theorem run_eq2 (w : World) (a0 a1 b0 b1 : Int) :
    (Op.equalIn 10000 37 (.agg #[.int .i64 a0, .int .i64 a1]) (.agg #[.int .i64 b0, .int .i64 b1])).run Try.prog w = .ok (e2 a0 a1 b0 b1) w := by
  unfold e2
  have q : ∀ a b : Int, (Op.equalIn 9999 3 (.int .i64 a) (.int .i64 b)).run Try.prog w = .ok (a == b) w := fun a b => run_equalIn_int w 9998 3 .i64 .i64 a b Try.underlying3
  have p : ∀ (xs : Array Value) (k : Nat) (v : Value), xs[k]? = some v → (part 3 xs k).run Try.prog w = .ok v w := fun xs k v h => run_part_plain (P := Try.prog) (e := 3) w (by kernel_rfl) h
  have p0 : ∀ (v0 v1 : Value), (part 3 #[v0, v1] 0).run Try.prog w = .ok v0 w := fun _ _ => p _ 0 _ rfl
  have p1 : ∀ (v0 v1 : Value), (part 3 #[v0, v1] 1).run Try.prog w = .ok v1 w := fun _ _ => p _ 1 _ rfl
  have hf : ∃ n0 n1 : String, (Try.prog.fieldsOf 37).toList.map (fun f => (f.name, f.type, f.offset)) = [(n0, 3, 0), (n1, 3, 1)] ∧ n0 ≠ "_" ∧ n1 ≠ "_" :=
    ⟨"N", "D", by kernel_rfl, by decide, by decide⟩
  obtain ⟨n0, n1, hm, h0, h1⟩ := hf
  have hl : (Try.prog.fieldsOf 37).toList.length = 2 := by have := congrArg List.length hm; simpa using this
  rw [run_equalIn_struct (P := Try.prog) w 9999 37 _ _ (by kernel_rfl) (by kernel_rfl)]
  generalize (Try.prog.fieldsOf 37).toList = fs at *
  match fs, hl with
  | [f0, f1], _ =>
    simp only [List.map_cons, List.map_nil, List.cons.injEq, Prod.mk.injEq, and_true] at hm
    obtain ⟨⟨m1, m2, m3⟩, m4, m5, m6⟩ := hm
    simp only [Op.eqFields, m1, m2, m3, m4, m5, m6, h0, h1, ne_eq, not_false_eq_true, if_true, Sem.run_bind, p0, p1, q, Result.andThen_ok]
    by_cases g0 : a0 = b0 <;> by_cases g1 : a1 = b1 <;> simp [g0, g1, p0, p1, q, go_sem]
theorem run_eql2 (w : World) (a0 a1 b0 b1 : Int) : (binOp .eql 37 (.agg #[.int .i64 a0, .int .i64 a1]) (.agg #[.int .i64 b0, .int .i64 b1])).run Try.prog w = .ok (.bool (e2 a0 a1 b0 b1)) w := by
  rw [run_eql_struct, run_eq2]; rfl
theorem run_neq2 (w : World) (a0 a1 b0 b1 : Int) : (binOp .neq 37 (.agg #[.int .i64 a0, .int .i64 a1]) (.agg #[.int .i64 b0, .int .i64 b1])).run Try.prog w = .ok (.bool !(e2 a0 a1 b0 b1)) w := by
  rw [run_neq_struct, run_eq2]; rfl
attribute [local go_sem high] run_eql2 run_neq2

set_option maxRecDepth 100000 in
set_option maxHeartbeats 2000000 in
theorem Sane_any (w : World) : Calls Try.prog 18 #[] w fun e w' => e = .returned (.bool true) ∧ Below w.heap.size w w' := by
  have k := Garment_any 100 50 100 w
  have e1 : gaX 100 50 100 = ⟨75, 1⟩ := by decide +kernel
  have e2 : gaY 100 50 100 = ⟨25, 1⟩ := by decide +kernel
  have e3 : gaE 100 50 100 = 0 := by decide +kernel
  rw [e1, e2, e3] at k
  unfold rtV at k
  simp only at k
  replace k := Lib.hid k
  go_enter Try.func18, Try.ntmps18
  go_wp2_with fail
  refine k.out.mono ?_
  rintro e X ⟨rfl, hb⟩
  have hT := Two.new X ⟨75, 1⟩ ⟨25, 1⟩
  simp only at hT
  have e4 : Go.Proofs.Ythleekdkbgnabaa.e2 75 1 75 1 = true := rfl
  have e5 : Go.Proofs.Ythleekdkbgnabaa.e2 25 1 25 1 = true := rfl
  obtain ⟨Y, hY⟩ : ∃ Y, Y = (X.alloc (.cells #[.int .i64 75, .int .i64 1] 37)).alloc (.cells #[.int .i64 25, .int .i64 1] 37) := ⟨_, rfl⟩
  rw [← hY] at hT
  have hend := Lib.hid (bel_trans hb hT.below)
  have c0 := hT.a.c0
  have c1 := hT.a.c1
  have c2 := hT.b.c0
  have c3 := hT.b.c1
  replace hY := Lib.hid hY
  replace hT := Lib.hid hT
  replace hb := Lib.hid hb
  go_wp2
  go_ret
  exact ⟨rfl, by rw [← hY.out]; exact hend.out⟩
end Go.Proofs.Ythleekdkbgnabaa
