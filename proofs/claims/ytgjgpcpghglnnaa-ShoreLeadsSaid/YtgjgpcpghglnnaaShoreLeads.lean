/-
  For any jobs, beach and job, the law ShoreLeads returns true: the lead of a beach from a job on is the document's, its last job and its rate.
  Conditions: none.
-/
import Derived.Test.YtgjgpcpghglnnaaK
import Derived.Test.YtgjgpcpghglnnaaJ
import Derived.Laws.StructEq
namespace Go.Proofs.Ytgjgpcpghglnnaa.lawShoreLeads
open Go.Joins Go.ChangeShapes Go.WideShapes Go.ChangeAt Go.RowKit Go.Deep Go.Proofs.Ytgjgpcpghglnnaa M
set_option linter.unusedVariables false
set_option linter.unusedSimpArgs false

def e2 (a0 a1 b0 b1 : Int) : Bool := decide (a0 = b0 ∧ a1 = b1)
set_option maxRecDepth 10000 in
theorem run_eq2 (w : World) (a0 a1 b0 b1 : Int) :
    (Op.equalIn 10000 40 (.agg #[.int .i64 a0, .int .i64 a1]) (.agg #[.int .i64 b0, .int .i64 b1])).run Try.prog w = .ok (e2 a0 a1 b0 b1) w := by
  unfold e2
  have q : ∀ a b : Int, (Op.equalIn 9999 3 (.int .i64 a) (.int .i64 b)).run Try.prog w = .ok (a == b) w := fun a b => run_equalIn_int w 9998 3 .i64 .i64 a b Try.underlying3
  have p : ∀ (xs : Array Value) (k : Nat) (v : Value), xs[k]? = some v → (part 3 xs k).run Try.prog w = .ok v w := fun xs k v h => run_part_plain (P := Try.prog) (e := 3) w (by kernel_rfl) h
  have p0 : ∀ (v0 v1 : Value), (part 3 #[v0, v1] 0).run Try.prog w = .ok v0 w := fun _ _ => p _ 0 _ rfl
  have p1 : ∀ (v0 v1 : Value), (part 3 #[v0, v1] 1).run Try.prog w = .ok v1 w := fun _ _ => p _ 1 _ rfl
  have hf : ∃ n0 n1 : String, (Try.prog.fieldsOf 40).toList.map (fun f => (f.name, f.type, f.offset)) = [(n0, 3, 0), (n1, 3, 1)] ∧ n0 ≠ "_" ∧ n1 ≠ "_" :=
    ⟨"N", "D", by kernel_rfl, by decide, by decide⟩
  obtain ⟨n0, n1, hm, h0, h1⟩ := hf
  have hl : (Try.prog.fieldsOf 40).toList.length = 2 := by have := congrArg List.length hm; simpa using this
  rw [run_equalIn_struct (P := Try.prog) w 9999 40 _ _ (by kernel_rfl) (by kernel_rfl)]
  generalize (Try.prog.fieldsOf 40).toList = fs at *
  match fs, hl with
  | [f0, f1], _ =>
    simp only [List.map_cons, List.map_nil, List.cons.injEq, Prod.mk.injEq, and_true] at hm
    obtain ⟨⟨m1, m2, m3⟩, m4, m5, m6⟩ := hm
    simp only [Op.eqFields, m1, m2, m3, m4, m5, m6, h0, h1, ne_eq, not_false_eq_true, if_true, Sem.run_bind, p0, p1, q, Result.andThen_ok]
    by_cases g0 : a0 = b0 <;> by_cases g1 : a1 = b1 <;> simp [g0, g1, p0, p1, q, go_sem]
theorem run_eql2 (w : World) (a0 a1 b0 b1 : Int) : (binOp .eql 40 (.agg #[.int .i64 a0, .int .i64 a1]) (.agg #[.int .i64 b0, .int .i64 b1])).run Try.prog w = .ok (.bool (e2 a0 a1 b0 b1)) w := by
  rw [run_eql_struct, run_eq2]; rfl
attribute [local go_sem high] run_eql2

/-- Are there too many beaches or jobs? -/
def LongP (D : List Bc) : Prop := 20 < D.length ∨ ∃ i, i < D.length ∧ 100 < (be (bl D) i).length
set_option maxRecDepth 100000 in
set_option maxHeartbeats 2000000 in
theorem Long_any (B : Nat) (A : Option Addr) (c : Nat) (D : List Bc) (w : World) (h : Bcs w B A D) (q : Bool) (hq1 : q = true → LongP D) (hq2 : q = false → ¬ LongP D) :
    Calls Try.prog 14 #[.slice A D.length c] w fun e w' => e = .returned (.bool q) ∧ w = w' := by
  have h63 := h.1
  have hat := fun k (hk : k < D.length) => h.at_ k hk
  have hyes : ∀ k, k < D.length → 100 < (be (bl D) k).length → q = true := fun k hk hh => by
    cases q with
    | true => rfl
    | false => exact absurd (.inr ⟨k, hk, hh⟩) (hq2 rfl)
  have hend : (∀ k, k < D.length → (be (bl D) k).length ≤ 100) → q = decide (20 < D.length) := fun hh => by
    cases q with
    | true =>
      rcases hq1 rfl with h1 | ⟨k, hk, h1⟩
      · rw [decide_eq_true h1]
      · exact absurd (hh k hk) (by omega)
    | false => rw [decide_eq_false fun h1 => hq2 rfl (.inl h1)]
  obtain ⟨n, hn⟩ : ∃ n, n = D.length := ⟨_, rfl⟩
  rw [← hn] at h63 hat hyes hend ⊢
  replace hn := Lib.hid hn
  replace hat := Lib.hid hat
  replace hyes := Lib.hid hyes
  replace hend := Lib.hid hend
  replace h := Lib.hid h
  clear hq1 hq2
  go_enter Try.func14, Try.ntmps14
  go_wp2
  go_loop [3] (fun i => ∃ k : Nat, k ≤ n ∧ i = .int .i64 (k : Nat) ∧ ∀ j, j < k → (be (bl D) j).length ≤ 100) (fun i => n - (intOf i).toNat)
  case atStart => exact ⟨0, by omega, rfl, fun j hj => absurd hj (Nat.not_lt_zero _)⟩
  case round =>
    obtain ⟨k, hk, rfl, hel⟩ := hrel
    by_cases hlk : k < n
    · obtain ⟨b, o, rfl, hb, e0, hjb⟩ := hat.out k hlk
      have hy := hyes.out k hlk
      have hel' := fun hh => (fun (j : Nat) (hj : j < k + 1) => show (be (bl D) j).length ≤ 100 by
        rcases Nat.lt_succ_iff_lt_or_eq.1 hj with h' | rfl
        · exact hel j h'
        · exact hh)
      have l63 := hjb.1
      replace hjb := Lib.hid hjb
      replace hel := Lib.hid hel
      obtain ⟨L, hL⟩ : ∃ L, L = (be (bl D) k).length := ⟨_, rfl⟩
      rw [← hL] at e0 hy hel' l63
      replace hL := Lib.hid hL
      by_cases h100 : 100 < L
      · have hqq := hy h100
        subst hqq
        clear hel'
        go_wp2
        go_ret
        exact ⟨rfl, rfl⟩
      · have hs := Lib.hid (hel' (by omega))
        clear hel' hy
        go_wp2
        go_round
        case rel => exact ⟨k + 1, by omega, by go_num, hs.out⟩
        case measure => simp [intOf]; omega
    · have hk' : k = n := by omega
      subst hk'
      have hqq := hend.out hel
      subst hqq
      replace hel := Lib.hid hel
      by_cases h20 : 20 < k
      · go_wp2
        go_ret
        exact ⟨ret_bool (by simp [h20]; try omega), rfl⟩
      · go_wp2
        go_ret
        exact ⟨ret_bool (by simp [h20]; try omega), rfl⟩

set_option maxRecDepth 100000 in
set_option maxHeartbeats 4000000 in
theorem out (A : Option Addr) (c : Nat) (D : List Bc) (bi fi : Int) (w : World) (h : Bcs w w.heap.size A D) (hl : LongP D) :
    Calls Try.prog 5 #[.slice A D.length c, .int .i64 bi, .int .i64 fi] w fun e w' => e = .returned (.bool true) ∧ Below w.heap.size w w' := by
  have hL := Long_any w.heap.size A c D w h true (fun _ => hl) (fun hh => by cases hh)
  replace hL := Lib.hid hL
  generalize D.length = n at *
  go_enter Try.func5, Try.ntmps5
  go_wp2_with fail
  refine hL.out.mono ?_
  rintro e X ⟨rfl, rfl⟩
  go_wp2_with fail
  refine (Sane_any _).mono ?_
  rintro e X2 ⟨rfl, hb⟩
  go_wp2
  go_ret
  exact ⟨rfl, hb⟩

set_option maxRecDepth 100000 in
set_option maxHeartbeats 4000000 in
theorem inn (A : Option Addr) (c : Nat) (D : List Bc) (bi fi : Int) (w : World) (h : Bcs w w.heap.size A D) (hl : ¬ LongP D) :
    Calls Try.prog 5 #[.slice A D.length c, .int .i64 bi, .int .i64 fi] w fun e w' => e = .returned (.bool true) ∧ Below w.heap.size w w' := by
  have hL := Long_any w.heap.size A c D w h false (fun hh => by cases hh) (fun _ => hl)
  have hl100 : ∀ i, i < D.length → (be (bl D) i).length ≤ 100 := fun i hi => by
    rcases Nat.lt_or_ge 100 (be (bl D) i).length with h1 | h1
    · exact absurd (.inr ⟨i, hi, h1⟩) hl
    · exact h1
  have k37 := Lead_any w.heap.size A c D bi fi w h (Nat.le_refl _) hl100
  have k38 := fun X (hX : Below w.heap.size w X) => Lead_ref X.heap.size A c D bi fi X ((h.below hX).more hX.size) (Nat.le_refl _) hl100
  obtain ⟨⟨⟨r1, r2⟩, r3, r4⟩, hR⟩ : ∃ r, r = leR (bl D) bi fi := ⟨_, rfl⟩
  rw [← hR] at k37 k38
  unfold LeP at k37 k38
  simp only [] at k37 k38
  have t1 : (r1 == r1) = true := by simp
  have t4 : (r4 == r4) = true := by simp
  have t2 : e2 r2 r3 r2 r3 = true := by unfold e2; simp
  replace hL := Lib.hid hL
  replace hR := Lib.hid hR
  replace k37 := Lib.hid k37
  replace k38 := Lib.hid k38
  replace hl100 := Lib.hid hl100
  replace hl := Lib.hid hl
  replace h := Lib.hid h
  generalize D.length = n at *
  go_enter Try.func5, Try.ntmps5
  go_wp2_with fail
  refine hL.out.mono ?_
  rintro e X0 ⟨rfl, rfl⟩
  go_wp2_with fail
  refine k37.out.mono ?_
  rintro e X1 ⟨rfl, hb1⟩
  have hb2 := bel_trans hb1 (ba1 X1 (.cells #[.int .i64 r2, .int .i64 r3] 40))
  have hx1 := Bxr.new X1 r2 r3
  have kk := Lib.hid (k38.out _ hb2)
  replace hb1 := Lib.hid hb1
  replace hb2 := Lib.hid hb2
  replace hx1 := Lib.hid hx1
  go_wp2_with fail
  refine kk.out.mono ?_
  rintro e X2 ⟨rfl, hb3⟩
  have hx2 := hx1.out.up hb3
  have hb4 := bel_trans hb2.out hb3
  have hb5 := ba1 X2 (.cells #[.int .i64 r2, .int .i64 r3] 40)
  have hx3 := hx2.up hb5
  have hb6 := bel_trans hb4 hb5
  have z0 := hx3.c0
  have z1 := hx3.c1
  replace hx2 := Lib.hid hx2
  replace hx3 := Lib.hid hx3
  replace hb3 := Lib.hid hb3
  replace hb4 := Lib.hid hb4
  replace hb5 := Lib.hid hb5
  replace hb6 := Lib.hid hb6
  go_wp2_with fail
  refine (Sane_any _).mono ?_
  rintro e X3 ⟨rfl, hb7⟩
  have hend := Lib.hid (bel_trans hb6.out hb7)
  clear hb7
  go_wp2
  go_ret
  exact ⟨rfl, hend.out⟩
theorem walk (A : Option Addr) (c : Nat) (D : List Bc) (bi fi : Int) (w : World) (h : Bcs w w.heap.size A D) (hb : -9223372036854775808 ≤ bi ∧ bi ≤ 9223372036854775807) (hf : -9223372036854775808 ≤ fi ∧ fi ≤ 9223372036854775807) :
    Calls Try.prog 5 #[.slice A D.length c, .int .i64 bi, .int .i64 fi] w fun e w' => e = .returned (.bool true) ∧ Below w.heap.size w w' := by
  by_cases hl : LongP D
  · exact out A c D bi fi w h hl
  · exact inn A c D bi fi w h hl

/-! ### the row's step -/
set_option maxRecDepth 100000 in
theorem lifted (os : Os) (started : os.Started) (H : Type) (enc : TypeId × Value → H) :
    ReturnsInHanded {} Try.checked os 5 .any (Rows.shoreLeadsSpec.pre6 enc Try.prog Try.f5 Rows.shoreLeadsRow.domain false) (Rows.shoreLeadsSpec.post enc Try.prog Try.f5 false true false false) := by
  refine returnsInHanded_of_change (C := Try.checked) own started (by kernel_rfl) Try.func5
    (ChangeSpec.witness6 (enc := enc) (C := Try.checked) false ⟨#[], #[.slice none 0 0, .int .i64 0, .int .i64 0], []⟩ 8 (by kernel_rfl) (by kernel_rfl) (by kernel_rfl) (by kernel_rfl)) ?_
  intro W base args ds gs before hval0 hW hcnd _
  have hval : ∀ (j : Nat) t v, Try.f5.params[j]? = some t → args[j]? = some v → Value.okWide Try.prog W .any base t v := hval0
  have hW' := hW
  obtain ⟨p, q, hA0, hV, rfl, hfz, hnd⟩ := hW
  have hA : DataW.TrodAll enc Try.prog W 0 (fun _ => true) true Try.f5.params.toList args.toList ds p := hA0
  rw [Try.params5] at hA hval
  obtain ⟨v0, vs0, d0, ds0, p0, q0, hargs, rfl, rfl, h0, r0⟩ := trodAll_cons hA
  obtain ⟨v1, vs1, d1, ds1, p1, q1, rfl, rfl, rfl, h1, r1⟩ := trodAll_cons r0
  obtain ⟨v2, vs2, d2, ds2, p2, q2, rfl, rfl, rfl, h2, r2⟩ := trodAll_cons r1
  obtain ⟨rfl, rfl, rfl⟩ := trodAll_nil r2
  obtain rfl : args = #[v0, v1, v2] := by cases args; simp_all
  obtain ⟨rfl, rfl⟩ := trodVars_none hV
  have k0 := h0
  have lt0 : ∀ x ∈ p0, x.block < W.heap.size := by obtain ⟨m, hm⟩ := k0; exact DataW.trod_lt m _ _ _ hm
  obtain ⟨a0, len0, cap0, T0, rfl, rfl, w0⟩ : ∃ A len cap D, v0 = .slice A len cap ∧ D.length = len ∧ Bcs W W.heap.size A D := by
    obtain ⟨s0, s1, s2, rfl⟩ := okWide_slice Try.underlying22 (hval 0 22 v0 rfl rfl)
    obtain ⟨fuel, hf⟩ := h0
    exact bcs_of (by simpa [Value.cells] using hf)
  obtain ⟨a1, rfl, rfl, rfl, w1⟩ := open_int Try.underlying3 (hval 1 3 v1 rfl rfl) h1
  obtain ⟨a2, rfl, rfl, rfl, w2⟩ := open_int Try.underlying3 (hval 2 3 v2 rfl rfl) h2
  clear hA0 hval0
  refine (walk a0 cap0 T0 a1 a2 W w0 (i64_range w1) (i64_range w2)).mono fun e W' ⟨he, bel⟩ => ?_
  subst he
  exact ⟨_, rfl, _, _, _, [], _, [], hW', trodAll_mk1 (shut_bool Try.underlying4 _), (trodAll_cons_mk (Below.trod laidOut (by kernel_rfl) (of_decide_eq_true (by kernel_rfl)) k0 bel lt0) (trodAll_cons_mk (shut_int Try.underlying3 w1) (trodAll_cons_mk (shut_int Try.underlying3 w2) trodAll_mk0))), rfl, bel.frame _, fun h => by cases h⟩

theorem over : Rows.shoreLeadsRow.holds Try.pinned (OpenSpec.ofChange Rows.shoreLeadsSpec) :=
  OpenClaim.holds_of_wide 5 Try.f5 rfl rfl rfl rfl rfl rfl rfl ⟨rfl, rfl, rfl, rfl, rfl⟩ rfl rfl rfl rfl rfl (by kernel_rfl) Try.func5 (by kernel_rfl)
    (of_decide_eq_true (by kernel_rfl)) (by unfold Func.isWrapper; first | (rw [if_pos (by decide +kernel)]; kernel_rfl) | (rw [if_neg (by decide +kernel)]; exact ⟨rfl, rfl⟩))
    (fun os started H enc _ => lifted os started H enc)

/-- The statement. -/
theorem proved : Rows.ShoreLeadsSaid := over
end Go.Proofs.Ytgjgpcpghglnnaa.lawShoreLeads
