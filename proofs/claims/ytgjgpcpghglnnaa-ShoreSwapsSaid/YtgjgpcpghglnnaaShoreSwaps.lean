/-
  For any jobs, list and place, the law ShoreSwaps returns true: the order with two neighbours exchanged, and the one that comes next, are the document's.
  Conditions: none.
-/
import Derived.Test.YtgjgpcpghglnnaaZa
import Derived.Test.YtgjgpcpghglnnaaMf
namespace Go.Proofs.Ytgjgpcpghglnnaa.lawShoreSwaps
open Go.Joins Go.ChangeShapes Go.WideShapes Go.ChangeAt Go.RowKit Go.Deep Go.Proofs.Ytgjgpcpghglnnaa M
set_option linter.unusedVariables false
set_option linter.unusedSimpArgs false

theorem same_eq (l : List Int) (B1 B2 : Option Addr) (c1 c2 : Nat) (X : World) (h1 : Row X X.heap.size B1 l) (h2 : Row X X.heap.size B2 l) :
    Calls Try.prog 26 #[.slice B1 l.length c1, .slice B2 l.length c2] X fun e w' => e = .returned (.bool true) ∧ Below X.heap.size X w' := by
  have q := SameInts_any X.heap.size B1 B2 c1 c2 l l X h1 h2 (Nat.le_refl _)
  rw [decide_eq_true rfl] at q
  exact q
set_option maxRecDepth 100000 in
set_option maxHeartbeats 4000000 in
theorem out (A Ao : Option Addr) (c co : Nat) (D : List Bc) (o : List Int) (z : Int) (w : World) (h : Bcs w w.heap.size A D) (ho : Row w w.heap.size Ao o) (hl : LongP D) :
    Calls Try.prog 6 #[.slice A D.length c, .slice Ao o.length co, .int .i64 z] w fun e w' => e = .returned (.bool true) ∧ Below w.heap.size w w' := by
  have hL := Long_any w.heap.size A c D w h true (fun _ => hl) (fun hh => by cases hh)
  have h63 := ho.1
  replace hL := Lib.hid hL
  replace hl := Lib.hid hl
  generalize D.length = n at *
  generalize o.length = m at *
  replace h := Lib.hid h
  replace ho := Lib.hid ho
  go_enter Try.func6, Try.ntmps6
  go_wp2_with fail
  refine hL.out.mono ?_
  rintro e X ⟨rfl, rfl⟩
  go_wp2_with fail
  refine (Sane_any _).mono ?_
  rintro e X2 ⟨rfl, hb⟩
  go_wp2
  go_ret
  exact ⟨rfl, hb⟩
set_option maxRecDepth 100000 in
set_option maxHeartbeats 4000000 in
theorem out2 (A Ao : Option Addr) (c co : Nat) (D : List Bc) (o : List Int) (z : Int) (w : World) (h : Bcs w w.heap.size A D) (ho : Row w w.heap.size Ao o) (hl : ¬ LongP D) (h200 : 200 < o.length) :
    Calls Try.prog 6 #[.slice A D.length c, .slice Ao o.length co, .int .i64 z] w fun e w' => e = .returned (.bool true) ∧ Below w.heap.size w w' := by
  have hL := Long_any w.heap.size A c D w h false (fun hh => by cases hh) (fun _ => hl)
  have h63 := ho.1
  replace hL := Lib.hid hL
  replace hl := Lib.hid hl
  generalize D.length = n at *
  generalize o.length = m at *
  replace h := Lib.hid h
  replace ho := Lib.hid ho
  go_enter Try.func6, Try.ntmps6
  go_wp2_with fail
  refine hL.out.mono ?_
  rintro e X ⟨rfl, rfl⟩
  go_wp2_with fail
  refine (Sane_any _).mono ?_
  rintro e X2 ⟨rfl, hb⟩
  go_wp2
  go_ret
  exact ⟨rfl, hb⟩

set_option maxRecDepth 100000 in
set_option maxHeartbeats 8000000 in
theorem inn (A Ao : Option Addr) (c co : Nat) (D : List Bc) (o : List Int) (z : Int) (w : World) (h : Bcs w w.heap.size A D) (ho : Row w w.heap.size Ao o) (hl : ¬ LongP D) (h200 : ¬ 200 < o.length) (hco : o.length ≤ co) (hz : -9223372036854775808 ≤ z ∧ z ≤ 9223372036854775807) :
    Calls Try.prog 6 #[.slice A D.length c, .slice Ao o.length co, .int .i64 z] w fun e w' => e = .returned (.bool true) ∧ Below w.heap.size w w' := by
  have h63 := h.1
  have hL := Long_any w.heap.size A c D w h false (fun hh => by cases hh) (fun _ => hl)
  have hl100 := LongP.no hl
  have u := fun X (hX : Below w.heap.size w X) => h.below hX
  have uo := fun X (hX : Below w.heap.size w X) => ho.below hX
  have c39 := Swap_any w.heap.size A Ao c co D o z w h ho (Nat.le_refl _) hl100 hz
  have c40 := fun X (hX : Below w.heap.size w X) => Swap_ref w.heap.size A Ao c co D o z X (u X hX) (uo X hX) hX.size hl100 hz
  have c41 := fun X (hX : Below w.heap.size w X) => Next_any w.heap.size A Ao c co D o X (u X hX) (uo X hX) hX.size hl100
  have c42 := fun X (hX : Below w.heap.size w X) => Next_ref w.heap.size A Ao c co D o X (u X hX) (uo X hX) hX.size hl100 hco
  have hsame := same_eq
  obtain ⟨⟨r1, n1, e1⟩, hr1⟩ : ∃ r, r = swR (bl D) o z := ⟨_, rfl⟩
  obtain ⟨⟨r2, e2⟩, hr2⟩ : ∃ r, r = nxR (bl D) o := ⟨_, rfl⟩
  rw [← hr1] at c39 c40
  rw [← hr2] at c41 c42
  unfold SwP at c39 c40
  unfold NxP at c41 c42
  simp only [] at c39 c40 c41 c42
  have t1 : (n1 == n1) = true := by simp
  have t2 : (e1 == e1) = true := by simp
  have t3 : (e2 == e2) = true := by simp
  generalize D.length = n at *
  generalize hmo : o.length = m at *
  replace hmo := Lib.hid hmo
  replace hsame := Lib.hid hsame
  replace hL := Lib.hid hL
  replace hl100 := Lib.hid hl100
  replace u := Lib.hid u
  replace uo := Lib.hid uo
  replace c39 := Lib.hid c39
  replace c40 := Lib.hid c40
  replace c41 := Lib.hid c41
  replace c42 := Lib.hid c42
  replace hr1 := Lib.hid hr1
  replace hr2 := Lib.hid hr2
  replace hl := Lib.hid hl
  replace h := Lib.hid h
  replace ho := Lib.hid ho
  go_enter Try.func6, Try.ntmps6
  go_wp2_with fail
  refine hL.out.mono ?_
  rintro e X ⟨rfl, rfl⟩
  go_wp2_with fail
  refine c39.out.mono ?_
  rintro e X1 ⟨A1, c1, rfl, hX1, w1⟩
  have k40 := Lib.hid (c40.out X1 hX1)
  replace hX1 := Lib.hid hX1
  replace w1 := Lib.hid w1
  go_wp2_with fail
  refine k40.out.mono ?_
  rintro e X2 ⟨A2, c2, rfl, hc, w2⟩
  have hX2 := bel_trans hX1.out hc
  have v1 := Lib.hid (w1.out.up hc)
  have k41 := Lib.hid (c41.out X2 hX2)
  replace hX2 := Lib.hid hX2
  replace w2 := Lib.hid w2
  clear hc k40
  go_wp2_with fail
  refine k41.out.mono ?_
  rintro e X3 ⟨A3, c3, rfl, hc, w3⟩
  have hX3 := bel_trans hX2.out hc
  have v11 := Lib.hid (v1.out.up hc)
  have v2 := Lib.hid (w2.out.up hc)
  have k42 := Lib.hid (c42.out X3 hX3)
  replace hX3 := Lib.hid hX3
  replace w3 := Lib.hid w3
  clear hc k41
  go_wp2_with fail
  refine k42.out.mono ?_
  rintro e X4 ⟨A4, c4, rfl, hc, w4⟩
  have hX4 := bel_trans hX3.out hc
  have v12 := v11.out.up hc
  have v22 := v2.out.up hc
  have v3 := w3.out.up hc
  have ka := hsame.out r1 A1 A2 c1 c2 X4 v12 v22
  replace ka := Lib.hid ka
  replace hX4 := Lib.hid hX4
  replace v3 := Lib.hid v3
  replace w4 := Lib.hid w4
  clear hc k42 v12 v22
  go_wp2_with fail
  refine ka.out.mono ?_
  rintro e X5 ⟨rfl, hc⟩
  have hX5 := bel_trans hX4.out hc
  have kb := hsame.out r2 A3 A4 c3 c4 X5 (v3.out.up hc) (w4.out.up hc)
  replace kb := Lib.hid kb
  replace hX5 := Lib.hid hX5
  clear hc ka
  go_wp2_with fail
  refine kb.out.mono ?_
  rintro e X6 ⟨rfl, hc⟩
  have hX6 := Lib.hid (bel_trans hX5.out hc)
  clear hc kb
  go_wp2_with fail
  refine (Sane_any _).mono ?_
  rintro e X7 ⟨rfl, hc⟩
  have hend := Lib.hid (bel_trans hX6.out hc)
  clear hc
  go_wp2
  go_ret
  exact ⟨rfl, hend.out⟩
theorem walk (A : Option Addr) (c : Nat) (D : List Bc) (Ao : Option Addr) (co : Nat) (o : List Int) (z : Int) (w : World) (h : Bcs w w.heap.size A D) (ho : Row w w.heap.size Ao o ∧ o.length ≤ co) (hz : -9223372036854775808 ≤ z ∧ z ≤ 9223372036854775807) :
    Calls Try.prog 6 #[.slice A D.length c, .slice Ao o.length co, .int .i64 z] w fun e w' => e = .returned (.bool true) ∧ Below w.heap.size w w' := by
  by_cases hl : LongP D
  · exact out A Ao c co D o z w h ho.1 hl
  · by_cases h2 : 200 < o.length
    · exact out2 A Ao c co D o z w h ho.1 hl h2
    · exact inn A Ao c co D o z w h ho.1 hl h2 ho.2 hz

/-! ### the row's step -/
set_option maxRecDepth 100000 in
theorem lifted (os : Os) (started : os.Started) (H : Type) (enc : TypeId × Value → H) :
    ReturnsInHanded {} Try.checked os 6 .any (Rows.shoreSwapsSpec.pre6 enc Try.prog Try.f6 Rows.shoreSwapsRow.domain false) (Rows.shoreSwapsSpec.post enc Try.prog Try.f6 false true false false) := by
  refine returnsInHanded_of_change (C := Try.checked) own started (by kernel_rfl) Try.func6
    (ChangeSpec.witness6 (enc := enc) (C := Try.checked) false ⟨#[], #[.slice none 0 0, .slice none 0 0, .int .i64 0], []⟩ 8 (by kernel_rfl) (by kernel_rfl) (by kernel_rfl) (by kernel_rfl)) ?_
  intro W base args ds gs before hval0 hW hcnd _
  have hval : ∀ (j : Nat) t v, Try.f6.params[j]? = some t → args[j]? = some v → Value.okWide Try.prog W .any base t v := hval0
  have hW' := hW
  obtain ⟨p, q, hA0, hV, rfl, hfz, hnd⟩ := hW
  have hA : DataW.TrodAll enc Try.prog W 0 (fun _ => true) true Try.f6.params.toList args.toList ds p := hA0
  rw [Try.params6] at hA hval
  obtain ⟨v0, vs0, d0, ds0, p0, q0, hargs, rfl, rfl, h0, r0⟩ := trodAll_cons hA
  obtain ⟨v1, vs1, d1, ds1, p1, q1, rfl, rfl, rfl, h1, r1⟩ := trodAll_cons r0
  obtain ⟨v2, vs2, d2, ds2, p2, q2, rfl, rfl, rfl, h2, r2⟩ := trodAll_cons r1
  obtain ⟨rfl, rfl, rfl⟩ := trodAll_nil r2
  obtain rfl : args = #[v0, v1, v2] := by cases args; simp_all
  obtain ⟨rfl, rfl⟩ := trodVars_none hV
  have k0 := h0
  have lt0 : ∀ x ∈ p0, x.block < W.heap.size := by obtain ⟨m, hm⟩ := k0; exact DataW.trod_lt m _ _ _ hm
  obtain ⟨a0, len0, cap0, T0, rfl, rfl, w0⟩ : ∃ A len cap D, v0 = .slice A len cap ∧ D.length = len ∧ Bcs W W.heap.size A D := by
    obtain ⟨s0, s1, s2, rfl⟩ := okWide_slice Try.underlying22 (hval 0 22 v0 rfl rfl)
    obtain ⟨fuel, hf⟩ := h0
    exact bcs_of (by simpa [Value.cells] using hf)
  have k1 := h1
  have lt1 : ∀ x ∈ p1, x.block < W.heap.size := by obtain ⟨m, hm⟩ := k1; exact DataW.trod_lt m _ _ _ hm
  obtain ⟨a1, len1, cap1, T1, rfl, rfl, w1⟩ : ∃ A len cap D, v1 = .slice A len cap ∧ D.length = len ∧ Row W W.heap.size A D ∧ D.length ≤ cap := by
    obtain ⟨s0, s1, s2, rfl⟩ := okWide_slice Try.underlying23 (hval 1 23 v1 rfl rfl)
    obtain ⟨fuel, hf⟩ := h1
    obtain ⟨A, len, cap, D, e1, e2, e3, e4⟩ := row_cap (by simpa [Value.cells] using hf)
    exact ⟨A, len, cap, D, e1, e2, e3, by omega⟩
  obtain ⟨a2, rfl, rfl, rfl, w2⟩ := open_int Try.underlying3 (hval 2 3 v2 rfl rfl) h2
  clear hA0 hval0
  refine (walk a0 cap0 T0 a1 cap1 T1 a2 W w0 w1 (i64_range w2)).mono fun e W' ⟨he, bel⟩ => ?_
  subst he
  exact ⟨_, rfl, _, _, _, [], _, [], hW', trodAll_mk1 (shut_bool Try.underlying4 _), (trodAll_cons_mk (Below.trod laidOut (by kernel_rfl) (of_decide_eq_true (by kernel_rfl)) k0 bel lt0) (trodAll_cons_mk (Below.trod laidOut (by kernel_rfl) (of_decide_eq_true (by kernel_rfl)) k1 bel lt1) (trodAll_cons_mk (shut_int Try.underlying3 w2) trodAll_mk0))), rfl, bel.frame _, fun h => by cases h⟩

theorem over : Rows.shoreSwapsRow.holds Try.pinned (OpenSpec.ofChange Rows.shoreSwapsSpec) :=
  OpenClaim.holds_of_wide 6 Try.f6 rfl rfl rfl rfl rfl rfl rfl ⟨rfl, rfl, rfl, rfl, rfl⟩ rfl rfl rfl rfl rfl (by kernel_rfl) Try.func6 (by kernel_rfl)
    (of_decide_eq_true (by kernel_rfl)) (by unfold Func.isWrapper; first | (rw [if_pos (by decide +kernel)]; kernel_rfl) | (rw [if_neg (by decide +kernel)]; exact ⟨rfl, rfl⟩))
    (fun os started H enc _ => lifted os started H enc)

/-- The statement. -/
theorem proved : Rows.ShoreSwapsSaid := over
end Go.Proofs.Ytgjgpcpghglnnaa.lawShoreSwaps
