/-
  For any jobs and any list, the law ShoreOrders returns true: which jobs are valid, which lists are orders, their harm, when each job is done and all hours are the document's.
  Conditions: none.
-/
import Derived.Test.YtgjgpcpghglnnaaZa
import Derived.Test.YtgjgpcpghglnnaaYh
import Derived.Test.YtgjgpcpghglnnaaP
namespace Go.Proofs.Ytgjgpcpghglnnaa.lawShoreOrders
open Go.Joins Go.ChangeShapes Go.WideShapes Go.ChangeAt Go.RowKit Go.Deep Go.Proofs.Ytgjgpcpghglnnaa M
set_option linter.unusedVariables false
set_option linter.unusedSimpArgs false

set_option maxRecDepth 100000 in
set_option maxHeartbeats 4000000 in
theorem out (A Ao : Option Addr) (c co : Nat) (D : List Bc) (o : List Int) (w : World) (h : Bcs w w.heap.size A D) (ho : Row w w.heap.size Ao o) (hl : LongP D) :
    Calls Try.prog 3 #[.slice A D.length c, .slice Ao o.length co] w fun e w' => e = .returned (.bool true) ∧ Below w.heap.size w w' := by
  have hL := Long_any w.heap.size A c D w h true (fun _ => hl) (fun hh => by cases hh)
  replace hL := Lib.hid hL
  generalize D.length = n at *
  generalize o.length = m at *
  replace h := Lib.hid h
  replace ho := Lib.hid ho
  go_enter Try.func3, Try.ntmps3
  go_wp2_with fail
  refine hL.out.mono ?_
  rintro e X ⟨rfl, rfl⟩
  go_wp2_with fail
  refine (Sane_any _).mono ?_
  rintro e X2 ⟨rfl, hb⟩
  go_wp2
  go_ret
  exact ⟨rfl, hb⟩
set_option maxRecDepth 100000 in
set_option maxHeartbeats 4000000 in
theorem out2 (A Ao : Option Addr) (c co : Nat) (D : List Bc) (o : List Int) (w : World) (h : Bcs w w.heap.size A D) (ho : Row w w.heap.size Ao o) (hl : ¬ LongP D) (h200 : 200 < o.length) :
    Calls Try.prog 3 #[.slice A D.length c, .slice Ao o.length co] w fun e w' => e = .returned (.bool true) ∧ Below w.heap.size w w' := by
  have hL := Long_any w.heap.size A c D w h false (fun hh => by cases hh) (fun _ => hl)
  have h63 := ho.1
  replace hL := Lib.hid hL
  replace hl := Lib.hid hl
  generalize D.length = n at *
  generalize o.length = m at *
  replace h := Lib.hid h
  replace ho := Lib.hid ho
  go_enter Try.func3, Try.ntmps3
  go_wp2_with fail
  refine hL.out.mono ?_
  rintro e X ⟨rfl, rfl⟩
  go_wp2_with fail
  refine (Sane_any _).mono ?_
  rintro e X2 ⟨rfl, hb⟩
  go_wp2
  go_ret
  exact ⟨rfl, hb⟩

set_option maxRecDepth 100000 in
set_option maxHeartbeats 8000000 in
theorem bad (A Ao : Option Addr) (c co : Nat) (D : List Bc) (o : List Int) (w : World) (h : Bcs w w.heap.size A D) (ho : Row w w.heap.size Ao o) (hl : ¬ LongP D) (h200 : ¬ 200 < o.length) (he : ¬ errO (bl D) o = 0) :
    Calls Try.prog 3 #[.slice A D.length c, .slice Ao o.length co] w fun e w' => e = .returned (.bool true) ∧ Below w.heap.size w w' := by
  have h63 := h.1
  have hL := Long_any w.heap.size A c D w h false (fun hh => by cases hh) (fun _ => hl)
  have hl100 := LongP.no hl
  have u := fun X (hX : Below w.heap.size w X) => h.below hX
  have uo := fun X (hX : Below w.heap.size w X) => ho.below hX
  have c16 := IsOrder_any w.heap.size A Ao c co D o w h ho (Nat.le_refl _) hl100
  have c17 := fun X (hX : Below w.heap.size w X) => IsOrder_ref w.heap.size A Ao c co D o X (u X hX) (uo X hX) hX.size hl100
  have c18 := fun X (hX : Below w.heap.size w X) => Valid_any w.heap.size A c D X (u X hX) hX.size hl100
  have c19 := fun X (hX : Below w.heap.size w X) => Valid_ref w.heap.size A c D X (u X hX) hX.size hl100
  have c20 := fun X (hX : Below w.heap.size w X) => Harm_any w.heap.size A Ao c co D o X (u X hX) (uo X hX) hX.size hl100
  have c21 := fun X (hX : Below w.heap.size w X) => Harm_ref w.heap.size A Ao c co D o X (u X hX) (uo X hX) hX.size hl100
  have c22 := fun X (hX : Below w.heap.size w X) => Hours_any w.heap.size A c D X (u X hX) hX.size hl100
  have c23 := fun X (hX : Below w.heap.size w X) => Hours_ref w.heap.size A c D X (u X hX) hX.size hl100
  have c24 := fun X (hX : Below w.heap.size w X) => Done_bad w.heap.size A Ao c co D o X (u X hX) (uo X hX) hX.size hl100 he
  have c25 := fun X (hX : Below w.heap.size w X) => Done_ref_bad w.heap.size A Ao c co D o X (u X hX) (uo X hX) hX.size hl100 he
  obtain ⟨⟨q1, e1⟩, hr1⟩ : ∃ r, r = isR (bl D) o := ⟨_, rfl⟩
  rw [← hr1] at c16 c17
  obtain ⟨⟨n2, e2⟩, hr2⟩ : ∃ r, r = haR (bl D) o := ⟨_, rfl⟩
  rw [← hr2] at c20 c21
  obtain ⟨⟨n3, e3⟩, hr3⟩ : ∃ r, r = hoR (bl D) := ⟨_, rfl⟩
  rw [← hr3] at c22 c23
  obtain ⟨qv, hr4⟩ : ∃ r, r = valB (bl D) := ⟨_, rfl⟩
  rw [← hr4] at c18 c19
  obtain ⟨e4, hr5⟩ : ∃ r, r = errO (bl D) o := ⟨_, rfl⟩
  rw [← hr5] at c24 c25
  replace hr5 := Lib.hid hr5
  have t7 : (e4 != e4) = false := by simp
  simp only [] at c16 c17 c20 c21 c22 c23
  have t1 : (q1 != q1) = false := by simp
  have t2 : (e1 != e1) = false := by simp
  have t3 : (n2 != n2) = false := by simp
  have t4 : (e2 != e2) = false := by simp
  have t5 : (n3 != n3) = false := by simp
  have t6 : (e3 != e3) = false := by simp
  have t8 : (qv != qv) = false := by simp
  generalize D.length = n at *
  generalize hmo : o.length = m at *
  replace hmo := Lib.hid hmo
  replace hL := Lib.hid hL
  replace hl100 := Lib.hid hl100
  replace u := Lib.hid u
  replace uo := Lib.hid uo
  replace c16 := Lib.hid c16
  replace c17 := Lib.hid c17
  replace c18 := Lib.hid c18
  replace c19 := Lib.hid c19
  replace c20 := Lib.hid c20
  replace c21 := Lib.hid c21
  replace c22 := Lib.hid c22
  replace c23 := Lib.hid c23
  replace c24 := Lib.hid c24
  replace c25 := Lib.hid c25
  replace hr1 := Lib.hid hr1
  replace hr2 := Lib.hid hr2
  replace hr3 := Lib.hid hr3
  replace hr4 := Lib.hid hr4
  replace he := Lib.hid he
  replace hl := Lib.hid hl
  replace h := Lib.hid h
  replace ho := Lib.hid ho
  go_enter Try.func3, Try.ntmps3
  go_wp2_with fail
  refine hL.out.mono ?_
  rintro e X ⟨rfl, rfl⟩
  go_wp2_with fail
  refine c16.out.mono ?_
  rintro e X1 ⟨rfl, hX1⟩
  have k17 := Lib.hid (c17.out X1 hX1)
  replace hX1 := Lib.hid hX1
  go_wp2_with fail
  refine k17.out.mono ?_
  rintro e X2 ⟨rfl, hcX2⟩
  have hX2 := bel_trans hX1.out hcX2
  clear hcX2 k17
  have k18 := Lib.hid (c18.out X2 hX2)
  replace hX2 := Lib.hid hX2
  go_wp2_with fail
  refine k18.out.mono ?_
  rintro e X3 ⟨rfl, hcX3⟩
  have hX3 := bel_trans hX2.out hcX3
  clear hcX3 k18
  have k19 := Lib.hid (c19.out X3 hX3)
  replace hX3 := Lib.hid hX3
  go_wp2_with fail
  refine k19.out.mono ?_
  rintro e X4 ⟨rfl, hcX4⟩
  have hX4 := bel_trans hX3.out hcX4
  clear hcX4 k19
  have k20 := Lib.hid (c20.out X4 hX4)
  replace hX4 := Lib.hid hX4
  go_wp2_with fail
  refine k20.out.mono ?_
  rintro e X5 ⟨rfl, hcX5⟩
  have hX5 := bel_trans hX4.out hcX5
  clear hcX5 k20
  have k21 := Lib.hid (c21.out X5 hX5)
  replace hX5 := Lib.hid hX5
  go_wp2_with fail
  refine k21.out.mono ?_
  rintro e X6 ⟨rfl, hcX6⟩
  have hX6 := bel_trans hX5.out hcX6
  clear hcX6 k21
  have k22 := Lib.hid (c22.out X6 hX6)
  replace hX6 := Lib.hid hX6
  go_wp2_with fail
  refine k22.out.mono ?_
  rintro e X7 ⟨rfl, hcX7⟩
  have hX7 := bel_trans hX6.out hcX7
  clear hcX7 k22
  have k23 := Lib.hid (c23.out X7 hX7)
  replace hX7 := Lib.hid hX7
  go_wp2_with fail
  refine k23.out.mono ?_
  rintro e X8 ⟨rfl, hcX8⟩
  have hX8 := bel_trans hX7.out hcX8
  clear hcX8 k23
  have k24 := Lib.hid (c24.out X8 hX8)
  replace hX8 := Lib.hid hX8
  go_wp2_with fail
  refine k24.out.mono ?_
  rintro e X9 ⟨rfl, hcX9⟩
  have hX9 := bel_trans hX8.out hcX9
  clear hcX9 k24
  have k25 := Lib.hid (c25.out X9 hX9)
  replace hX9 := Lib.hid hX9
  go_wp2_with fail
  refine k25.out.mono ?_
  rintro e X10 ⟨rfl, hcX10⟩
  have hX10 := bel_trans hX9.out hcX10
  clear hcX10 k25
  replace hX10 := Lib.hid hX10
  go_wp2_with fail
  go_loop [17] (fun i => i = .int .i64 0) (fun i => 0)
  case atStart => rfl
  case round =>
    obtain rfl := hrel
    go_wp2_with fail
    refine (Sane_any _).mono ?_
    rintro e X12 ⟨rfl, hc⟩
    have hend := Lib.hid (bel_trans hX10.out hc)
    clear hc
    go_wp2
    go_ret
    exact ⟨rfl, hend.out⟩

set_option maxRecDepth 100000 in
set_option maxHeartbeats 8000000 in
theorem good (A Ao : Option Addr) (c co : Nat) (D : List Bc) (o : List Int) (w : World) (h : Bcs w w.heap.size A D) (ho : Row w w.heap.size Ao o) (hl : ¬ LongP D) (h200 : ¬ 200 < o.length) (he : errO (bl D) o = 0) :
    Calls Try.prog 3 #[.slice A D.length c, .slice Ao o.length co] w fun e w' => e = .returned (.bool true) ∧ Below w.heap.size w w' := by
  have h63 := h.1
  have hL := Long_any w.heap.size A c D w h false (fun hh => by cases hh) (fun _ => hl)
  have hl100 := LongP.no hl
  have u := fun X (hX : Below w.heap.size w X) => h.below hX
  have uo := fun X (hX : Below w.heap.size w X) => ho.below hX
  have c16 := IsOrder_any w.heap.size A Ao c co D o w h ho (Nat.le_refl _) hl100
  have c17 := fun X (hX : Below w.heap.size w X) => IsOrder_ref w.heap.size A Ao c co D o X (u X hX) (uo X hX) hX.size hl100
  have c18 := fun X (hX : Below w.heap.size w X) => Valid_any w.heap.size A c D X (u X hX) hX.size hl100
  have c19 := fun X (hX : Below w.heap.size w X) => Valid_ref w.heap.size A c D X (u X hX) hX.size hl100
  have c20 := fun X (hX : Below w.heap.size w X) => Harm_any w.heap.size A Ao c co D o X (u X hX) (uo X hX) hX.size hl100
  have c21 := fun X (hX : Below w.heap.size w X) => Harm_ref w.heap.size A Ao c co D o X (u X hX) (uo X hX) hX.size hl100
  have c22 := fun X (hX : Below w.heap.size w X) => Hours_any w.heap.size A c D X (u X hX) hX.size hl100
  have c23 := fun X (hX : Below w.heap.size w X) => Hours_ref w.heap.size A c D X (u X hX) hX.size hl100
  have c24 := fun X (hX : Below w.heap.size w X) => Done_good w.heap.size A Ao c co D o X (u X hX) (uo X hX) hX.size hl100 he
  have c25 := fun X (hX : Below w.heap.size w X) => Done_ref w.heap.size A Ao c co D o X (u X hX) (uo X hX) hX.size hl100 he
  unfold DnP at c24 c25
  have hdl : ∀ k, (dnl (bl D) o ((k : Nat) : Int) o.length).length ≤ 200 := fun k => by
    rw [dnl_len]; have := cnt_le o ((k : Nat) : Int) o.length; omega
  obtain ⟨⟨q1, e1⟩, hr1⟩ : ∃ r, r = isR (bl D) o := ⟨_, rfl⟩
  rw [← hr1] at c16 c17
  obtain ⟨⟨n2, e2⟩, hr2⟩ : ∃ r, r = haR (bl D) o := ⟨_, rfl⟩
  rw [← hr2] at c20 c21
  obtain ⟨⟨n3, e3⟩, hr3⟩ : ∃ r, r = hoR (bl D) := ⟨_, rfl⟩
  rw [← hr3] at c22 c23
  obtain ⟨qv, hr4⟩ : ∃ r, r = valB (bl D) := ⟨_, rfl⟩
  rw [← hr4] at c18 c19
  simp only [] at c16 c17 c20 c21 c22 c23
  have t1 : (q1 != q1) = false := by simp
  have t2 : (e1 != e1) = false := by simp
  have t3 : (n2 != n2) = false := by simp
  have t4 : (e2 != e2) = false := by simp
  have t5 : (n3 != n3) = false := by simp
  have t6 : (e3 != e3) = false := by simp
  have t8 : (qv != qv) = false := by simp
  generalize D.length = n at *
  generalize hmo : o.length = m at *
  replace hmo := Lib.hid hmo
  replace hL := Lib.hid hL
  replace hl100 := Lib.hid hl100
  replace u := Lib.hid u
  replace uo := Lib.hid uo
  replace c16 := Lib.hid c16
  replace c17 := Lib.hid c17
  replace c18 := Lib.hid c18
  replace c19 := Lib.hid c19
  replace c20 := Lib.hid c20
  replace c21 := Lib.hid c21
  replace c22 := Lib.hid c22
  replace c23 := Lib.hid c23
  replace c24 := Lib.hid c24
  replace c25 := Lib.hid c25
  replace hr1 := Lib.hid hr1
  replace hr2 := Lib.hid hr2
  replace hr3 := Lib.hid hr3
  replace hr4 := Lib.hid hr4
  replace he := Lib.hid he
  replace hl := Lib.hid hl
  replace h := Lib.hid h
  replace ho := Lib.hid ho
  replace hdl := Lib.hid hdl
  go_enter Try.func3, Try.ntmps3
  go_wp2_with fail
  refine hL.out.mono ?_
  rintro e X ⟨rfl, rfl⟩
  go_wp2_with fail
  refine c16.out.mono ?_
  rintro e X1 ⟨rfl, hX1⟩
  have k17 := Lib.hid (c17.out X1 hX1)
  replace hX1 := Lib.hid hX1
  go_wp2_with fail
  refine k17.out.mono ?_
  rintro e X2 ⟨rfl, hcX2⟩
  have hX2 := bel_trans hX1.out hcX2
  clear hcX2 k17
  have k18 := Lib.hid (c18.out X2 hX2)
  replace hX2 := Lib.hid hX2
  go_wp2_with fail
  refine k18.out.mono ?_
  rintro e X3 ⟨rfl, hcX3⟩
  have hX3 := bel_trans hX2.out hcX3
  clear hcX3 k18
  have k19 := Lib.hid (c19.out X3 hX3)
  replace hX3 := Lib.hid hX3
  go_wp2_with fail
  refine k19.out.mono ?_
  rintro e X4 ⟨rfl, hcX4⟩
  have hX4 := bel_trans hX3.out hcX4
  clear hcX4 k19
  have k20 := Lib.hid (c20.out X4 hX4)
  replace hX4 := Lib.hid hX4
  go_wp2_with fail
  refine k20.out.mono ?_
  rintro e X5 ⟨rfl, hcX5⟩
  have hX5 := bel_trans hX4.out hcX5
  clear hcX5 k20
  have k21 := Lib.hid (c21.out X5 hX5)
  replace hX5 := Lib.hid hX5
  go_wp2_with fail
  refine k21.out.mono ?_
  rintro e X6 ⟨rfl, hcX6⟩
  have hX6 := bel_trans hX5.out hcX6
  clear hcX6 k21
  have k22 := Lib.hid (c22.out X6 hX6)
  replace hX6 := Lib.hid hX6
  go_wp2_with fail
  refine k22.out.mono ?_
  rintro e X7 ⟨rfl, hcX7⟩
  have hX7 := bel_trans hX6.out hcX7
  clear hcX7 k22
  have k23 := Lib.hid (c23.out X7 hX7)
  replace hX7 := Lib.hid hX7
  go_wp2_with fail
  refine k23.out.mono ?_
  rintro e X8 ⟨rfl, hcX8⟩
  have hX8 := bel_trans hX7.out hcX8
  clear hcX8 k23
  have k24 := Lib.hid (c24.out X8 hX8)
  replace hX8 := Lib.hid hX8
  go_wp2_with fail
  refine k24.out.mono ?_
  rintro e X9 ⟨g, bs, V, rfl, hc, -, hLs⟩
  have hX9 := bel_trans hX8.out hc
  clear hc k24
  have k25 := Lib.hid (c25.out X9 hX9)
  replace hX9 := Lib.hid hX9
  replace hLs := Lib.hid hLs
  go_wp2_with fail
  refine k25.out.mono ?_
  rintro e X10 ⟨g2, bs2, V2, rfl, hc, -, hLs2⟩
  have hX10 := Lib.hid (bel_trans hX9.out hc)
  have hLs1 := Lib.hid (hLs.out.up hc)
  clear hc k25 hLs
  replace hLs2 := Lib.hid hLs2
  go_wp2_with fail
  go_loopw [17] (fun i X => ∃ k : Nat, k ≤ n ∧ i = .int .i64 (k : Nat) ∧ Below X10.heap.size X10 X) (fun i _ => n - (intOf i).toNat)
  case atStart => exact ⟨0, by omega, rfl, Below.refl _ _⟩
  case round =>
    obtain ⟨k, hk, rfl, hX⟩ := hrel
    by_cases hlk : k < n
    · have hA1 := (hLs1.out.up hX)
      have hA2 := (hLs2.out.up hX)
      have y1 := hA1.blk.cell hlk
      have y2 := hA2.blk.cell hlk
      have hF63 := hdl.out k
      obtain ⟨B1, c1, hV1, hr1'⟩ := own_row (hA1.own k hlk) (by omega)
      obtain ⟨B2, c2, hV2, hr2'⟩ := own_row (hA2.own k hlk) (by omega)
      rw [hV1] at y1
      rw [hV2] at y2
      have k26 := SameInts_any wr.heap.size B1 B2 c1 c2 _ _ wr.drew hr1' hr2' (Nat.le_refl _)
      rw [decide_eq_true rfl] at k26
      generalize dnl (bl D) o ((k : Nat) : Int) m = F at *
      have hF9 := hr1'.1
      generalize F.length = L at *
      have hlki : (k : Int) < (n : Int) := by omega
      replace k26 := Lib.hid k26
      replace hV1 := Lib.hid hV1
      replace hV2 := Lib.hid hV2
      replace hr1' := Lib.hid hr1'
      replace hr2' := Lib.hid hr2'
      replace hA1 := Lib.hid hA1
      replace hA2 := Lib.hid hA2
      have hX' := Lib.hid hX
      clear hX
      go_wp2
      go_region_with (go_at_call 26; with_reducible refine k26.out.mono ?_; rintro e Y ⟨rfl, hY⟩; have hY' := Lib.hid hY; clear hY)
      all_goals
        go_wp2
        go_roundw
        case rel => exact ⟨k + 1, by omega, by go_num, bel_trans (show Below X10.heap.size X10 wr.drew from below_drewN hX'.out 1) hY'.out⟩
        case measure => simp [intOf]; omega
    · have hk' : k = n := by omega
      subst hk'
      have hX' := Lib.hid (bel_trans hX10.out hX)
      clear hX
      go_wp2_with fail
      refine (Sane_any _).mono ?_
      rintro e X12 ⟨rfl, hc⟩
      have hend := Lib.hid (bel_trans hX'.out hc)
      clear hc
      go_wp2
      go_ret
      exact ⟨rfl, hend.out⟩
theorem walk (A : Option Addr) (c : Nat) (D : List Bc) (Ao : Option Addr) (co : Nat) (o : List Int) (w : World) (h : Bcs w w.heap.size A D) (ho : Row w w.heap.size Ao o) :
    Calls Try.prog 3 #[.slice A D.length c, .slice Ao o.length co] w fun e w' => e = .returned (.bool true) ∧ Below w.heap.size w w' := by
  by_cases hl : LongP D
  · exact out A Ao c co D o w h ho hl
  · by_cases h2 : 200 < o.length
    · exact out2 A Ao c co D o w h ho hl h2
    · by_cases he : errO (bl D) o = 0
      · exact good A Ao c co D o w h ho hl h2 he
      · exact bad A Ao c co D o w h ho hl h2 he

/-! ### the row's step -/
set_option maxRecDepth 100000 in
theorem lifted (os : Os) (started : os.Started) (H : Type) (enc : TypeId × Value → H) :
    ReturnsInHanded {} Try.checked os 3 .any (Rows.shoreOrdersSpec.pre6 enc Try.prog Try.f3 Rows.shoreOrdersRow.domain false) (Rows.shoreOrdersSpec.post enc Try.prog Try.f3 false true false false) := by
  refine returnsInHanded_of_change (C := Try.checked) own started (by kernel_rfl) Try.func3
    (ChangeSpec.witness6 (enc := enc) (C := Try.checked) false ⟨#[], #[.slice none 0 0, .slice none 0 0], []⟩ 8 (by kernel_rfl) (by kernel_rfl) (by kernel_rfl) (by kernel_rfl)) ?_
  intro W base args ds gs before hval0 hW hcnd _
  have hval : ∀ (j : Nat) t v, Try.f3.params[j]? = some t → args[j]? = some v → Value.okWide Try.prog W .any base t v := hval0
  have hW' := hW
  obtain ⟨p, q, hA0, hV, rfl, hfz, hnd⟩ := hW
  have hA : DataW.TrodAll enc Try.prog W 0 (fun _ => true) true Try.f3.params.toList args.toList ds p := hA0
  rw [Try.params3] at hA hval
  obtain ⟨v0, vs0, d0, ds0, p0, q0, hargs, rfl, rfl, h0, r0⟩ := trodAll_cons hA
  obtain ⟨v1, vs1, d1, ds1, p1, q1, rfl, rfl, rfl, h1, r1⟩ := trodAll_cons r0
  obtain ⟨rfl, rfl, rfl⟩ := trodAll_nil r1
  obtain rfl : args = #[v0, v1] := by cases args; simp_all
  obtain ⟨rfl, rfl⟩ := trodVars_none hV
  have k0 := h0
  have lt0 : ∀ x ∈ p0, x.block < W.heap.size := by obtain ⟨m, hm⟩ := k0; exact DataW.trod_lt m _ _ _ hm
  obtain ⟨a0, len0, cap0, T0, rfl, rfl, w0⟩ : ∃ A len cap D, v0 = .slice A len cap ∧ D.length = len ∧ Bcs W W.heap.size A D := by
    obtain ⟨s0, s1, s2, rfl⟩ := okWide_slice Try.underlying22 (hval 0 22 v0 rfl rfl)
    obtain ⟨fuel, hf⟩ := h0
    exact bcs_of (by simpa [Value.cells] using hf)
  have k1 := h1
  have lt1 : ∀ x ∈ p1, x.block < W.heap.size := by obtain ⟨m, hm⟩ := k1; exact DataW.trod_lt m _ _ _ hm
  obtain ⟨a1, len1, cap1, T1, rfl, rfl, w1⟩ : ∃ A len cap D, v1 = .slice A len cap ∧ D.length = len ∧ Row W W.heap.size A D := by
    obtain ⟨s0, s1, s2, rfl⟩ := okWide_slice Try.underlying23 (hval 1 23 v1 rfl rfl)
    obtain ⟨fuel, hf⟩ := h1
    exact row_of (by simpa [Value.cells] using hf)
  clear hA0 hval0
  refine (walk a0 cap0 T0 a1 cap1 T1 W w0 w1).mono fun e W' ⟨he, bel⟩ => ?_
  subst he
  exact ⟨_, rfl, _, _, _, [], _, [], hW', trodAll_mk1 (shut_bool Try.underlying4 _), (trodAll_cons_mk (Below.trod laidOut (by kernel_rfl) (of_decide_eq_true (by kernel_rfl)) k0 bel lt0) (trodAll_cons_mk (Below.trod laidOut (by kernel_rfl) (of_decide_eq_true (by kernel_rfl)) k1 bel lt1) trodAll_mk0)), rfl, bel.frame _, fun h => by cases h⟩

theorem over : Rows.shoreOrdersRow.holds Try.pinned (OpenSpec.ofChange Rows.shoreOrdersSpec) :=
  OpenClaim.holds_of_wide 3 Try.f3 rfl rfl rfl rfl rfl rfl rfl ⟨rfl, rfl, rfl, rfl, rfl⟩ rfl rfl rfl rfl rfl (by kernel_rfl) Try.func3 (by kernel_rfl)
    (of_decide_eq_true (by kernel_rfl)) (by unfold Func.isWrapper; first | (rw [if_pos (by decide +kernel)]; kernel_rfl) | (rw [if_neg (by decide +kernel)]; exact ⟨rfl, rfl⟩))
    (fun os started H enc _ => lifted os started H enc)

/-- The statement. -/
theorem proved : Rows.ShoreOrdersSaid := over
end Go.Proofs.Ytgjgpcpghglnnaa.lawShoreOrders
