/-
  For any jobs and list, the law ShoreEnds returns true: the best order is an order with the least harm, no order has less nor more than the worst one, none is below the pairs' bound, which is the least harm where no beach has two jobs.
  Conditions: none.
-/
import Derived.Test.YtgjgpcpghglnnaaWb
import Derived.Test.YtgjgpcpghglnnaaBb
namespace Go.Proofs.Ytgjgpcpghglnnaa.lawShoreEnds
open Go.Joins Go.ChangeShapes Go.WideShapes Go.ChangeAt Go.RowKit Go.Deep Go.Proofs.Ytgjgpcpghglnnaa M
set_option linter.unusedVariables false
set_option linter.unusedSimpArgs false

set_option maxRecDepth 100000 in
set_option maxHeartbeats 4000000 in
theorem out (A Ao : Option Addr) (c co : Nat) (D : List Bc) (o : List Int) (w : World) (h : Bcs w w.heap.size A D) (ho : Row w w.heap.size Ao o) (hl : LongP D) :
    Calls Try.prog 8 #[.slice A D.length c, .slice Ao o.length co] w fun e w' => e = .returned (.bool true) ∧ Below w.heap.size w w' := by
  have hL := Long_any w.heap.size A c D w h true (fun _ => hl) (fun hh => by cases hh)
  have h63 := ho.1
  replace hL := Lib.hid hL
  replace hl := Lib.hid hl
  generalize D.length = n at *
  generalize o.length = m at *
  replace h := Lib.hid h
  replace ho := Lib.hid ho
  go_enter Try.func8, Try.ntmps8
  go_wp2_with fail
  refine hL.out.mono ?_
  rintro e X ⟨rfl, rfl⟩
  go_wp2_with fail
  refine (Sane_any _).mono ?_
  rintro e X2 ⟨rfl, hb⟩
  go_wp2
  go_ret
  exact ⟨rfl, hb⟩
set_option maxRecDepth 100000 in
set_option maxHeartbeats 4000000 in
theorem outb (A Ao : Option Addr) (c co : Nat) (D : List Bc) (o : List Int) (w : World) (h : Bcs w w.heap.size A D) (ho : Row w w.heap.size Ao o) (hl : ¬ LongP D) (hv : valB (bl D) = false) :
    Calls Try.prog 8 #[.slice A D.length c, .slice Ao o.length co] w fun e w' => e = .returned (.bool true) ∧ Below w.heap.size w w' := by
  have hL := Long_any w.heap.size A c D w h false (fun hh => by cases hh) (fun _ => hl)
  have h63 := ho.1
  have c19 := Valid_ref w.heap.size A c D w h (Nat.le_refl _) (LongP.no hl)
  rw [hv] at c19
  replace c19 := Lib.hid c19
  replace hv := Lib.hid hv
  replace hL := Lib.hid hL
  replace hl := Lib.hid hl
  generalize D.length = n at *
  generalize o.length = m at *
  replace h := Lib.hid h
  replace ho := Lib.hid ho
  go_enter Try.func8, Try.ntmps8
  go_wp2_with fail
  refine hL.out.mono ?_
  rintro e X ⟨rfl, rfl⟩
  go_wp2_with fail
  refine c19.out.mono ?_
  rintro e X1 ⟨rfl, hX1⟩
  replace hX1 := Lib.hid hX1
  go_wp2_with fail
  refine (Sane_any _).mono ?_
  rintro e X2 ⟨rfl, hb⟩
  have hend := Lib.hid (bel_trans hX1.out hb)
  clear hb
  go_wp2
  go_ret
  exact ⟨rfl, hend.out⟩
set_option maxRecDepth 100000 in
set_option maxHeartbeats 4000000 in
theorem out2 (A Ao : Option Addr) (c co : Nat) (D : List Bc) (o : List Int) (w : World) (h : Bcs w w.heap.size A D) (ho : Row w w.heap.size Ao o) (hl : ¬ LongP D) (hv : valB (bl D) = true) (h200 : 200 < o.length) :
    Calls Try.prog 8 #[.slice A D.length c, .slice Ao o.length co] w fun e w' => e = .returned (.bool true) ∧ Below w.heap.size w w' := by
  have hL := Long_any w.heap.size A c D w h false (fun hh => by cases hh) (fun _ => hl)
  have h63 := ho.1
  have c19 := Valid_ref w.heap.size A c D w h (Nat.le_refl _) (LongP.no hl)
  rw [hv] at c19
  replace c19 := Lib.hid c19
  replace hv := Lib.hid hv
  replace hL := Lib.hid hL
  replace hl := Lib.hid hl
  generalize D.length = n at *
  generalize o.length = m at *
  replace h := Lib.hid h
  replace ho := Lib.hid ho
  go_enter Try.func8, Try.ntmps8
  go_wp2_with fail
  refine hL.out.mono ?_
  rintro e X ⟨rfl, rfl⟩
  go_wp2_with fail
  refine c19.out.mono ?_
  rintro e X1 ⟨rfl, hX1⟩
  replace hX1 := Lib.hid hX1
  go_wp2_with fail
  refine (Sane_any _).mono ?_
  rintro e X2 ⟨rfl, hb⟩
  have hend := Lib.hid (bel_trans hX1.out hb)
  clear hb
  go_wp2
  go_ret
  exact ⟨rfl, hend.out⟩

set_option maxRecDepth 100000 in
set_option maxHeartbeats 16000000 in
theorem good (A Ao : Option Addr) (c co : Nat) (D : List Bc) (o : List Int) (w : World) (h : Bcs w w.heap.size A D) (ho : Row w w.heap.size Ao o) (hl : ¬ LongP D) (hv : valB (bl D) = true) (h200 : ¬ 200 < o.length) :
    Calls Try.prog 8 #[.slice A D.length c, .slice Ao o.length co] w fun e w' => e = .returned (.bool true) ∧ Below w.heap.size w w' := by
  have h63 := h.1
  have hL := Long_any w.heap.size A c D w h false (fun hh => by cases hh) (fun _ => hl)
  have hl100 := LongP.no hl
  have hlen := bl_len D
  have hvv := val_of hv
  have u := fun X (hX : Below w.heap.size w X) => h.up hX
  have uo := fun X (hX : Below w.heap.size w X) => ho.up hX
  have c19 := Valid_ref w.heap.size A c D w h (Nat.le_refl _) hl100
  rw [hv] at c19
  have c27 := fun X (hX : Below w.heap.size w X) => Best_good X.heap.size A c D X (u X hX) (Nat.le_refl _) hl100 hv
  have c29 := fun s (hs : Whole (bl D) s) X (hX : Below w.heap.size w X) => Least_good X.heap.size A c D (hm (bl D) (ord (bl D) s) (ord (bl D) s).length) X (u X hX) (Nat.le_refl _) hvv (fun t _ => (ord_runs (bl D) t).2) (fun t ht => by rw [whole_uniq ht hs])
  have c31 := fun X (hX : Below w.heap.size w X) => Worst_good X.heap.size A c D X (u X hX) (Nat.le_refl _) hl100 hv
  have c33 := fun X (hX : Below w.heap.size w X) => Bound_any X.heap.size A c D X (u X hX) (Nat.le_refl _) hl100
  have hbo : boR (bl D) = (bs (bl D) (fo (bl D) (bl D).length) (fo (bl D) (bl D).length).length, 0) := by unfold boR; rw [if_pos hv]
  rw [hbo] at c33
  have c16 := fun s (hs : Whole (bl D) s) X (hX : Below w.heap.size w X) Al cl (hr : Row X X.heap.size Al (ord (bl D) s)) => (by
    have q := IsOrder_any X.heap.size A Al c cl D (ord (bl D) s) X (u X hX) hr (Nat.le_refl _) hl100
    have e : isR (bl D) (ord (bl D) s) = (true, 0) := by unfold isR; rw [if_pos hv, (best_ord hvv hs).1]
    rw [e] at q
    exact q : Calls Try.prog 16 #[.slice A D.length c, .slice Al (ord (bl D) s).length cl] X _)
  have c20 := fun s (hs : Whole (bl D) s) X (hX : Below w.heap.size w X) Al cl (hr : Row X X.heap.size Al (ord (bl D) s)) => (by
    have q := Harm_any X.heap.size A Al c cl D (ord (bl D) s) X (u X hX) hr (Nat.le_refl _) hl100
    have e : haR (bl D) (ord (bl D) s) = (hm (bl D) (ord (bl D) s) (ord (bl D) s).length, 0) := by
      unfold haR errO; rw [if_pos hv, if_pos (best_ord hvv hs).1, if_pos rfl]
    rw [e] at q
    exact q : Calls Try.prog 20 #[.slice A D.length c, .slice Al (ord (bl D) s).length cl] X _)
  have c20o := fun X (hX : Below w.heap.size w X) => Harm_any X.heap.size A Ao c co D o X (u X hX) (uo X hX) (Nat.le_refl _) hl100
  have hbd := fun s (hs : Whole (bl D) s) => bound_le hvv (best_ord hvv hs).1
  have hlw := fun s (hs : Whole (bl D) s) t (ht : Whole (mpJ ng (bl D)) t) => worst_all hvv ht (best_ord hvv hs).1
  have hone := fun s (hs : Whole (bl D) s) (h1 : ∀ a, a < (bl D).length → (be (bl D) a).length ≤ 1) => one_eq hvv hs h1
  have hend : (haR (bl D) o).2 = 61 ∨ ((haR (bl D) o).2 = 0 ∧ (∀ s, Whole (bl D) s → hm (bl D) (ord (bl D) s) (ord (bl D) s).length ≤ (haR (bl D) o).1) ∧ ∀ t, Whole (mpJ ng (bl D)) t → (haR (bl D) o).1 ≤ hm (bl D) (ord (mpJ ng (bl D)) t) (ord (mpJ ng (bl D)) t).length) := by
    by_cases hor : ordB (bl D) o = true
    · have e : haR (bl D) o = (hm (bl D) o o.length, 0) := by unfold haR errO; rw [if_pos hv, if_pos hor, if_pos rfl]
      rw [e]
      exact .inr ⟨rfl, fun s hs => least_all hvv hs hor, fun t ht => worst_all hvv ht hor⟩
    · have e : haR (bl D) o = (0, 61) := by unfold haR errO; rw [if_pos hv, if_neg hor, if_neg (by decide)]
      rw [e]
      exact .inl rfl
  obtain ⟨⟨no, eo⟩, hno⟩ : ∃ r, r = haR (bl D) o := ⟨_, rfl⟩
  rw [← hno] at c20o hend
  have hat := fun X (hX : Below w.heap.size w X) k (hk : k < D.length) => (h.below hX).at_ k hk
  obtain ⟨bd, hbdd⟩ : ∃ b, b = bs (bl D) (fo (bl D) (bl D).length) (fo (bl D) (bl D).length).length := ⟨_, rfl⟩
  rw [← hbdd] at c33 hbd hone
  rw [hlen] at hone
  unfold BsP at c27
  unfold WsP at c31
  simp only [] at c33 c20o hend
  generalize D.length = n at *
  obtain ⟨m, hm'⟩ : ∃ m, m = o.length := ⟨_, rfl⟩
  rw [← hm'] at h200 c20o ⊢
  replace hm' := Lib.hid hm'
  replace hno := Lib.hid hno
  replace hbdd := Lib.hid hbdd
  replace hL := Lib.hid hL
  replace hl := Lib.hid hl
  replace hl100 := Lib.hid hl100
  replace hlen := Lib.hid hlen
  replace hvv := Lib.hid hvv
  replace u := Lib.hid u
  replace uo := Lib.hid uo
  replace c19 := Lib.hid c19
  replace c27 := Lib.hid c27
  replace c29 := Lib.hid c29
  replace c31 := Lib.hid c31
  replace c33 := Lib.hid c33
  replace hbo := Lib.hid hbo
  replace c16 := Lib.hid c16
  replace c20 := Lib.hid c20
  replace c20o := Lib.hid c20o
  replace hbd := Lib.hid hbd
  replace hlw := Lib.hid hlw
  replace hone := Lib.hid hone
  replace hend := Lib.hid hend
  replace hat := Lib.hid hat
  replace hv := Lib.hid hv
  replace h := Lib.hid h
  replace ho := Lib.hid ho
  go_enter Try.func8, Try.ntmps8
  go_wp2_with fail
  refine hL.out.mono ?_
  rintro e X ⟨rfl, rfl⟩
  go_wp2_with fail
  refine c19.out.mono ?_
  rintro e X1 ⟨rfl, hX1⟩
  have k27 := Lib.hid (c27.out X1 hX1)
  replace hX1 := Lib.hid hX1
  go_wp2_with fail
  refine k27.out.mono ?_
  rintro e X2 ⟨s, A2, c2, rfl, hW, hc, hrow⟩
  have hX2 := bel_trans hX1.out hc
  have k29 := c29.out s hW X2 hX2
  have b1 := hbd.out s hW
  have b3 := hone.out s hW
  have b4 := fun X hX Al cl hr => c16.out s hW X hX Al cl hr
  have b5 := fun X hX Al cl hr => c20.out s hW X hX Al cl hr
  have b6 := fun t ht => hlw.out s hW t ht
  have b7 : eo = 61 ∨ (eo = 0 ∧ hm (bl D) (ord (bl D) s) (ord (bl D) s).length ≤ no ∧ ∀ t, Whole (mpJ ng (bl D)) t → no ≤ hm (bl D) (ord (mpJ ng (bl D)) t) (ord (mpJ ng (bl D)) t).length) := by
    rcases hend.out with h1 | ⟨h1, h2, h3⟩
    · exact .inl h1
    · exact .inr ⟨h1, h2 s hW, h3⟩
  obtain ⟨lo, hlo⟩ : ∃ l, l = hm (bl D) (ord (bl D) s) (ord (bl D) s).length := ⟨_, rfl⟩
  rw [← hlo] at k29 b1 b3 b6 b7
  have b5' : ∀ X (hX : Below w.heap.size w X) Al cl (hr : Row X X.heap.size Al (ord (bl D) s)), Calls Try.prog 20 #[.slice A n c, .slice Al (ord (bl D) s).length cl] X fun e w' => e = .returned (.tuple #[.int .i64 lo, .int .i64 0]) ∧ Below X.heap.size X w' := by rw [hlo]; exact b5
  clear b5
  obtain ⟨bo, hbo2⟩ : ∃ l, l = ord (bl D) s := ⟨_, rfl⟩
  rw [← hbo2] at hrow b4 b5' ⊢
  replace hbo2 := Lib.hid hbo2
  replace hlo := Lib.hid hlo
  replace hW := Lib.hid hW
  replace hX2 := Lib.hid hX2
  replace hrow := Lib.hid hrow
  replace k29 := Lib.hid k29
  replace b3 := Lib.hid b3
  replace b4 := Lib.hid b4
  replace b5' := Lib.hid b5'
  replace b6 := Lib.hid b6
  replace b7 := Lib.hid b7
  clear hc k27
  go_wp2_with fail
  refine k29.out.mono ?_
  rintro e X3 ⟨rfl, hc⟩
  have hX3 := bel_trans hX2.out hc
  have r3 := Lib.hid (hrow.out.up hc)
  have k31 := Lib.hid (c31.out X3 hX3)
  replace hX3 := Lib.hid hX3
  clear hc k29
  go_wp2_with fail
  refine k31.out.mono ?_
  rintro e X4 ⟨t, rfl, hT, hc⟩
  have hX4 := bel_trans hX3.out hc
  have r4 := Lib.hid (r3.out.up hc)
  have k33 := Lib.hid (c33.out X4 hX4)
  have b8 := b6.out t hT
  have b9 : eo = 61 ∨ (eo = 0 ∧ lo ≤ no ∧ no ≤ hm (bl D) (ord (mpJ ng (bl D)) t) (ord (mpJ ng (bl D)) t).length) := by
    rcases b7.out with h1 | ⟨h1, h2, h3⟩
    · exact .inl h1
    · exact .inr ⟨h1, h2, h3 t hT⟩
  obtain ⟨wo, hwo⟩ : ∃ l, l = hm (bl D) (ord (mpJ ng (bl D)) t) (ord (mpJ ng (bl D)) t).length := ⟨_, rfl⟩
  rw [← hwo] at b8 b9 ⊢
  replace hwo := Lib.hid hwo
  replace hT := Lib.hid hT
  replace hX4 := Lib.hid hX4
  replace b9 := Lib.hid b9
  clear hc k31
  go_wp2_with fail
  refine k33.out.mono ?_
  rintro e X5 ⟨rfl, hc⟩
  have hX5 := bel_trans hX4.out hc
  have r5 := r4.out.up hc
  have k16 := Lib.hid (b4.out X5 hX5 A2 c2 r5)
  replace hX5 := Lib.hid hX5
  replace r5 := Lib.hid r5
  clear hc k33
  have d1 : decide (lo < bd) = false := decide_eq_false (by omega)
  have d2 : decide (wo < lo) = false := decide_eq_false (by omega)
  go_wp2_with fail
  refine k16.out.mono ?_
  rintro e X6 ⟨rfl, hc⟩
  have hX6 := bel_trans hX5.out hc
  have r6 := r5.out.up hc
  have k20 := Lib.hid (b5'.out X6 hX6 A2 c2 r6)
  replace hX6 := Lib.hid hX6
  replace r6 := Lib.hid r6
  clear hc k16
  go_wp2_with fail
  refine k20.out.mono ?_
  rintro e X7 ⟨rfl, hc⟩
  have hX7 := bel_trans hX6.out hc
  have k20o := Lib.hid (c20o.out X7 hX7)
  have d3 : (lo != lo) = false := by simp
  have hat7 := fun k (hk : k < n) => hat.out X7 hX7 k hk
  replace hat7 := Lib.hid hat7
  replace hX7 := Lib.hid hX7
  clear hc k20
  go_wp2
  go_loop [15, 16] (fun q i => ∃ (k : Nat) (qb : Bool), k ≤ n ∧ i = .int .i64 (k : Nat) ∧ q = .bool qb ∧ (qb = true → ∀ a, a < k → (be (bl D) a).length ≤ 1)) (fun _ i => n - (intOf i).toNat)
  case atStart => exact ⟨0, true, by omega, rfl, rfl, fun _ a ha => absurd ha (Nat.not_lt_zero _)⟩
  case round =>
    obtain ⟨k, qb, hk, rfl, rfl, hq⟩ := hrel
    by_cases hlk : k < n
    · obtain ⟨b, o1, rfl, hb, e0, hj⟩ := hat7.out k hlk
      have hj1 := hj.1
      have hstep : qb = true → (be (bl D) k).length ≤ 1 → ∀ a, a < k + 1 → (be (bl D) a).length ≤ 1 := fun h1 h2 a ha => by
        by_cases e : a = k
        · rw [e]; exact h2
        · exact hq h1 a (by omega)
      obtain ⟨Lk, hLk⟩ : ∃ L, L = (be (bl D) k).length := ⟨_, rfl⟩
      rw [← hLk] at e0 hj1 hstep
      replace hLk := Lib.hid hLk
      replace hq := Lib.hid hq
      replace hj := Lib.hid hj
      cases qb with
      | true =>
        by_cases h1 : Lk ≤ 1
        · have hs := Lib.hid (hstep rfl h1)
          have h1d : decide ((Lk : Int) ≤ 1) = true := decide_eq_true (by omega)
          clear hstep
          go_wp2
          go_round
          case rel => exact ⟨k + 1, true, by omega, by go_num, by simp; try omega, fun _ => hs.out⟩
          case measure => simp [intOf]; omega
        · have h1d : decide ((Lk : Int) ≤ 1) = false := decide_eq_false (by omega)
          clear hstep
          go_wp2
          go_round
          case rel => exact ⟨k + 1, false, by omega, by go_num, by simp; try omega, fun h => by cases h⟩
          case measure => simp [intOf]; omega
      | false =>
        clear hstep
        go_wp2
        go_round
        case rel => exact ⟨k + 1, false, by omega, by go_num, by simp, fun h => by cases h⟩
        case measure => simp [intOf]; omega
    · have hk' : n = k := by omega
      subst hk'
      have hbq : qb = true → (bd != lo) = false := fun h1 => by
        have := b3.out (hq h1)
        rw [this]; simp
      replace hq := Lib.hid hq
      cases qb with
      | true =>
        have hbl := hbq rfl
        clear hbq
        go_wp2_with fail
        refine k20o.out.mono ?_
        rintro e X8 ⟨rfl, hc⟩
        have hX8 := Lib.hid (bel_trans hX7.out hc)
        clear hc k20o
        rcases b9.out with rfl | ⟨rfl, f1, f2⟩
        all_goals
          replace b7 := Lib.hid b7
          go_wp2_with fail
          refine (Sane_any _).mono ?_
          rintro e X9 ⟨rfl, hc⟩
          have hend9 := Lib.hid (bel_trans hX8.out hc)
          clear hc
          go_wp2
          go_ret
          exact ⟨rfl, hend9.out⟩
      | false =>
        clear hbq
        go_wp2_with fail
        refine k20o.out.mono ?_
        rintro e X8 ⟨rfl, hc⟩
        have hX8 := Lib.hid (bel_trans hX7.out hc)
        clear hc k20o
        rcases b9.out with rfl | ⟨rfl, f1, f2⟩
        all_goals
          replace b7 := Lib.hid b7
          go_wp2_with fail
          refine (Sane_any _).mono ?_
          rintro e X9 ⟨rfl, hc⟩
          have hend9 := Lib.hid (bel_trans hX8.out hc)
          clear hc
          go_wp2
          go_ret
          exact ⟨rfl, hend9.out⟩
theorem walk (A : Option Addr) (c : Nat) (D : List Bc) (Ao : Option Addr) (co : Nat) (o : List Int) (w : World) (h : Bcs w w.heap.size A D) (ho : Row w w.heap.size Ao o) :
    Calls Try.prog 8 #[.slice A D.length c, .slice Ao o.length co] w fun e w' => e = .returned (.bool true) ∧ Below w.heap.size w w' := by
  by_cases hl : LongP D
  · exact out A Ao c co D o w h ho hl
  · cases hv : valB (bl D) with
    | false => exact outb A Ao c co D o w h ho hl hv
    | true =>
      by_cases h2 : 200 < o.length
      · exact out2 A Ao c co D o w h ho hl hv h2
      · exact good A Ao c co D o w h ho hl hv h2

/-! ### the row's step -/
set_option maxRecDepth 100000 in
theorem lifted (os : Os) (started : os.Started) (H : Type) (enc : TypeId × Value → H) :
    ReturnsInHanded {} Try.checked os 8 .any (Rows.shoreEndsSpec.pre6 enc Try.prog Try.f8 Rows.shoreEndsRow.domain false) (Rows.shoreEndsSpec.post enc Try.prog Try.f8 false true false false) := by
  refine returnsInHanded_of_change (C := Try.checked) own started (by kernel_rfl) Try.func8
    (ChangeSpec.witness6 (enc := enc) (C := Try.checked) false ⟨#[], #[.slice none 0 0, .slice none 0 0], []⟩ 8 (by kernel_rfl) (by kernel_rfl) (by kernel_rfl) (by kernel_rfl)) ?_
  intro W base args ds gs before hval0 hW hcnd _
  have hval : ∀ (j : Nat) t v, Try.f8.params[j]? = some t → args[j]? = some v → Value.okWide Try.prog W .any base t v := hval0
  have hW' := hW
  obtain ⟨p, q, hA0, hV, rfl, hfz, hnd⟩ := hW
  have hA : DataW.TrodAll enc Try.prog W 0 (fun _ => true) true Try.f8.params.toList args.toList ds p := hA0
  rw [Try.params8] at hA hval
  obtain ⟨v0, vs0, d0, ds0, p0, q0, hargs, rfl, rfl, h0, r0⟩ := trodAll_cons hA
  obtain ⟨v1, vs1, d1, ds1, p1, q1, rfl, rfl, rfl, h1, r1⟩ := trodAll_cons r0
  obtain ⟨rfl, rfl, rfl⟩ := trodAll_nil r1
  obtain rfl : args = #[v0, v1] := by cases args; simp_all
  obtain ⟨rfl, rfl⟩ := trodVars_none hV
  have k0 := h0
  have lt0 : ∀ x ∈ p0, x.block < W.heap.size := by obtain ⟨m, hm⟩ := k0; exact DataW.trod_lt m _ _ _ hm
  obtain ⟨a0, len0, cap0, T0, rfl, rfl, w0⟩ : ∃ A len cap D, v0 = .slice A len cap ∧ D.length = len ∧ Bcs W W.heap.size A D := by
    obtain ⟨s0, s1, s2, rfl⟩ := okWide_slice Try.underlying22 (hval 0 22 v0 rfl rfl)
    obtain ⟨fuel, hf⟩ := h0
    exact bcs_of (by simpa [Value.cells] using hf)
  have k1 := h1
  have lt1 : ∀ x ∈ p1, x.block < W.heap.size := by obtain ⟨m, hm⟩ := k1; exact DataW.trod_lt m _ _ _ hm
  obtain ⟨a1, len1, cap1, T1, rfl, rfl, w1⟩ : ∃ A len cap D, v1 = .slice A len cap ∧ D.length = len ∧ Row W W.heap.size A D := by
    obtain ⟨s0, s1, s2, rfl⟩ := okWide_slice Try.underlying23 (hval 1 23 v1 rfl rfl)
    obtain ⟨fuel, hf⟩ := h1
    exact row_of (by simpa [Value.cells] using hf)
  clear hA0 hval0
  refine (walk a0 cap0 T0 a1 cap1 T1 W w0 w1).mono fun e W' ⟨he, bel⟩ => ?_
  subst he
  exact ⟨_, rfl, _, _, _, [], _, [], hW', trodAll_mk1 (shut_bool Try.underlying4 _), (trodAll_cons_mk (Below.trod laidOut (by kernel_rfl) (of_decide_eq_true (by kernel_rfl)) k0 bel lt0) (trodAll_cons_mk (Below.trod laidOut (by kernel_rfl) (of_decide_eq_true (by kernel_rfl)) k1 bel lt1) trodAll_mk0)), rfl, bel.frame _, fun h => by cases h⟩

theorem over : Rows.shoreEndsRow.holds Try.pinned (OpenSpec.ofChange Rows.shoreEndsSpec) :=
  OpenClaim.holds_of_wide 8 Try.f8 rfl rfl rfl rfl rfl rfl rfl ⟨rfl, rfl, rfl, rfl, rfl⟩ rfl rfl rfl rfl rfl (by kernel_rfl) Try.func8 (by kernel_rfl)
    (of_decide_eq_true (by kernel_rfl)) (by unfold Func.isWrapper; first | (rw [if_pos (by decide +kernel)]; kernel_rfl) | (rw [if_neg (by decide +kernel)]; exact ⟨rfl, rfl⟩))
    (fun os started H enc _ => lifted os started H enc)

/-- The statement. -/
theorem proved : Rows.ShoreEndsSaid := over
end Go.Proofs.Ytgjgpcpghglnnaa.lawShoreEnds
