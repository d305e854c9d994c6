/-
  For any tanks, levels and deeds, the law TankWater returns true: what is in the tanks behind deeds is what was there, and in, less out.
  Conditions: none.
-/
import Derived.Test.YtgonibieeimdoaaK
import Derived.Test.YtgonibieeimdoaaR
namespace Go.Proofs.Ytgonibieeimdoaa.lawTankWater
open Go.ChangeShapes Go.WideShapes Go.ChangeAt Go.RowKit Go.Deep Go.Proofs.Ytgonibieeimdoaa M
set_option linter.unusedVariables false
set_option linter.unusedSimpArgs false

theorem Long_any (A A' : Option Addr) (c c' n m : Nat) (w : World) (q : Bool) (hq : q = (decide (20 < n) || decide (20 < m))) (hn : n ≤ 9223372036854775807) (hm : m ≤ 9223372036854775807) :
    Calls Try.prog 17 #[.slice A n c, .slice A' m c'] w fun e w' => e = .returned (.bool q) ∧ w = w' := by
  subst hq
  by_cases h1 : 20 < n
  · go_enter Try.func17, Try.ntmps17
    go_wp2
    go_ret
    exact ⟨ret_bool (by simp [h1]), rfl⟩
  · by_cases h2 : 20 < m
    · go_enter Try.func17, Try.ntmps17
      go_wp2
      go_ret
      exact ⟨ret_bool (by simp [h1, h2]; omega), rfl⟩
    · go_enter Try.func17, Try.ntmps17
      go_wp2
      go_ret
      exact ⟨ret_bool (by simp [h1, h2]; omega), rfl⟩
theorem same_is {X : World} {A1 A2 : Option Addr} {n : Nat} {l : List Int} (c1 c2 : Nat) (h1 : Row X X.heap.size A1 l) (h2 : Row X X.heap.size A2 l) (hn : n = l.length) : Calls Try.prog 23 #[.slice A1 n c1, .slice A2 n c2] X fun e Y => e = .returned (.bool true) ∧ Below X.heap.size X Y := by
  subst hn
  refine (SameInts_any X.heap.size A1 A2 c1 c2 l l X h1 h2).mono fun e Y hh => ?_
  unfold sameI at hh
  rw [decide_eq_true rfl] at hh
  refine ⟨hh.1, ?_⟩
  first
    | (obtain ⟨_, n, rfl⟩ := hh; exact below_drewN (Below.refl _ _) n)
    | (obtain ⟨_, rfl⟩ := hh; exact Below.refl _ _)
theorem sane_any (w : World) : Calls Try.prog 18 #[] w fun e w' => e = .returned (.bool true) ∧ Below w.heap.size w w' := Sane_any w

set_option maxRecDepth 100000 in
set_option maxHeartbeats 4000000 in
theorem walk (A : Option Addr) (c : Nat) (t : List Int) (A' : Option Addr) (c' : Nat) (l : List Int) (A'' : Option Addr) (c'' : Nat) (D : List Dd) (w : World) (h : Row w w.heap.size A t) (h' : Row w w.heap.size A' l) (h'' : Dls w w.heap.size A'' D) :
    Calls Try.prog 12 #[.slice A t.length c, .slice A' l.length c', .slice A'' D.length c''] w fun e w' => e = .returned (.bool true) ∧ Below w.heap.size w w' := by
  have h63 := h.1
  have h63' := h'.1
  have h63'' := h''.1
  have hbel := Below.refl w.heap.size w
  have T := h
  have L := h'
  have DD := h''
  have hL := Long_any A A' c c' t.length l.length w _ rfl h63 h63'
  cases hq : (decide (20 < t.length) || decide (20 < l.length)) with
  | true =>
    rw [hq] at hL
    replace hL := Lib.hid hL
    replace hq := Lib.hid hq
    go_enter Try.func12, Try.ntmps12
    go_wp2_with fail
    refine hL.out.mono ?_
    rintro e X0 ⟨rfl, rfl⟩
    go_wp2_with fail
    refine (sane_any _).mono ?_
    rintro e XA ⟨rfl, hbA⟩
    replace hbel := bel_trans hbel hbA
    go_wp2
    go_ret
    exact ⟨rfl, hbel⟩
  | false =>
    rw [hq] at hL
    replace hL := Lib.hid hL
    replace hq := Lib.hid hq
    by_cases h300 : 300 < D.length
    · go_enter Try.func12, Try.ntmps12
      go_wp2_with fail
      refine hL.out.mono ?_
      rintro e X0 ⟨rfl, rfl⟩
      go_wp2_with fail
      refine (sane_any _).mono ?_
      rintro e XA ⟨rfl, hbA⟩
      replace hbel := bel_trans hbel hbA
      go_wp2
      go_ret
      exact ⟨rfl, hbel⟩
    · by_cases h0 : err2 t l D = 0
      · obtain ⟨hv, hl, hD⟩ := err2_zero h0
        have hA : aftR t l D = (afL t l D, 0) := by unfold aftR; rw [if_pos h0]
        have hW : watR t l D = (inN t l D D.length, outN t l D D.length, 0) := by unfold watR; rw [if_pos h0]
        have hok := afN_ok hl hD D.length (Nat.le_refl _)
        have hio := io_tot t l D D.length
        have hb := io_b hv hl hD D.length (Nat.le_refl _)
        have htb := tot_b hv hl
        have hln := afN_len t l D D.length
        have hD200 := hD.1
        have h4 := hv.1.2
        have hll := hl.1
        have KA := fun X A1 c1 (r : Row X X.heap.size A1 (afN t l D D.length)) => Sum_ref X.heap.size A1 c1 (afN t l D D.length) X r (fun i => el_b hv hok i) (by rw [hln]; omega)
        have KB := fun X A1 c1 (r : Row X X.heap.size A1 l) => Sum_ref X.heap.size A1 c1 l X r (fun i => el_b hv hl i) (by omega)
        obtain ⟨lf, hlf⟩ : ∃ lf, lf = afN t l D D.length := ⟨_, rfl⟩
        have hfl : lf.length = l.length := by rw [hlf]; exact hln
        have hA' : aftR t l D = (lf, 0) := by rw [hA, hlf]; rfl
        rw [← hlf] at KA hio
        generalize inN t l D D.length = I at *
        generalize outN t l D D.length = O at *
        obtain ⟨⟨i1, i2⟩, o1, o2⟩ := hb
        have i9 : I ≤ 10000 := by omega
        have o9 : O ≤ 10000 := by omega
        obtain ⟨T1, hT1⟩ : ∃ T, T = tot l := ⟨_, rfl⟩
        obtain ⟨T2, hT2⟩ : ∃ T, T = tot lf := ⟨_, rfl⟩
        rw [← hT1] at KB hio htb
        rw [← hT2] at KA hio
        have e1 : T1 + I - O = T2 := hio.symm
        obtain ⟨s1, hs1⟩ : ∃ s, s = T1 + I := ⟨_, rfl⟩
        have v1 : T1 + I = s1 := hs1.symm
        have v2 : s1 - O = T2 := by rw [hs1]; exact e1
        have y1 : IntKind.i64.wrap (T1 + I) = s1 := by rw [hs1]; exact IntWalk.i64_in _ (by omega)
        have y2 : IntKind.i64.wrap (s1 - O) = T2 := by rw [v2]; exact IntWalk.i64_in _ (by omega)
        have y3 : IntKind.i64.wrap s1 = s1 := IntWalk.i64_in _ (by omega)
        have y4 : IntKind.i64.wrap T2 = T2 := IntWalk.i64_in _ (by omega)
        have htt : (T2 == T2) = true := by simp
        have i1' : ¬ (I < 0) := by omega
        have o1' : ¬ (O < 0) := by omega
        clear i2 o2 e1 hA hln
        replace hio := Lib.hid hio
        replace hlf := Lib.hid hlf
        replace hfl := Lib.hid hfl
        replace hT1 := Lib.hid hT1
        replace hT2 := Lib.hid hT2
        replace hs1 := Lib.hid hs1
        replace v2 := Lib.hid v2
        replace hA' := Lib.hid hA'
        replace hW := Lib.hid hW
        replace hv := Lib.hid hv
        replace hl := Lib.hid hl
        replace hD := Lib.hid hD
        replace hok := Lib.hid hok
        replace h0 := Lib.hid h0
        replace hll := Lib.hid hll
        replace KA := Lib.hid KA
        replace KB := Lib.hid KB
        go_enter Try.func12, Try.ntmps12
        go_wp2_with fail
        refine hL.out.mono ?_
        rintro e X0 ⟨rfl, rfl⟩
        have K := After_any w.heap.size A A' A'' c c' c'' t l D w T L DD (Nat.le_refl _)
        unfold AftP at K
        rw [hA'.out] at K
        simp only [] at K
        replace K := Lib.hid K
        go_wp2_with fail
        refine K.out.mono ?_
        rintro e X1 ⟨A1, c1, rfl, hb1, r1⟩
        clear K
        replace T := T.up hb1
        replace L := L.up hb1
        replace DD := DD.up hb1
        replace hbel := bel_trans hbel hb1
        have K := Water_any X1.heap.size A A' A'' c c' c'' t l D X1 T L DD (Nat.le_refl _)
        rw [hW.out] at K
        simp only [] at K
        replace K := Lib.hid K
        go_wp2_with fail
        refine K.out.mono ?_
        rintro e X2 ⟨rfl, hb2⟩
        clear K
        replace L := L.up hb2
        replace r1 := r1.up hb2
        replace hbel := bel_trans hbel hb2
        have k1 := Lib.hid (KA.out _ A1 c1 r1)
        have k2 := Lib.hid (KB.out _ A' c' L)
        replace r1 := Lib.hid r1
        replace L := Lib.hid L
        replace T := Lib.hid T
        replace DD := Lib.hid DD
        go_wp2_with fail
        refine k1.out.mono ?_
        rintro e X3 ⟨rfl, rfl⟩
        go_wp2_with fail
        refine k2.out.mono ?_
        rintro e X4 ⟨rfl, rfl⟩
        go_wp2_with fail
        refine (sane_any _).mono ?_
        rintro e XA ⟨rfl, hbA⟩
        replace hbel := bel_trans hbel hbA
        go_wp2
        go_ret
        exact ⟨rfl, hbel⟩
      · have hA : (aftR t l D).2 = err2 t l D := by unfold aftR; rw [if_neg h0]
        have hW : watR t l D = (0, 0, err2 t l D) := by unfold watR; rw [if_neg h0]
        have hcs := Lib.hid (err2_cases t l D)
        obtain ⟨er, her⟩ : ∃ er, er = err2 t l D := ⟨_, rfl⟩
        rw [← her] at hA hW h0
        have hee : (er == er) = true := by simp
        replace her := Lib.hid her
        replace hA := Lib.hid hA
        replace hW := Lib.hid hW
        go_enter Try.func12, Try.ntmps12
        go_wp2_with fail
        refine hL.out.mono ?_
        rintro e X0 ⟨rfl, rfl⟩
        have K := After_any w.heap.size A A' A'' c c' c'' t l D w T L DD (Nat.le_refl _)
        unfold AftP at K
        rw [hA.out] at K
        replace K := Lib.hid K
        go_wp2_with fail
        refine K.out.mono ?_
        rintro e X1 ⟨A1, c1, rfl, hb1, r1⟩
        clear K
        replace T := T.up hb1
        replace L := L.up hb1
        replace DD := DD.up hb1
        replace hbel := bel_trans hbel hb1
        have K := Water_any X1.heap.size A A' A'' c c' c'' t l D X1 T L DD (Nat.le_refl _)
        rw [hW.out] at K
        simp only [] at K
        replace K := Lib.hid K
        go_wp2_with fail
        refine K.out.mono ?_
        rintro e X2 ⟨rfl, hb2⟩
        clear K
        replace L := L.up hb2
        replace r1 := r1.up hb2
        replace hbel := bel_trans hbel hb2
        go_wp2_with fail
        refine (sane_any _).mono ?_
        rintro e XA ⟨rfl, hbA⟩
        replace hbel := bel_trans hbel hbA
        go_wp2
        go_ret
        exact ⟨rfl, hbel⟩

/-! ### the row's step -/
set_option maxRecDepth 100000 in
theorem lifted (os : Os) (started : os.Started) (H : Type) (enc : TypeId × Value → H) :
    ReturnsInHanded {} Try.checked os 12 .any (Rows.tankWaterSpec.pre6 enc Try.prog Try.f12 Rows.tankWaterRow.domain false) (Rows.tankWaterSpec.post enc Try.prog Try.f12 false true false false) := by
  refine returnsInHanded_of_change (C := Try.checked) own started (by kernel_rfl) Try.func12
    (ChangeSpec.witness6 (enc := enc) (C := Try.checked) false ⟨#[], #[.slice none 0 0, .slice none 0 0, .slice none 0 0], []⟩ 8 (by kernel_rfl) (by kernel_rfl) (by kernel_rfl) (by kernel_rfl)) ?_
  intro W base args ds gs before hval0 hW hcnd _
  have hval : ∀ (j : Nat) t v, Try.f12.params[j]? = some t → args[j]? = some v → Value.okWide Try.prog W .any base t v := hval0
  have hW' := hW
  obtain ⟨p, q, hA0, hV, rfl, hfz, hnd⟩ := hW
  have hA : DataW.TrodAll enc Try.prog W 0 (fun _ => true) true Try.f12.params.toList args.toList ds p := hA0
  rw [Try.params12] at hA hval
  obtain ⟨v0, vs0, d0, ds0, p0, q0, hargs, rfl, rfl, h0, r0⟩ := trodAll_cons hA
  obtain ⟨v1, vs1, d1, ds1, p1, q1, rfl, rfl, rfl, h1, r1⟩ := trodAll_cons r0
  obtain ⟨v2, vs2, d2, ds2, p2, q2, rfl, rfl, rfl, h2, r2⟩ := trodAll_cons r1
  obtain ⟨rfl, rfl, rfl⟩ := trodAll_nil r2
  obtain rfl : args = #[v0, v1, v2] := by cases args; simp_all
  obtain ⟨rfl, rfl⟩ := trodVars_none hV
  have k0 := h0
  have lt0 : ∀ x ∈ p0, x.block < W.heap.size := by obtain ⟨m, hm⟩ := k0; exact DataW.trod_lt m _ _ _ hm
  obtain ⟨a0, len0, cap0, T0, rfl, rfl, w0⟩ : ∃ A len cap D, v0 = .slice A len cap ∧ D.length = len ∧ Row W W.heap.size A D := by
    obtain ⟨s0, s1, s2, rfl⟩ := okWide_slice Try.underlying22 (hval 0 22 v0 rfl rfl)
    obtain ⟨fuel, hf⟩ := h0
    exact row_of (by simpa [Value.cells] using hf)
  have k1 := h1
  have lt1 : ∀ x ∈ p1, x.block < W.heap.size := by obtain ⟨m, hm⟩ := k1; exact DataW.trod_lt m _ _ _ hm
  obtain ⟨a1, len1, cap1, T1, rfl, rfl, w1⟩ : ∃ A len cap D, v1 = .slice A len cap ∧ D.length = len ∧ Row W W.heap.size A D := by
    obtain ⟨s0, s1, s2, rfl⟩ := okWide_slice Try.underlying22 (hval 1 22 v1 rfl rfl)
    obtain ⟨fuel, hf⟩ := h1
    exact row_of (by simpa [Value.cells] using hf)
  have k2 := h2
  have lt2 : ∀ x ∈ p2, x.block < W.heap.size := by obtain ⟨m, hm⟩ := k2; exact DataW.trod_lt m _ _ _ hm
  obtain ⟨a2, len2, cap2, T2, rfl, rfl, w2⟩ : ∃ A len cap D, v2 = .slice A len cap ∧ D.length = len ∧ Dls W W.heap.size A D := by
    obtain ⟨s0, s1, s2, rfl⟩ := okWide_slice Try.underlying32 (hval 2 32 v2 rfl rfl)
    obtain ⟨fuel, hf⟩ := h2
    exact dls_of (by simpa [Value.cells] using hf)
  clear hA0 hval0
  refine (walk a0 cap0 T0 a1 cap1 T1 a2 cap2 T2 W w0 w1 w2).mono fun e W' ⟨he, bel⟩ => ?_
  subst he
  exact ⟨_, rfl, _, _, _, [], _, [], hW', trodAll_mk1 (shut_bool Try.underlying4 _), (trodAll_cons_mk (Below.trod laidOut (by kernel_rfl) (of_decide_eq_true (by kernel_rfl)) k0 bel lt0) (trodAll_cons_mk (Below.trod laidOut (by kernel_rfl) (of_decide_eq_true (by kernel_rfl)) k1 bel lt1) (trodAll_cons_mk (Below.trod laidOut (by kernel_rfl) (of_decide_eq_true (by kernel_rfl)) k2 bel lt2) trodAll_mk0))), rfl, bel.frame _, fun h => by cases h⟩

theorem over : Rows.tankWaterRow.holds Try.pinned (OpenSpec.ofChange Rows.tankWaterSpec) :=
  OpenClaim.holds_of_wide 12 Try.f12 rfl rfl rfl rfl rfl rfl rfl ⟨rfl, rfl, rfl, rfl, rfl⟩ rfl rfl rfl rfl rfl (by kernel_rfl) Try.func12 (by kernel_rfl)
    (of_decide_eq_true (by kernel_rfl)) (by unfold Func.isWrapper; first | (rw [if_pos (by decide +kernel)]; kernel_rfl) | (rw [if_neg (by decide +kernel)]; exact ⟨rfl, rfl⟩))
    (fun os started H enc _ => lifted os started H enc)

/-- The statement. -/
theorem proved : Rows.TankWaterSaid := over
end Go.Proofs.Ytgonibieeimdoaa.lawTankWater
