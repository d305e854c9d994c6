/-
  Are two windows the same: the program's function.
-/
import Derived.Test.YtlnpnfjdcnijhaaBg
namespace Go.Proofs.Ytlnpnfjdcnijhaa
open Go.RowKit Go.Deep M
set_option linter.unusedVariables false
set_option linter.unusedSimpArgs false

namespace M
def sameR (x y : Wn) : Bool × Int := if (winB x 3600 && winB y 3600) = true then (eqW (plW x).p (plW x).hs (plW y).p (plW y).hs, 0) else (false, 50)
end M
/-- An edge's premise. -/
theorem pre_at {es : Array Edge} {g : Nat → Bool} (h : ∀ e ∈ es, Region.binds .any e = true → g e.on = true) (k : Nat) {e : Edge} (he : es[k]? = some e) (hb : Region.binds .any e = true) : g e.on = true :=
  h e (Array.mem_of_getElem? he) hb

set_option maxRecDepth 100000 in
set_option maxHeartbeats 4000000 in
theorem Same_any (B : Nat) (A A' : Option Addr) (c c' : Nat) (x y : Wn) (w : World) (h : Row w B A x.hs) (h' : Row w B A' y.hs) (hB : B ≤ w.heap.size) :
    Calls Try.prog 39 #[wnV x.p A x.hs.length c, wnV y.p A' y.hs.length c'] w fun e w' => e = .returned (.tuple #[.bool (sameR x y).1, .int .i64 (sameR x y).2]) ∧ Below w.heap.size w w' := by
  have h63 := h.1
  have h63' := h'.1
  have hW := twO_new w x.p y.p A A' x.hs.length y.hs.length c c'
  have c63 := (chk_2 (c := c) (c' := c') h h' hB hW.below true 3600 (by omega)).mono fun e w' ⟨he, hb⟩ => And.intro he (hW.up hb)
  rw [show ((w.alloc (.cells #[.int .i64 x.p, .slice A x.hs.length c] 24)).alloc (.cells #[.int .i64 y.p, .slice A' y.hs.length c'] 24)).heap.size = w.heap.size + 1 + 1 by simp] at c63
  unfold wnV at *
  obtain ⟨c0, c1, d0, d1⟩ := hW.cells
  replace hW := Lib.hid hW
  cases hv : (winB x 3600 && winB y 3600) with
  | false =>
    have hR : sameR x y = (false, 50) := by unfold sameR; rw [hv]; simp
    rw [hR]
    rw [hv, if_neg (by simp)] at c63
    simp only []
    replace c63 := Lib.hid c63
    replace hR := Lib.hid hR
    replace hv := Lib.hid hv
    go_enter Try.func39, Try.ntmps39
    go_wp2_with fail
    refine c63.out.mono ?_
    rintro e X1 ⟨rfl, hX1⟩
    go_wp2
    exact bodyPost_ret (v := .tuple #[.bool false, .int .i64 50]) (by simp [results, Try.results39, go_sem]) rfl ⟨rfl, hX1.below⟩
  | true =>
    obtain ⟨hv1, hv2⟩ : winB x 3600 = true ∧ winB y 3600 = true := by simpa using hv
    have hR : sameR x y = (eqW (plW x).p (plW x).hs (plW y).p (plW y).hs, 0) := by unfold sameR; rw [hv]; simp
    rw [hR]
    rw [hv, if_pos rfl, if_pos rfl] at c63
    simp only []
    have kx1 : ∀ X, TwO w x.p y.p A A' x.hs.length y.hs.length c c' X → Calls Try.prog 65 #[.agg #[.int .i64 x.p, .slice A x.hs.length c]] X fun e w' => ∃ F, e = .returned (.agg #[.int .i64 x.p, F]) ∧ Below X.heap.size X w' ∧ Opn w' w'.heap.size F (opB x) := fun X hX =>
      openingOf_any B A c x X (h.below (hX.below.mono hB)) (Nat.le_trans hB hX.below.size) hv1
    have kx2 : ∀ F X, Opn X X.heap.size F (opB x) → Calls Try.prog 81 #[.agg #[.int .i64 x.p, F]] X fun e w' => ∃ G, e = .returned (.agg #[.int .i64 (plW x).p, G]) ∧ Below X.heap.size X w' ∧ Opn w' w'.heap.size G (opB x) := fun F X hO => by
      obtain ⟨⟨p1, p2⟩, _⟩ := winB_iff.1 hv1
      obtain ⟨p, hp⟩ := Int.eq_ofNat_of_zero_le (show 0 ≤ x.p by omega)
      unfold plW
      rw [hp, Int.toNat_natCast]
      exact plain_any p F (opB x) X hO (by omega)
    have kx3 : ∀ F X, Opn X X.heap.size F (opB x) → Calls Try.prog 73 #[.agg #[.int .i64 (plW x).p, F]] X fun e w' => ∃ D k, e = .returned (.agg #[.int .i64 (plW x).p, .slice D (plW x).hs.length k]) ∧ Below X.heap.size X w' ∧ Row w' w'.heap.size D (plW x).hs ∧ ∀ a, D = some a → X.heap.size ≤ a.block := fun F X hO => by
      obtain ⟨⟨p1, p2⟩, _⟩ := winB_iff.1 hv1
      obtain ⟨p, hp⟩ := Int.eq_ofNat_of_zero_le (show 0 ≤ x.p by omega)
      have hpl := (plN_spec (show 1 ≤ p by omega) (opB_perM hp)).1.2
      unfold plW
      rw [hp, Int.toNat_natCast]
      exact window_any X.heap.size (plN p (opB x)) F (opB x) X hO.small (Nat.le_refl _) (by omega)
    have ky1 : ∀ X, TwO w x.p y.p A A' x.hs.length y.hs.length c c' X → Calls Try.prog 65 #[.agg #[.int .i64 y.p, .slice A' y.hs.length c']] X fun e w' => ∃ F, e = .returned (.agg #[.int .i64 y.p, F]) ∧ Below X.heap.size X w' ∧ Opn w' w'.heap.size F (opB y) := fun X hX =>
      openingOf_any B A' c' y X (h'.below (hX.below.mono hB)) (Nat.le_trans hB hX.below.size) hv2
    have ky2 : ∀ F X, Opn X X.heap.size F (opB y) → Calls Try.prog 81 #[.agg #[.int .i64 y.p, F]] X fun e w' => ∃ G, e = .returned (.agg #[.int .i64 (plW y).p, G]) ∧ Below X.heap.size X w' ∧ Opn w' w'.heap.size G (opB y) := fun F X hO => by
      obtain ⟨⟨p1, p2⟩, _⟩ := winB_iff.1 hv2
      obtain ⟨p, hp⟩ := Int.eq_ofNat_of_zero_le (show 0 ≤ y.p by omega)
      unfold plW
      rw [hp, Int.toNat_natCast]
      exact plain_any p F (opB y) X hO (by omega)
    have ky3 : ∀ F X, Opn X X.heap.size F (opB y) → Calls Try.prog 73 #[.agg #[.int .i64 (plW y).p, F]] X fun e w' => ∃ D k, e = .returned (.agg #[.int .i64 (plW y).p, .slice D (plW y).hs.length k]) ∧ Below X.heap.size X w' ∧ Row w' w'.heap.size D (plW y).hs ∧ ∀ a, D = some a → X.heap.size ≤ a.block := fun F X hO => by
      obtain ⟨⟨p1, p2⟩, _⟩ := winB_iff.1 hv2
      obtain ⟨p, hp⟩ := Int.eq_ofNat_of_zero_le (show 0 ≤ y.p by omega)
      have hpl := (plN_spec (show 1 ≤ p by omega) (opB_perM hp)).1.2
      unfold plW
      rw [hp, Int.toNat_natCast]
      exact window_any X.heap.size (plN p (opB y)) F (opB y) X hO.small (Nat.le_refl _) (by omega)
    replace c63 := Lib.hid c63
    replace hR := Lib.hid hR
    replace hv := Lib.hid hv
    replace hv1 := Lib.hid hv1
    replace hv2 := Lib.hid hv2
    replace kx1 := Lib.hid kx1
    replace kx2 := Lib.hid kx2
    replace kx3 := Lib.hid kx3
    replace ky1 := Lib.hid ky1
    replace ky2 := Lib.hid ky2
    replace ky3 := Lib.hid ky3
    have hlx := (plW x).hs.length
    go_enter Try.func39, Try.ntmps39
    go_wp2_with fail
    refine c63.out.mono ?_
    rintro e X1 ⟨rfl, hX1⟩
    clear c0 c1 d0 d1 hlx
    go_wp2_with fail
    refine wp_region_g (fun g a X => ∃ t7 t8 t16 t17 t18 t19 t20 t21 t22 t23, a = { tmps := #[Value.agg #[Value.int IntKind.i64 x.p, Value.slice A x.hs.length c], Value.agg #[Value.int IntKind.i64 y.p, Value.slice A' y.hs.length c'], Value.pointer (some { block := w.heap.size, off := 0 }), Value.pointer (some { block := w.heap.size + 1, off := 0 }), Value.bool false, Value.int IntKind.i64 0, Value.int IntKind.i64 0, t7, t8, Value.agg #[Value.int IntKind.i64 x.p, Value.slice A x.hs.length c], Value.agg #[Value.int IntKind.i64 y.p, Value.slice A' y.hs.length c'], Value.slice (some { block := w.heap.size + 1 + 1, off := 0 }) 2 2, Value.int IntKind.i64 0, Value.int IntKind.i64 0, Value.bool false, undef, t16, t17, t18, t19, t20, t21, t22, t23, undef, undef, undef, undef, undef, undef, undef, undef, undef, undef, undef, undef], defers := [] } ∧ SmI w x y A A' c c' g t7 t8 t16 t17 t18 t19 t20 t21 t22 t23 X) (by kernel_rfl) (by kernel_rfl) ?_ ?_ ?_
    case refine_1 => exact ⟨_, _, _, _, _, _, _, _, _, _, rfl, SmI.zero hX1.drew⟩
    case refine_2 =>
      clear hX1
      rintro g a X ⟨t7, t8, t16, t17, t18, t19, t20, t21, t22, t23, rfl, hI⟩ i o ho hg hpre Q2 hQ2
      have hi12 : i < 12 := (Array.getElem?_eq_some_iff.1 ho).1
      obtain rfl | rfl | rfl | rfl | rfl | rfl | rfl | rfl | rfl | rfl | rfl | rfl : i = 0 ∨ i = 4 ∨ i = 1 ∨ i = 5 ∨ i = 2 ∨ i = 6 ∨ i = 3 ∨ i = 7 ∨ i = 8 ∨ i = 9 ∨ i = 10 ∨ i = 11 := by omega
      · clear hi12
        replace hQ2 := Lib.hid hQ2
        cases ho
        have hc := hI.on.cells
        obtain ⟨c0, c1, d0, d1⟩ := hc
        replace hI := Lib.hid hI
        go_wp2
        exact hQ2.out _ _ ⟨_, _, _, _, _, _, _, _, _, _, rfl, hI.out.s0⟩
      · clear hi12
        replace hQ2 := Lib.hid hQ2
        cases ho
        have hc := hI.on.cells
        obtain ⟨c0, c1, d0, d1⟩ := hc
        replace hI := Lib.hid hI
        go_wp2
        exact hQ2.out _ _ ⟨_, _, _, _, _, _, _, _, _, _, rfl, hI.out.s4⟩
      · clear hi12
        replace hQ2 := Lib.hid hQ2
        cases ho
        have p0 : g 0 = true := pre_at hpre 0 rfl rfl
        have e0 := hI.f0 p0
        subst e0
        have hc := Lib.hid (kx1.out X hI.on)
        replace hI := Lib.hid hI
        go_wp2_with fail
        refine hc.out.mono ?_
        rintro e X2 ⟨F, rfl, hb, hO⟩
        have hI2 := Lib.hid ((hI.out.up hb).s1 hO)
        replace hO := Lib.hid hO
        replace hb := Lib.hid hb
        go_wp2
        exact hQ2.out _ _ ⟨_, _, _, _, _, _, _, _, _, _, rfl, hI2.out⟩
      · clear hi12
        replace hQ2 := Lib.hid hQ2
        cases ho
        have p0 : g 4 = true := pre_at hpre 0 rfl rfl
        have e0 := hI.f4 p0
        subst e0
        have hc := Lib.hid (ky1.out X hI.on)
        replace hI := Lib.hid hI
        go_wp2_with fail
        refine hc.out.mono ?_
        rintro e X2 ⟨F, rfl, hb, hO⟩
        have hI2 := Lib.hid ((hI.out.up hb).s5 hO)
        replace hO := Lib.hid hO
        replace hb := Lib.hid hb
        go_wp2
        exact hQ2.out _ _ ⟨_, _, _, _, _, _, _, _, _, _, rfl, hI2.out⟩
      · clear hi12
        replace hQ2 := Lib.hid hQ2
        cases ho
        have p0 : g 1 = true := pre_at hpre 0 rfl rfl
        obtain ⟨F0, e0, hO0⟩ := hI.f1 p0 hg
        subst e0
        have hc := Lib.hid (kx2.out _ X hO0)
        replace hI := Lib.hid hI
        replace hO0 := Lib.hid hO0
        go_wp2_with fail
        refine hc.out.mono ?_
        rintro e X2 ⟨F, rfl, hb, hO⟩
        have hI2 := Lib.hid ((hI.out.up hb).s2 hO)
        replace hO := Lib.hid hO
        replace hb := Lib.hid hb
        go_wp2
        exact hQ2.out _ _ ⟨_, _, _, _, _, _, _, _, _, _, rfl, hI2.out⟩
      · clear hi12
        replace hQ2 := Lib.hid hQ2
        cases ho
        have p0 : g 5 = true := pre_at hpre 0 rfl rfl
        obtain ⟨F0, e0, hO0⟩ := hI.f5 p0 hg
        subst e0
        have hc := Lib.hid (ky2.out _ X hO0)
        replace hI := Lib.hid hI
        replace hO0 := Lib.hid hO0
        go_wp2_with fail
        refine hc.out.mono ?_
        rintro e X2 ⟨F, rfl, hb, hO⟩
        have hI2 := Lib.hid ((hI.out.up hb).s6 hO)
        replace hO := Lib.hid hO
        replace hb := Lib.hid hb
        go_wp2
        exact hQ2.out _ _ ⟨_, _, _, _, _, _, _, _, _, _, rfl, hI2.out⟩
      · clear hi12
        replace hQ2 := Lib.hid hQ2
        cases ho
        have p0 : g 2 = true := pre_at hpre 0 rfl rfl
        obtain ⟨F0, e0, hO0⟩ := hI.f2 p0 hg
        subst e0
        have hc := Lib.hid (kx3.out _ X hO0)
        replace hI := Lib.hid hI
        replace hO0 := Lib.hid hO0
        go_wp2_with fail
        refine hc.out.mono ?_
        rintro e X2 ⟨D, k, rfl, hb, hr, hf⟩
        have hI2 := Lib.hid ((hI.out.up hb).s3 (by cases e : g 10 with | false => rfl | true => (have := hI.out.d10 e; rw [hg] at this; cases this)) ⟨D, k, rfl, hr, fun b hb' a ha => Or.inl (by have := hf a ha; have := hI.out.low hb'; omega)⟩)
        replace hr := Lib.hid hr
        replace hf := Lib.hid hf
        replace hb := Lib.hid hb
        go_wp2
        exact hQ2.out _ _ ⟨_, _, _, _, _, _, _, _, _, _, rfl, hI2.out⟩
      · clear hi12
        replace hQ2 := Lib.hid hQ2
        cases ho
        have p0 : g 6 = true := pre_at hpre 0 rfl rfl
        obtain ⟨F0, e0, hO0⟩ := hI.f6 p0 hg
        subst e0
        have hc := Lib.hid (ky3.out _ X hO0)
        replace hI := Lib.hid hI
        replace hO0 := Lib.hid hO0
        go_wp2_with fail
        refine hc.out.mono ?_
        rintro e X2 ⟨D, k, rfl, hb, hr, hf⟩
        have hI2 := Lib.hid ((hI.out.up hb).s7 p0 (by cases e : g 11 with | false => rfl | true => (have := hI.out.d11 e; rw [hg] at this; cases this)) ⟨D, k, rfl, hr, fun b hb' a ha => Or.inl (by have := hf a ha; have := hI.out.low hb'; omega)⟩)
        replace hr := Lib.hid hr
        replace hf := Lib.hid hf
        replace hb := Lib.hid hb
        go_wp2
        exact hQ2.out _ _ ⟨_, _, _, _, _, _, _, _, _, _, rfl, hI2.out⟩
      · clear hi12
        replace hQ2 := Lib.hid hQ2
        cases ho
        have hI2 := Lib.hid (hI.s8 hg)
        unfold zb at hI2
        replace hI := Lib.hid hI
        go_wp2
        exact hQ2.out _ _ ⟨_, _, _, _, _, _, _, _, _, _, rfl, hI2.out⟩
      · clear hi12
        replace hQ2 := Lib.hid hQ2
        cases ho
        have hI2 := Lib.hid (hI.s9 hg)
        unfold zb at hI2
        replace hI := Lib.hid hI
        go_wp2
        exact hQ2.out _ _ ⟨_, _, _, _, _, _, _, _, _, _, rfl, hI2.out⟩
      · clear hi12
        replace hQ2 := Lib.hid hQ2
        cases ho
        have p2 : g 2 = true := pre_at hpre 5 rfl rfl
        have p3 : g 3 = true := pre_at hpre 1 rfl rfl
        have p7 : g 7 = true := pre_at hpre 2 rfl rfl
        have p8 : g 8 = true := pre_at hpre 0 rfl rfl
        have p9 : g 9 = true := pre_at hpre 12 rfl rfl
        obtain ⟨b, D, k, e7, e19, hz, hI2⟩ := hI.s10 p2 p3 p7 p8 p9 hg (by cases e : g 11 with | false => rfl | true => (have := hI.d11 e; exact absurd (hI.c12 e) (by rw [hg]; simp)))
        unfold stW at hI2
        unfold wnV at e19
        subst e7
        subst e19
        have z0 := hz.c0
        have z1 := hz.c1
        have z2 := hz.fz 0
        have z3 := hz.fz 1
        have zl := hz.lt
        replace hI := Lib.hid hI
        replace hI2 := Lib.hid hI2
        replace hz := Lib.hid hz
        go_wp2
        exact hQ2.out _ _ ⟨_, _, _, _, _, _, _, _, _, _, rfl, hI2.out⟩
      · clear hi12
        replace hQ2 := Lib.hid hQ2
        cases ho
        have p2 : g 2 = true := pre_at hpre 5 rfl rfl
        have p3 : g 3 = true := pre_at hpre 6 rfl rfl
        have p6 : g 6 = true := pre_at hpre 9 rfl rfl
        have p7 : g 7 = true := pre_at hpre 1 rfl rfl
        have p8 : g 8 = true := pre_at hpre 11 rfl rfl
        have p9 : g 9 = true := pre_at hpre 0 rfl rfl
        have p10 : g 10 = true := pre_at hpre 2 rfl rfl
        obtain ⟨b, D, k, e8, e23, hz, hI2⟩ := hI.s11 p2 p3 p6 p7 p8 p9 p10 hg
        unfold stW at hI2
        unfold wnV at e23
        subst e8
        subst e23
        have z0 := hz.c0
        have z1 := hz.c1
        have z2 := hz.fz 0
        have z3 := hz.fz 1
        have zl := hz.lt
        replace hI := Lib.hid hI
        replace hI2 := Lib.hid hI2
        replace hz := Lib.hid hz
        go_wp2
        exact hQ2.out _ _ ⟨_, _, _, _, _, _, _, _, _, _, rfl, hI2.out⟩
    case refine_3 =>
      rintro g a X ⟨t7, t8, t16, t17, t18, t19, t20, t21, t22, t23, rfl, hI⟩ hall
      obtain ⟨b, e7, b1, b2, _, b3⟩ := hI.f8 (hall 8 (by simp))
      obtain ⟨b', e8, b1', b2', _, b3'⟩ := hI.f9 (hall 9 (by simp))
      obtain ⟨D, k, e19, r1, _⟩ := hI.f3 (hall 3 (by simp))
      obtain ⟨D', k', e23, r1', _⟩ := hI.f7 (hall 7 (by simp))
      obtain ⟨D2, k2, e19', bx⟩ := b3 (hall 10 (by simp))
      obtain ⟨D2', k2', e23', bx'⟩ := b3' (hall 11 (by simp))
      have hon := hI.on
      clear hI b3 b3'
      subst e7 e8 e19 e23
      unfold wnV at e19' e23'
      obtain ⟨rfl, rfl⟩ : D = D2 ∧ k = k2 := by
        have := e19'
        simp only [Value.agg.injEq, Array.mk.injEq, List.cons.injEq, Value.slice.injEq] at this
        exact ⟨this.2.1.1, this.2.1.2.2⟩
      obtain ⟨rfl, rfl⟩ : D' = D2' ∧ k' = k2' := by
        have := e23'
        simp only [Value.agg.injEq, Array.mk.injEq, List.cons.injEq, Value.slice.injEq] at this
        exact ⟨this.2.1.1, this.2.1.2.2⟩
      clear e19' e23'
      have v0 := bx.c0
      have v1 := bx.c1
      have u0 := bx'.c0
      have u1 := bx'.c1
      have hcall := eqInts X.heap.size D D' k k' (plW x).hs (plW y).hs X r1 r1' (Nat.le_refl _)
      have hbel := Lib.hid hon.below
      unfold wnV
      have hE : eqW (plW x).p (plW x).hs (plW y).p (plW y).hs = (decide ((plW x).p = (plW y).p) && decide ((plW x).hs = (plW y).hs)) := rfl
      obtain ⟨R, hRd⟩ : ∃ R, R = decide ((plW x).hs = (plW y).hs) := ⟨_, rfl⟩
      rw [← hRd] at hE hcall
      replace hRd := Lib.hid hRd
      have hn1 := r1.1
      have hn2 := r1'.1
      replace hon := Lib.hid hon
      replace bx := Lib.hid bx
      replace bx' := Lib.hid bx'
      replace r1 := Lib.hid r1
      replace r1' := Lib.hid r1'
      replace hcall := Lib.hid hcall
      obtain ⟨q1, hq1⟩ : ∃ q, q = (plW x).p := ⟨_, rfl⟩
      obtain ⟨q2, hq2⟩ : ∃ q, q = (plW y).p := ⟨_, rfl⟩
      obtain ⟨n1, hm1⟩ : ∃ q, q = (plW x).hs.length := ⟨_, rfl⟩
      obtain ⟨n2, hm2⟩ : ∃ q, q = (plW y).hs.length := ⟨_, rfl⟩
      rw [← hq1, ← hq2] at hE
      rw [← hm1] at hcall hn1 v1 ⊢
      rw [← hm2] at hcall hn2 u1 ⊢
      rw [← hq1] at v0 ⊢
      rw [← hq2] at u0 ⊢
      by_cases hpp : q1 = q2
      · rw [decide_eq_true hpp, Bool.true_and] at hE
        have hqq : (q1 == q2) = true := by simp [hpp]
        replace hE := Lib.hid hE
        replace hq1 := Lib.hid hq1
        replace hq2 := Lib.hid hq2
        replace hm1 := Lib.hid hm1
        replace hm2 := Lib.hid hm2
        replace hpp := Lib.hid hpp
        go_wp2_with fail
        refine hcall.out.mono ?_
        rintro e X2 ⟨rfl, hb⟩
        go_wp2
        exact bodyPost_ret (v := .tuple #[.bool R, .int .i64 0]) (by simp [results, Try.results39, go_sem]) rfl ⟨by rw [hq1.out, hq2.out] at hE; rw [hE.out], hbel.out.trans (hb.mono hbel.out.size)⟩
      · rw [decide_eq_false hpp, Bool.false_and] at hE
        have hqq : (q1 == q2) = false := by simp [hpp]
        replace hE := Lib.hid hE
        replace hq1 := Lib.hid hq1
        replace hq2 := Lib.hid hq2
        replace hm1 := Lib.hid hm1
        replace hm2 := Lib.hid hm2
        replace hpp := Lib.hid hpp
        go_wp2
        exact bodyPost_ret (v := .tuple #[.bool false, .int .i64 0]) (by simp [results, Try.results39, go_sem]) rfl ⟨by rw [hq1.out, hq2.out] at hE; rw [hE.out], hbel.out⟩
end Go.Proofs.Ytlnpnfjdcnijhaa
