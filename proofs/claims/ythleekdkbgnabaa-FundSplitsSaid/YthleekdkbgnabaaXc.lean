/-
  Sums and differences of wider ratios; what a split makes: plain mathematics.
-/
import Derived.Test.YthleekdkbgnabaaWa
namespace Go.Proofs.Ythleekdkbgnabaa
open Go.RowKit Go.Deep M
set_option linter.unusedVariables false
set_option linter.unusedSimpArgs false

/-- Ratios of which one more can be added. -/
def wideR (a : Rt) : Prop := (-1000000000000 ≤ a.n ∧ a.n ≤ 1000000000000) ∧ 1 ≤ a.d ∧ a.d ≤ 100000000
def smlR (a : Rt) : Prop := (-10000000 ≤ a.n ∧ a.n ≤ 10000000) ∧ 1 ≤ a.d ∧ a.d ≤ 10000
theorem sml_wide {a : Rt} (h : smlR a) : wideR a := by unfold smlR at h; unfold wideR; omega
theorem sh_sml {l : List Int} {e q : Int} (h : okE l e) {i : Nat} (hi : i < l.length) : smlR (shR l e q i) := by
  have := shR_b (q := q) h.1 h.2 hi
  unfold smlR; omega
theorem pl_wide {a b : Rt} (h1 : smlR a) (h2 : smlR b) : wideR (plR a b) ∧ wideR (miR a b) := by
  obtain ⟨⟨a1, a2⟩, a3, a4⟩ := h1
  obtain ⟨⟨b1, b2⟩, b3, b4⟩ := h2
  have p1 := prod_b (a := a.n) (b := b.d) (x := 10000000) (y := 10000) (by omega) (by omega) (by omega)
  have p2 := prod_b (a := b.n) (b := a.d) (x := 10000000) (y := 10000) (by omega) (by omega) (by omega)
  have p3 := prod_b (a := a.d) (b := b.d) (x := 10000) (y := 10000) (by omega) (by omega) (by omega)
  have p4 : 1 ≤ a.d * b.d := by
    have := Int.mul_le_mul_of_nonneg_left (show (1 : Int) ≤ b.d by omega) (show (0 : Int) ≤ a.d by omega)
    omega
  have q1 := mk_nb (n := a.n * b.d + b.n * a.d) (B := 1000000000000) p4 (by omega)
  have q2 := mk_pos (n := a.n * b.d + b.n * a.d) p4
  have q3 := mk_dle (n := a.n * b.d + b.n * a.d) p4
  have r1 := mk_nb (n := a.n * b.d - b.n * a.d) (B := 1000000000000) p4 (by omega)
  have r2 := mk_pos (n := a.n * b.d - b.n * a.d) p4
  have r3 := mk_dle (n := a.n * b.d - b.n * a.d) p4
  unfold wideR plR miR
  exact ⟨⟨q1, q2, by omega⟩, r1, r2, by omega⟩

set_option maxRecDepth 100000 in
set_option maxHeartbeats 1000000 in
theorem plus_wide (a b : Rt) (w : World) (h1 : wideR a) (h2 : smlR b) : Calls Try.prog 81 #[rtV a, rtV b] w fun e w' => e = .returned (rtV (plR a b)) ∧ Below w.heap.size w w' := by
  have hT0 := Two.new w a b
  obtain ⟨⟨a1, a2⟩, a3, a4⟩ := h1
  obtain ⟨⟨b1, b2⟩, b3, b4⟩ := h2
  have p1 := prod_b (a := a.n) (b := b.d) (x := 1000000000000) (y := 10000) (by omega) (by omega) (by omega)
  have p2 := prod_b (a := b.n) (b := a.d) (x := 10000000) (y := 100000000) (by omega) (by omega) (by omega)
  have p3 := prod_b (a := a.d) (b := b.d) (x := 100000000) (y := 10000) (by omega) (by omega) (by omega)
  have p4 : 1 ≤ a.d * b.d := by
    have := Int.mul_le_mul_of_nonneg_left (show (1 : Int) ≤ b.d by omega) (show (0 : Int) ≤ a.d by omega)
    omega
  obtain ⟨u, hu⟩ : ∃ u, u = a.n * b.d := ⟨_, rfl⟩
  obtain ⟨v, hv⟩ : ∃ u, u = b.n * a.d := ⟨_, rfl⟩
  obtain ⟨z, hz⟩ : ∃ u, u = a.d * b.d := ⟨_, rfl⟩
  have kr := fun X => ratio_any (u + v) z X (by omega) (by omega)
  have hres : plR a b = mk (u + v) z := by unfold plR; rw [hu, hv, hz]
  rw [hres]
  rw [← hu] at p1
  rw [← hv] at p2
  rw [← hz] at p3 p4
  have w1 : IntKind.i64.wrap (a.n * b.d) = u := by rw [← hu]; exact IntWalk.i64_in _ (by omega)
  have w2 : IntKind.i64.wrap (b.n * a.d) = v := by rw [← hv]; exact IntWalk.i64_in _ (by omega)
  have w3 : IntKind.i64.wrap (a.d * b.d) = z := by rw [← hz]; exact IntWalk.i64_in _ (by omega)
  obtain ⟨s, hs⟩ : ∃ s, s = u + v := ⟨_, rfl⟩
  rw [← hs] at kr
  have w4 : IntKind.i64.wrap (u + v) = s := by rw [← hs]; exact IntWalk.i64_in _ (by omega)
  obtain ⟨Q, hQ⟩ : ∃ Q, Q = mk (u + v) z := ⟨_, rfl⟩
  rw [← hs] at hQ
  rw [show mk (u + v) z = Q by rw [hQ, hs]]
  rw [← hQ] at kr
  unfold rtV at *
  obtain ⟨Y0, hY0⟩ : ∃ Y, Y = (w.alloc (.cells #[.int .i64 a.n, .int .i64 a.d] 37)).alloc (.cells #[.int .i64 b.n, .int .i64 b.d] 37) := ⟨_, rfl⟩
  rw [← hY0] at hT0
  have hs0 : Y0.heap.size = w.heap.size + 2 := by rw [hY0]; simp
  have hr := Bxr.new Y0 0 0
  have hT := hT0.up (ba1 Y0 (.cells #[.int .i64 0, .int .i64 0] 37))
  obtain ⟨Y, hY⟩ : ∃ Y, Y = Y0.alloc (.cells #[.int .i64 0, .int .i64 0] 37) := ⟨_, rfl⟩
  rw [← hY] at hr hT
  rw [hs0] at hr
  rw [hY0] at hY
  have c0 := hT.a.c0
  have c1 := hT.a.c1
  have c2 := hT.b.c0
  have c3 := hT.b.c1
  have hYY := Lib.hid hY
  rw [hY] at c0 c1 c2 c3
  have k1 := Lib.hid (kr Y)
  clear kr hY hY0 hT0
  replace hs0 := Lib.hid hs0
  have hTT := Lib.hid hT
  have hrr := Lib.hid hr
  clear hT hr
  replace hu := Lib.hid hu
  replace hv := Lib.hid hv
  replace hz := Lib.hid hz
  replace hs := Lib.hid hs
  replace hQ := Lib.hid hQ
  replace hres := Lib.hid hres
  go_enter Try.func81, Try.ntmps81
  go_wp2_with fail
  rw [← hYY.out]
  refine k1.out.mono ?_
  rintro _ X ⟨rfl, hb⟩
  have hT := hTT.out.up hb
  have hr := hrr.out.up hb
  have r0 := hr.c0
  have r1 := hr.c1
  have f0 := hr.fz 0
  have f1 := hr.fz 1
  have hr2 := hr.set Q.n Q.d
  have d0 := hr2.c0
  have d1 := hr2.c1
  have hend := Lib.hid (set2_below hT.below (show w.heap.size ≤ w.heap.size + 2 by omega) (.int .i64 Q.n) (.int .i64 Q.d))
  replace hT := Lib.hid hT
  replace hr := Lib.hid hr
  replace hr2 := Lib.hid hr2
  replace hb := Lib.hid hb
  go_wp2
  exact bodyPost_ret (v := .agg #[.int .i64 Q.n, .int .i64 Q.d]) (by simp [results, Try.results81, go_sem, d0, d1]) rfl ⟨rfl, hend.out⟩

set_option maxRecDepth 100000 in
set_option maxHeartbeats 1000000 in
theorem minus_wide (a b : Rt) (w : World) (h1 : wideR a) (h2 : smlR b) : Calls Try.prog 78 #[rtV a, rtV b] w fun e w' => e = .returned (rtV (miR a b)) ∧ Below w.heap.size w w' := by
  have hT0 := Two.new w a b
  have h1' := h1
  have h2' := h2
  obtain ⟨⟨a1, a2⟩, a3, a4⟩ := h1'
  obtain ⟨⟨b1, b2⟩, b3, b4⟩ := h2'
  have kp := fun X => plus_wide a ⟨-b.n, b.d⟩ X h1 ⟨⟨by simp only; omega, by simp only; omega⟩, b3, b4⟩
  have hres : plR a ⟨-b.n, b.d⟩ = miR a b := by
    unfold plR miR
    simp only
    rw [Int.neg_mul, ← Int.sub_eq_add_neg]
  rw [hres] at kp
  have w1 : IntKind.i64.wrap (-b.n) = -b.n := IntWalk.i64_in _ (by omega)
  generalize miR a b = Q at *
  unfold rtV at *
  simp only at kp
  obtain ⟨m, hm⟩ : ∃ m, m = -b.n := ⟨_, rfl⟩
  rw [← hm] at kp
  obtain ⟨Y0, hY0⟩ : ∃ Y, Y = (w.alloc (.cells #[.int .i64 a.n, .int .i64 a.d] 37)).alloc (.cells #[.int .i64 b.n, .int .i64 b.d] 37) := ⟨_, rfl⟩
  rw [← hY0] at hT0
  have hs0 : Y0.heap.size = w.heap.size + 2 := by rw [hY0]; simp
  have hr := Bxr.new Y0 0 0
  have hT := hT0.up (ba1 Y0 (.cells #[.int .i64 0, .int .i64 0] 37))
  obtain ⟨Y, hY⟩ : ∃ Y, Y = Y0.alloc (.cells #[.int .i64 0, .int .i64 0] 37) := ⟨_, rfl⟩
  rw [← hY] at hr hT
  rw [hs0] at hr
  rw [hY0] at hY
  have c0 := hT.a.c0
  have c1 := hT.a.c1
  have c2 := hT.b.c0
  have c3 := hT.b.c1
  have hYY := Lib.hid hY
  rw [hY] at c0 c1 c2 c3
  have k1 := Lib.hid (kp Y)
  rw [hm] at k1
  clear kp hY hY0 hT0
  replace hs0 := Lib.hid hs0
  have hTT := Lib.hid hT
  have hrr := Lib.hid hr
  clear hT hr
  replace hm := Lib.hid hm
  replace hres := Lib.hid hres
  replace h1 := Lib.hid h1
  replace h2 := Lib.hid h2
  go_enter Try.func78, Try.ntmps78
  go_wp2_with fail
  rw [← hYY.out]
  refine k1.out.mono ?_
  rintro _ X ⟨rfl, hb⟩
  have hT := hTT.out.up hb
  have hr := hrr.out.up hb
  have r0 := hr.c0
  have r1 := hr.c1
  have f0 := hr.fz 0
  have f1 := hr.fz 1
  have hr2 := hr.set Q.n Q.d
  have d0 := hr2.c0
  have d1 := hr2.c1
  have hend := Lib.hid (set2_below hT.below (show w.heap.size ≤ w.heap.size + 2 by omega) (.int .i64 Q.n) (.int .i64 Q.d))
  replace hT := Lib.hid hT
  replace hr := Lib.hid hr
  replace hr2 := Lib.hid hr2
  replace hb := Lib.hid hb
  go_wp2
  exact bodyPost_ret (v := .agg #[.int .i64 Q.n, .int .i64 Q.d]) (by simp [results, Try.results78, go_sem, d0, d1]) rfl ⟨rfl, hend.out⟩

set_option maxRecDepth 100000 in
set_option maxHeartbeats 1000000 in
theorem minus_ref_wide (a b : Rt) (w : World) (h1 : wideR a) (h2 : smlR b) : Calls Try.prog 79 #[rtV a, rtV b] w fun e w' => e = .returned (rtV (miR a b)) ∧ Below w.heap.size w w' := by
  have hT0 := Two.new w a b
  obtain ⟨⟨a1, a2⟩, a3, a4⟩ := h1
  obtain ⟨⟨b1, b2⟩, b3, b4⟩ := h2
  have p1 := prod_b (a := a.n) (b := b.d) (x := 1000000000000) (y := 10000) (by omega) (by omega) (by omega)
  have p2 := prod_b (a := b.n) (b := a.d) (x := 10000000) (y := 100000000) (by omega) (by omega) (by omega)
  have p3 := prod_b (a := a.d) (b := b.d) (x := 100000000) (y := 10000) (by omega) (by omega) (by omega)
  have p4 : 1 ≤ a.d * b.d := by
    have := Int.mul_le_mul_of_nonneg_left (show (1 : Int) ≤ b.d by omega) (show (0 : Int) ≤ a.d by omega)
    omega
  obtain ⟨u, hu⟩ : ∃ u, u = a.n * b.d := ⟨_, rfl⟩
  obtain ⟨v, hv⟩ : ∃ u, u = b.n * a.d := ⟨_, rfl⟩
  obtain ⟨z, hz⟩ : ∃ u, u = a.d * b.d := ⟨_, rfl⟩
  have kr := fun X => Ratio_ref (u - v) z X (by omega) (by omega)
  have hres : miR a b = mk (u - v) z := by unfold miR; rw [hu, hv, hz]
  rw [hres]
  rw [← hu] at p1
  rw [← hv] at p2
  rw [← hz] at p3 p4
  have w1 : IntKind.i64.wrap (a.n * b.d) = u := by rw [← hu]; exact IntWalk.i64_in _ (by omega)
  have w2 : IntKind.i64.wrap (b.n * a.d) = v := by rw [← hv]; exact IntWalk.i64_in _ (by omega)
  have w3 : IntKind.i64.wrap (a.d * b.d) = z := by rw [← hz]; exact IntWalk.i64_in _ (by omega)
  obtain ⟨s, hs⟩ : ∃ s, s = u - v := ⟨_, rfl⟩
  rw [← hs] at kr
  have w4 : IntKind.i64.wrap (u - v) = s := by rw [← hs]; exact IntWalk.i64_in _ (by omega)
  obtain ⟨Q, hQ⟩ : ∃ Q, Q = mk (u - v) z := ⟨_, rfl⟩
  rw [← hs] at hQ
  rw [show mk (u - v) z = Q by rw [hQ, hs]]
  rw [← hQ] at kr
  unfold rtV at *
  obtain ⟨Y0, hY0⟩ : ∃ Y, Y = (w.alloc (.cells #[.int .i64 a.n, .int .i64 a.d] 37)).alloc (.cells #[.int .i64 b.n, .int .i64 b.d] 37) := ⟨_, rfl⟩
  rw [← hY0] at hT0
  have hs0 : Y0.heap.size = w.heap.size + 2 := by rw [hY0]; simp
  have hr := Bxr.new Y0 0 0
  have hT := hT0.up (ba1 Y0 (.cells #[.int .i64 0, .int .i64 0] 37))
  obtain ⟨Y, hY⟩ : ∃ Y, Y = Y0.alloc (.cells #[.int .i64 0, .int .i64 0] 37) := ⟨_, rfl⟩
  rw [← hY] at hr hT
  rw [hs0] at hr
  rw [hY0] at hY
  have c0 := hT.a.c0
  have c1 := hT.a.c1
  have c2 := hT.b.c0
  have c3 := hT.b.c1
  have hYY := Lib.hid hY
  rw [hY] at c0 c1 c2 c3
  have k1 := Lib.hid (kr Y)
  clear kr hY hY0 hT0
  replace hs0 := Lib.hid hs0
  have hTT := Lib.hid hT
  have hrr := Lib.hid hr
  clear hT hr
  replace hu := Lib.hid hu
  replace hv := Lib.hid hv
  replace hz := Lib.hid hz
  replace hs := Lib.hid hs
  replace hQ := Lib.hid hQ
  replace hres := Lib.hid hres
  go_enter Try.func79, Try.ntmps79
  go_wp2_with fail
  rw [← hYY.out]
  refine k1.out.mono ?_
  rintro _ X ⟨rfl, hb⟩
  have hT := hTT.out.up hb
  have hr := hrr.out.up hb
  have r0 := hr.c0
  have r1 := hr.c1
  have f0 := hr.fz 0
  have f1 := hr.fz 1
  have hr2 := hr.set Q.n Q.d
  have d0 := hr2.c0
  have d1 := hr2.c1
  have hend := Lib.hid (set2_below hT.below (show w.heap.size ≤ w.heap.size + 2 by omega) (.int .i64 Q.n) (.int .i64 Q.d))
  replace hT := Lib.hid hT
  replace hr := Lib.hid hr
  replace hr2 := Lib.hid hr2
  replace hb := Lib.hid hb
  go_wp2
  exact bodyPost_ret (v := .agg #[.int .i64 Q.n, .int .i64 Q.d]) (by simp [results, Try.results79, go_sem, d0, d1]) rfl ⟨rfl, hend.out⟩

namespace M
theorem pos_mul {a b : Int} (ha : 1 ≤ a) (hb : 1 ≤ b) : 1 ≤ a * b := by
  have := Int.mul_le_mul_of_nonneg_left hb (show (0 : Int) ≤ a by omega)
  omega
/-- The whole less its parts, turned round, is the parts less the whole. -/
theorem split_same {a b s : Rt} (ha : 1 ≤ a.d) (hb : 1 ≤ b.d) (hs : 1 ≤ s.d) : mk (-(miR (miR s a) b).n) (miR (miR s a) b).d = miR (plR a b) s := by
  have hab := pos_mul ha hb
  have hsa := pos_mul hs ha
  have p1 := mk_val (a.n * b.d + b.n * a.d) (a.d * b.d)
  have p2 := mk_pos (n := a.n * b.d + b.n * a.d) hab
  have r1 := mk_val (s.n * a.d - a.n * s.d) (s.d * a.d)
  have r2 := mk_pos (n := s.n * a.d - a.n * s.d) hsa
  have hPe : plR a b = mk (a.n * b.d + b.n * a.d) (a.d * b.d) := rfl
  have hRe : miR s a = mk (s.n * a.d - a.n * s.d) (s.d * a.d) := rfl
  rw [← hPe] at p1 p2
  rw [← hRe] at r1 r2
  generalize plR a b = P at *
  generalize miR s a = R at *
  have hRb := pos_mul r2 hb
  have s1 := mk_val (R.n * b.d - b.n * R.d) (R.d * b.d)
  have s2 := mk_pos (n := R.n * b.d - b.n * R.d) hRb
  have hSe : miR R b = mk (R.n * b.d - b.n * R.d) (R.d * b.d) := rfl
  rw [← hSe] at s1 s2
  generalize miR R b = S at *
  have hPs := pos_mul p2 hs
  show mk (-S.n) S.d = mk (P.n * s.d - s.n * P.d) (P.d * s.d)
  refine mk_congr s2 hPs ?_
  have key : (-S.n * (P.d * s.d)) * (R.d * (a.d * b.d * s.d)) = ((P.n * s.d - s.n * P.d) * S.d) * (R.d * (a.d * b.d * s.d)) := by
    clear hPe hRe hSe
    grind
  have hpos : 1 ≤ R.d * (a.d * b.d * s.d) := pos_mul r2 (pos_mul hab hs)
  exact Int.eq_of_mul_eq_mul_right (by omega) key
/-- What Split answers. -/
def okP (l : List Int) (e q c f : Int) : Prop := (okT l e q c ∧ 0 ≤ f ∧ f ≤ el l c.toNat) ∧ l.length ≠ 8
instance (l : List Int) (e q c f : Int) : Decidable (okP l e q c f) := by unfold okP; infer_instance
def spE (l : List Int) (e q c f : Int) : Int := if okT l e q c then if 0 ≤ f ∧ f ≤ el l c.toNat then if l.length = 8 then 5 else 0 else 2 else errT l e q c
def spR (l : List Int) (e q c f : Int) : Rt := if okP l e q c f then miR (plR (shR (splL l c.toNat f) e q c.toNat) (shR (splL l c.toNat f) e q (c.toNat + 1))) (shR l e q c.toNat) else ⟨0, 0⟩
end M
end Go.Proofs.Ythleekdkbgnabaa
