/-
  The sum and the difference of two ratios; awards in proportion and equal awards: the program's functions.
-/
import Derived.Test.YthleekdkbgnabaaI
namespace Go.Proofs.Ythleekdkbgnabaa
open Go.RowKit Go.Deep M
set_option linter.unusedVariables false
set_option linter.unusedSimpArgs false

namespace M
def plR (a b : Rt) : Rt := mk (a.n * b.d + b.n * a.d) (a.d * b.d)
def miR (a b : Rt) : Rt := mk (a.n * b.d - b.n * a.d) (a.d * b.d)
end M
/-- Ratios whose sum and difference can be told. -/
def smallR (a : Rt) : Prop := (-100000000 ≤ a.n ∧ a.n ≤ 100000000) ∧ 1 ≤ a.d ∧ a.d ≤ 100000000
theorem prod_b {a b x y : Int} (ha : -x ≤ a ∧ a ≤ x) (hb : 0 ≤ b ∧ b ≤ y) (hx : 0 ≤ x) : -(x * y) ≤ a * b ∧ a * b ≤ x * y := by
  have h1 : a * b ≤ x * b := Int.mul_le_mul_of_nonneg_right ha.2 hb.1
  have h2 : (-x) * b ≤ a * b := Int.mul_le_mul_of_nonneg_right ha.1 hb.1
  have h3 : x * b ≤ x * y := Int.mul_le_mul_of_nonneg_left hb.2 hx
  rw [Int.neg_mul] at h2
  omega

set_option maxRecDepth 100000 in
set_option maxHeartbeats 1000000 in
theorem plus_any (a b : Rt) (w : World) (h1 : smallR a) (h2 : smallR b) : Calls Try.prog 81 #[rtV a, rtV b] w fun e w' => e = .returned (rtV (plR a b)) ∧ Below w.heap.size w w' := by
  have hT0 := Two.new w a b
  obtain ⟨⟨a1, a2⟩, a3, a4⟩ := h1
  obtain ⟨⟨b1, b2⟩, b3, b4⟩ := h2
  have p1 := prod_b (a := a.n) (b := b.d) (x := 100000000) (y := 100000000) (by omega) (by omega) (by omega)
  have p2 := prod_b (a := b.n) (b := a.d) (x := 100000000) (y := 100000000) (by omega) (by omega) (by omega)
  have p3 := prod_b (a := a.d) (b := b.d) (x := 100000000) (y := 100000000) (by omega) (by omega) (by omega)
  have p4 : 1 ≤ a.d * b.d := by
    have := Int.mul_le_mul_of_nonneg_left (show (1 : Int) ≤ b.d by omega) (show (0 : Int) ≤ a.d by omega)
    omega
  obtain ⟨u, hu⟩ : ∃ u, u = a.n * b.d := ⟨_, rfl⟩
  obtain ⟨v, hv⟩ : ∃ u, u = b.n * a.d := ⟨_, rfl⟩
  obtain ⟨z, hz⟩ : ∃ u, u = a.d * b.d := ⟨_, rfl⟩
  have kr := fun X => ratio_any (u + v) z X (by omega) (by omega)
  have hres : plR a b = mk (u + v) z := by unfold plR; rw [hu, hv, hz]
  rw [hres]
  rw [← hu] at p1
  rw [← hv] at p2
  rw [← hz] at p3 p4
  have w1 : IntKind.i64.wrap (a.n * b.d) = u := by rw [← hu]; exact IntWalk.i64_in _ (by omega)
  have w2 : IntKind.i64.wrap (b.n * a.d) = v := by rw [← hv]; exact IntWalk.i64_in _ (by omega)
  have w3 : IntKind.i64.wrap (a.d * b.d) = z := by rw [← hz]; exact IntWalk.i64_in _ (by omega)
  obtain ⟨s, hs⟩ : ∃ s, s = u + v := ⟨_, rfl⟩
  rw [← hs] at kr
  have w4 : IntKind.i64.wrap (u + v) = s := by rw [← hs]; exact IntWalk.i64_in _ (by omega)
  obtain ⟨Q, hQ⟩ : ∃ Q, Q = mk (u + v) z := ⟨_, rfl⟩
  rw [← hs] at hQ
  rw [show mk (u + v) z = Q by rw [hQ, hs]]
  rw [← hQ] at kr
  unfold rtV at *
  obtain ⟨Y0, hY0⟩ : ∃ Y, Y = (w.alloc (.cells #[.int .i64 a.n, .int .i64 a.d] 37)).alloc (.cells #[.int .i64 b.n, .int .i64 b.d] 37) := ⟨_, rfl⟩
  rw [← hY0] at hT0
  have hs0 : Y0.heap.size = w.heap.size + 2 := by rw [hY0]; simp
  have hr := Bxr.new Y0 0 0
  have hT := hT0.up (ba1 Y0 (.cells #[.int .i64 0, .int .i64 0] 37))
  obtain ⟨Y, hY⟩ : ∃ Y, Y = Y0.alloc (.cells #[.int .i64 0, .int .i64 0] 37) := ⟨_, rfl⟩
  rw [← hY] at hr hT
  rw [hs0] at hr
  rw [hY0] at hY
  have c0 := hT.a.c0
  have c1 := hT.a.c1
  have c2 := hT.b.c0
  have c3 := hT.b.c1
  have hYY := Lib.hid hY
  rw [hY] at c0 c1 c2 c3
  have k1 := Lib.hid (kr Y)
  clear kr hY hY0 hT0
  replace hs0 := Lib.hid hs0
  have hTT := Lib.hid hT
  have hrr := Lib.hid hr
  clear hT hr
  replace hu := Lib.hid hu
  replace hv := Lib.hid hv
  replace hz := Lib.hid hz
  replace hs := Lib.hid hs
  replace hQ := Lib.hid hQ
  replace hres := Lib.hid hres
  go_enter Try.func81, Try.ntmps81
  go_wp2_with fail
  rw [← hYY.out]
  refine k1.out.mono ?_
  rintro _ X ⟨rfl, hb⟩
  have hT := hTT.out.up hb
  have hr := hrr.out.up hb
  have r0 := hr.c0
  have r1 := hr.c1
  have f0 := hr.fz 0
  have f1 := hr.fz 1
  have hr2 := hr.set Q.n Q.d
  have d0 := hr2.c0
  have d1 := hr2.c1
  have hend := Lib.hid (set2_below hT.below (show w.heap.size ≤ w.heap.size + 2 by omega) (.int .i64 Q.n) (.int .i64 Q.d))
  replace hT := Lib.hid hT
  replace hr := Lib.hid hr
  replace hr2 := Lib.hid hr2
  replace hb := Lib.hid hb
  go_wp2
  exact bodyPost_ret (v := .agg #[.int .i64 Q.n, .int .i64 Q.d]) (by simp [results, Try.results81, go_sem, d0, d1]) rfl ⟨rfl, hend.out⟩

set_option maxRecDepth 100000 in
set_option maxHeartbeats 1000000 in
theorem minus_any (a b : Rt) (w : World) (h1 : smallR a) (h2 : smallR b) : Calls Try.prog 78 #[rtV a, rtV b] w fun e w' => e = .returned (rtV (miR a b)) ∧ Below w.heap.size w w' := by
  have hT0 := Two.new w a b
  have h1' := h1
  have h2' := h2
  obtain ⟨⟨a1, a2⟩, a3, a4⟩ := h1'
  obtain ⟨⟨b1, b2⟩, b3, b4⟩ := h2'
  have kp := fun X => plus_any a ⟨-b.n, b.d⟩ X h1 ⟨⟨by simp only; omega, by simp only; omega⟩, b3, b4⟩
  have hres : plR a ⟨-b.n, b.d⟩ = miR a b := by
    unfold plR miR
    simp only
    rw [Int.neg_mul, ← Int.sub_eq_add_neg]
  rw [hres] at kp
  have w1 : IntKind.i64.wrap (-b.n) = -b.n := IntWalk.i64_in _ (by omega)
  generalize miR a b = Q at *
  unfold rtV at *
  simp only at kp
  obtain ⟨m, hm⟩ : ∃ m, m = -b.n := ⟨_, rfl⟩
  rw [← hm] at kp
  obtain ⟨Y0, hY0⟩ : ∃ Y, Y = (w.alloc (.cells #[.int .i64 a.n, .int .i64 a.d] 37)).alloc (.cells #[.int .i64 b.n, .int .i64 b.d] 37) := ⟨_, rfl⟩
  rw [← hY0] at hT0
  have hs0 : Y0.heap.size = w.heap.size + 2 := by rw [hY0]; simp
  have hr := Bxr.new Y0 0 0
  have hT := hT0.up (ba1 Y0 (.cells #[.int .i64 0, .int .i64 0] 37))
  obtain ⟨Y, hY⟩ : ∃ Y, Y = Y0.alloc (.cells #[.int .i64 0, .int .i64 0] 37) := ⟨_, rfl⟩
  rw [← hY] at hr hT
  rw [hs0] at hr
  rw [hY0] at hY
  have c0 := hT.a.c0
  have c1 := hT.a.c1
  have c2 := hT.b.c0
  have c3 := hT.b.c1
  have hYY := Lib.hid hY
  rw [hY] at c0 c1 c2 c3
  have k1 := Lib.hid (kp Y)
  rw [hm] at k1
  clear kp hY hY0 hT0
  replace hs0 := Lib.hid hs0
  have hTT := Lib.hid hT
  have hrr := Lib.hid hr
  clear hT hr
  replace hm := Lib.hid hm
  replace hres := Lib.hid hres
  replace h1 := Lib.hid h1
  replace h2 := Lib.hid h2
  go_enter Try.func78, Try.ntmps78
  go_wp2_with fail
  rw [← hYY.out]
  refine k1.out.mono ?_
  rintro _ X ⟨rfl, hb⟩
  have hT := hTT.out.up hb
  have hr := hrr.out.up hb
  have r0 := hr.c0
  have r1 := hr.c1
  have f0 := hr.fz 0
  have f1 := hr.fz 1
  have hr2 := hr.set Q.n Q.d
  have d0 := hr2.c0
  have d1 := hr2.c1
  have hend := Lib.hid (set2_below hT.below (show w.heap.size ≤ w.heap.size + 2 by omega) (.int .i64 Q.n) (.int .i64 Q.d))
  replace hT := Lib.hid hT
  replace hr := Lib.hid hr
  replace hr2 := Lib.hid hr2
  replace hb := Lib.hid hb
  go_wp2
  exact bodyPost_ret (v := .agg #[.int .i64 Q.n, .int .i64 Q.d]) (by simp [results, Try.results78, go_sem, d0, d1]) rfl ⟨rfl, hend.out⟩

/-! ### awards that are made -/
structure AwW (w : World) (n g : Nat) (f : Nat → Rt) (X : World) : Prop where
  below : Below w.heap.size w X
  ge : w.heap.size ≤ g
  blk : BlR X g n f
theorem AwW.up {w X Y : World} {n g : Nat} {f : Nat → Rt} (h : AwW w n g f X) (hb : Below X.heap.size X Y) : AwW w n g f Y := ⟨bel_trans h.below hb, h.ge, h.blk.up hb⟩
theorem AwW.drewN {w X : World} {n g : Nat} {f : Nat → Rt} (h : AwW w n g f X) (k : Nat) : AwW w n g f (X.drewN k) := ⟨below_drewN h.below k, h.ge, h.blk.to rfl⟩
theorem AwW.congr {w X : World} {n g : Nat} {f f' : Nat → Rt} (h : AwW w n g f X) (e : ∀ i, i < n → f i = f' i) : AwW w n g f' X := ⟨h.below, h.ge, h.blk.congr e⟩
theorem AwW.set {w X : World} {n g j : Nat} {f : Nat → Rt} (h : AwW w n g f X) (hj : j < n) (x : Rt) : AwW w n g (fun i => if i = j then x else f i) ((X.setCell ⟨g, j * 2, none⟩ (.int .i64 x.n)).setCell ⟨g, j * 2 + 1, none⟩ (.int .i64 x.d)) :=
  ⟨(h.below.setCell h.ge _).setCell h.ge _, h.ge, h.blk.set hj x⟩
/-- The first k are F, the others f. -/
def upto (k : Nat) (F f : Nat → Rt) (i : Nat) : Rt := if i < k then F i else f i
theorem upto_at (k : Nat) (F f : Nat → Rt) : upto k F f k = f k := by unfold upto; rw [if_neg (Nat.lt_irrefl _)]
theorem upto_succ (k : Nat) (F f : Nat → Rt) (i : Nat) : (if i = k then F k else upto k F f i) = upto (k + 1) F f i := by
  unfold upto
  by_cases e : i = k
  · subst e; rw [if_pos rfl, if_pos (Nat.lt_succ_self _)]
  · rw [if_neg e]
    by_cases e2 : i < k
    · rw [if_pos e2, if_pos (by omega)]
    · rw [if_neg e2, if_neg (by omega)]
theorem AwW.step {w X : World} {n g k : Nat} {F f : Nat → Rt} (h : AwW w n g (upto k F f) X) (hk : k < n) : AwW w n g (upto (k + 1) F f) ((X.setCell ⟨g, k * 2, none⟩ (.int .i64 (F k).n)).setCell ⟨g, k * 2 + 1, none⟩ (.int .i64 (F k).d)) :=
  (h.set hk (F k)).congr fun i _ => upto_succ k F f i
theorem AwW.start {w X : World} {n g : Nat} {F f : Nat → Rt} (h : AwW w n g f X) : AwW w n g (upto 0 F f) X := h.congr fun i _ => by unfold upto; rw [if_neg (Nat.not_lt_zero _)]
theorem AwW.fin {w X : World} {n g : Nat} {F f : Nat → Rt} (h : AwW w n g (upto n F f) X) : AwW w n g F X := h.congr fun i hi => by unfold upto; rw [if_pos hi]
/-- What is wanted of the cells of one award: at every later world, and what is then. -/
theorem AwW.cells {w X : World} {n g k : Nat} {F f : Nat → Rt} (h : AwW w n g (upto k F f) X) (hk : k < n) :
    X.cell? ⟨g, k * 2, none⟩ = some (.int .i64 (f k).n) ∧ X.cell? ⟨g, k * 2 + 1, none⟩ = some (.int .i64 (f k).d) ∧ X.frozen? ⟨g, k * 2, none⟩ = false ∧ X.frozen? ⟨g, k * 2 + 1, none⟩ = false := by
  have a := h.blk.c0 hk
  have b := h.blk.c1 hk
  rw [upto_at] at a b
  exact ⟨a, b, h.blk.fz _, h.blk.fz _⟩

set_option maxRecDepth 100000 in
set_option maxHeartbeats 2000000 in
theorem inProp_any (B : Nat) (A : Option Addr) (c : Nat) (l : List Int) (e : Int) (w : World) (h : Row w B A l) (hB : B ≤ w.heap.size) (hk : okE l e) :
    Calls Try.prog 109 #[.slice A l.length c, .int .i64 e] w fun r w' => ∃ g, r = .returned (.slice (some ⟨g, 0, none⟩) l.length l.length) ∧ AwW w l.length g (prL l e) w' := by
  have h63 := h.1
  have hn := val_len hk.1
  have hsm := sm_b hk.1
  have kss := sum_any B A c l w h hk.1.2 (by omega)
  have hat := fun X (hX : Below w.heap.size w X) k (hk : k < l.length) => (h.below (hX.mono hB)).at_ k hk
  have hx := fun k (hkl : k < l.length) => hk.1.2 k hkl
  have hmk := run_mkR w l.length (by omega)
  have hW0 : AwW w l.length w.heap.size (fun _ => ⟨0, 0⟩) (mkR w l.length) := ⟨mkR_below _ _, Nat.le_refl _, mkR_blk _ _⟩
  have hpr : ∀ i, prL l e i = mk (el l i * e) (max (sm l) 1) := fun _ => rfl
  obtain ⟨hv, he0, he1⟩ := hk
  have kr := fun X (x : Int) (hx : 0 ≤ x ∧ x ≤ 8000000) => ratio_any x (max (sm l) 1) X (by omega) (by omega)
  generalize sm l = S at *
  generalize prL l e = F at *
  generalize l.length = n at *
  obtain ⟨Y, hY⟩ : ∃ Y, Y = mkR w n := ⟨_, rfl⟩
  rw [← hY] at hmk hW0
  have hW1 := Lib.hid (hW0.start (F := F))
  clear hW0
  obtain ⟨g, hg⟩ : ∃ g, g = w.heap.size := ⟨_, rfl⟩
  rw [← hg] at hW1 hmk
  replace hY := Lib.hid hY
  replace hg := Lib.hid hg
  replace kss := Lib.hid kss
  replace hat := Lib.hid hat
  replace hx := Lib.hid hx
  replace hpr := Lib.hid hpr
  replace kr := Lib.hid kr
  replace h := Lib.hid h
  replace hv := Lib.hid hv
  obtain ⟨hn1, hn8⟩ := hn
  go_enter Try.func109, Try.ntmps109
  go_wp2_with fail
  refine kss.out.mono ?_
  rintro _ X ⟨rfl, rfl⟩
  go_wp2
  go_loopw [17, 7, 8] (fun i _ _ wr => ∃ k : Nat, k ≤ n ∧ i = .int .i64 (k : Nat) ∧ AwW X n g (upto k F fun _ => ⟨0, 0⟩) wr) (fun i _ _ _ => n - (intOf i).toNat)
  case atStart => exact ⟨0, by omega, rfl, hW1.out⟩
  case round =>
    clear hW1
    obtain ⟨k, hk, rfl, hW⟩ := hrel
    by_cases hkn : k < n
    · obtain ⟨b, o, rfl, hb', e0⟩ := hat.out wr hW.below k hkn
      have hxk := hx.out k hkn
      have hF := hpr.out k
      unfold okC at hxk
      generalize el l k = x at *
      have p1 : x * e ≤ 1000 * e := Int.mul_le_mul_of_nonneg_right hxk.2 he0
      have p2 : 0 ≤ x * e := Int.mul_nonneg hxk.1 he0
      obtain ⟨p, hp⟩ : ∃ p, p = x * e := ⟨_, rfl⟩
      rw [← hp] at p1 p2 hF
      have w1 : IntKind.i64.wrap (x * e) = p := by rw [← hp]; exact IntWalk.i64_in _ (by omega)
      have kk := kr.out wr p ⟨p2, by omega⟩
      rw [← hF] at kk
      unfold rtV at kk
      have hlt := hW.blk.lt
      have hW2 := fun X2 (hb : Below wr.heap.size wr X2) => hW.up hb
      replace hW2 := Lib.hid hW2
      replace hW := Lib.hid hW
      replace kk := Lib.hid kk
      replace hp := Lib.hid hp
      replace hF := Lib.hid hF
      go_wp2_with fail
      refine kk.out.mono ?_
      rintro _ X2 ⟨rfl, hb⟩
      have hW3 := hW2.out X2 hb
      obtain ⟨c0, c1, f0, f1⟩ := hW3.cells hkn
      have hl3 := hW3.blk.lt
      have hW4 := Lib.hid (hW3.step hkn)
      replace hW3 := Lib.hid hW3
      replace hb := Lib.hid hb
      go_wp2
      go_roundw
      case rel => exact ⟨k + 1, by omega, by simp, hW4.out⟩
      case measure => simp [intOf]; omega
    · have : k = n := by omega
      subst this
      have hfin := Lib.hid hW.fin
      replace hW := Lib.hid hW
      go_wp2
      go_ret
      exact ⟨g, rfl, hfin.out⟩
end Go.Proofs.Ythleekdkbgnabaa
