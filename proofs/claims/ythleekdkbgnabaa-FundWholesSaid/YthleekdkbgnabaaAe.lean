/-
  What awards add up to: the program's function.
-/
import Derived.Test.YthleekdkbgnabaaAd
import Derived.Test.YthleekdkbgnabaaD
import Derived.Deep.RegionLaw
import Derived.Deep.DeepCutAuto
namespace Go.Proofs.Ythleekdkbgnabaa
open Go.RowKit Go.Deep M
set_option linter.unusedVariables false
set_option linter.unusedSimpArgs false

/-- Are six digits the same? -/
def e6 (a0 a1 a2 a3 a4 a5 b0 b1 b2 b3 b4 b5 : Int) : Bool := decide (a0 = b0 ∧ a1 = b1 ∧ a2 = b2 ∧ a3 = b3 ∧ a4 = b4 ∧ a5 = b5)
set_option maxRecDepth 10000 in
theorem run_eq6 (w : World) (a0 a1 a2 a3 a4 a5 b0 b1 b2 b3 b4 b5 : Int) :
    (Op.equalIn 10000 119 (.agg #[.int .i64 a0, .int .i64 a1, .int .i64 a2, .int .i64 a3, .int .i64 a4, .int .i64 a5]) (.agg #[.int .i64 b0, .int .i64 b1, .int .i64 b2, .int .i64 b3, .int .i64 b4, .int .i64 b5])).run Try.prog w =
      .ok (e6 a0 a1 a2 a3 a4 a5 b0 b1 b2 b3 b4 b5) w := by
  unfold e6
  obtain ⟨i, hi⟩ : ∃ i, Try.prog.info? 3 = some i := by
    have : (Try.prog.info? 3).map (fun i => i.size) = some 1 := by kernel_rfl
    cases h : Try.prog.info? 3 with
    | none => rw [h] at this; cases this
    | some i => exact ⟨i, rfl⟩
  have c3 : Try.prog.cellsOf 3 = 1 := by kernel_rfl
  have p : ∀ (xs : Array Value) (k : Nat) (v : Value), xs[k]? = some v → (part 3 xs k).run Try.prog w = .ok v w := fun xs k v h => run_part_plain (P := Try.prog) (e := 3) w (by kernel_rfl) h
  have p0 : ∀ (v0 v1 v2 v3 v4 v5 : Value), (part 3 #[v0, v1, v2, v3, v4, v5] 0).run Try.prog w = .ok v0 w := fun _ _ _ _ _ _ => p _ 0 _ rfl
  have p1 : ∀ (v0 v1 v2 v3 v4 v5 : Value), (part 3 #[v0, v1, v2, v3, v4, v5] 1).run Try.prog w = .ok v1 w := fun _ _ _ _ _ _ => p _ 1 _ rfl
  have p2 : ∀ (v0 v1 v2 v3 v4 v5 : Value), (part 3 #[v0, v1, v2, v3, v4, v5] 2).run Try.prog w = .ok v2 w := fun _ _ _ _ _ _ => p _ 2 _ rfl
  have p3 : ∀ (v0 v1 v2 v3 v4 v5 : Value), (part 3 #[v0, v1, v2, v3, v4, v5] 3).run Try.prog w = .ok v3 w := fun _ _ _ _ _ _ => p _ 3 _ rfl
  have p4 : ∀ (v0 v1 v2 v3 v4 v5 : Value), (part 3 #[v0, v1, v2, v3, v4, v5] 4).run Try.prog w = .ok v4 w := fun _ _ _ _ _ _ => p _ 4 _ rfl
  have p5 : ∀ (v0 v1 v2 v3 v4 v5 : Value), (part 3 #[v0, v1, v2, v3, v4, v5] 5).run Try.prog w = .ok v5 w := fun _ _ _ _ _ _ => p _ 5 _ rfl
  have q : ∀ a b : Int, (Op.equalIn 9999 3 (.int .i64 a) (.int .i64 b)).run Try.prog w = .ok (a == b) w := fun a b => run_equalIn_int w 9998 3 .i64 .i64 a b Try.underlying3
  have r : List.range 6 = [0, 1, 2, 3, 4, 5] := rfl
  rw [run_equalIn_array (P := Try.prog) w 9999 _ _ Try.underlying119 hi, c3, r]
  simp only [Op.eqItems, Nat.mul_one, Sem.run_bind, p0, p1, p2, p3, p4, p5, Result.andThen_ok, q]
  by_cases h0 : a0 = b0 <;> by_cases h1 : a1 = b1 <;> by_cases h2 : a2 = b2 <;> by_cases h3 : a3 = b3 <;> by_cases h4 : a4 = b4 <;> by_cases h5 : a5 = b5 <;> simp [h0, h1, h2, h3, h4, h5, p0, p1, p2, p3, p4, p5, q, go_sem]
theorem e6_dg {N M : Nat} (hN : N < bs ^ 6) (hM : M < bs ^ 6) : e6 (dg N 0 : Nat) (dg N 1 : Nat) (dg N 2 : Nat) (dg N 3 : Nat) (dg N 4 : Nat) (dg N 5 : Nat) (dg M 0 : Nat) (dg M 1 : Nat) (dg M 2 : Nat) (dg M 3 : Nat) (dg M 4 : Nat) (dg M 5 : Nat) = decide (N = M) := by
  unfold e6
  by_cases h : N = M
  · subst h; simp
  · rw [decide_eq_false h]
    refine decide_eq_false fun hh => h (dg_all hN hM fun k hk => ?_)
    obtain ⟨h0, h1, h2, h3, h4, h5⟩ := hh
    rcases (show k = 0 ∨ k = 1 ∨ k = 2 ∨ k = 3 ∨ k = 4 ∨ k = 5 by omega) with rfl | rfl | rfl | rfl | rfl | rfl
    · exact_mod_cast h0
    · exact_mod_cast h1
    · exact_mod_cast h2
    · exact_mod_cast h3
    · exact_mod_cast h4
    · exact_mod_cast h5
/-- A world in which the sum, the common denominator and the award at hand lie. -/
structure AdW (w : World) (s m a : Nat) (S C : Nat → Nat) (n d : Int) (X : World) : Prop where
  below : Below w.heap.size w X
  hs : w.heap.size ≤ s
  hm : w.heap.size ≤ m
  ne : m ≠ s
  na : a ≠ s
  nb : a ≠ m
  sum : Bw X s fun i => (S i : Nat)
  com : Bw X m fun i => (C i : Nat)
  aw : Bxr X a n d
theorem AdW.up {w X Y : World} {s m a : Nat} {S C : Nat → Nat} {n d : Int} (h : AdW w s m a S C n d X) (hb : Below X.heap.size X Y) : AdW w s m a S C n d Y :=
  ⟨bel_trans h.below hb, h.hs, h.hm, h.ne, h.na, h.nb, h.sum.up hb, h.com.up hb, h.aw.up hb⟩
theorem AdW.setS {w X : World} {s m a : Nat} {S C : Nat → Nat} {n d : Int} (h : AdW w s m a S C n d X) (T : Nat → Nat) : AdW w s m a T C n d (s6 X s fun i => (T i : Nat)) :=
  ⟨s6_below h.below h.hs, h.hs, h.hm, h.ne, h.na, h.nb, s6_bw h.sum, h.com.to (s6_far h.ne), h.aw.to (s6_far h.na)⟩
theorem AdW.setC {w X : World} {s m a : Nat} {S C : Nat → Nat} {n d : Int} (h : AdW w s m a S C n d X) (T : Nat → Nat) : AdW w s m a S T n d (s6 X m fun i => (T i : Nat)) :=
  ⟨s6_below h.below h.hm, h.hs, h.hm, h.ne, h.na, h.nb, h.sum.to (s6_far (fun e => h.ne e.symm)), s6_bw h.com, h.aw.to (s6_far h.nb)⟩
/-- What is read there. -/
def AdC (s m a : Nat) (S C : Nat → Nat) (n d : Int) (X : World) : Prop :=
  (X.cell? ⟨s, 0, none⟩ = some (.int .i64 (S 0 : Nat)) ∧ X.cell? ⟨s, 1, none⟩ = some (.int .i64 (S 1 : Nat)) ∧ X.cell? ⟨s, 2, none⟩ = some (.int .i64 (S 2 : Nat)) ∧ X.cell? ⟨s, 3, none⟩ = some (.int .i64 (S 3 : Nat)) ∧ X.cell? ⟨s, 4, none⟩ = some (.int .i64 (S 4 : Nat)) ∧ X.cell? ⟨s, 5, none⟩ = some (.int .i64 (S 5 : Nat))) ∧
  (X.cell? ⟨m, 0, none⟩ = some (.int .i64 (C 0 : Nat)) ∧ X.cell? ⟨m, 1, none⟩ = some (.int .i64 (C 1 : Nat)) ∧ X.cell? ⟨m, 2, none⟩ = some (.int .i64 (C 2 : Nat)) ∧ X.cell? ⟨m, 3, none⟩ = some (.int .i64 (C 3 : Nat)) ∧ X.cell? ⟨m, 4, none⟩ = some (.int .i64 (C 4 : Nat)) ∧ X.cell? ⟨m, 5, none⟩ = some (.int .i64 (C 5 : Nat))) ∧
  X.cell? ⟨a, 0, none⟩ = some (.int .i64 n) ∧ X.cell? ⟨a, 1, none⟩ = some (.int .i64 d)
def AdF (s : Nat) (X : World) : Prop := X.frozen? ⟨s, 0, none⟩ = false ∧ X.frozen? ⟨s, 1, none⟩ = false ∧ X.frozen? ⟨s, 2, none⟩ = false ∧ X.frozen? ⟨s, 3, none⟩ = false ∧ X.frozen? ⟨s, 4, none⟩ = false ∧ X.frozen? ⟨s, 5, none⟩ = false
theorem AdW.cells {w X : World} {s m a : Nat} {S C : Nat → Nat} {n d : Int} (h : AdW w s m a S C n d X) : AdC s m a S C n d X :=
  ⟨⟨h.sum.cell (by omega), h.sum.cell (by omega), h.sum.cell (by omega), h.sum.cell (by omega), h.sum.cell (by omega), h.sum.cell (by omega)⟩,
   ⟨h.com.cell (by omega), h.com.cell (by omega), h.com.cell (by omega), h.com.cell (by omega), h.com.cell (by omega), h.com.cell (by omega)⟩, h.aw.c0, h.aw.c1⟩
theorem AdW.frz {w X : World} {s m a : Nat} {S C : Nat → Nat} {n d : Int} (h : AdW w s m a S C n d X) : AdF s X ∧ AdF m X :=
  ⟨⟨h.sum.fz 0, h.sum.fz 1, h.sum.fz 2, h.sum.fz 3, h.sum.fz 4, h.sum.fz 5⟩, ⟨h.com.fz 0, h.com.fz 1, h.com.fz 2, h.com.fz 3, h.com.fz 4, h.com.fz 5⟩⟩
theorem AdW.drew {w X : World} {s m a : Nat} {S C : Nat → Nat} {n d : Int} (h : AdW w s m a S C n d X) : AdW w s m a S C n d X.drew := h.up (below_drewN (Below.refl _ _) 1)

/-- The two numbers so far. -/
structure AuW (w : World) (s m : Nat) (S C : Nat → Nat) (X : World) : Prop where
  below : Below w.heap.size w X
  hs : w.heap.size ≤ s
  hm : w.heap.size ≤ m
  ne : m ≠ s
  sum : Bw X s fun i => (S i : Nat)
  com : Bw X m fun i => (C i : Nat)
theorem AuW.box {w X : World} {s m : Nat} {S C : Nat → Nat} (h : AuW w s m S C X) (n d : Int) : AdW w s m X.heap.size S C n d (X.alloc (.cells #[.int .i64 n, .int .i64 d] 37)) :=
  ⟨bel_trans h.below (ba1 X _), h.hs, h.hm, h.ne, by have := h.sum.lt; omega, by have := h.com.lt; omega, h.sum.up (ba1 X _), h.com.up (ba1 X _), Bxr.new X n d⟩
theorem AdW.back {w X : World} {s m a : Nat} {S C : Nat → Nat} {n d : Int} (h : AdW w s m a S C n d X) : AuW w s m S C X := ⟨h.below, h.hs, h.hm, h.ne, h.sum, h.com⟩
def o6 : Array Value := #[.int .i64 1, .int .i64 0, .int .i64 0, .int .i64 0, .int .i64 0, .int .i64 0]
theorem auW_start (w : World) : AuW w w.heap.size (w.heap.size + 1) (dg 0) (dg 1) ((w.alloc (.cells z6 119)).alloc (.cells o6 119)) := by
  have e : (w.alloc (.cells z6 119)).heap.size = w.heap.size + 1 := by simp
  have h2 : Bw ((w.alloc (.cells z6 119)).alloc (.cells o6 119)) (w.alloc (.cells z6 119)).heap.size fun i => (dg 1 i : Nat) := ⟨o6, heap_alloc_new _ _, fun i hi => by
    rcases (show i = 0 ∨ i = 1 ∨ i = 2 ∨ i = 3 ∨ i = 4 ∨ i = 5 by omega) with rfl | rfl | rfl | rfl | rfl | rfl <;> rfl⟩
  rw [e] at h2
  refine ⟨bel_trans (ba1 w _) (ba1 _ _), Nat.le_refl _, by omega, by omega, ?_, h2⟩
  refine ((bw_zero w).up (ba1 _ _)).congr fun i hi => ?_
  rcases (show i = 0 ∨ i = 1 ∨ i = 2 ∨ i = 3 ∨ i = 4 ∨ i = 5 by omega) with rfl | rfl | rfl | rfl | rfl | rfl <;> rfl
attribute [local go_sem high] run_eq6
theorem big6 : 8000 * 1000000 ^ 8 < bs ^ 6 := by decide

set_option maxRecDepth 100000 in
set_option maxHeartbeats 4000000 in
theorem addUp_any (A : Option Addr) (c : Nat) (D : List Rt) (t : Nat) (w : World) (h : Rts w w.heap.size A D) (hl : D.length ≤ 8) (hg : ∀ i, i < D.length → awG (rt D i)) (ht : t ≤ 8000) :
    Calls Try.prog 92 #[.slice A D.length c, .int .i64 t] w fun r w' => r = .returned (.bool (addsB D t)) ∧ Below w.heap.size w w' := by
  have hat := fun X (hX : Below w.heap.size w X) k (hk : k < D.length) => (h.below hX).at_ k hk
  have hst := auW_start w
  have htimes := fun X N n (hn : n ≤ 1073741824) => wtimes_any N n X hn
  have hplus := fun X N M => wplus_any N M X
  have hsmall := fun k (hk : k ≤ D.length) => sum_small hl hg hk
  have hs1 := suN_succ D
  have hc1 := cmN_succ D
  have hz : suN D 0 = 0 ∧ cmN D 0 = 1 := ⟨rfl, rfl⟩
  have hlast : addsB D t = decide (suN D D.length = cmN D D.length * t) := rfl
  have he6 := e6_dg (N := suN D D.length) (M := cmN D D.length * t) (by
    have := (sum_small hl hg (Nat.le_refl _)).2; have := big6; omega) (by
    have a := (sum_small hl hg (Nat.le_refl _)).1
    have b : cmN D D.length * t ≤ 1000000 ^ 8 * 8000 := Nat.mul_le_mul a ht
    have := big6; omega)
  rw [← hlast] at he6
  generalize addsB D t = R at *
  unfold wd w6 at htimes hplus
  simp only at htimes hplus
  unfold z6 o6 at hst
  have hn9 : D.length ≤ 9223372036854775807 := by omega
  generalize D.length = n at *
  obtain ⟨s, hs⟩ : ∃ s, s = w.heap.size := ⟨_, rfl⟩
  obtain ⟨m, hm⟩ : ∃ m, m = w.heap.size + 1 := ⟨_, rfl⟩
  rw [← hm, ← hs] at hst
  have hmm := hm.symm
  have hss := hs.symm
  have hst1 := Lib.hid hst
  replace hm := Lib.hid hm
  replace hs := Lib.hid hs
  replace hmm := Lib.hid hmm
  replace hss := Lib.hid hss
  replace hat := Lib.hid hat
  replace htimes := Lib.hid htimes
  replace hplus := Lib.hid hplus
  replace hsmall := Lib.hid hsmall
  replace hs1 := Lib.hid hs1
  replace hc1 := Lib.hid hc1
  replace hz := Lib.hid hz
  replace hlast := Lib.hid hlast
  replace he6 := Lib.hid he6
  replace hg := Lib.hid hg
  replace h := Lib.hid h
  clear hst
  go_enter Try.func92, Try.ntmps92
  go_wp2
  rw [hmm.out, hss.out]
  go_loopw [13] (fun i wr => ∃ k : Nat, k ≤ n ∧ i = .int .i64 (k : Nat) ∧ AuW w s m (dg (suN D k)) (dg (cmN D k)) wr) (fun i _ => n - (intOf i).toNat)
  case atStart => exact ⟨0, by omega, rfl, by rw [hz.out.1, hz.out.2, ← hss.out]; rw [hs.out] at hst1; exact hst1.out⟩
  case round =>
    clear hst1
    obtain ⟨k, hkk, rfl, hW⟩ := hrel
    by_cases hkn : k < n
    · obtain ⟨b, o, rfl, hb', e0, e1⟩ := hat.out wr hW.below k hkn
      have hgk := hg.out k hkn
      unfold awG at hgk
      have hkn2 : (k : Int) < (n : Int) := by omega
      have en : (rt D k).n = (nN D k : Nat) := by unfold nN; omega
      have ed : (rt D k).d = (dN D k : Nat) := by unfold dN; omega
      have b1 : nN D k ≤ 1073741824 := by unfold nN; omega
      have b2 : dN D k ≤ 1073741824 := by unfold dN; omega
      rw [en] at e0
      rw [ed] at e1
      have tS := fun X => htimes.out X (suN D k) (dN D k) b2
      have tC := fun X => htimes.out X (cmN D k) (nN D k) b1
      have tD := fun X => htimes.out X (cmN D k) (dN D k) b2
      have tP := fun X => hplus.out X (suN D k * dN D k) (cmN D k * nN D k)
      rw [← hs1.out k] at tP
      rw [← hc1.out k] at tD
      have hbx := hW.box (nN D k : Nat) (dN D k : Nat)
      obtain ⟨S2, hS2⟩ : ∃ f, f = dg (suN D (k + 1)) := ⟨_, rfl⟩
      obtain ⟨C2, hC2⟩ : ∃ f, f = dg (cmN D (k + 1)) := ⟨_, rfl⟩
      rw [← hS2] at tP
      rw [← hC2] at tD
      generalize dg (suN D k * dN D k) = P1 at *
      generalize dg (cmN D k * nN D k) = P2 at *
      generalize dg (suN D k) = S at *
      generalize dg (cmN D k) = C at *
      generalize nN D k = nn at *
      generalize dN D k = dd at *
      obtain ⟨a, ha⟩ : ∃ a, a = wr.heap.size := ⟨_, rfl⟩
      rw [← ha] at hbx
      have haa := Lib.hid ha.symm
      replace ha := Lib.hid ha
      have c0 : AdC s m a S C nn dd (wr.alloc (.cells #[.int .i64 (nn : Nat), .int .i64 (dd : Nat)] 37)).drew := hbx.drew.cells
      have hcel := fun X (hX : Below (wr.alloc (.cells #[.int .i64 (nn : Nat), .int .i64 (dd : Nat)] 37)).heap.size (wr.alloc (.cells #[.int .i64 (nn : Nat), .int .i64 (dd : Nat)] 37)) X) => (hbx.up hX).cells
      have hfrz := fun X (hX : Below (wr.alloc (.cells #[.int .i64 (nn : Nat), .int .i64 (dd : Nat)] 37)).heap.size (wr.alloc (.cells #[.int .i64 (nn : Nat), .int .i64 (dd : Nat)] 37)) X) => (hbx.up hX).frz.1
      have hend := fun X (hX : Below (wr.alloc (.cells #[.int .i64 (nn : Nat), .int .i64 (dd : Nat)] 37)).heap.size (wr.alloc (.cells #[.int .i64 (nn : Nat), .int .i64 (dd : Nat)] 37)) X) => (hbx.up hX).setS S2
      have hd0 : Below (wr.alloc (.cells #[.int .i64 (nn : Nat), .int .i64 (dd : Nat)] 37)).heap.size (wr.alloc (.cells #[.int .i64 (nn : Nat), .int .i64 (dd : Nat)] 37)) (wr.alloc (.cells #[.int .i64 (nn : Nat), .int .i64 (dd : Nat)] 37)).drew := below_drewN (Below.refl _ _) 1
      have hlt := hW.sum.lt
      have hlt2 := hW.com.lt
      unfold AdC at c0 hcel
      unfold AdF at hfrz
      obtain ⟨⟨c0, c1, c2, c3, c4, c5⟩, ⟨c6, c7, c8, c9, c10, c11⟩, c12, c13⟩ := c0
      replace hcel := Lib.hid hcel
      replace hfrz := Lib.hid hfrz
      replace hend := Lib.hid hend
      replace hbx := Lib.hid hbx
      replace hW := Lib.hid hW
      replace tS := Lib.hid tS
      replace tC := Lib.hid tC
      replace tD := Lib.hid tD
      replace tP := Lib.hid tP
      replace en := Lib.hid en
      replace ed := Lib.hid ed
      replace hS2 := Lib.hid hS2
      replace hC2 := Lib.hid hC2
      replace hgk := Lib.hid hgk
      go_upto_region 5 with fail
      rw [haa.out]
      go_cut [] from 17 to 25 (fun wx => AdW w s m a S2 C (nn : Nat) (dd : Nat) wx)
      case first =>
        go_region_law (first
          | (go_simp; go_at_call 114; first
              | (with_reducible refine (tS.out _).mono ?_; rintro _ X1 ⟨rfl, hb1⟩; have h1 := bel_trans hd0 hb1; obtain ⟨⟨c0, c1, c2, c3, c4, c5⟩, ⟨c6, c7, c8, c9, c10, c11⟩, c12, c13⟩ := hcel.out X1 h1)
              | (with_reducible refine (tC.out _).mono ?_; rintro _ X2 ⟨rfl, hb2⟩; have h2 := bel_trans h1 hb2))
          | (go_simp; go_at_call 115; with_reducible refine (tP.out _).mono ?_; rintro _ X3 ⟨rfl, hb3⟩; have h3 := bel_trans h2 hb3; obtain ⟨⟨d0, d1, d2, d3, d4, d5⟩, _⟩ := hcel.out X3 h3; obtain ⟨f0, f1, f2, f3, f4, f5⟩ := hfrz.out X3 h3; have fin := Lib.hid (hend.out X3 h3)))
        all_goals (go_wp2_with fail)
        all_goals go_meet
        all_goals exact fin.out
      case rest =>
      have x0 := hcut.cells
      obtain ⟨g0, g1, g2, g3, g4, g5⟩ := hcut.frz.2
      have hcel2 := fun X (hX : Below wc.heap.size wc X) => (hcut.up hX).cells
      have hfrz2 := fun X (hX : Below wc.heap.size wc X) => (hcut.up hX).frz.2
      have hend2 := fun X (hX : Below wc.heap.size wc X) => ((hcut.up hX).setC C2).back
      unfold AdC at x0 hcel2
      unfold AdF at hfrz2
      obtain ⟨_, ⟨x6, x7, x8, x9, x10, x11⟩, x12, x13⟩ := x0
      have hltc := hcut.com.lt
      replace hcel2 := Lib.hid hcel2
      replace hfrz2 := Lib.hid hfrz2
      replace hend2 := Lib.hid hend2
      replace hcut := Lib.hid hcut
      clear c0 c1 c2 c3 c4 c5 c6 c7 c8 c9 c10 c11 c12 c13 e0 e1
      go_wp2_with fail
      refine (tD.out _).mono ?_
      rintro _ X4 ⟨rfl, hb4⟩
      obtain ⟨_, ⟨d6, d7, d8, d9, d10, d11⟩, _⟩ := hcel2.out X4 hb4
      obtain ⟨f0, f1, f2, f3, f4, f5⟩ := hfrz2.out X4 hb4
      have fin := Lib.hid (hend2.out X4 hb4)
      unfold s6 at fin
      replace hb4 := Lib.hid hb4
      go_wp2
      go_roundw
      case rel => exact ⟨k + 1, by omega, by simp, by rw [← hS2.out, ← hC2.out]; exact fin.out⟩
      case measure => simp [intOf]; omega
    · have : n = k := by omega
      subst this
      obtain ⟨sm1, sm2⟩ := hsmall.out n (Nat.le_refl _)
      have tL := fun X => htimes.out X (cmN D n) t (by omega)
      have r0 := he6.out
      generalize dg (cmN D n * t) = P at *
      generalize dg (suN D n) = S at *
      generalize dg (cmN D n) = C at *
      have hlt := hW.sum.lt
      have hlt2 := hW.com.lt
      have hcel : ∀ X, Below wr.heap.size wr X → (X.cell? ⟨s, 0, none⟩ = some (.int .i64 (S 0 : Nat)) ∧ X.cell? ⟨s, 1, none⟩ = some (.int .i64 (S 1 : Nat)) ∧ X.cell? ⟨s, 2, none⟩ = some (.int .i64 (S 2 : Nat)) ∧ X.cell? ⟨s, 3, none⟩ = some (.int .i64 (S 3 : Nat)) ∧ X.cell? ⟨s, 4, none⟩ = some (.int .i64 (S 4 : Nat)) ∧ X.cell? ⟨s, 5, none⟩ = some (.int .i64 (S 5 : Nat)) ∧
          X.cell? ⟨m, 0, none⟩ = some (.int .i64 (C 0 : Nat)) ∧ X.cell? ⟨m, 1, none⟩ = some (.int .i64 (C 1 : Nat)) ∧ X.cell? ⟨m, 2, none⟩ = some (.int .i64 (C 2 : Nat)) ∧ X.cell? ⟨m, 3, none⟩ = some (.int .i64 (C 3 : Nat)) ∧ X.cell? ⟨m, 4, none⟩ = some (.int .i64 (C 4 : Nat)) ∧ X.cell? ⟨m, 5, none⟩ = some (.int .i64 (C 5 : Nat))) := fun X hX => by
        have p := hW.sum.up hX
        have q := hW.com.up hX
        exact ⟨p.cell (by omega), p.cell (by omega), p.cell (by omega), p.cell (by omega), p.cell (by omega), p.cell (by omega), q.cell (by omega), q.cell (by omega), q.cell (by omega), q.cell (by omega), q.cell (by omega), q.cell (by omega)⟩
      have h0 : Below wr.heap.size wr wr.drew := below_drewN (Below.refl _ _) 1
      have k0 := hcel _ h0
      have hbe := hW.below
      replace hcel := Lib.hid hcel
      replace hbe := Lib.hid hbe
      replace hW := Lib.hid hW
      replace tL := Lib.hid tL
      go_wp2
      go_region_held3 (fun X => X.cell? ⟨s, 0, none⟩ = some (.int .i64 (S 0 : Nat)) ∧ X.cell? ⟨s, 1, none⟩ = some (.int .i64 (S 1 : Nat)) ∧ X.cell? ⟨s, 2, none⟩ = some (.int .i64 (S 2 : Nat)) ∧ X.cell? ⟨s, 3, none⟩ = some (.int .i64 (S 3 : Nat)) ∧ X.cell? ⟨s, 4, none⟩ = some (.int .i64 (S 4 : Nat)) ∧ X.cell? ⟨s, 5, none⟩ = some (.int .i64 (S 5 : Nat)) ∧
          X.cell? ⟨m, 0, none⟩ = some (.int .i64 (C 0 : Nat)) ∧ X.cell? ⟨m, 1, none⟩ = some (.int .i64 (C 1 : Nat)) ∧ X.cell? ⟨m, 2, none⟩ = some (.int .i64 (C 2 : Nat)) ∧ X.cell? ⟨m, 3, none⟩ = some (.int .i64 (C 3 : Nat)) ∧ X.cell? ⟨m, 4, none⟩ = some (.int .i64 (C 4 : Nat)) ∧ X.cell? ⟨m, 5, none⟩ = some (.int .i64 (C 5 : Nat)))
        (first | with_reducible exact k0 | with_reducible exact hcel.out _ (by assumption)) ((go_at_call 114; refine (tL.out _).mono ?_; rintro _ X1 ⟨rfl, hb1⟩; have h1 := bel_trans h0 hb1; have fin := Lib.hid (bel_trans hbe.out h1)))
      all_goals
        go_wp2
        go_ret
        exact ⟨rfl, fin.out⟩
end Go.Proofs.Ythleekdkbgnabaa
