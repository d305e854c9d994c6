/-
  Awards in whole numbers: rounded down, and what is left given by 1 to those with the greatest rests: the program's function.
-/
import Derived.Test.YthleekdkbgnabaaJb
import Derived.Test.YthleekdkbgnabaaMathH
import Derived.Deep.DeepCutAuto
namespace Go.Proofs.Ythleekdkbgnabaa
open Go.RowKit Go.Deep M
set_option linter.unusedVariables false
set_option linter.unusedSimpArgs false
namespace M
def qW (F : Nat → Rt) (i : Nat) : Int := (F i).n / (F i).d
def rW (F : Nat → Rt) (i : Nat) : Rt := ⟨(F i).n % (F i).d, (F i).d⟩
/-- Whole awards with 1 more for each of the first k. -/
def addW (q : Nat → Int) (σ : Nat → Nat) : Nat → Nat → Int
  | 0 => q
  | k + 1 => fun i => if i = σ k then addW q σ k (σ k) + 1 else addW q σ k i
theorem addW_b {q : Nat → Int} {σ : Nat → Nat} {n : Nat} (hq : ∀ i, i < n → 0 ≤ q i ∧ q i ≤ 1000) (hσ : ∀ k, k < n → σ k < n) : ∀ k, k ≤ n → ∀ i, i < n → 0 ≤ addW q σ k i ∧ addW q σ k i ≤ 1000 + k := by
  intro k
  induction k with
  | zero => intro _ i hi; have := hq i hi; simp only [addW]; omega
  | succ k ih =>
    intro hk i hi
    have h1 := ih (by omega) i hi
    have h2 := ih (by omega) (σ k) (hσ k (by omega))
    simp only [addW]
    split <;> omega
def upI (i : Nat) (f : Nat → Int) (k : Nat) : Int := if k < i then f k else 0
def upR (i : Nat) (f : Nat → Rt) (k : Nat) : Rt := if k < i then f k else ⟨0, 0⟩
theorem upI_succ (i : Nat) (f : Nat → Int) (k : Nat) : (if k = i then f i else upI i f k) = upI (i + 1) f k := by
  unfold upI
  by_cases e : k = i
  · subst e; simp
  · rw [if_neg e]
    by_cases h : k < i
    · rw [if_pos h, if_pos (by omega)]
    · rw [if_neg h, if_neg (by omega)]
theorem upR_succ (i : Nat) (f : Nat → Rt) (k : Nat) : (if k = i then f i else upR i f k) = upR (i + 1) f k := by
  unfold upR
  by_cases e : k = i
  · subst e; simp
  · rw [if_neg e]
    by_cases h : k < i
    · rw [if_pos h, if_pos (by omega)]
    · rw [if_neg h, if_neg (by omega)]
end M
/-- The three lists and the box of one. -/
structure WhG (w : World) (n : Nat) (f1 : Nat → Int) (f2 : Nat → Rt) (f3 : Nat → Int) (X : World) : Prop where
  below : Below w.heap.size w X
  rnd : BlI X w.heap.size n f1
  rst : BlR X (w.heap.size + 1) n f2
  box : X.heap[w.heap.size + 2]? = some (.cells #[.slice (some ⟨w.heap.size + 1, 0, none⟩) n n] 25 (0, 0))
  clm : BlI X (w.heap.size + 3) n f3
section
variable {w X Y : World} {n : Nat} {f1 f3 : Nat → Int} {f2 : Nat → Rt}
theorem WhG.up (h : WhG w n f1 f2 f3 X) (hb : Below X.heap.size X Y) : WhG w n f1 f2 f3 Y :=
  ⟨bel_trans h.below hb, h.rnd.up hb, h.rst.up hb, (hb.block _ (blk_lt h.box)).trans h.box, h.clm.up hb⟩
theorem WhG.drewN (h : WhG w n f1 f2 f3 X) (k : Nat) : WhG w n f1 f2 f3 (X.drewN k) := ⟨below_drewN h.below k, h.rnd, h.rst, h.box, h.clm⟩
theorem WhG.congr {f1' f3' : Nat → Int} {f2' : Nat → Rt} (h : WhG w n f1 f2 f3 X) (e1 : ∀ i, i < n → f1 i = f1' i) (e2 : ∀ i, i < n → f2 i = f2' i) (e3 : ∀ i, i < n → f3 i = f3' i) : WhG w n f1' f2' f3' X :=
  ⟨h.below, h.rnd.congr e1, h.rst.congr e2, h.box, h.clm.congr e3⟩
theorem set1_far {X : World} {b g k : Nat} (h : g ≠ b) (v : Value) : (X.setCell ⟨b, k, none⟩ v).heap[g]? = X.heap[g]? := by
  have h' : ¬ b = g := fun e => h e.symm
  simp [World.setCell, Array.getElem?_modify, h']
theorem set2_far' {X : World} {b g k k' : Nat} (h : g ≠ b) (v v' : Value) : ((X.setCell ⟨b, k, none⟩ v).setCell ⟨b, k', none⟩ v').heap[g]? = X.heap[g]? := (set1_far h v').trans (set1_far h v)
theorem WhG.set1 (h : WhG w n f1 f2 f3 X) {i : Nat} (hi : i < n) (x : Int) : WhG w n (fun k => if k = i then x else f1 k) f2 f3 (X.setCell ⟨w.heap.size, i, none⟩ (.int .i64 x)) :=
  ⟨h.below.setCell (Nat.le_refl _) _, h.rnd.set hi x, h.rst.to (set1_far (by omega) _), (set1_far (by omega) _).trans h.box, h.clm.to (set1_far (by omega) _)⟩
theorem WhG.set2 (h : WhG w n f1 f2 f3 X) {i : Nat} (hi : i < n) (x : Rt) : WhG w n f1 (fun k => if k = i then x else f2 k) f3 ((X.setCell ⟨w.heap.size + 1, i * 2, none⟩ (.int .i64 x.n)).setCell ⟨w.heap.size + 1, i * 2 + 1, none⟩ (.int .i64 x.d)) :=
  ⟨(h.below.setCell (Nat.le_succ w.heap.size) _).setCell (Nat.le_succ w.heap.size) _, h.rnd.to (set2_far' (by omega) _ _), h.rst.set hi x, (set2_far' (by omega) _ _).trans h.box, h.clm.to (set2_far' (by omega) _ _)⟩
theorem WhG.set3 (h : WhG w n f1 f2 f3 X) {i : Nat} (hi : i < n) (x : Int) : WhG w n f1 f2 (fun k => if k = i then x else f3 k) (X.setCell ⟨w.heap.size + 3, i, none⟩ (.int .i64 x)) :=
  ⟨h.below.setCell (show w.heap.size ≤ w.heap.size + 3 by omega) _, h.rnd.to (set1_far (by omega) _), h.rst.to (set1_far (by omega) _), (set1_far (by omega) _).trans h.box, h.clm.set hi x⟩
end
theorem WhG.start (w : World) (n : Nat) : WhG w n (fun _ => 0) (fun _ => ⟨0, 0⟩) (fun _ => 0)
    (mkI ((mkR (mkI w n) n).alloc (.cells #[.slice (some ⟨w.heap.size + 1, 0, none⟩) n n] 25)) n) := by
  have s1 : (mkI w n).heap.size = w.heap.size + 1 := by unfold mkI; simp
  have s2 : (mkR (mkI w n) n).heap.size = w.heap.size + 2 := by unfold mkR; simp [s1]
  have s3 : ((mkR (mkI w n) n).alloc (.cells #[.slice (some ⟨w.heap.size + 1, 0, none⟩) n n] 25)).heap.size = w.heap.size + 3 := by simp [s2]
  have b1 := mkI_below w n
  have b2 := mkR_below (mkI w n) n
  have b3 := ba1 (mkR (mkI w n) n) (.cells #[.slice (some ⟨w.heap.size + 1, 0, none⟩) n n] 25)
  have b4 := mkI_below ((mkR (mkI w n) n).alloc (.cells #[.slice (some ⟨w.heap.size + 1, 0, none⟩) n n] 25)) n
  have q1 := mkI_blk w n
  have q2 := mkR_blk (mkI w n) n
  rw [s1] at q2
  have q3 := heap_alloc_new (mkR (mkI w n) n) (.cells #[.slice (some ⟨w.heap.size + 1, 0, none⟩) n n] 25)
  rw [s2] at q3
  have q4 := mkI_blk ((mkR (mkI w n) n).alloc (.cells #[.slice (some ⟨w.heap.size + 1, 0, none⟩) n n] 25)) n
  rw [s3] at q4
  refine ⟨bel_trans (bel_trans (bel_trans b1 b2) b3) b4, ((q1.up b2).up b3).up b4, (q2.up b3).up b4, (b4.block _ (by omega)).trans q3, q4⟩
set_option maxRecDepth 100000 in
set_option maxHeartbeats 8000000 in
theorem whole_any (gA cp n : Nat) (F : Nat → Rt) (e : Int) (s : Nat → Int) (L : Nat) (w : World) (hn : 1 ≤ n ∧ n ≤ 8) (hA : BlR w gA n F)
    (hF : ∀ i, i < n → (0 ≤ (F i).n ∧ (F i).n ≤ 1000 * (F i).d) ∧ 1 ≤ (F i).d ∧ (F i).d ≤ 10000) (he : 0 ≤ e ∧ e ≤ 8000)
    (hs : ∀ x y, x < n → y < n → ((rW F y).n * (rW F x).d < (rW F x).n * (rW F y).d ↔ s y < s x)) (hL : e - suM (qW F) n = (L : Int)) (hLn : L ≤ n) :
    Calls Try.prog 75 #[.int .i64 e, .slice (some ⟨gA, 0, none⟩) n cp] w fun r w' => ∃ g σ, r = .returned (.slice (some ⟨g, 0, none⟩) n n) ∧ Below w.heap.size w w' ∧ BlI w' g n (addW (qW F) σ L) ∧ InsI s n n σ := by
  have hq : ∀ i, i < n → 0 ≤ qW F i ∧ qW F i ≤ 1000 := fun i hi => by
    obtain ⟨⟨a, b⟩, c, d⟩ := hF i hi
    unfold qW
    refine ⟨Int.ediv_nonneg a (by omega), ?_⟩
    have := Int.ediv_le_ediv (c := (F i).d) (by omega) b
    rw [Int.mul_ediv_cancel _ (by omega)] at this
    exact this
  have hqr : ∀ i, i < n → (F i).n.tdiv (F i).d = qW F i ∧ (F i).n.tmod (F i).d = (rW F i).n ∧ (rW F i).d = (F i).d ∧ (0 ≤ (rW F i).n ∧ (rW F i).n < (F i).d) := fun i hi => by
    obtain ⟨⟨a, b⟩, c, d⟩ := hF i hi
    exact ⟨Int.tdiv_eq_ediv_of_nonneg a, Int.tmod_eq_emod_of_nonneg a, rfl, Int.emod_nonneg _ (by omega), Int.emod_lt_of_pos _ (by omega)⟩
  have hsum : ∀ i, i ≤ n → 0 ≤ suM (qW F) i ∧ suM (qW F) i ≤ 1000 * i := by
    intro i
    induction i with
    | zero => intro _; simp [suM]
    | succ i ih => intro hi; have := ih (by omega); have := hq i (by omega); simp only [suM]; omega
  have m1 := run_mkI w n (by omega)
  have m2 := run_mkR (mkI w n) n (by omega)
  have m3 := run_mkI ((mkR (mkI w n) n).alloc (.cells #[.slice (some ⟨w.heap.size + 1, 0, none⟩) n n] 25)) n (by omega)
  have s1 : (mkI w n).heap.size = w.heap.size + 1 := by unfold mkI; simp
  have s2 : (mkR (mkI w n) n).heap.size = w.heap.size + 2 := by unfold mkR; simp [s1]
  have s3 : ((mkR (mkI w n) n).alloc (.cells #[.slice (some ⟨w.heap.size + 1, 0, none⟩) n n] 25)).heap.size = w.heap.size + 3 := by simp [s2]
  rw [s1] at m2
  rw [s3] at m3
  have hW := WhG.start w n
  obtain ⟨G, hG⟩ : ∃ G, G = mkI ((mkR (mkI w n) n).alloc (.cells #[.slice (some ⟨w.heap.size + 1, 0, none⟩) n n] 25)) n := ⟨_, rfl⟩
  rw [← hG] at m3 hW
  generalize mkI w n = G1 at *
  generalize mkR G1 n = G2 at *
  have hA0 := fun X (hX : Below w.heap.size w X) i (hi : i < n) => And.intro ((hA.up hX).c0 hi) ((hA.up hX).c1 hi)
  have hfit : ∀ x y, x < n → y < n → fitP ((rW F y).n * (rW F x).d) ∧ fitP ((rW F x).n * (rW F y).d) := fun x y hx hy => by
    obtain ⟨_, _, x1, x2⟩ := hqr x hx
    obtain ⟨_, _, y1, y2⟩ := hqr y hy
    have := hF x hx
    have := hF y hy
    have p1 := prod_b (a := (rW F y).n) (b := (rW F x).d) (x := 10000) (y := 10000) (by omega) (by omega) (by omega)
    have p2 := prod_b (a := (rW F x).n) (b := (rW F y).d) (x := 10000) (y := 10000) (by omega) (by omega) (by omega)
    unfold fitP; omega
  have hW0 : WhG w n (upI 0 (qW F)) (upR 0 (rW F)) (upI 0 (fun k => (k : Int))) G := hW.congr (fun i _ => by simp [upI]) (fun i _ => by simp [upR]) (fun i _ => by simp [upI])
  have hsz : e - suM (qW F) 0 = e := by simp [suM]
  have hss := fun i => (show suM (qW F) (i + 1) = suM (qW F) i + qW F i from rfl)
  have h0 : InsI s n 1 id := ⟨fun k _ _ => rfl, fun k hk => hk, fun a b hab hb => by omega⟩
  clear hW
  replace hA := Lib.hid hA
  replace hA0 := Lib.hid hA0
  replace hF := Lib.hid hF
  replace hq := Lib.hid hq
  replace hqr := Lib.hid hqr
  replace hsum := Lib.hid hsum
  replace hfit := Lib.hid hfit
  replace hs := Lib.hid hs
  replace hW0 := Lib.hid hW0
  replace hL := Lib.hid hL
  replace hss := Lib.hid hss
  replace h0 := Lib.hid h0
  replace s1 := Lib.hid s1
  replace s2 := Lib.hid s2
  replace s3 := Lib.hid s3
  replace hG := Lib.hid hG
  rw [← hsz]
  replace hsz := Lib.hid hsz
  obtain ⟨hn1, hn8⟩ := hn
  go_enter Try.func75, Try.ntmps75
  go_wp2
  rw [s2.out]
  go_loopw [25, 8, 9, 10] (fun iv lv _ _ wr => ∃ i : Nat, i ≤ n ∧ iv = .int .i64 (i : Nat) ∧ lv = .int .i64 (e - suM (qW F) i) ∧ WhG w n (upI i (qW F)) (upR i (rW F)) (upI i (fun k => (k : Int))) wr) (fun iv _ _ _ _ => n - (intOf iv).toNat)
  case atStart => exact ⟨0, by omega, rfl, rfl, hW0.out⟩
  case round =>
    clear hW0
    obtain ⟨i, hi, rfl, rfl, hX⟩ := hrel
    by_cases hin : i < n
    · have hini : (i : Int) < (n : Int) := by omega
      obtain ⟨a0, a1⟩ := hA0.out wr hX.below i hin
      obtain ⟨q1, q2, q3, q4, q5⟩ := hqr.out i hin
      have hqi := hq.out i hin
      have hFi := hF.out i hin
      have hsm := hsum.out i (by omega)
      have hssi := hss.out i
      have hwlt := hX.clm.lt
      obtain ⟨q, hQ⟩ : ∃ q, q = qW F i := ⟨_, rfl⟩
      obtain ⟨r, hR⟩ : ∃ r, r = (rW F i).n := ⟨_, rfl⟩
      obtain ⟨N, hN⟩ : ∃ N, N = (F i).n := ⟨_, rfl⟩
      obtain ⟨D, hD⟩ : ∃ D, D = (F i).d := ⟨_, rfl⟩
      obtain ⟨lv, hlv⟩ : ∃ lv, lv = e - suM (qW F) i := ⟨_, rfl⟩
      rw [← hN] at a0 q1 q2 hFi
      rw [← hD] at a1 q1 q2 q3 q5 hFi
      rw [← hQ] at q1 hqi hssi
      rw [← hR] at q2 q4 q5
      have hlv2 : -8000 ≤ lv ∧ lv ≤ 8000 := by omega
      have hsub : lv - q = e - suM (qW F) (i + 1) := by omega
      have w3 : IntKind.i64.wrap (lv - q) = lv - q := IntWalk.i64_in _ (by omega)
      rw [← hlv]
      have hrW : rW F i = ⟨r, D⟩ := by rw [hR, ← q3]
      have hX1 := hX.up (ba1 wr (.cells #[.int .i64 N, .int .i64 D] 37))
      have hbx1 := Bxr.new wr N D
      have hX2 := hX1.set1 hin q
      have hbx2 : Bxr ((wr.alloc (.cells #[.int .i64 N, .int .i64 D] 37)).setCell ⟨w.heap.size, i, none⟩ (.int .i64 q)) wr.heap.size N D := hbx1.to (set1_far (by omega) _)
      have hX3 := (hX2.set2 hin ⟨r, D⟩)
      have hX3c : ∀ Z, WhG w n (fun k => if k = i then q else upI i (qW F) k) (fun k => if k = i then ⟨r, D⟩ else upR i (rW F) k) (upI i (fun k => (k : Int))) Z → WhG w n (upI (i + 1) (qW F)) (upR (i + 1) (rW F)) (upI i (fun k => (k : Int))) Z := fun Z hZ => hZ.congr (fun k _ => by rw [hQ]; exact upI_succ i (qW F) k) (fun k _ => by rw [← hrW]; exact upR_succ i (rW F) k) (fun k _ => rfl)
      have e0 := hX1.rnd.cell hin
      have e1 := hX1.rnd.fz i
      have e2 := hX1.rnd.lt
      have b0 := hbx1.c0
      have b1 := hbx1.c1
      have c0 : ((wr.alloc (.cells #[.int .i64 N, .int .i64 D] 37)).setCell ⟨w.heap.size, i, none⟩ (.int .i64 q)).drew.cell? ⟨wr.heap.size, 0, none⟩ = some (.int .i64 N) := hbx2.c0
      have c1 : ((wr.alloc (.cells #[.int .i64 N, .int .i64 D] 37)).setCell ⟨w.heap.size, i, none⟩ (.int .i64 q)).drew.cell? ⟨wr.heap.size, 1, none⟩ = some (.int .i64 D) := hbx2.c1
      have c2 : ((wr.alloc (.cells #[.int .i64 N, .int .i64 D] 37)).setCell ⟨w.heap.size, i, none⟩ (.int .i64 q)).drew.cell? ⟨w.heap.size + 2, 0, none⟩ = some (.slice (some ⟨w.heap.size + 1, 0, none⟩) n n) := by
        have := hX2.box
        simp [World.cell?, show ((wr.alloc (.cells #[.int .i64 N, .int .i64 D] 37)).setCell ⟨w.heap.size, i, none⟩ (.int .i64 q)).drew.heap[w.heap.size + 2]? = _ from this]
      have c3 : ((wr.alloc (.cells #[.int .i64 N, .int .i64 D] 37)).setCell ⟨w.heap.size, i, none⟩ (.int .i64 q)).drew.cell? ⟨w.heap.size + 1, i * 2, none⟩ = _ := hX2.rst.c0 hin
      have c4 : ((wr.alloc (.cells #[.int .i64 N, .int .i64 D] 37)).setCell ⟨w.heap.size, i, none⟩ (.int .i64 q)).drew.cell? ⟨w.heap.size + 1, i * 2 + 1, none⟩ = _ := hX2.rst.c1 hin
      have c5 : ((wr.alloc (.cells #[.int .i64 N, .int .i64 D] 37)).setCell ⟨w.heap.size, i, none⟩ (.int .i64 q)).drew.frozen? ⟨w.heap.size + 1, i * 2, none⟩ = false := hX2.rst.fz _
      have c6 : ((wr.alloc (.cells #[.int .i64 N, .int .i64 D] 37)).setCell ⟨w.heap.size, i, none⟩ (.int .i64 q)).drew.frozen? ⟨w.heap.size + 1, i * 2 + 1, none⟩ = false := hX2.rst.fz _
      have d3 := hX1.rst.c0 hin
      have d4 := hX1.rst.c1 hin
      have d5 := hX1.rst.fz (i * 2)
      have d6 := hX1.rst.fz (i * 2 + 1)
      have hfin := Lib.hid (hX3c _ hX3)
      have hD1 : ¬ D = 0 := by omega
      have hD2 : 1 ≤ D := by omega
      have nq1 : ¬ w.heap.size = wr.heap.size := by omega
      have nq2 : ¬ wr.heap.size = w.heap.size := by omega
      have w5 : IntKind.i64.wrap q = q := IntWalk.i64_in _ (by omega)
      have w6 : IntKind.i64.wrap r = r := IntWalk.i64_in _ (by omega)
      replace hX := Lib.hid hX
      replace hX1 := Lib.hid hX1
      replace hX2 := Lib.hid hX2
      replace hX3 := Lib.hid hX3
      replace hX3c := Lib.hid hX3c
      replace hbx1 := Lib.hid hbx1
      replace hbx2 := Lib.hid hbx2
      replace hQ := Lib.hid hQ
      replace hR := Lib.hid hR
      replace hN := Lib.hid hN
      replace hD := Lib.hid hD
      replace hlv := Lib.hid hlv
      replace hsub := Lib.hid hsub
      replace hssi := Lib.hid hssi
      replace hrW := Lib.hid hrW
      replace q3 := Lib.hid q3
      go_upto_region 9 with fail
      go_cut [] from 38 to 48 (fun wx => WhG w n (upI (i + 1) (qW F)) (upR (i + 1) (rW F)) (upI i (fun k => (k : Int))) wx)
      case first =>
        go_region
        all_goals
          go_wp2_with fail
          go_meet
          exact hfin.out.drewN 1
      case rest =>
      clear a0 a1 e0 e1 e2 b0 b1 c0 c1 c2 c3 c4 c5 c6 d3 d4 d5 d6 q1 q2
      have g0 := hcut.clm.cell hin
      have g1 := hcut.clm.fz i
      have g2 := hcut.clm.lt
      have h4 := hcut.set3 hin (i : Int)
      have g3 := h4.rnd.cell hin
      have hup : upI (i + 1) (qW F) i = q := by unfold upI; rw [if_pos (by omega), hQ.out]
      rw [hup] at g3
      have hfin4 := Lib.hid (h4.congr (fun k _ => rfl) (fun k _ => rfl) (fun k _ => upI_succ i (fun k => (k : Int)) k))
      replace h4 := Lib.hid h4
      replace hcut := Lib.hid hcut
      replace hup := Lib.hid hup
      go_wp2
      go_roundw
      case rel => exact ⟨i + 1, by omega, by go_num, by rw [← hsub.out], hfin4.out⟩
      case measure => simp [intOf]; omega
    · have : n = i := by omega
      subst this
      have hLi : (L : Int) ≤ 8 := by omega
      rw [hL.out]
      have hW := hX.congr (f1' := qW F) (f2' := rW F) (f3' := fun k => ((id k : Nat) : Int)) (fun k hk => by unfold upI; rw [if_pos hk]) (fun k hk => by unfold upR; rw [if_pos hk]) (fun k hk => by unfold upI; rw [if_pos hk]; rfl)
      have kk := sortStable_any wr.heap.size (w.heap.size + 3) n n (w.heap.size + 2) (fun x y => cmpR ((rW F y).n * (rW F x).d) ((rW F x).n * (rW F y).d)) s id wr ⟨hn1, hn8⟩ (Nat.le_refl _) hW.clm h0.out (fun X hBX x y hx hy => by
          have hbx := (hBX.block (w.heap.size + 2) (blk_lt hW.box) (by omega)).trans hW.box
          have hrs := hW.rst.to (hBX.block (w.heap.size + 1) hW.rst.lt (by omega))
          exact cmpF_any (w.heap.size + 2) (w.heap.size + 1) n (rW F) x y X hx hy (by omega) (by simp [World.cell?, hbx]) (blk_lt hbx) hrs (hfit.out x y hx hy))
        (fun x y hx hy => by rw [cmpR_neg]; exact hs.out x y hx hy)
      replace hX := Lib.hid hX
      replace kk := Lib.hid kk
      replace hW := Lib.hid hW
      go_wp2_with fail
      refine kk.out.mono ?_
      rintro _ X5 ⟨rfl, σ, hS5, hI5⟩
      have hr5 := hW.out.rnd.to (hS5.bx.block w.heap.size hW.out.rnd.lt (by omega))
      have hb5 : Below w.heap.size w X5 := ⟨hS5.bx.os.trans hW.out.below.os, hS5.bx.tape.trans hW.out.below.tape, hS5.bx.output.trans hW.out.below.output, Nat.le_trans hW.out.below.size hS5.bx.size, fun k hk => (hS5.bx.block k (by have := hW.out.below.size; omega) (by omega)).trans (hW.out.below.block k hk)⟩
      have hc5 := hS5.blk
      have hσ := hI5.low
      have hwb := addW_b hq.out hσ
      have haS := fun k => (show addW (qW F) σ (k + 1) = fun i => if i = σ k then addW (qW F) σ k (σ k) + 1 else addW (qW F) σ k i from rfl)
      replace hS5 := Lib.hid hS5
      replace hI5 := Lib.hid hI5
      replace hσ := Lib.hid hσ
      replace hwb := Lib.hid hwb
      replace haS := Lib.hid haS
      replace hr5 := Lib.hid hr5
      replace hb5 := Lib.hid hb5
      replace hc5 := Lib.hid hc5
      have hLn2 : (L : Int) ≤ (n : Int) := by omega
      go_wp2
      go_loopw [67, 12] (fun kv _ wr => ∃ k : Nat, k ≤ L ∧ kv = .int .i64 (k : Nat) ∧ Below w.heap.size w wr ∧ BlI wr w.heap.size n (addW (qW F) σ k) ∧ BlI wr (w.heap.size + 3) n (fun i => (σ i : Int))) (fun kv _ _ => L - (intOf kv).toNat)
      case atStart => exact ⟨0, by omega, rfl, hb5.out, hr5.out, hc5.out⟩
      case round =>
        clear hb5 hr5 hc5
        obtain ⟨k, hk, rfl, hb, hr, hc⟩ := hrel
        by_cases hkL : k < L
        · have hkI : (k : Int) < (L : Int) := by omega
          have hkn : k < n := by omega
          have hkI2 : (k : Int) < (n : Int) := by omega
          have hs1 := hσ.out k hkn
          have hsI : ((σ k : Nat) : Int) < (n : Int) := by omega
          have c0 := hc.cell hkn
          have r0 := hr.cell hs1
          have r1 := hr.fz (σ k)
          have r2 := hr.lt
          have hw1 := hwb.out k (by omega) (σ k) hs1
          have hsetr := hr.set hs1 (addW (qW F) σ k (σ k) + 1)
          rw [← haS.out k] at hsetr
          have hsetc := hc.to (w' := wr.setCell ⟨w.heap.size, σ k, none⟩ (.int .i64 (addW (qW F) σ k (σ k) + 1))) (set1_far (by omega) _)
          have hsetb := hb.setCell (p := ⟨w.heap.size, σ k, none⟩) (Nat.le_refl w.heap.size) (Value.int .i64 (addW (qW F) σ k (σ k) + 1))
          have hfin := Lib.hid (And.intro hsetb (And.intro hsetr hsetc))
          clear hsetb hsetr hsetc
          try simp only at c0
          generalize addW (qW F) σ k (σ k) = av at *
          generalize hu : σ k = u at *
          have wv : IntKind.i64.wrap (av + 1) = av + 1 := IntWalk.i64_in _ (by omega)
          replace hu := Lib.hid hu
          replace hb := Lib.hid hb
          replace hr := Lib.hid hr
          replace hc := Lib.hid hc
          go_wp2
          go_roundw
          case rel => exact ⟨k + 1, by omega, by go_num, hfin.out.1, hfin.out.2.1, hfin.out.2.2⟩
          case measure => simp [intOf]; omega
        · have : L = k := by omega
          subst this
          have hfin := Lib.hid (And.intro hb (And.intro hr hI5.out))
          replace hb := Lib.hid hb
          replace hr := Lib.hid hr
          replace hc := Lib.hid hc
          go_wp2
          go_ret
          exact ⟨_, σ, rfl, hfin.out.1, hfin.out.2.1, hfin.out.2.2⟩
end Go.Proofs.Ythleekdkbgnabaa
