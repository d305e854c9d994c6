/-
  Numbers in six digits of 32 bits: the program's product and sum.
-/
import Derived.Test.YthleekdkbgnabaaMathI
import Derived.Test.YthleekdkbgnabaaG
namespace Go.Proofs.Ythleekdkbgnabaa
open Go.RowKit Go.Deep M
set_option linter.unusedVariables false
set_option linter.unusedSimpArgs false

/-- Six digits as a value. -/
def w6 (f : Nat → Int) : Value := .agg #[.int .i64 (f 0), .int .i64 (f 1), .int .i64 (f 2), .int .i64 (f 3), .int .i64 (f 4), .int .i64 (f 5)]
def wd (N : Nat) : Value := w6 fun i => (dg N i : Nat)
/-- A box of six digits. -/
def Bw (X : World) (b : Nat) (f : Nat → Int) : Prop := ∃ cs : Array Value, X.heap[b]? = some (.cells cs 119 (0, 0)) ∧ ∀ i, i < 6 → cs[i]? = some (.int .i64 (f i))
theorem Bw.lt {X : World} {b : Nat} {f : Nat → Int} (h : Bw X b f) : b < X.heap.size := by obtain ⟨cs, h1, _⟩ := h; exact blk_lt h1
theorem Bw.to {X Y : World} {b : Nat} {f : Nat → Int} (h : Bw X b f) (hb : Y.heap[b]? = X.heap[b]?) : Bw Y b f := by obtain ⟨cs, h1, h2⟩ := h; exact ⟨cs, hb.trans h1, h2⟩
theorem Bw.up {X Y : World} {b : Nat} {f : Nat → Int} (h : Bw X b f) (hb : Below X.heap.size X Y) : Bw Y b f := h.to (hb.block b h.lt)
theorem Bw.cell {X : World} {b i : Nat} {f : Nat → Int} (h : Bw X b f) (hi : i < 6) : X.cell? ⟨b, i, none⟩ = some (.int .i64 (f i)) := by obtain ⟨cs, h1, h2⟩ := h; simp [World.cell?, h1, h2 i hi]
theorem Bw.fz {X : World} {b : Nat} {f : Nat → Int} (h : Bw X b f) (i : Nat) : X.frozen? ⟨b, i, none⟩ = false := by obtain ⟨cs, h1, _⟩ := h; simp [World.frozen?, h1]
theorem Bw.congr {X : World} {b : Nat} {f f' : Nat → Int} (h : Bw X b f) (e : ∀ i, i < 6 → f i = f' i) : Bw X b f' := by obtain ⟨cs, h1, h2⟩ := h; exact ⟨cs, h1, fun i hi => by rw [← e i hi]; exact h2 i hi⟩
theorem Bw.set {X : World} {b j : Nat} {f : Nat → Int} (h : Bw X b f) (hj : j < 6) (x : Int) : Bw (X.setCell ⟨b, j, none⟩ (.int .i64 x)) b (fun i => if i = j then x else f i) := by
  obtain ⟨cs, h1, h2⟩ := h
  have hjs : j < cs.size := by have := h2 j hj; exact (Array.getElem?_eq_some_iff.1 this).1
  refine ⟨cs.setIfInBounds j (.int .i64 x), by simp [World.setCell, Array.getElem?_modify, h1], fun i hi => ?_⟩
  rw [Array.getElem?_setIfInBounds]
  by_cases e : i = j
  · subst e
    simp [hjs]
  · have e2 : ¬ j = i := fun h => e h.symm
    simp [e, e2, h2 i hi]
theorem run_idx6 (w : World) (xs : Array Value) (k : Int) (v : Value) (h0 : 0 ≤ k) (h5 : k < 6) (hx : xs[k.toNat]? = some v) : (Instr.index 119 (.agg xs) (.int .i64 k)).run Try.prog w = .ok v w := by
  simp [Instr.index, asIntOf, run_underlying Try.underlying119, h0, h5, go_sem]
  rw [hx]; rfl
theorem idx6 (f : Nat → Int) (k : Nat) (hk : k < 6) (w : World) : (Instr.index 119 (.agg #[.int .i64 (f 0), .int .i64 (f 1), .int .i64 (f 2), .int .i64 (f 3), .int .i64 (f 4), .int .i64 (f 5)]) (.int .i64 (k : Nat))).run Try.prog w = .ok (.int .i64 (f k)) w := by
  refine run_idx6 w _ _ _ (by omega) (by omega) ?_
  rcases (show k = 0 ∨ k = 1 ∨ k = 2 ∨ k = 3 ∨ k = 4 ∨ k = 5 by omega) with rfl | rfl | rfl | rfl | rfl | rfl <;> rfl

theorem wr_mul {a b : Nat} (h : a * b ≤ 9223372036854775807) : wrap64 ((a : Int) * (b : Int)) = ((a * b : Nat) : Int) := by
  rw [← Int.natCast_mul]
  generalize a * b = c at *
  exact IntWalk.wrap64_in _ (by omega)
theorem wr_add {a b : Nat} (h : a + b ≤ 9223372036854775807) : wrap64 ((a : Int) + (b : Int)) = ((a + b : Nat) : Int) := by
  rw [← Int.natCast_add]
  generalize a + b = c at *
  exact IntWalk.wrap64_in _ (by omega)
theorem tm_mod (q : Nat) : ((q : Nat) : Int).tmod 4294967296 = ((q % 4294967296 : Nat) : Int) := by
  rw [Int.tmod_eq_emod_of_nonneg (by omega)]; omega
theorem tm_div (q : Nat) : ((q : Nat) : Int).tdiv 4294967296 = ((q / 4294967296 : Nat) : Int) := by
  rw [Int.tdiv_eq_ediv_of_nonneg (by omega)]; omega
/-- The result and the digits so far. -/
structure TmW (w : World) (b g : Nat) (f : Nat → Int) (X : World) : Prop where
  below : Below w.heap.size w X
  hb : w.heap.size ≤ b
  hg : w.heap.size ≤ g
  ne : g ≠ b
  res : Bw X b (fun _ => 0)
  dig : Bw X g f
theorem TmW.set {w X : World} {b g k : Nat} {f : Nat → Int} (h : TmW w b g f X) (hk : k < 6) (x : Int) : TmW w b g (fun i => if i = k then x else f i) (X.setCell ⟨g, k, none⟩ (.int .i64 x)) :=
  ⟨h.below.setCell (p := ⟨g, k, none⟩) h.hg _, h.hb, h.hg, h.ne, h.res.to (setCell_far (fun e => h.ne e.symm)), h.dig.set hk x⟩
def z6 : Array Value := #[.int .i64 0, .int .i64 0, .int .i64 0, .int .i64 0, .int .i64 0, .int .i64 0]
theorem bw_zero (w : World) : Bw (w.alloc (.cells z6 119)) w.heap.size (fun _ => 0) := ⟨z6, heap_alloc_new w _, fun i hi => by
  rcases (show i = 0 ∨ i = 1 ∨ i = 2 ∨ i = 3 ∨ i = 4 ∨ i = 5 by omega) with rfl | rfl | rfl | rfl | rfl | rfl <;> rfl⟩
/-- The first k digits. -/
def upW (F : Nat → Int) (k i : Nat) : Int := if i < k then F i else 0
theorem upW_zero (F : Nat → Int) : upW F 0 = fun _ => 0 := by funext i; simp [upW]
theorem upW_step (F : Nat → Int) (k : Nat) : (fun i => if i = k then F k else upW F k i) = upW F (k + 1) := by
  funext i
  unfold upW
  by_cases h : i = k
  · subst h; simp
  · by_cases h2 : i < k
    · rw [if_neg h, if_pos h2, if_pos (by omega)]
    · rw [if_neg h, if_neg h2, if_neg (by omega)]
theorem tmW_start (w Y : World) (F : Nat → Int) (hY : Below w.heap.size w Y) : TmW w Y.heap.size (Y.heap.size + 1) (upW F 0) ((Y.alloc (.cells z6 119)).alloc (.cells z6 119)) := by
  have h1 := bw_zero Y
  have h2 := bw_zero (Y.alloc (.cells z6 119))
  have e : (Y.alloc (.cells z6 119)).heap.size = Y.heap.size + 1 := by simp
  rw [e] at h2
  refine ⟨bel_trans (bel_trans hY (ba1 Y _)) (ba1 _ _), hY.size, by have := hY.size; omega, by omega, h1.up (ba1 _ _), by rw [upW_zero]; exact h2⟩

/-- Six digits stored. -/
def s6 (X : World) (b : Nat) (f : Nat → Int) : World := ((((((X.setCell ⟨b, 0, none⟩ (.int .i64 (f 0))).setCell ⟨b, 1, none⟩ (.int .i64 (f 1))).setCell ⟨b, 2, none⟩ (.int .i64 (f 2))).setCell ⟨b, 3, none⟩ (.int .i64 (f 3))).setCell ⟨b, 4, none⟩ (.int .i64 (f 4))).setCell ⟨b, 5, none⟩ (.int .i64 (f 5)))
theorem s6_below {B b : Nat} {w X : World} {f : Nat → Int} (h : Below B w X) (hb : B ≤ b) : Below B w (s6 X b f) :=
  (((((h.setCell (p := ⟨b, 0, none⟩) hb _).setCell (p := ⟨b, 1, none⟩) hb _).setCell (p := ⟨b, 2, none⟩) hb _).setCell (p := ⟨b, 3, none⟩) hb _).setCell (p := ⟨b, 4, none⟩) hb _).setCell (p := ⟨b, 5, none⟩) hb _
theorem s6_bw {b : Nat} {X : World} {g f : Nat → Int} (h : Bw X b g) : Bw (s6 X b f) b f := by
  have q := (((((h.set (j := 0) (by omega) (f 0)).set (j := 1) (by omega) (f 1)).set (j := 2) (by omega) (f 2)).set (j := 3) (by omega) (f 3)).set (j := 4) (by omega) (f 4)).set (j := 5) (by omega) (f 5)
  refine Bw.congr q fun i hi => ?_
  rcases (show i = 0 ∨ i = 1 ∨ i = 2 ∨ i = 3 ∨ i = 4 ∨ i = 5 by omega) with rfl | rfl | rfl | rfl | rfl | rfl <;> rfl
theorem s6_far {b g : Nat} {X : World} {f : Nat → Int} (h : g ≠ b) : (s6 X b f).heap[g]? = X.heap[g]? := by
  unfold s6
  rw [setCell_far h, setCell_far h, setCell_far h, setCell_far h, setCell_far h, setCell_far h]

set_option maxRecDepth 100000 in
set_option maxHeartbeats 2000000 in
theorem wtimes_any (N n : Nat) (w : World) (hn : n ≤ 1073741824) :
    Calls Try.prog 114 #[wd N, .int .i64 n] w fun r w' => r = .returned (wd (N * n)) ∧ Below w.heap.size w w' := by
  have hidx := fun k hk w => idx6 (fun i => (dg N i : Nat)) k hk w
  have hdl := fun k => dg_lt N k
  have hcl := fun k => cry_le N n k
  have hc0 := cry_zero N n
  have hcs := cry_succ N n
  have hdm := dg_mul N n
  have hst := fun (v : Obj) => tmW_start w (w.alloc v) (fun i => (dg (N * n) i : Nat)) (ba1 w v)
  have hfs := upW_step (fun i => (dg (N * n) i : Nat))
  have hwd : wd (N * n) = w6 (upW (fun i => (dg (N * n) i : Nat)) 6) := rfl
  unfold bs at hcs hdm
  rw [hwd]
  generalize upW (fun i => (dg (N * n) i : Nat)) = U at *
  have hsz : ∀ v, (w.alloc v).heap.size = w.heap.size + 1 := fun v => by simp
  have hst := fun v => (hsz v) ▸ hst v
  unfold wd w6
  simp only
  unfold z6 at hst
  generalize dg N = D at *
  generalize cry N n = R at *
  have hst1 := Lib.hid (hst (.cells #[.int .i64 (D 0 : Nat), .int .i64 (D 1 : Nat), .int .i64 (D 2 : Nat), .int .i64 (D 3 : Nat), .int .i64 (D 4 : Nat), .int .i64 (D 5 : Nat)] 119))
  clear hst hsz hwd
  replace hidx := Lib.hid hidx
  replace hdl := Lib.hid hdl
  replace hcl := Lib.hid hcl
  replace hcs := Lib.hid hcs
  replace hdm := Lib.hid hdm
  replace hfs := Lib.hid hfs
  obtain ⟨b, hb⟩ : ∃ b, b = w.heap.size + 1 := ⟨_, rfl⟩
  rw [← hb] at hst1
  obtain ⟨g, hg⟩ : ∃ g, g = b + 1 := ⟨_, rfl⟩
  rw [← hg] at hst1
  have hgg : w.heap.size + 1 + 1 = g := by omega
  have hbb := hb.symm
  replace hb := Lib.hid hb
  replace hg := Lib.hid hg
  replace hgg := Lib.hid hgg
  replace hbb := Lib.hid hbb
  have hn2 : (n : Int) ≤ 1073741824 := by omega
  go_enter Try.func114, Try.ntmps114
  go_wp2
  rw [hgg.out, hbb.out]
  go_loopw [10, 6, 7, 8] (fun i cr _ _ wr => ∃ k : Nat, k ≤ 6 ∧ i = .int .i64 (k : Nat) ∧ cr = .int .i64 (R k : Nat) ∧ TmW w b g (U k) wr) (fun i _ _ _ _ => 6 - (intOf i).toNat)
  case atStart => exact ⟨0, by omega, rfl, by rw [hc0]; rfl, hst1.out⟩
  case round =>
    clear hst1
    obtain ⟨k, hkk, rfl, rfl, hW⟩ := hrel
    by_cases hkn : k < 6
    · have hix := fun w => hidx.out k hkn w
      have d1 := hdl.out k
      have r1 := hcl.out k
      have s1 := hcs.out k
      have m1 := hdm.out k
      have hkn2 : (k : Int) < 6 := by omega
      have hset := hW.set hkn (dg (N * n) k : Nat)
      rw [hfs.out] at hset
      have z0 := hW.dig.cell hkn
      have z1 := hW.dig.fz k
      have z2 := hW.dig.lt
      generalize D k = dd at *
      generalize R k = rr at *
      have hr1 := hcl.out (k + 1)
      obtain ⟨rs, hrs⟩ : ∃ rs, rs = R (k + 1) := ⟨_, rfl⟩
      rw [← hrs] at s1 hr1
      have w5 := Lib.hid (show wrap64 ((rs : Nat) : Int) = (rs : Nat) from IntWalk.wrap64_in _ (by omega))
      replace hrs := Lib.hid hrs
      clear hr1
      generalize U k k = u0 at *
      have hp : dd * n ≤ 4294967296 * 1073741824 := Nat.mul_le_mul (by omega) (by omega)
      obtain ⟨p, hpd⟩ : ∃ p, p = dd * n := ⟨_, rfl⟩
      rw [← hpd] at hp s1 m1
      have w1 : wrap64 ((dd : Int) * (n : Int)) = (p : Nat) := by rw [hpd]; exact wr_mul (by rw [← hpd]; omega)
      replace w1 := Lib.hid w1
      have w2 : wrap64 ((rr : Int) + (p : Int)) = (rr + p : Nat) := wr_add (by omega)
      replace w2 := Lib.hid w2
      generalize dg (N * n) k = dn at *
      obtain ⟨q, hq⟩ : ∃ q, q = rr + p := ⟨_, rfl⟩
      rw [show rr + p = q from hq.symm] at s1 m1
      have w3 : ((q : Nat) : Int).tmod 4294967296 = (dn : Nat) := by rw [m1]; exact tm_mod q
      have w4 : ((q : Nat) : Int).tdiv 4294967296 = (rs : Nat) := by rw [s1]; exact tm_div q
      replace w1 := w1.out
      replace w2 := w2.out
      rw [← hq] at w2
      clear hp r1 d1
      replace hset := Lib.hid hset
      replace hW := Lib.hid hW
      replace hpd := Lib.hid hpd
      replace hq := Lib.hid hq
      replace s1 := Lib.hid s1
      replace m1 := Lib.hid m1
      go_wp2
      go_roundw
      case rel => exact ⟨k + 1, by omega, by simp, by rw [w5.out, hrs.out], hset.out⟩
      case measure => simp [intOf]; omega
    · have : k = 6 := by omega
      subst this
      have y0 := hW.res
      have y1 := hW.dig
      have c0 := y0.cell (i := 0) (by omega)
      have c1 := y0.cell (i := 1) (by omega)
      have c2 := y0.cell (i := 2) (by omega)
      have c3 := y0.cell (i := 3) (by omega)
      have c4 := y0.cell (i := 4) (by omega)
      have c5 := y0.cell (i := 5) (by omega)
      have e0 := y1.cell (i := 0) (by omega)
      have e1 := y1.cell (i := 1) (by omega)
      have e2 := y1.cell (i := 2) (by omega)
      have e3 := y1.cell (i := 3) (by omega)
      have e4 := y1.cell (i := 4) (by omega)
      have e5 := y1.cell (i := 5) (by omega)
      have f0 := y0.fz 0
      have f1 := y0.fz 1
      have f2 := y0.fz 2
      have f3 := y0.fz 3
      have f4 := y0.fz 4
      have f5 := y0.fz 5
      have hlt := y0.lt
      have hlt2 := y1.lt
      have hbel := Lib.hid (s6_below (f := U 6) hW.below hW.hb)
      have yb := s6_bw (f := U 6) y0
      have q0 := yb.cell (i := 0) (by omega)
      have q1 := yb.cell (i := 1) (by omega)
      have q2 := yb.cell (i := 2) (by omega)
      have q3 := yb.cell (i := 3) (by omega)
      have q4 := yb.cell (i := 4) (by omega)
      have q5 := yb.cell (i := 5) (by omega)
      unfold s6 at hbel q0 q1 q2 q3 q4 q5
      replace yb := Lib.hid yb
      replace hW := Lib.hid hW
      replace y0 := Lib.hid y0
      replace y1 := Lib.hid y1
      replace q0 := Lib.hid q0
      replace q1 := Lib.hid q1
      replace q2 := Lib.hid q2
      replace q3 := Lib.hid q3
      replace q4 := Lib.hid q4
      replace q5 := Lib.hid q5
      go_wp2
      exact bodyPost_ret (v := .agg #[.int .i64 (U 6 0), .int .i64 (U 6 1), .int .i64 (U 6 2), .int .i64 (U 6 3), .int .i64 (U 6 4), .int .i64 (U 6 5)]) (by simp [results, Try.results114, go_sem, q0.out, q1.out, q2.out, q3.out, q4.out, q5.out]) rfl ⟨rfl, hbel.out⟩

/-- The second number's box stays. -/
theorem bw_obj (X : World) (f : Nat → Int) : Bw (X.alloc (.cells #[.int .i64 (f 0), .int .i64 (f 1), .int .i64 (f 2), .int .i64 (f 3), .int .i64 (f 4), .int .i64 (f 5)] 119)) X.heap.size f := ⟨_, heap_alloc_new X _, fun i hi => by
  rcases (show i = 0 ∨ i = 1 ∨ i = 2 ∨ i = 3 ∨ i = 4 ∨ i = 5 by omega) with rfl | rfl | rfl | rfl | rfl | rfl <;> rfl⟩
set_option maxRecDepth 100000 in
set_option maxHeartbeats 2000000 in
theorem wplus_any (N M : Nat) (w : World) :
    Calls Try.prog 115 #[wd N, wd M] w fun r w' => r = .returned (wd (N + M)) ∧ Below w.heap.size w w' := by
  have hidx := fun k hk w => idx6 (fun i => (dg N i : Nat)) k hk w
  have hdl := fun k => dg_lt N k
  have hdl' := fun k => dg_lt M k
  have hcl := fun k => crp_le N M k
  have hc0 := crp_zero N M
  have hcs := crp_succ N M
  have hdm := dg_add N M
  have hst : ∀ v v' : Obj, _ := fun v v' => tmW_start w ((w.alloc v).alloc v') (fun i => (dg (N + M) i : Nat)) (bel_trans (ba1 w v) (ba1 _ v'))
  have hfs := upW_step (fun i => (dg (N + M) i : Nat))
  have hwd : wd (N + M) = w6 (upW (fun i => (dg (N + M) i : Nat)) 6) := rfl
  unfold bs at hcs hdm
  rw [hwd]
  generalize upW (fun i => (dg (N + M) i : Nat)) = U at *
  have hsz : ∀ v v', ((w.alloc v).alloc v').heap.size = w.heap.size + 1 + 1 := fun v v' => by simp
  have hst := fun v v' => (hsz v v') ▸ hst v v'
  have hbx := fun v => bw_obj (w.alloc v) (fun i => (dg M i : Nat))
  have hsz1 : ∀ v, (w.alloc v).heap.size = w.heap.size + 1 := fun v => by simp
  have hbx := fun v => (hsz1 v) ▸ hbx v
  unfold wd w6
  simp only at hbx ⊢
  unfold z6 at hst
  generalize dg N = D at *
  generalize dg M = D' at *
  generalize crp N M = R at *
  have hst1 := Lib.hid (hst (.cells #[.int .i64 (D 0 : Nat), .int .i64 (D 1 : Nat), .int .i64 (D 2 : Nat), .int .i64 (D 3 : Nat), .int .i64 (D 4 : Nat), .int .i64 (D 5 : Nat)] 119) (.cells #[.int .i64 (D' 0 : Nat), .int .i64 (D' 1 : Nat), .int .i64 (D' 2 : Nat), .int .i64 (D' 3 : Nat), .int .i64 (D' 4 : Nat), .int .i64 (D' 5 : Nat)] 119))
  have hbx1 := hbx (.cells #[.int .i64 (D 0 : Nat), .int .i64 (D 1 : Nat), .int .i64 (D 2 : Nat), .int .i64 (D 3 : Nat), .int .i64 (D 4 : Nat), .int .i64 (D 5 : Nat)] 119)
  have hbx2 := (hbx1.up (ba1 _ (.cells #[.int .i64 0, .int .i64 0, .int .i64 0, .int .i64 0, .int .i64 0, .int .i64 0] 119))).up (ba1 _ (.cells #[.int .i64 0, .int .i64 0, .int .i64 0, .int .i64 0, .int .i64 0, .int .i64 0] 119))
  clear hst hsz hwd hbx hsz1 hbx1
  replace hidx := Lib.hid hidx
  replace hdl := Lib.hid hdl
  replace hdl' := Lib.hid hdl'
  replace hcl := Lib.hid hcl
  replace hcs := Lib.hid hcs
  replace hdm := Lib.hid hdm
  replace hfs := Lib.hid hfs
  replace hbx2 := Lib.hid hbx2
  obtain ⟨a, ha⟩ : ∃ a, a = w.heap.size + 1 := ⟨_, rfl⟩
  rw [← ha] at hst1 hbx2
  obtain ⟨b, hb⟩ : ∃ b, b = a + 1 := ⟨_, rfl⟩
  rw [← hb] at hst1
  obtain ⟨g, hg⟩ : ∃ g, g = b + 1 := ⟨_, rfl⟩
  rw [← hg] at hst1
  have hgg : w.heap.size + 1 + 1 + 1 = g := by omega
  have hbb : w.heap.size + 1 + 1 = b := by omega
  have haa := ha.symm
  have hag : a ≠ g := by omega
  have hab : a ≠ b := by omega
  replace ha := Lib.hid ha
  replace hb := Lib.hid hb
  replace hg := Lib.hid hg
  replace hgg := Lib.hid hgg
  replace hbb := Lib.hid hbb
  replace haa := Lib.hid haa
  go_enter Try.func115, Try.ntmps115
  go_wp2
  rw [hgg.out, hbb.out, haa.out]
  go_loopw [10, 6, 7, 8] (fun i cr _ _ wr => ∃ k : Nat, k ≤ 6 ∧ i = .int .i64 (k : Nat) ∧ cr = .int .i64 (R k : Nat) ∧ TmW w b g (U k) wr ∧ Bw wr a fun i => (D' i : Nat)) (fun i _ _ _ _ => 6 - (intOf i).toNat)
  case atStart => exact ⟨0, by omega, rfl, by rw [hc0]; rfl, hst1.out, hbx2.out⟩
  case round =>
    clear hst1 hbx2
    obtain ⟨k, hkk, rfl, rfl, hW, hB⟩ := hrel
    by_cases hkn : k < 6
    · have hix := fun w => hidx.out k hkn w
      have d1 := hdl.out k
      have d2 := hdl'.out k
      have r1 := hcl.out k
      have s1 := hcs.out k
      have m1 := hdm.out k
      have hkn2 : (k : Int) < 6 := by omega
      have hset := hW.set hkn (dg (N + M) k : Nat)
      rw [hfs.out] at hset
      have hset2 : Bw (wr.setCell ⟨g, k, none⟩ (.int .i64 (dg (N + M) k : Nat))) a fun i => (D' i : Nat) := hB.to (setCell_far hag)
      have z0 := hW.dig.cell hkn
      have z1 := hW.dig.fz k
      have z2 := hW.dig.lt
      have x0 := hB.cell hkn
      have x1 := hB.lt
      generalize D k = dd at *
      obtain ⟨de, hde⟩ : ∃ d, d = D' k := ⟨_, rfl⟩
      rw [← hde] at d2 x0 s1 m1
      generalize R k = rr at *
      have hr1 := hcl.out (k + 1)
      obtain ⟨rs, hrs⟩ : ∃ rs, rs = R (k + 1) := ⟨_, rfl⟩
      rw [← hrs] at s1 hr1
      have w5 := Lib.hid (show wrap64 ((rs : Nat) : Int) = (rs : Nat) from IntWalk.wrap64_in _ (by omega))
      replace hrs := Lib.hid hrs
      clear hr1
      generalize U k k = u0 at *
      obtain ⟨p, hpd⟩ : ∃ p, p = dd + de := ⟨_, rfl⟩
      have hp : p ≤ 8589934592 := by omega
      rw [← hpd] at s1 m1
      have w1 : wrap64 ((dd : Int) + (de : Int)) = (p : Nat) := by rw [hpd]; exact wr_add (by rw [← hpd]; omega)
      replace w1 := Lib.hid w1
      have w2 : wrap64 ((rr : Int) + (p : Int)) = (rr + p : Nat) := wr_add (by omega)
      replace w2 := Lib.hid w2
      generalize dg (N + M) k = dn at *
      obtain ⟨q, hq⟩ : ∃ q, q = rr + p := ⟨_, rfl⟩
      rw [show rr + p = q from hq.symm] at s1 m1
      have w3 : ((q : Nat) : Int).tmod 4294967296 = (dn : Nat) := by rw [m1]; exact tm_mod q
      have w4 : ((q : Nat) : Int).tdiv 4294967296 = (rs : Nat) := by rw [s1]; exact tm_div q
      replace w1 := w1.out
      replace w2 := w2.out
      rw [← hq] at w2
      clear hp r1 d1 d2
      replace hset := Lib.hid hset
      replace hset2 := Lib.hid hset2
      replace hW := Lib.hid hW
      replace hB := Lib.hid hB
      replace hpd := Lib.hid hpd
      replace hde := Lib.hid hde
      replace hq := Lib.hid hq
      replace s1 := Lib.hid s1
      replace m1 := Lib.hid m1
      go_wp2
      go_roundw
      case rel => exact ⟨k + 1, by omega, by simp, by rw [w5.out, hrs.out], hset.out, hset2.out⟩
      case measure => simp [intOf]; omega
    · have : k = 6 := by omega
      subst this
      have y0 := hW.res
      have y1 := hW.dig
      have c0 := y0.cell (i := 0) (by omega)
      have c1 := y0.cell (i := 1) (by omega)
      have c2 := y0.cell (i := 2) (by omega)
      have c3 := y0.cell (i := 3) (by omega)
      have c4 := y0.cell (i := 4) (by omega)
      have c5 := y0.cell (i := 5) (by omega)
      have e0 := y1.cell (i := 0) (by omega)
      have e1 := y1.cell (i := 1) (by omega)
      have e2 := y1.cell (i := 2) (by omega)
      have e3 := y1.cell (i := 3) (by omega)
      have e4 := y1.cell (i := 4) (by omega)
      have e5 := y1.cell (i := 5) (by omega)
      have f0 := y0.fz 0
      have f1 := y0.fz 1
      have f2 := y0.fz 2
      have f3 := y0.fz 3
      have f4 := y0.fz 4
      have f5 := y0.fz 5
      have hlt := y0.lt
      have hlt2 := y1.lt
      have hbel := Lib.hid (s6_below (f := U 6) hW.below hW.hb)
      have yb := s6_bw (f := U 6) y0
      have q0 := yb.cell (i := 0) (by omega)
      have q1 := yb.cell (i := 1) (by omega)
      have q2 := yb.cell (i := 2) (by omega)
      have q3 := yb.cell (i := 3) (by omega)
      have q4 := yb.cell (i := 4) (by omega)
      have q5 := yb.cell (i := 5) (by omega)
      unfold s6 at hbel q0 q1 q2 q3 q4 q5
      replace yb := Lib.hid yb
      replace hW := Lib.hid hW
      replace y0 := Lib.hid y0
      replace y1 := Lib.hid y1
      replace q0 := Lib.hid q0
      replace q1 := Lib.hid q1
      replace q2 := Lib.hid q2
      replace q3 := Lib.hid q3
      replace q4 := Lib.hid q4
      replace q5 := Lib.hid q5
      go_wp2
      exact bodyPost_ret (v := .agg #[.int .i64 (U 6 0), .int .i64 (U 6 1), .int .i64 (U 6 2), .int .i64 (U 6 3), .int .i64 (U 6 4), .int .i64 (U 6 5)]) (by simp [results, Try.results115, go_sem, q0.out, q1.out, q2.out, q3.out, q4.out, q5.out]) rfl ⟨rfl, hbel.out⟩
end Go.Proofs.Ythleekdkbgnabaa
