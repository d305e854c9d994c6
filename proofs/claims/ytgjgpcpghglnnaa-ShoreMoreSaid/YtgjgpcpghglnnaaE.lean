/-
  The jobs in an order, and the harm of an order: the program's functions.
-/
import Derived.Test.YtgjgpcpghglnnaaD
namespace Go.Proofs.Ytgjgpcpghglnnaa
open Go.RowKit Go.Deep M
set_option linter.unusedVariables false
set_option linter.unusedSimpArgs false

/-! ### a block of visits -/
def BlV (w : World) (g n : Nat) (G : Nat → Nat → Int) : Prop := ∃ cs : Array Value, w.heap[g]? = some (.cells cs 67 (0, 0)) ∧ ∀ i, i < n → ∀ k, k < 4 → cs[i * 4 + k]? = some (.int .i64 (G i k))
theorem BlV.lt {w : World} {g n : Nat} {G : Nat → Nat → Int} (h : BlV w g n G) : g < w.heap.size := by obtain ⟨cs, h1, _⟩ := h; exact blk_lt h1
theorem BlV.to {w w' : World} {g n : Nat} {G : Nat → Nat → Int} (h : BlV w g n G) (hb : w'.heap[g]? = w.heap[g]?) : BlV w' g n G := by obtain ⟨cs, h1, h2⟩ := h; exact ⟨cs, hb.trans h1, h2⟩
theorem BlV.up {w w' : World} {g n : Nat} {G : Nat → Nat → Int} (h : BlV w g n G) (hb : Below w.heap.size w w') : BlV w' g n G := h.to (hb.block g h.lt)
theorem BlV.cell {w : World} {g n i : Nat} {G : Nat → Nat → Int} (h : BlV w g n G) (hi : i < n) (k : Nat) (hk : k < 4) : w.cell? ⟨g, i * 4 + k, none⟩ = some (.int .i64 (G i k)) := by obtain ⟨cs, h1, h2⟩ := h; simp [World.cell?, h1, h2 i hi k hk]
theorem BlV.fz {w : World} {g n : Nat} {G : Nat → Nat → Int} (h : BlV w g n G) (i : Nat) : w.frozen? ⟨g, i, none⟩ = false := by obtain ⟨cs, h1, _⟩ := h; simp [World.frozen?, h1]
theorem BlV.congr {w : World} {g n : Nat} {G G' : Nat → Nat → Int} (h : BlV w g n G) (e : ∀ i, i < n → ∀ k, k < 4 → G i k = G' i k) : BlV w g n G' := by obtain ⟨cs, h1, h2⟩ := h; exact ⟨cs, h1, fun i hi k hk => by rw [← e i hi k hk]; exact h2 i hi k hk⟩
theorem BlV.set1 {w : World} {g n j q : Nat} {G : Nat → Nat → Int} (h : BlV w g n G) (hj : j < n) (hq : q < 4) (x : Int) : BlV (w.setCell ⟨g, j * 4 + q, none⟩ (.int .i64 x)) g n (fun i k => if i = j ∧ k = q then x else G i k) := by
  obtain ⟨cs, h1, h2⟩ := h
  have hjs : j * 4 + q < cs.size := by have := h2 j hj q hq; exact (Array.getElem?_eq_some_iff.1 this).1
  refine ⟨cs.setIfInBounds (j * 4 + q) (.int .i64 x), by simp [World.setCell, Array.getElem?_modify, h1], fun i hi k hk => ?_⟩
  rw [Array.getElem?_setIfInBounds]
  by_cases e : i = j ∧ k = q
  · obtain ⟨rfl, rfl⟩ := e
    simp [hjs]
  · have e2 : ¬ j * 4 + q = i * 4 + k := fun h => e ⟨by omega, by omega⟩
    rw [if_neg e2]
    show cs[i * 4 + k]? = some (.int .i64 (if i = j ∧ k = q then x else G i k))
    rw [if_neg e]
    exact h2 i hi k hk
theorem BlV.set {w : World} {g n j : Nat} {G : Nat → Nat → Int} (h : BlV w g n G) (hj : j < n) (V : Nat → Int) : BlV ((((w.setCell ⟨g, j * 4, none⟩ (.int .i64 (V 0))).setCell ⟨g, j * 4 + 1, none⟩ (.int .i64 (V 1))).setCell ⟨g, j * 4 + 2, none⟩ (.int .i64 (V 2))).setCell ⟨g, j * 4 + 3, none⟩ (.int .i64 (V 3))) g n (fun i k => if i = j then V k else G i k) := by
  have h0 := h.set1 hj (show 0 < 4 by omega) (V 0)
  have h1 := h0.set1 hj (show 1 < 4 by omega) (V 1)
  have h2 := h1.set1 hj (show 2 < 4 by omega) (V 2)
  have h3 := h2.set1 hj (show 3 < 4 by omega) (V 3)
  refine h3.congr fun i hi k hk => ?_
  by_cases e : i = j
  · subst e
    rcases (show k = 0 ∨ k = 1 ∨ k = 2 ∨ k = 3 by omega) with rfl | rfl | rfl | rfl <;> simp
  · simp [e]
def mkV (w : World) (n : Nat) : World := w.alloc (.cells (madeCells #[.int .i64 0, .int .i64 0, .int .i64 0, .int .i64 0] (n * 4)) 67)
theorem mkV_below (w : World) (n : Nat) : Below w.heap.size w (mkV w n) := ba1 _ _
theorem mkV_blk (w : World) (n : Nat) : BlV (mkV w n) w.heap.size n (fun _ _ => 0) :=
  ⟨madeCells #[.int .i64 0, .int .i64 0, .int .i64 0, .int .i64 0] (n * 4), heap_alloc_new w _, fun i hi k hk => by
    unfold madeCells
    have h1 : i * 4 + k < n * 4 := by omega
    have h2 : (i * 4 + k) % 4 = k := by omega
    simp only [Array.getElem?_map, Array.getElem?_range, h1, if_true, Option.map_some]
    rcases (show k = 0 ∨ k = 1 ∨ k = 2 ∨ k = 3 by omega) with rfl | rfl | rfl | rfl <;> simp [h2]⟩
theorem info67 : (Try.prog.info? 67).map (fun i => (i.zero, i.size, i.bytes)) = some (some (.agg #[.int .i64 0, .int .i64 0, .int .i64 0, .int .i64 0]), 4, 32) := by kernel_rfl
theorem run_mkV (w : World) (n : Nat) (hn : n ≤ 1000000) : (Instr.makeSlice 64 (.int .i64 n) (.int .i64 n)).run Try.prog w = .ok (.slice (some ⟨w.heap.size, 0, none⟩) n n) (mkV w n) := by
  have hi := info67
  cases h : Try.prog.info? 67 with
  | none => rw [h] at hi; cases hi
  | some i =>
    rw [h] at hi
    simp only [Option.map_some, Option.some.injEq, Prod.mk.injEq] at hi
    obtain ⟨h1, h2, h3⟩ := hi
    have := run_make (P := Try.prog) w 64 67 i (.agg #[.int .i64 0, .int .i64 0, .int .i64 0, .int .i64 0]) Try.underlying64 h h1 .i64 .i64 (n : Int) (n : Int) (by omega) (Int.le_refl _) (by rw [h3]; omega) (by omega)
    rw [this, h2]
    simp [mkV, Value.cells]

namespace M
/-- The numbers of the visit at place j of an order. -/
def vv (J : List (List Jb)) (o : List Int) (j : Nat) : Nat → Int
  | 0 => (jbAt J o j).h
  | 1 => (jbAt J o j).m
  | 2 => el o j
  | _ => hr J o (j + 1)
theorem cnt_le (o : List Int) (b : Int) (k : Nat) : cnt o b k ≤ k := by
  induction k with
  | zero => exact Nat.le_refl _
  | succ k ih => rw [cnt_succ]; split <;> omega
end M
/-- The numbers of jobs done, and the visits. -/
structure VsW (w : World) (n m : Nat) (f : Nat → Int) (G : Nat → Nat → Int) (X : World) : Prop where
  below : Below w.heap.size w X
  nxt : BlI X w.heap.size n f
  vis : BlV X (w.heap.size + 1) m G
theorem VsW.up {w X Y : World} {n m : Nat} {f : Nat → Int} {G : Nat → Nat → Int} (h : VsW w n m f G X) (hb : Below X.heap.size X Y) : VsW w n m f G Y := ⟨bel_trans h.below hb, h.nxt.up hb, h.vis.up hb⟩
theorem VsW.setf {w X : World} {n m i : Nat} {f : Nat → Int} {G : Nat → Nat → Int} (h : VsW w n m f G X) (hi : i < n) (z : Int) : VsW w n m (fun k => if k = i then z else f k) G (X.setCell ⟨w.heap.size, i, none⟩ (.int .i64 z)) :=
  ⟨h.below.setCell (Nat.le_refl _) _, h.nxt.set hi z, h.vis.to (setCell_far (by omega))⟩
theorem VsW.setv {w X : World} {n m j : Nat} {f : Nat → Int} {G : Nat → Nat → Int} (h : VsW w n m f G X) (hj : j < m) (V : Nat → Int) : VsW w n m f (fun i k => if i = j then V k else G i k) ((((X.setCell ⟨w.heap.size + 1, j * 4, none⟩ (.int .i64 (V 0))).setCell ⟨w.heap.size + 1, j * 4 + 1, none⟩ (.int .i64 (V 1))).setCell ⟨w.heap.size + 1, j * 4 + 2, none⟩ (.int .i64 (V 2))).setCell ⟨w.heap.size + 1, j * 4 + 3, none⟩ (.int .i64 (V 3))) :=
  ⟨(((h.below.setCell (Nat.le_succ _) _).setCell (Nat.le_succ _) _).setCell (Nat.le_succ _) _).setCell (Nat.le_succ _) _, (((h.nxt.to (setCell_far (by omega))).to (setCell_far (by omega))).to (setCell_far (by omega))).to (setCell_far (by omega)), h.vis.set hj V⟩
theorem VsW.congr {w X : World} {n m : Nat} {f f' : Nat → Int} {G G' : Nat → Nat → Int} (h : VsW w n m f G X) (e : ∀ i, i < n → f i = f' i) (e' : ∀ i, i < m → ∀ k, k < 4 → G i k = G' i k) : VsW w n m f' G' X := ⟨h.below, h.nxt.congr e, h.vis.congr e'⟩
theorem VsW.drew {w X : World} {n m : Nat} {f : Nat → Int} {G : Nat → Nat → Int} (h : VsW w n m f G X) : VsW w n m f G X.drew := ⟨below_drewN h.below 1, h.nxt.to rfl, h.vis.to rfl⟩

set_option maxRecDepth 100000 in
set_option maxHeartbeats 8000000 in
theorem visits_any (B : Nat) (A Ao : Option Addr) (c co : Nat) (D : List Bc) (o : List Int) (w : World) (h : Bcs w B A D) (ho : Row w B Ao o) (hB : B ≤ w.heap.size) (hv : vJ (bl D)) (hr' : Runs (bl D) o) (h12 : o.length ≤ 12) :
    Calls Try.prog 61 #[.slice A D.length c, .slice Ao o.length co] w fun e w' => ∃ g, e = .returned (.slice (some ⟨g, 0, none⟩) o.length o.length) ∧ Below w.heap.size w w' ∧ BlV w' g o.length (vv (bl D) o) := by
  have h63 := h.1
  have hlen := bl_len D
  have hn6 : D.length ≤ 6 := by have := hv.1.2; rw [hlen] at this; exact this
  have hat := fun X (hX : Below w.heap.size w X) k (hk : k < D.length) => (h.below (hX.mono hB)).at_ k hk
  have hoa := fun X (hX : Below w.heap.size w X) k (hk : k < o.length) => (ho.below (hX.mono hB)).at_ k hk
  have hrb := hr_b hv hr'
  have hrs := hr_succ (bl D) o
  have hjo := fun i (hi : i < o.length) => at_ok hv hr' hi
  have hcl := fun b k => cnt_le o b k
  have hcs := fun b k => cnt_succ o b k
  have hru := fun k (hk : k < o.length) => hr' k hk
  have hm1 := run_mkI w D.length (by omega)
  have hm2 := run_mkV (mkI w D.length) o.length (by omega)
  have hms : (mkI w D.length).heap.size = w.heap.size + 1 := by simp [mkI]
  rw [hms] at hm2
  have hW0 : VsW w D.length o.length (fun b => (cnt o (b : Nat) 0 : Nat)) (fun j q => if j < 0 then vv (bl D) o j q else 0) (mkV (mkI w D.length) o.length) := by
    have h1 := mkI_below w D.length
    have h2 := mkV_below (mkI w D.length) o.length
    have h3 := mkV_blk (mkI w D.length) o.length
    rw [hms] at h3
    exact ⟨bel_trans h1 h2, ((mkI_blk w D.length).up h2).congr fun i _ => rfl, h3.congr fun i _ k _ => by simp⟩
  obtain ⟨J, hJ⟩ : ∃ J, J = bl D := ⟨_, rfl⟩
  rw [← hJ] at hlen hat hv hr' hrb hrs hjo hru hW0 ⊢
  obtain ⟨n, hn⟩ : ∃ n, n = D.length := ⟨_, rfl⟩
  obtain ⟨m, hm⟩ : ∃ m, m = o.length := ⟨_, rfl⟩
  rw [← hn] at h63 hn6 hat hm1 hm2 hW0 hlen ⊢
  rw [← hm] at h12 hoa hrb hjo hru hW0 hm2 ⊢
  obtain ⟨Y1, hY1⟩ : ∃ Y, Y = mkI w n := ⟨_, rfl⟩
  rw [← hY1] at hm1 hm2 hW0
  obtain ⟨Y2, hY2⟩ : ∃ Y, Y = mkV Y1 m := ⟨_, rfl⟩
  rw [← hY2] at hm2 hW0
  have hz := Lib.hid (show hr J o 0 = 0 from rfl)
  have hJn : ∀ k, k < m → ∃ bn q : Nat, el o k = (bn : Nat) ∧ bn < n ∧ cnt o (bn : Nat) k = q ∧ q < (be J bn).length ∧ jbAt J o k = jb (be J bn) q := fun k hk => by
    obtain ⟨⟨r1, r2⟩, r3⟩ := hru k hk
    obtain ⟨bn, hbn⟩ := Int.eq_ofNat_of_zero_le r1
    rw [hlen] at r2
    refine ⟨bn, cnt o (bn : Nat) k, hbn, by rw [hbn] at r2; exact r2, rfl, ?_, ?_⟩
    · rw [hbn] at r3; exact r3
    · unfold jbAt; rw [hbn]; rfl
  clear hms hru hn6
  replace hn := Lib.hid hn
  replace hm := Lib.hid hm
  replace hJ := Lib.hid hJ
  replace hlen := Lib.hid hlen
  replace hat := Lib.hid hat
  replace hoa := Lib.hid hoa
  replace hv := Lib.hid hv
  replace hr' := Lib.hid hr'
  replace hrb := Lib.hid hrb
  replace hrs := Lib.hid hrs
  replace hjo := Lib.hid hjo
  replace hcl := Lib.hid hcl
  replace hcs := Lib.hid hcs
  replace hJn := Lib.hid hJn
  replace hW0 := Lib.hid hW0
  replace hY1 := Lib.hid hY1
  replace hY2 := Lib.hid hY2
  replace h := Lib.hid h
  replace ho := Lib.hid ho
  go_enter Try.func61, Try.ntmps61
  go_wp2
  clear hm1 hm2
  go_loopw [7, 19] (fun s i X => ∃ k : Nat, k ≤ m ∧ i = .int .i64 (k : Nat) ∧ s = .int .i64 (hr J o k) ∧ VsW w n m (fun b => (cnt o (b : Nat) k : Nat)) (fun j q => if j < k then vv J o j q else 0) X) (fun _ i _ => m - (intOf i).toNat)
  case atStart => exact ⟨0, by omega, rfl, by rw [hz.out], hW0.out⟩
  case round =>
    clear hW0
    obtain ⟨k, hk, rfl, rfl, hW⟩ := hrel
    by_cases hlk : k < m
    · obtain ⟨bn, q, x1, x2, x3, x4, x5⟩ := hJn.out k hlk
      obtain ⟨bo, oo, rfl, _, u0⟩ := hoa.out wr hW.below k (hlk)
      rw [x1] at u0
      obtain ⟨b, o', rfl, hb, e0, hjb⟩ := hat.out wr hW.below bn x2
      obtain ⟨b2, o2, hA, hb2, d0, d1⟩ := hjb.at_ q x4
      rw [hA] at e0
      generalize (bc D bn).c = ck at *
      have nx0 := hW.nxt.cell x2
      try simp only [] at nx0
      rw [x3] at nx0
      have hj1 := hjo.out k hlk
      have hs1 := hrs.out k
      obtain ⟨r1, r2⟩ := hrb.out k hk
      rw [x5] at hj1 hs1
      have hvv : ∀ z, vv J o k z = (match z with | 0 => (jb (be J bn) q).h | 1 => (jb (be J bn) q).m | 2 => (bn : Int) | _ => hr J o (k + 1)) := fun z => by
        unfold vv
        rcases z with _ | _ | _ | z <;> simp only [x5, x1]
      obtain ⟨L, hL⟩ : ∃ L, L = (be J bn).length := ⟨_, rfl⟩
      rw [← hL] at e0 x4
      generalize jb (be J bn) q = x at *
      obtain ⟨H1, hH1⟩ : ∃ H, H = hr J o k := ⟨_, rfl⟩
      obtain ⟨H2, hH2⟩ : ∃ H, H = hr J o (k + 1) := ⟨_, rfl⟩
      rw [← hH1] at hs1 r1 r2 ⊢
      rw [← hH2] at hs1
      have hq9 : q ≤ 12 := by have := hcl.out (bn : Nat) k; omega
      obtain ⟨⟨h1, h2⟩, h3, h4⟩ := hj1
      have H19 : 0 ≤ H1 ∧ H1 ≤ 10000 := by omega
      clear r1 r2
      have n0 := hW.nxt.fz bn
      have n1 := hW.nxt.lt
      have x4i : (q : Int) < (L : Int) := by omega
      have hws := hW.below.size
      have hva := ba1 wr (.cells #[.int .i64 0, .int .i64 0] 54)
      have e0' := (hva.cell (p := ⟨b, o' + bn, none⟩) (show b < wr.heap.size by omega)).trans e0
      have d0' := (hva.cell (p := ⟨b2, o2 + q * 2, none⟩) (show b2 < wr.heap.size by omega)).trans d0
      have d1' := (hva.cell (p := ⟨b2, o2 + q * 2 + 1, none⟩) (show b2 < wr.heap.size by omega)).trans d1
      have nx0' := (hva.cell (p := ⟨w.heap.size, bn, none⟩) n1).trans nx0
      replace hva := Lib.hid hva
      have x2i : (bn : Int) < (n : Int) := by omega
      have hW' := Lib.hid hW
      clear hW
      replace hL := Lib.hid hL
      replace hH1 := Lib.hid hH1
      replace hH2 := Lib.hid hH2
      replace hs1 := Lib.hid hs1
      replace hvv := Lib.hid hvv
      replace x1 := Lib.hid x1
      replace x3 := Lib.hid x3
      replace x5 := Lib.hid x5
      replace hA := Lib.hid hA
      replace hjb := Lib.hid hjb
      go_wp2_with fail
      go_region
      all_goals
        have hZ0 := (hW'.out.up (ba1 wr (.cells #[.int .i64 x.h, .int .i64 x.m] 54))).drew
        have hbz : Bxj (World.drew (wr.alloc (.cells #[.int .i64 x.h, .int .i64 x.m] 54))) wr.heap.size x := Bxj.new wr x
        clear e0 d0 d1 nx0 n0 e0' d0' d1' nx0' u0
        obtain ⟨b10, hb10⟩ : ∃ b, b = wr.heap.size := ⟨_, rfl⟩
        rw [← hb10] at hbz ⊢
        have hb10v : ¬ w.heap.size = b10 := by omega
        generalize World.drew (wr.alloc (.cells #[.int .i64 x.h, .int .i64 x.m] 54)) = Z at hZ0 hbz ⊢
        have c0 := hZ0.nxt.cell x2
        try simp only [] at c0
        rw [x3.out] at c0
        have c1 := hZ0.nxt.fz bn
        have c2 := hZ0.nxt.lt
        have hZ1 := hZ0.setf x2 ((q + 1 : Nat) : Int)
        have hbz1 : Bxj (Z.setCell ⟨w.heap.size, bn, none⟩ (.int .i64 ((q + 1 : Nat) : Int))) b10 x := (setCell_far (by omega)).trans hbz
        have hq1 : (((q + 1 : Nat) : Int)) = (q : Int) + 1 := by omega
        rw [hq1] at hZ1 hbz1
        have j0 := hbz1.c0
        have j1 := hbz1.c1
        have v0 := hZ1.vis.cell hlk 0 (by omega)
        have v1 := hZ1.vis.cell hlk 1 (by omega)
        have v2 := hZ1.vis.cell hlk 2 (by omega)
        have v3 := hZ1.vis.cell hlk 3 (by omega)
        simp only [Nat.lt_irrefl, if_false, Nat.add_zero] at v0 v1 v2 v3
        have f0 := hZ1.vis.fz (k * 4)
        have f1 := hZ1.vis.fz (k * 4 + 1)
        have f2 := hZ1.vis.fz (k * 4 + 2)
        have f3 := hZ1.vis.fz (k * 4 + 3)
        have fl := hZ1.vis.lt
        have hZ2 := hZ1.setv hlk (fun z => match z with | 0 => x.h | 1 => x.m | 2 => (bn : Int) | _ => H2)
        have hZ3 := Lib.hid (hZ2.congr (f' := fun b => (cnt o (b : Nat) (k + 1) : Nat)) (G' := fun j q => if j < k + 1 then vv J o j q else 0) (fun b hb => by
          have := hcs.out (b : Nat) k
          rw [x1.out] at this
          by_cases e : b = bn
          · subst e
            simp only [if_true]
            rw [this, if_pos rfl, x3.out]
            omega
          · rw [if_neg e, this, if_neg (by omega)]
            omega) (fun j hj z hz => by
          by_cases e : j = k
          · subst e
            simp only [if_true, Nat.lt_succ_self]
            rw [hvv.out z]
            rcases z with _ | _ | _ | z
            · rfl
            · rfl
            · rfl
            · show H2 = hr J o (j + 1); rw [hH2.out]
          · rw [if_neg e]
            by_cases e' : j < k
            · rw [if_pos e', if_pos (by omega)]
            · rw [if_neg e', if_neg (by omega)]))
        have hH : H1 + x.h = H2 := hs1.out.symm
        have H29 : 0 ≤ H2 ∧ H2 ≤ 10100 := by omega
        replace hZ0 := Lib.hid hZ0
        replace hZ1 := Lib.hid hZ1
        replace hZ2 := Lib.hid hZ2
        replace hbz := Lib.hid hbz
        replace hbz1 := Lib.hid hbz1
        replace hb10 := Lib.hid hb10
        go_wp2
        go_roundw
        case rel => exact ⟨k + 1, by omega, by go_num, by rw [← hH2.out], hZ3.out⟩
        case measure => simp [intOf]; omega
    · have hk' : k = m := by omega
      subst hk'
      have hfin := Lib.hid (hW.vis.congr (G' := vv J o) fun i hi q _ => by simp [hi])
      have hbe := Lib.hid hW.below
      clear hW
      go_wp2
      go_ret
      exact ⟨_, rfl, hbe.out, hfin.out⟩
end Go.Proofs.Ytgjgpcpghglnnaa
