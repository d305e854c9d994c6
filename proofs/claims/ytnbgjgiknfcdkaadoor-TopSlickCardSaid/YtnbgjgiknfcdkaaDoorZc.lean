/-
  'mirrored': the bay mirrored left to right.
-/
import Derived.Test.YtnbgjgiknfcdkaaDoorT
import Derived.Test.YtnbgjgiknfcdkaaDoorMm
import Derived.Deep.DeepCutAuto
import Derived.Deep.RegionHeldLaw
namespace Go.Proofs.YtnbgjgiknfcdkaaDoor
open Go.RowKit Go.Deep M
set_option linter.unusedVariables false
set_option linter.unusedSimpArgs false

theorem info4 : (Tryd.prog.info? 4).map (fun i => (i.zero, i.size, i.bytes)) = some (some (.bool false), 1, 1) := by kernel_rfl
theorem info74 : (Tryd.prog.info? 74).map (fun i => (i.zero, i.size, i.bytes)) = some (some (.agg #[.int .i64 0, .int .i64 0, .int .i64 0, .int .i64 0, .int .i64 0]), 5, 40) := by kernel_rfl
theorem run_make74 (n : Nat) (h : n ≤ 1000) (w : World) : (Instr.makeSlice 23 (.int .i64 (n : Int)) (.int .i64 (n : Int))).run Tryd.prog w = .ok (.slice (some ⟨w.heap.size, 0, none⟩) n n) (w.alloc (.cells (madeCells #[.int .i64 0, .int .i64 0, .int .i64 0, .int .i64 0, .int .i64 0] (n * 5)) 74)) := by
  obtain ⟨i, hi, hzz⟩ := Option.map_eq_some_iff.1 info74
  simp only [Prod.mk.injEq] at hzz
  obtain ⟨hz, hs, hb⟩ := hzz
  have hr := run_make (P := Tryd.prog) w 23 74 i _ Tryd.underlying23 hi hz .i64 .i64 n n (by omega) (Int.le_refl _) (by rw [hb]; omega) (by omega)
  simp only [Int.toNat_natCast, hs] at hr
  exact hr
theorem rowIs_made5 (w : World) (n : Nat) : (w.alloc (.cells (madeCells #[.int .i64 0, .int .i64 0, .int .i64 0, .int .i64 0, .int .i64 0] (n * 5)) 74)).rowIs w.heap.size 74 (n * 5) (fun _ => .int .i64 0) :=
  ⟨_, blk_alloc_new _ _, size_madeCells _ _, fun i hi => by
    simp only [madeCells, Array.getElem?_map, Array.getElem?_range, hi, if_true, Option.map_some, Option.some.injEq]
    have : i % 5 = 0 ∨ i % 5 = 1 ∨ i % 5 = 2 ∨ i % 5 = 3 ∨ i % 5 = 4 := by omega
    rcases this with e | e | e | e | e <;> simp [e]⟩

/-- The world under way: the bay's box, the result's cells, the new lists, the box of the new bay. -/
structure MirW (w : World) (bc : Array Value) (W H : Value) (n bl bs bb : Nat) (fl fs : Nat → Value) (X : World) : Prop where
  below : Below w.heap.size w X
  box : X.heap[w.heap.size]? = some (.cells bc 82 (0, 0))
  res : Quad X (w.heap.size + 1) (.int .i64 0) (.int .i64 0) (.slice none 0 0) (.slice none 0 0)
  lnd : X.rowIs bl 4 n fl
  shr : X.rowIs bs 74 (n * 5) fs
  bay : Quad X bb W H (.slice (some ⟨bl, 0, none⟩) n n) (.slice (some ⟨bs, 0, none⟩) n n)
  lies : w.heap.size + 2 ≤ bl ∧ w.heap.size + 2 ≤ bs ∧ w.heap.size + 2 ≤ bb ∧ bl ≠ bs ∧ bl ≠ bb ∧ bs ≠ bb

theorem rowIs_heap4 {X : World} {b n : Nat} (h : X.heap[b]? = some (.cells (madeCells #[.bool false] n) 4 (0, 0))) : X.rowIs b 4 n (fun _ => .bool false) :=
  ⟨_, h, size_madeCells _ _, fun i hi => by simp [madeCells, hi, Nat.mod_one]⟩
theorem rowIs_heap5 {X : World} {b n : Nat} (h : X.heap[b]? = some (.cells (madeCells #[.int .i64 0, .int .i64 0, .int .i64 0, .int .i64 0, .int .i64 0] (n * 5)) 74 (0, 0))) : X.rowIs b 74 (n * 5) (fun _ => .int .i64 0) :=
  ⟨_, h, size_madeCells _ _, fun i hi => by
    simp only [madeCells, Array.getElem?_map, Array.getElem?_range, hi, if_true, Option.map_some, Option.some.injEq]
    have : i % 5 = 0 ∨ i % 5 = 1 ∨ i % 5 = 2 ∨ i % 5 = 3 ∨ i % 5 = 4 := by omega
    rcases this with e | e | e | e | e <;> simp [e]⟩
theorem ba5 (w : World) (o p q r t : Obj) : Below w.heap.size w ((((((w.alloc o).alloc p).alloc q).alloc r).alloc t).drew) := below_drewN ((ba4 w o p q r).alloc (by simp; omega) t) 1
theorem h5 (w : World) (o p q r t : Obj) : (((((w.alloc o).alloc p).alloc q).alloc r).alloc t).drew.heap[w.heap.size]? = some o ∧ (((((w.alloc o).alloc p).alloc q).alloc r).alloc t).drew.heap[w.heap.size + 1]? = some p ∧
    (((((w.alloc o).alloc p).alloc q).alloc r).alloc t).drew.heap[w.heap.size + 1 + 1]? = some q ∧ (((((w.alloc o).alloc p).alloc q).alloc r).alloc t).drew.heap[w.heap.size + 1 + 1 + 1]? = some r ∧ (((((w.alloc o).alloc p).alloc q).alloc r).alloc t).drew.heap[w.heap.size + 1 + 1 + 1 + 1]? = some t := by
  simp only [World.drew, World.alloc, Array.getElem?_push, Array.size_push]
  refine ⟨?_, ?_, ?_, ?_, ?_⟩
  · rw [if_neg (by omega), if_neg (by omega), if_neg (by omega), if_neg (by omega), if_pos trivial]
  · rw [if_neg (by omega), if_neg (by omega), if_neg (by omega), if_pos trivial]
  · rw [if_neg (by omega), if_neg (by omega), if_pos trivial]
  · rw [if_neg (by omega), if_pos trivial]
  · rw [if_pos trivial]
theorem mirW_lsb (w : World) (bc : Array Value) (W H : Value) (n : Nat) : MirW w bc W H n (w.heap.size + 1 + 1) (w.heap.size + 1 + 1 + 1) (w.heap.size + 1 + 1 + 1 + 1) (fun _ => .bool false) (fun _ => .int .i64 0) ((((((w.alloc (.cells bc 82)).alloc (.cells #[.int .i64 0, .int .i64 0, .slice none 0 0, .slice none 0 0] 25)).alloc (.cells (madeCells #[.bool false] n) 4)).alloc (.cells (madeCells #[.int .i64 0, .int .i64 0, .int .i64 0, .int .i64 0, .int .i64 0] (n * 5)) 74)).alloc (.cells #[W, H, .slice (some ⟨w.heap.size + 1 + 1, 0, none⟩) n n, .slice (some ⟨w.heap.size + 1 + 1 + 1, 0, none⟩) n n] 25)).drew) := by
  obtain ⟨e0, e1, e2, e3, e4⟩ := h5 w (.cells bc 82) (.cells #[.int .i64 0, .int .i64 0, .slice none 0 0, .slice none 0 0] 25) (.cells (madeCells #[.bool false] n) 4) (.cells (madeCells #[.int .i64 0, .int .i64 0, .int .i64 0, .int .i64 0, .int .i64 0] (n * 5)) 74) (.cells #[W, H, .slice (some ⟨w.heap.size + 1 + 1, 0, none⟩) n n, .slice (some ⟨w.heap.size + 1 + 1 + 1, 0, none⟩) n n] 25)
  exact ⟨ba5 _ _ _ _ _ _, e0, e1, rowIs_heap4 e2, rowIs_heap5 e3, e4, by omega⟩
theorem mirW_lbs (w : World) (bc : Array Value) (W H : Value) (n : Nat) : MirW w bc W H n (w.heap.size + 1 + 1) (w.heap.size + 1 + 1 + 1 + 1) (w.heap.size + 1 + 1 + 1) (fun _ => .bool false) (fun _ => .int .i64 0) ((((((w.alloc (.cells bc 82)).alloc (.cells #[.int .i64 0, .int .i64 0, .slice none 0 0, .slice none 0 0] 25)).alloc (.cells (madeCells #[.bool false] n) 4)).alloc (.cells #[W, H, .slice (some ⟨w.heap.size + 1 + 1, 0, none⟩) n n, .slice (some ⟨w.heap.size + 1 + 1 + 1 + 1, 0, none⟩) n n] 25)).alloc (.cells (madeCells #[.int .i64 0, .int .i64 0, .int .i64 0, .int .i64 0, .int .i64 0] (n * 5)) 74)).drew) := by
  obtain ⟨e0, e1, e2, e3, e4⟩ := h5 w (.cells bc 82) (.cells #[.int .i64 0, .int .i64 0, .slice none 0 0, .slice none 0 0] 25) (.cells (madeCells #[.bool false] n) 4) (.cells #[W, H, .slice (some ⟨w.heap.size + 1 + 1, 0, none⟩) n n, .slice (some ⟨w.heap.size + 1 + 1 + 1 + 1, 0, none⟩) n n] 25) (.cells (madeCells #[.int .i64 0, .int .i64 0, .int .i64 0, .int .i64 0, .int .i64 0] (n * 5)) 74)
  exact ⟨ba5 _ _ _ _ _ _, e0, e1, rowIs_heap4 e2, rowIs_heap5 e4, e3, by omega⟩
theorem mirW_slb (w : World) (bc : Array Value) (W H : Value) (n : Nat) : MirW w bc W H n (w.heap.size + 1 + 1 + 1) (w.heap.size + 1 + 1) (w.heap.size + 1 + 1 + 1 + 1) (fun _ => .bool false) (fun _ => .int .i64 0) ((((((w.alloc (.cells bc 82)).alloc (.cells #[.int .i64 0, .int .i64 0, .slice none 0 0, .slice none 0 0] 25)).alloc (.cells (madeCells #[.int .i64 0, .int .i64 0, .int .i64 0, .int .i64 0, .int .i64 0] (n * 5)) 74)).alloc (.cells (madeCells #[.bool false] n) 4)).alloc (.cells #[W, H, .slice (some ⟨w.heap.size + 1 + 1 + 1, 0, none⟩) n n, .slice (some ⟨w.heap.size + 1 + 1, 0, none⟩) n n] 25)).drew) := by
  obtain ⟨e0, e1, e2, e3, e4⟩ := h5 w (.cells bc 82) (.cells #[.int .i64 0, .int .i64 0, .slice none 0 0, .slice none 0 0] 25) (.cells (madeCells #[.int .i64 0, .int .i64 0, .int .i64 0, .int .i64 0, .int .i64 0] (n * 5)) 74) (.cells (madeCells #[.bool false] n) 4) (.cells #[W, H, .slice (some ⟨w.heap.size + 1 + 1 + 1, 0, none⟩) n n, .slice (some ⟨w.heap.size + 1 + 1, 0, none⟩) n n] 25)
  exact ⟨ba5 _ _ _ _ _ _, e0, e1, rowIs_heap4 e3, rowIs_heap5 e2, e4, by omega⟩
theorem mirW_sbl (w : World) (bc : Array Value) (W H : Value) (n : Nat) : MirW w bc W H n (w.heap.size + 1 + 1 + 1 + 1) (w.heap.size + 1 + 1) (w.heap.size + 1 + 1 + 1) (fun _ => .bool false) (fun _ => .int .i64 0) ((((((w.alloc (.cells bc 82)).alloc (.cells #[.int .i64 0, .int .i64 0, .slice none 0 0, .slice none 0 0] 25)).alloc (.cells (madeCells #[.int .i64 0, .int .i64 0, .int .i64 0, .int .i64 0, .int .i64 0] (n * 5)) 74)).alloc (.cells #[W, H, .slice (some ⟨w.heap.size + 1 + 1 + 1 + 1, 0, none⟩) n n, .slice (some ⟨w.heap.size + 1 + 1, 0, none⟩) n n] 25)).alloc (.cells (madeCells #[.bool false] n) 4)).drew) := by
  obtain ⟨e0, e1, e2, e3, e4⟩ := h5 w (.cells bc 82) (.cells #[.int .i64 0, .int .i64 0, .slice none 0 0, .slice none 0 0] 25) (.cells (madeCells #[.int .i64 0, .int .i64 0, .int .i64 0, .int .i64 0, .int .i64 0] (n * 5)) 74) (.cells #[W, H, .slice (some ⟨w.heap.size + 1 + 1 + 1 + 1, 0, none⟩) n n, .slice (some ⟨w.heap.size + 1 + 1, 0, none⟩) n n] 25) (.cells (madeCells #[.bool false] n) 4)
  exact ⟨ba5 _ _ _ _ _ _, e0, e1, rowIs_heap4 e4, rowIs_heap5 e2, e3, by omega⟩
theorem mirW_bls (w : World) (bc : Array Value) (W H : Value) (n : Nat) : MirW w bc W H n (w.heap.size + 1 + 1 + 1) (w.heap.size + 1 + 1 + 1 + 1) (w.heap.size + 1 + 1) (fun _ => .bool false) (fun _ => .int .i64 0) ((((((w.alloc (.cells bc 82)).alloc (.cells #[.int .i64 0, .int .i64 0, .slice none 0 0, .slice none 0 0] 25)).alloc (.cells #[W, H, .slice (some ⟨w.heap.size + 1 + 1 + 1, 0, none⟩) n n, .slice (some ⟨w.heap.size + 1 + 1 + 1 + 1, 0, none⟩) n n] 25)).alloc (.cells (madeCells #[.bool false] n) 4)).alloc (.cells (madeCells #[.int .i64 0, .int .i64 0, .int .i64 0, .int .i64 0, .int .i64 0] (n * 5)) 74)).drew) := by
  obtain ⟨e0, e1, e2, e3, e4⟩ := h5 w (.cells bc 82) (.cells #[.int .i64 0, .int .i64 0, .slice none 0 0, .slice none 0 0] 25) (.cells #[W, H, .slice (some ⟨w.heap.size + 1 + 1 + 1, 0, none⟩) n n, .slice (some ⟨w.heap.size + 1 + 1 + 1 + 1, 0, none⟩) n n] 25) (.cells (madeCells #[.bool false] n) 4) (.cells (madeCells #[.int .i64 0, .int .i64 0, .int .i64 0, .int .i64 0, .int .i64 0] (n * 5)) 74)
  exact ⟨ba5 _ _ _ _ _ _, e0, e1, rowIs_heap4 e3, rowIs_heap5 e4, e2, by omega⟩
theorem mirW_bsl (w : World) (bc : Array Value) (W H : Value) (n : Nat) : MirW w bc W H n (w.heap.size + 1 + 1 + 1 + 1) (w.heap.size + 1 + 1 + 1) (w.heap.size + 1 + 1) (fun _ => .bool false) (fun _ => .int .i64 0) ((((((w.alloc (.cells bc 82)).alloc (.cells #[.int .i64 0, .int .i64 0, .slice none 0 0, .slice none 0 0] 25)).alloc (.cells #[W, H, .slice (some ⟨w.heap.size + 1 + 1 + 1 + 1, 0, none⟩) n n, .slice (some ⟨w.heap.size + 1 + 1 + 1, 0, none⟩) n n] 25)).alloc (.cells (madeCells #[.int .i64 0, .int .i64 0, .int .i64 0, .int .i64 0, .int .i64 0] (n * 5)) 74)).alloc (.cells (madeCells #[.bool false] n) 4)).drew) := by
  obtain ⟨e0, e1, e2, e3, e4⟩ := h5 w (.cells bc 82) (.cells #[.int .i64 0, .int .i64 0, .slice none 0 0, .slice none 0 0] 25) (.cells #[W, H, .slice (some ⟨w.heap.size + 1 + 1 + 1 + 1, 0, none⟩) n n, .slice (some ⟨w.heap.size + 1 + 1 + 1, 0, none⟩) n n] 25) (.cells (madeCells #[.int .i64 0, .int .i64 0, .int .i64 0, .int .i64 0, .int .i64 0] (n * 5)) 74) (.cells (madeCells #[.bool false] n) 4)
  exact ⟨ba5 _ _ _ _ _ _, e0, e1, rowIs_heap4 e4, rowIs_heap5 e3, e2, by omega⟩
theorem MirW.setL {w : World} {bc : Array Value} {W H : Value} {n bl bs bb : Nat} {fl fs : Nat → Value} {X : World} (h : MirW w bc W H n bl bs bb fl fs X) (i : Nat) (v : Value) : MirW w bc W H n bl bs bb (fun j => if j = i then v else fl j) fs (X.setCell ⟨bl, i, none⟩ v) := by
  have hl := h.lies
  exact ⟨h.below.setCell (p := ⟨bl, i, none⟩) (by show w.heap.size ≤ bl; omega) _, (setCell_block X _ i _ _ (by omega)).trans h.box, (setCell_block X _ i _ _ (by omega)).trans h.res, h.lnd.set i v, h.shr.of_block (setCell_block X _ i _ _ (by omega)), (setCell_block X _ i _ _ (by omega)).trans h.bay, hl⟩
theorem MirW.setS {w : World} {bc : Array Value} {W H : Value} {n bl bs bb : Nat} {fl fs : Nat → Value} {X : World} (h : MirW w bc W H n bl bs bb fl fs X) (i : Nat) (v : Value) : MirW w bc W H n bl bs bb fl (fun j => if j = i then v else fs j) (X.setCell ⟨bs, i, none⟩ v) := by
  have hl := h.lies
  exact ⟨h.below.setCell (p := ⟨bs, i, none⟩) (by show w.heap.size ≤ bs; omega) _, (setCell_block X _ i _ _ (by omega)).trans h.box, (setCell_block X _ i _ _ (by omega)).trans h.res, h.lnd.of_block (setCell_block X _ i _ _ (by omega)), h.shr.set i v, (setCell_block X _ i _ _ (by omega)).trans h.bay, hl⟩
theorem MirW.drewN {w : World} {bc : Array Value} {W H : Value} {n bl bs bb : Nat} {fl fs : Nat → Value} {X : World} (h : MirW w bc W H n bl bs bb fl fs X) (m : Nat) : MirW w bc W H n bl bs bb fl fs (X.drewN m) :=
  ⟨below_drewN h.below m, h.box, h.res, h.lnd, h.shr, h.bay, h.lies⟩
theorem MirW.congr {w : World} {bc : Array Value} {W H : Value} {n bl bs bb : Nat} {fl fs gl gs : Nat → Value} {X : World} (h : MirW w bc W H n bl bs bb fl fs X) (el : ∀ j, j < n → fl j = gl j) (es : ∀ j, j < n * 5 → fs j = gs j) : MirW w bc W H n bl bs bb gl gs X :=
  ⟨h.below, h.box, h.res, h.lnd.congr el, h.shr.congr es, h.bay, h.lies⟩
theorem MirW.up {w : World} {bc : Array Value} {W H : Value} {n bl bs bb : Nat} {fl fs : Nat → Value} {X Y : World} (h : MirW w bc W H n bl bs bb fl fs X) (hb : Below X.heap.size X Y) : MirW w bc W H n bl bs bb fl fs Y :=
  ⟨h.below.trans (hb.mono h.below.size), (hb.block _ (blk_lt h.box)).trans h.box, h.res.up hb, h.lnd.of_block (hb.block _ h.lnd.lt), h.shr.of_block (hb.block _ h.shr.lt), h.bay.up hb, h.lies⟩
theorem MirW.g0 {w : World} {W' H' l' s' W H : Value} {n bl bs bb : Nat} {fl fs : Nat → Value} {X : World} (h : MirW w #[W', H', l', s'] W H n bl bs bb fl fs X) : X.cell? ⟨w.heap.size, 0, none⟩ = some W' ∧ X.cell? ⟨w.heap.size, 1, none⟩ = some H' ∧ X.cell? ⟨w.heap.size, 2, none⟩ = some l' ∧ X.cell? ⟨w.heap.size, 3, none⟩ = some s' := by
  have hb := h.box
  exact ⟨by simp [World.cell?, hb], by simp [World.cell?, hb], by simp [World.cell?, hb], by simp [World.cell?, hb]⟩
theorem Quad.fz {w : World} {b : Nat} {x y z u : Value} (h : Quad w b x y z u) (k : Nat) : w.frozen? ⟨b, k, none⟩ = false := by simp [World.frozen?, show w.heap[b]? = _ from h]
theorem Quad.set {w : World} {b : Nat} {x y z u : Value} (h : Quad w b x y z u) (x' y' z' u' : Value) : Quad ((((w.setCell ⟨b, 0, none⟩ x').setCell ⟨b, 1, none⟩ y').setCell ⟨b, 2, none⟩ z').setCell ⟨b, 3, none⟩ u') b x' y' z' u' := by
  unfold Quad at *
  simp [World.setCell, Array.getElem?_modify, h]
/-- The new lists when k cells have been taken over. -/
def fL (w k : Nat) (L : List Bool) (j : Nat) : Value := .bool (if mi w j < k then bl L (mi w j) else false)
def fS (w k : Nat) (S : List Int) (j : Nat) : Value := .int .i64 (if mi w (j / 5) < k then sh S (mi w (j / 5)) (sw (j % 5)) else 0)
theorem fL_succ {w k j : Nat} {L : List Bool} (hw : 1 ≤ w) : (if j = mi w k then .bool (bl L k) else fL w k L j) = fL w (k + 1) L j := by
  unfold fL
  by_cases e : j = mi w k
  · subst e
    rw [if_pos rfl, mi_mi hw, if_pos (by omega)]
  · have e2 : mi w j ≠ k := fun e' => e (by rw [← e', mi_mi hw])
    rw [if_neg e]
    by_cases e3 : mi w j < k
    · rw [if_pos e3, if_pos (by omega)]
    · rw [if_neg e3, if_neg (by omega)]
theorem fS_succ {w k j : Nat} {S : List Int} (hw : 1 ≤ w) : (if j = mi w k * 5 + 4 then .int .i64 (sh S k 2) else if j = mi w k * 5 + 3 then .int .i64 (sh S k 3) else if j = mi w k * 5 + 2 then .int .i64 (sh S k 4) else if j = mi w k * 5 + 1 then .int .i64 (sh S k 1) else if j = mi w k * 5 then .int .i64 (sh S k 0) else fS w k S j) = fS w (k + 1) S j := by
  have hm := mi_mi (i := k) hw
  generalize mi w k = q at *
  unfold fS
  have g : ∀ i, i < 5 → (q * 5 + i) / 5 = q ∧ (q * 5 + i) % 5 = i := fun i hi => by omega
  by_cases e4 : j = q * 5 + 4
  · subst e4; rw [if_pos rfl, (g 4 (by omega)).1, (g 4 (by omega)).2, hm, if_pos (by omega)]; rfl
  by_cases e3 : j = q * 5 + 3
  · subst e3; rw [if_neg (by omega), if_pos rfl, (g 3 (by omega)).1, (g 3 (by omega)).2, hm, if_pos (by omega)]; rfl
  by_cases e2 : j = q * 5 + 2
  · subst e2; rw [if_neg (by omega), if_neg (by omega), if_pos rfl, (g 2 (by omega)).1, (g 2 (by omega)).2, hm, if_pos (by omega)]; rfl
  by_cases e1 : j = q * 5 + 1
  · subst e1; rw [if_neg (by omega), if_neg (by omega), if_neg (by omega), if_pos rfl, (g 1 (by omega)).1, (g 1 (by omega)).2, hm, if_pos (by omega)]; rfl
  by_cases e0 : j = q * 5
  · subst e0
    have := g 0 (by omega)
    rw [Nat.add_zero] at this
    rw [if_neg (by omega), if_neg (by omega), if_neg (by omega), if_neg (by omega), if_pos rfl, this.1, this.2, hm, if_pos (by omega)]; rfl
  · rw [if_neg e4, if_neg e3, if_neg e2, if_neg e1, if_neg e0]
    have e5 : j / 5 ≠ q := by omega
    have e6 : mi w (j / 5) ≠ k := fun e' => e5 (by rw [← hm] at e'; have := congrArg (mi w) e'; rwa [mi_mi hw, mi_mi hw] at this)
    by_cases e7 : mi w (j / 5) < k
    · rw [if_pos e7, if_pos (by omega)]
    · rw [if_neg e7, if_neg (by omega)]

set_option maxHeartbeats 8000000 in
set_option maxRecDepth 100000 in
theorem mirrored_any (B : Nat) (wn hn : Nat) (aL aS : Option Addr) (cL cS : Nat) (L : List Bool) (S : List Int) (w : World) (h : BayIn w B aL L aS (wn * hn) S) (hB : B ≤ w.heap.size) (hBay : Bay wn hn L S) :
    Calls Tryd.prog 82 #[.agg #[.int .i64 (wn : Nat), .int .i64 (hn : Nat), .slice aL L.length cL, .slice aS (wn * hn) cS]] w fun e w' => ∃ A A' c c', e = .returned (.agg #[.int .i64 (wn : Nat), .int .i64 (hn : Nat), .slice A (wn * hn) c, .slice A' (wn * hn) c']) ∧ Below w.heap.size w w' ∧ BayIn w' w'.heap.size A (mL wn (wn * hn) L) A' (wn * hn) (mS wn (wn * hn) S) ∧ Fresh w.heap.size A ∧ Fresh w.heap.size A' := by
  have h36 := hBay.cells
  have hLN := hBay.2.1.1
  have hw6 := hBay.1.1
  have hmi : ∀ k, k < wn * hn → mi wn k < wn * hn := fun k hk => mi_lt hw6.1 hk
  generalize hn0 : wn * hn = n at *
  have hmk4 := run_make_row' (P := Tryd.prog) 22 4 (.bool false) 1 Tryd.underlying22 info4 rfl .i64 .i64 n (by omega) (by omega)
  have hmk74 := run_make74 n (by omega)
  rw [hLN]
  have hends : ∀ X bl bs bb, MirW w #[.int .i64 (wn : Nat), .int .i64 (hn : Nat), .slice aL n cL, .slice aS n cS] (.int .i64 (wn : Nat)) (.int .i64 (hn : Nat)) n bl bs bb (fL wn n L) (fS wn n S) X → ∀ Y, Below w.heap.size w Y → Y.heap[bl]? = X.heap[bl]? → Y.heap[bs]? = X.heap[bs]? →
      ∃ A A' c c', Ending.returned (.agg #[.int .i64 (wn : Nat), .int .i64 (hn : Nat), .slice (some ⟨bl, 0, none⟩) n n, .slice (some ⟨bs, 0, none⟩) n n]) = .returned (.agg #[.int .i64 (wn : Nat), .int .i64 (hn : Nat), .slice A n c, .slice A' n c']) ∧ Below w.heap.size w Y ∧ BayIn Y Y.heap.size A (mL wn n L) A' n (mS wn n S) ∧ Fresh w.heap.size A ∧ Fresh w.heap.size A' := fun X b1 b2 b3 hX Y hY e1 e2 => by
    refine ⟨_, _, _, _, rfl, hY, ⟨⟨by rw [mL_len]; omega, fun _ => ⟨b1, 0, rfl, ?_, fun i hi => ?_⟩⟩, ⟨by omega, mS_len _ _ _, fun _ => ⟨b2, 0, rfl, ?_, fun i k hi hk => ?_⟩⟩⟩, fun a ha => by cases ha; have := hX.lies; show w.heap.size ≤ b1; omega, fun a ha => by cases ha; have := hX.lies; show w.heap.size ≤ b2; omega⟩
    · exact (hX.lnd.of_block e1).lt
    · rw [mL_len] at hi
      rw [Nat.zero_add, (hX.lnd.of_block e1).cell hi, mL_bl hi]
      unfold fL
      rw [if_pos (hmi i hi)]
    · exact (hX.shr.of_block e2).lt
    · rw [Nat.zero_add, (hX.shr.of_block e2).cell (by omega), mS_sh hi hk]
      unfold fS
      rw [show (i * 5 + k) / 5 = i by omega, show (i * 5 + k) % 5 = k by omega, if_pos (hmi i hi)]
  replace hends := Lib.hid hends
  replace hn0 := Lib.hid hn0
  replace hLN := Lib.hid hLN
  replace hmi := Lib.hid hmi
  go_enter Tryd.func82, Tryd.ntmps82
  go_upto_region 1 with fail
  go_cut [3] from 14 to 26 (fun p wx => ∃ bl bs bb : Nat, p = .pointer (some ⟨bb, 0, none⟩) ∧ MirW w #[.int .i64 (wn : Nat), .int .i64 (hn : Nat), .slice aL n cL, .slice aS n cS] (.int .i64 (wn : Nat)) (.int .i64 (hn : Nat)) n bl bs bb (fun _ => .bool false) (fun _ => .int .i64 0) wx)
  case first =>
    go_region
    all_goals (go_wp2_with fail)
    all_goals go_meet
    all_goals first | exact ⟨_, _, _, rfl, mirW_lsb _ _ _ _ _⟩ | exact ⟨_, _, _, rfl, mirW_lbs _ _ _ _ _⟩ | exact ⟨_, _, _, rfl, mirW_slb _ _ _ _ _⟩ | exact ⟨_, _, _, rfl, mirW_sbl _ _ _ _ _⟩ | exact ⟨_, _, _, rfl, mirW_bls _ _ _ _ _⟩ | exact ⟨_, _, _, rfl, mirW_bsl _ _ _ _ _⟩
  case rest =>
  obtain ⟨b1, b2, b3, rfl, h0⟩ := hcut
  clear hmk4 hmk74
  have h1 : MirW w #[.int .i64 (wn : Nat), .int .i64 (hn : Nat), .slice aL n cL, .slice aS n cS] (.int .i64 (wn : Nat)) (.int .i64 (hn : Nat)) n b1 b2 b3 (fL wn 0 L) (fS wn 0 S) _ := h0.congr (fun j _ => by unfold fL; rw [if_neg (by omega)]) (fun j _ => by unfold fS; rw [if_neg (by omega)])
  obtain ⟨_, _, _, g3⟩ := h1.g0
  replace h1 := Lib.hid h1
  go_wp2
  go_loopw [30] (fun i X => ∃ k : Nat, k ≤ n ∧ i = .int .i64 k ∧ MirW w #[.int .i64 (wn : Nat), .int .i64 (hn : Nat), .slice aL n cL, .slice aS n cS] (.int .i64 (wn : Nat)) (.int .i64 (hn : Nat)) n b1 b2 b3 (fL wn k L) (fS wn k S) X) (fun i _ => n - (intOf i).toNat)
  case atStart => exact ⟨0, Nat.zero_le _, rfl, h1.out⟩
  case round =>
    clear h1 g3
    obtain ⟨k, hk, rfl, hX⟩ := hrel
    have hls := hX.lies
    obtain ⟨g0, g1, g2, g3⟩ := hX.g0
    by_cases hlt : k < n
    · obtain ⟨b', o', rfl, hb', s0, s1, s2, s3, s4⟩ := (h.share.below (hX.below.mono hB)).at_ k hlt
      obtain ⟨b, o, rfl, hb, hc⟩ := (h.land.below (hX.below.mono hB)).at_ k (by rw [hLN.out]; exact hlt)
      have hkI : (k : Int) < (n : Nat) := by omega
      have hsz : w.heap.size < wr.heap.size := blk_lt hX.box
      have hsz1 : w.heap.size ≠ wr.heap.size := by omega
      have hb0 : b < wr.heap.size := by omega
      have hb1 : b ≠ wr.heap.size := by omega
      have hb2 : b' < wr.heap.size := by omega
      have hq : mi wn k < n := hmi.out k hlt
      have hX1 := hX.up (ba1 wr (.cells #[.int .i64 (sh S k 0), .int .i64 (sh S k 1), .int .i64 (sh S k 2), .int .i64 (sh S k 3), .int .i64 (sh S k 4)] 74))
      obtain ⟨m, hm⟩ : ∃ m, m = k % wn := ⟨_, rfl⟩
      obtain ⟨d, hd⟩ : ∃ d, d = k / wn := ⟨_, rfl⟩
      obtain ⟨p, hp⟩ : ∃ p, p = d * wn := ⟨_, rfl⟩
      have hm1 : m < wn := by rw [hm]; exact Nat.mod_lt _ (by omega)
      have hd36 : d ≤ 36 := by have := Nat.div_le_self k wn; omega
      have hpk : p ≤ k := by rw [hp, hd]; exact Nat.div_mul_le_self _ _
      have hmt : (k : Int).tmod (wn : Nat) = (m : Nat) := by rw [hm, Int.tmod_eq_emod_of_nonneg (by omega), Int.natCast_emod]
      have hdt : (k : Int).tdiv (wn : Nat) = (d : Nat) := by rw [hd, Int.tdiv_eq_ediv_of_nonneg (by omega), Int.natCast_ediv]
      have hpt : (d : Int) * (wn : Nat) = (p : Nat) := by rw [hp, Int.natCast_mul]
      have hqq : mi wn k = p + (wn - 1 - m) := by rw [hp, hd, hm]; rfl
      have hqt : (p : Int) + (wn : Nat) - 1 - (m : Nat) = (mi wn k : Nat) := by omega
      have hwn0 : ¬ wn = 0 := by omega
      generalize hq0 : mi wn k = q at *
      have hqI : (q : Int) < (n : Nat) := by omega
      have j2 := hX.bay.c2
      have j3 := hX.bay.c3
      have jb := hX.bay.lt
      have jb' : b3 ≠ wr.heap.size := by omega
      have jl := hX.lnd.lt
      have js := hX.shr.lt
      have jl' : b1 ≠ wr.heap.size := by omega
      have js' : b2 ≠ wr.heap.size := by omega
      have hne : b1 ≠ b2 := hls.2.2.2.1
      have hne2 : b1 ≠ b3 := hls.2.2.2.2.1
      obtain ⟨v0, hv0⟩ : ∃ v, v = fL wn k L q := ⟨_, rfl⟩
      have k0 := hX.lnd.cell hq
      rw [← hv0] at k0
      have f0 := hX.lnd.frozen q
      have k1 := hX.shr.cell (i := q * 5) (by omega)
      have k2 := hX.shr.cell (i := q * 5 + 1) (by omega)
      have k3 := hX.shr.cell (i := q * 5 + 2) (by omega)
      have k4 := hX.shr.cell (i := q * 5 + 3) (by omega)
      have k5 := hX.shr.cell (i := q * 5 + 4) (by omega)
      have f1 := hX.shr.frozen (q * 5)
      have f2 := hX.shr.frozen (q * 5 + 1)
      have f3 := hX.shr.frozen (q * 5 + 2)
      have f4 := hX.shr.frozen (q * 5 + 3)
      have f5 := hX.shr.frozen (q * 5 + 4)
      have hnew := fun N => (((((((hX1.drewN N).setL q (.bool (bl L k))).setS (q * 5) (.int .i64 (sh S k 0))).setS (q * 5 + 1) (.int .i64 (sh S k 1))).setS (q * 5 + 2) (.int .i64 (sh S k 4))).setS (q * 5 + 3) (.int .i64 (sh S k 3))).setS (q * 5 + 4) (.int .i64 (sh S k 2))).congr (gl := fL wn (k + 1) L) (gs := fS wn (k + 1) S) (fun j _ => by rw [← hq0]; exact fL_succ hw6.1) (fun j _ => by rw [← hq0]; exact fS_succ hw6.1)
      generalize fS wn k S (q * 5) = v1 at k1
      generalize fS wn k S (q * 5 + 1) = v2 at k2
      generalize fS wn k S (q * 5 + 2) = v3 at k3
      generalize fS wn k S (q * 5 + 3) = v4 at k4
      generalize fS wn k S (q * 5 + 4) = v5 at k5
      have S3 : ∀ (X : World) (v : Value), (X.cell? ⟨b3, 2, none⟩ = some (.slice (some ⟨b1, 0, none⟩) n n) ∧ X.cell? ⟨w.heap.size, 2, none⟩ = some (.slice (some ⟨b, o, none⟩) n cL) ∧ X.cell? ⟨b, o + k, none⟩ = some (.bool (bl L k))) →
          ((X.setCell ⟨b1, q, none⟩ v).cell? ⟨b3, 2, none⟩ = some (.slice (some ⟨b1, 0, none⟩) n n) ∧ (X.setCell ⟨b1, q, none⟩ v).cell? ⟨w.heap.size, 2, none⟩ = some (.slice (some ⟨b, o, none⟩) n cL) ∧ (X.setCell ⟨b1, q, none⟩ v).cell? ⟨b, o + k, none⟩ = some (.bool (bl L k))) := fun X v ⟨e1, e2, e3⟩ =>
        ⟨(World.cell?_of_block (setCell_block X b1 q v b3 (by omega))).trans e1, (World.cell?_of_block (setCell_block X b1 q v w.heap.size (by omega))).trans e2, (World.cell?_of_block (setCell_block X b1 q v b (by omega))).trans e3⟩
      replace S3 := Lib.hid S3
      replace hv0 := Lib.hid hv0
      replace hnew := Lib.hid hnew
      replace hls := Lib.hid hls
      replace hX := Lib.hid hX
      clear hX1
      replace hm := Lib.hid hm
      replace hd := Lib.hid hd
      replace hp := Lib.hid hp
      replace hqq := Lib.hid hqq
      replace hq0 := Lib.hid hq0
      go_wp2
      go_quiet (fail)
      obtain ⟨N1, rfl⟩ : ∃ N1, N1 = nq := ⟨_, rfl⟩
      go_wp2
      go_quiet (fail)
      obtain ⟨N2, rfl⟩ : ∃ N2, N2 = nq := ⟨_, rfl⟩
      go_wp2
      go_region_held_law (fun X => X.cell? ⟨b3, 2, none⟩ = some (.slice (some ⟨b1, 0, none⟩) n n) ∧ X.cell? ⟨w.heap.size, 2, none⟩ = some (.slice (some ⟨b, o, none⟩) n cL) ∧ X.cell? ⟨b, o + k, none⟩ = some (.bool (bl L k))) (first | (simp [go_sem, *]; done) | (refine S3.out _ _ ?_; simp [go_sem, *]; done)) (fail)
      go_wp2
      go_roundw
      case rel => exact ⟨k + 1, by omega, by go_num, hnew.out _⟩
      case measure => simp [intOf]; omega
    · have hk' : k = n := by omega
      subst hk'
      have j0 := hX.bay.c0
      have j1 := hX.bay.c1
      have j2 := hX.bay.c2
      have j3 := hX.bay.c3
      have r0 := hX.res.c0
      have r1 := hX.res.c1
      have r2 := hX.res.c2
      have r3 := hX.res.c3
      have f0 := hX.res.fz 0
      have f1 := hX.res.fz 1
      have f2 := hX.res.fz 2
      have f3 := hX.res.fz 3
      have hY : Below w.heap.size w ((((wr.setCell ⟨w.heap.size + 1, 0, none⟩ (.int .i64 (wn : Nat))).setCell ⟨w.heap.size + 1, 1, none⟩ (.int .i64 (hn : Nat))).setCell ⟨w.heap.size + 1, 2, none⟩ (.slice (some ⟨b1, 0, none⟩) k k)).setCell ⟨w.heap.size + 1, 3, none⟩ (.slice (some ⟨b2, 0, none⟩) k k)) :=
        (((hX.below.setCell (p := ⟨w.heap.size + 1, 0, none⟩) (Nat.le_succ _) _).setCell (p := ⟨w.heap.size + 1, 1, none⟩) (Nat.le_succ _) _).setCell (p := ⟨w.heap.size + 1, 2, none⟩) (Nat.le_succ _) _).setCell (p := ⟨w.heap.size + 1, 3, none⟩) (Nat.le_succ _) _
      have hfin := hends.out wr b1 b2 b3 hX _ hY (by rw [setCell_block _ _ _ _ _ (by omega), setCell_block _ _ _ _ _ (by omega), setCell_block _ _ _ _ _ (by omega), setCell_block _ _ _ _ _ (by omega)]) (by rw [setCell_block _ _ _ _ _ (by omega), setCell_block _ _ _ _ _ (by omega), setCell_block _ _ _ _ _ (by omega), setCell_block _ _ _ _ _ (by omega)])
      have hqs := hX.res.set (.int .i64 (wn : Nat)) (.int .i64 (hn : Nat)) (.slice (some ⟨b1, 0, none⟩) k k) (.slice (some ⟨b2, 0, none⟩) k k)
      have e0 := hqs.c0
      have e1 := hqs.c1
      have e2 := hqs.c2
      have e3 := hqs.c3
      replace hqs := Lib.hid hqs
      replace hfin := Lib.hid hfin
      replace hX := Lib.hid hX
      replace hls := Lib.hid hls
      clear hY
      go_wp2
      exact bodyPost_ret (v := .agg #[.int .i64 (wn : Nat), .int .i64 (hn : Nat), .slice (some ⟨b1, 0, none⟩) k k, .slice (some ⟨b2, 0, none⟩) k k]) (by simp [results, Tryd.results82, go_sem, e0, e1, e2, e3]) rfl hfin.out
end Go.Proofs.YtnbgjgiknfcdkaaDoor
