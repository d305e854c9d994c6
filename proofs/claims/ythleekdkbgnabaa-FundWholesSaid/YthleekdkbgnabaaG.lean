/-
  Lists and blocks of integers that a call makes; blocks of ratios.
-/
import Derived.Test.YthleekdkbgnabaaF
namespace Go.Proofs.Ythleekdkbgnabaa
open Go.RowKit Go.Deep M
set_option linter.unusedVariables false
set_option linter.unusedSimpArgs false

/-! ### a block of integers -/
def BlI (w : World) (g n : Nat) (f : Nat → Int) : Prop := ∃ cs : Array Value, w.heap[g]? = some (.cells cs 3 (0, 0)) ∧ ∀ i, i < n → cs[i]? = some (.int .i64 (f i))
theorem BlI.lt {w : World} {g n : Nat} {f : Nat → Int} (h : BlI w g n f) : g < w.heap.size := by obtain ⟨cs, h1, _⟩ := h; exact blk_lt h1
theorem BlI.to {w w' : World} {g n : Nat} {f : Nat → Int} (h : BlI w g n f) (hb : w'.heap[g]? = w.heap[g]?) : BlI w' g n f := by obtain ⟨cs, h1, h2⟩ := h; exact ⟨cs, hb.trans h1, h2⟩
theorem BlI.up {w w' : World} {g n : Nat} {f : Nat → Int} (h : BlI w g n f) (hb : Below w.heap.size w w') : BlI w' g n f := h.to (hb.block g h.lt)
theorem BlI.cell {w : World} {g n i : Nat} {f : Nat → Int} (h : BlI w g n f) (hi : i < n) : w.cell? ⟨g, i, none⟩ = some (.int .i64 (f i)) := by obtain ⟨cs, h1, h2⟩ := h; simp [World.cell?, h1, h2 i hi]
theorem BlI.fz {w : World} {g n : Nat} {f : Nat → Int} (h : BlI w g n f) (i : Nat) : w.frozen? ⟨g, i, none⟩ = false := by obtain ⟨cs, h1, _⟩ := h; simp [World.frozen?, h1]
theorem BlI.congr {w : World} {g n : Nat} {f f' : Nat → Int} (h : BlI w g n f) (e : ∀ i, i < n → f i = f' i) : BlI w g n f' := by obtain ⟨cs, h1, h2⟩ := h; exact ⟨cs, h1, fun i hi => by rw [← e i hi]; exact h2 i hi⟩
theorem BlI.set {w : World} {g n j : Nat} {f : Nat → Int} (h : BlI w g n f) (hj : j < n) (x : Int) : BlI (w.setCell ⟨g, j, none⟩ (.int .i64 x)) g n (fun i => if i = j then x else f i) := by
  obtain ⟨cs, h1, h2⟩ := h
  have hjs : j < cs.size := by have := h2 j hj; exact (Array.getElem?_eq_some_iff.1 this).1
  refine ⟨cs.setIfInBounds j (.int .i64 x), by simp [World.setCell, Array.getElem?_modify, h1], fun i hi => ?_⟩
  rw [Array.getElem?_setIfInBounds]
  by_cases e : i = j
  · subst e
    simp [hjs]
  · have e2 : ¬ j = i := fun h => e h.symm
    simp [e, e2, h2 i hi]

/-! ### lists of integers that a call builds -/
theorem info3 : (Try.prog.info? 3).map (fun i => (i.zero, i.size, i.bytes)) = some (some (.int .i64 0), 1, 8) := by kernel_rfl
/-- The values of a list. -/
def vals (l : List Int) : List Value := l.map (Value.int .i64)
theorem vals_len (l : List Int) : (vals l).length = l.length := by simp [vals]
theorem vals_get (l : List Int) (j : Nat) (hj : j < l.length) : (vals l)[j]? = some (.int .i64 (el l j)) := by simp [vals, hj, el_eq l j hj]
theorem vals_app (l m : List Int) : vals (l ++ m) = vals l ++ vals m := by simp [vals]
/-- What is owned, read. -/
theorem own_row {w : World} {base : Nat} {v : Value} {l : List Int} (h : w.ownsRow base 3 1 v l.length (vals l)) (hm : l.length ≤ 9223372036854775807) :
    ∃ A c, v = .slice A l.length c ∧ Row w w.heap.size A l := by
  rcases h.2 with ⟨hv, h0⟩ | ⟨g, cap, cur, hv, hge, hh, hcap, hmax, hsz, htake⟩
  · exact ⟨none, 0, by rw [hv, h0], hm, fun hn => by omega⟩
  · refine ⟨some ⟨g, 0, none⟩, cap, hv, hm, fun _ => ⟨g, 0, rfl, blk_lt hh, fun i hi => ?_⟩⟩
    have h1 : (cur.toList.take (l.length * 1))[i]? = (vals l)[i]? := by rw [htake]
    rw [Nat.mul_one, List.getElem?_take, if_pos hi] at h1
    rw [Array.getElem?_toList] at h1
    rw [Nat.zero_add]
    simp [World.cell?, hh, h1, vals_get l i hi]
theorem below_grown {w w' : World} {B : Nat} {row : Option Nat} (hg : w.grownBy w' row) (hB : B ≤ w.heap.size) (h : ∀ k, row = some k → B ≤ k) : Below B w w' := by
  have := (Below.refl B w).grown hg hB h
  exact this
theorem own_to {w w' : World} {base n : Nat} {t : TypeId} {k : Nat} {v : Value} {xs : List Value} (h : w.ownsRow base t k v n xs) (hb : ∀ g, v.ownBlock = some g → w'.heap[g]? = w.heap[g]?) : w'.ownsRow base t k v n xs := by
  rcases h with ⟨h1, h2 | ⟨g, cap, cur, rfl, hge, hh, h3⟩⟩
  · exact ⟨h1, .inl h2⟩
  · exact ⟨h1, .inr ⟨g, cap, cur, rfl, hge, (hb g rfl).trans hh, h3⟩⟩
theorem own_up {w w' : World} {base n : Nat} {t : TypeId} {k : Nat} {v : Value} {xs : List Value} (h : w.ownsRow base t k v n xs) (hb : Below w.heap.size w w') : w'.ownsRow base t k v n xs := own_to h fun g hg => hb.block g (h.lt g hg).2

theorem one_new (w : World) (z : Int) : ∀ j u, [Value.int .i64 z][j]? = some u → (w.alloc (.cells #[.int .i64 z] 3)).cell? ((⟨w.heap.size, 0, none⟩ : Addr).add j) = some u := by
  intro j u hj
  match j, hj with
  | 0, hj => simp at hj; subst hj; simp [Addr.add]
  | j + 1, hj => simp at hj
def mkI (w : World) (n : Nat) : World := w.alloc (.cells (madeCells #[.int .i64 0] n) 3)
theorem mkI_below (w : World) (n : Nat) : Below w.heap.size w (mkI w n) := ba1 _ _
theorem mkI_blk (w : World) (n : Nat) : BlI (mkI w n) w.heap.size n (fun _ => 0) :=
  ⟨madeCells #[.int .i64 0] n, heap_alloc_new w _, fun i hi => by unfold madeCells; simp [hi, Nat.mod_one]⟩
theorem run_mkI (w : World) (n : Nat) (hn : n ≤ 1000000) : (Instr.makeSlice 22 (.int .i64 n) (.int .i64 n)).run Try.prog w = .ok (.slice (some ⟨w.heap.size, 0, none⟩) n n) (mkI w n) := by
  have hi := info3
  cases h : Try.prog.info? 3 with
  | none => rw [h] at hi; cases hi
  | some i =>
    rw [h] at hi
    simp only [Option.map_some, Option.some.injEq, Prod.mk.injEq] at hi
    obtain ⟨h1, h2, h3⟩ := hi
    have := run_make (P := Try.prog) w 22 3 i (.int .i64 0) Try.underlying22 h h1 .i64 .i64 (n : Int) (n : Int) (by omega) (Int.le_refl _) (by rw [h3]; omega) (by omega)
    rw [this, h2]
    simp [mkI, Value.cells]

def vlen : Value → Nat | .slice _ n _ => n | _ => 0
theorem own_vlen {w : World} {base n : Nat} {t : TypeId} {k : Nat} {v : Value} {xs : List Value} (h : w.ownsRow base t k v n xs) : vlen v = n := by
  rcases h.2 with ⟨rfl, rfl⟩ | ⟨g, cap, cur, rfl, _⟩ <;> rfl

theorem news_get {l : List Int} {j : Nat} {u : Value} (h : (vals l)[j]? = some u) : j < l.length ∧ u = .int .i64 (el l j) := by
  have hj : j < l.length := by
    have := (List.getElem?_eq_some_iff.1 h).1
    rwa [vals_len] at this
  refine ⟨hj, ?_⟩
  simp [vals, hj] at h
  rw [el_eq l j hj]; exact h.symm
theorem empty_own (w : World) (t : TypeId) : (w.alloc (.cells #[] t)).ownsRow w.heap.size t 1 (.slice (some ⟨w.heap.size, 0, none⟩) 0 0) 0 [] :=
  ⟨rfl, .inr ⟨w.heap.size, 0, #[], rfl, Nat.le_refl _, heap_alloc_new w _, Nat.le_refl _, by unfold maxLen; omega, rfl, rfl⟩⟩
/-- What is owned and not empty, as a block. -/
theorem own_blk {w : World} {base : Nat} {v : Value} {l : List Int} (h : w.ownsRow base 3 1 v l.length (vals l)) (hp : 0 < l.length) :
    ∃ g cap, v = .slice (some ⟨g, 0, none⟩) l.length cap ∧ l.length ≤ cap ∧ base ≤ g ∧ BlI w g l.length (el l) := by
  rcases h.2 with ⟨hv, h0⟩ | ⟨g, cap, cur, hv, hge, hh, hcap, hmax, hsz, htake⟩
  · omega
  · refine ⟨g, cap, hv, hcap, hge, cur, hh, fun i hi => ?_⟩
    have h1 : (cur.toList.take (l.length * 1))[i]? = (vals l)[i]? := by rw [htake]
    rw [Nat.mul_one, List.getElem?_take, if_pos hi] at h1
    rw [Array.getElem?_toList] at h1
    rw [h1]
    exact vals_get l i hi


/-! ### a block of ratios -/
def BlR (w : World) (g n : Nat) (f : Nat → Rt) : Prop := ∃ cs : Array Value, w.heap[g]? = some (.cells cs 37 (0, 0)) ∧ ∀ i, i < n → cs[i * 2]? = some (.int .i64 (f i).n) ∧ cs[i * 2 + 1]? = some (.int .i64 (f i).d)
theorem BlR.lt {w : World} {g n : Nat} {f : Nat → Rt} (h : BlR w g n f) : g < w.heap.size := by obtain ⟨cs, h1, _⟩ := h; exact blk_lt h1
theorem BlR.to {w w' : World} {g n : Nat} {f : Nat → Rt} (h : BlR w g n f) (hb : w'.heap[g]? = w.heap[g]?) : BlR w' g n f := by obtain ⟨cs, h1, h2⟩ := h; exact ⟨cs, hb.trans h1, h2⟩
theorem BlR.up {w w' : World} {g n : Nat} {f : Nat → Rt} (h : BlR w g n f) (hb : Below w.heap.size w w') : BlR w' g n f := h.to (hb.block g h.lt)
theorem BlR.c0 {w : World} {g n i : Nat} {f : Nat → Rt} (h : BlR w g n f) (hi : i < n) : w.cell? ⟨g, i * 2, none⟩ = some (.int .i64 (f i).n) := by obtain ⟨cs, h1, h2⟩ := h; simp [World.cell?, h1, (h2 i hi).1]
theorem BlR.c1 {w : World} {g n i : Nat} {f : Nat → Rt} (h : BlR w g n f) (hi : i < n) : w.cell? ⟨g, i * 2 + 1, none⟩ = some (.int .i64 (f i).d) := by obtain ⟨cs, h1, h2⟩ := h; simp [World.cell?, h1, (h2 i hi).2]
theorem BlR.fz {w : World} {g n : Nat} {f : Nat → Rt} (h : BlR w g n f) (i : Nat) : w.frozen? ⟨g, i, none⟩ = false := by obtain ⟨cs, h1, _⟩ := h; simp [World.frozen?, h1]
theorem BlR.congr {w : World} {g n : Nat} {f f' : Nat → Rt} (h : BlR w g n f) (e : ∀ i, i < n → f i = f' i) : BlR w g n f' := by obtain ⟨cs, h1, h2⟩ := h; exact ⟨cs, h1, fun i hi => by rw [← e i hi]; exact h2 i hi⟩
theorem BlR.set {w : World} {g n j : Nat} {f : Nat → Rt} (h : BlR w g n f) (hj : j < n) (x : Rt) : BlR ((w.setCell ⟨g, j * 2, none⟩ (.int .i64 x.n)).setCell ⟨g, j * 2 + 1, none⟩ (.int .i64 x.d)) g n (fun i => if i = j then x else f i) := by
  obtain ⟨cs, h1, h2⟩ := h
  have hj0 : j * 2 < cs.size := (Array.getElem?_eq_some_iff.1 (h2 j hj).1).1
  have hj1 : j * 2 + 1 < cs.size := (Array.getElem?_eq_some_iff.1 (h2 j hj).2).1
  refine ⟨(cs.setIfInBounds (j * 2) (.int .i64 x.n)).setIfInBounds (j * 2 + 1) (.int .i64 x.d), by simp [World.setCell, Array.getElem?_modify, h1], fun i hi => ?_⟩
  simp only [Array.getElem?_setIfInBounds, Array.size_setIfInBounds]
  by_cases e : i = j
  · subst e
    have a1 : ¬ i * 2 + 1 = i * 2 := by omega
    simp [hj0, hj1, a1]
  · have a1 : ¬ j * 2 + 1 = i * 2 := by omega
    have a2 : ¬ j * 2 = i * 2 := by omega
    have a3 : ¬ j * 2 + 1 = i * 2 + 1 := by omega
    have a4 : ¬ j * 2 = i * 2 + 1 := by omega
    rw [if_neg a1, if_neg a2, if_neg a3, if_neg a4, if_neg e]
    exact h2 i hi
def mkR (w : World) (n : Nat) : World := w.alloc (.cells (madeCells #[.int .i64 0, .int .i64 0] (n * 2)) 37)
theorem mkR_below (w : World) (n : Nat) : Below w.heap.size w (mkR w n) := ba1 _ _
theorem mkR_blk (w : World) (n : Nat) : BlR (mkR w n) w.heap.size n (fun _ => ⟨0, 0⟩) :=
  ⟨madeCells #[.int .i64 0, .int .i64 0] (n * 2), heap_alloc_new w _, fun i hi => by
    unfold madeCells
    have h0 : i * 2 < n * 2 := by omega
    have h1 : i * 2 + 1 < n * 2 := by omega
    have h2 : i * 2 % 2 = 0 := by omega
    have h3 : (i * 2 + 1) % 2 = 1 := by omega
    simp [h0, h1, h2, h3]⟩
theorem info37 : (Try.prog.info? 37).map (fun i => (i.zero, i.size, i.bytes)) = some (some (.agg #[.int .i64 0, .int .i64 0]), 2, 16) := by kernel_rfl
theorem run_mkR (w : World) (n : Nat) (hn : n ≤ 1000000) : (Instr.makeSlice 25 (.int .i64 n) (.int .i64 n)).run Try.prog w = .ok (.slice (some ⟨w.heap.size, 0, none⟩) n n) (mkR w n) := by
  have hi := info37
  cases h : Try.prog.info? 37 with
  | none => rw [h] at hi; cases hi
  | some i =>
    rw [h] at hi
    simp only [Option.map_some, Option.some.injEq, Prod.mk.injEq] at hi
    obtain ⟨h1, h2, h3⟩ := hi
    have := run_make (P := Try.prog) w 25 37 i (.agg #[.int .i64 0, .int .i64 0]) Try.underlying25 h h1 .i64 .i64 (n : Int) (n : Int) (by omega) (Int.le_refl _) (by rw [h3]; omega) (by omega)
    rw [this, h2]
    simp [mkR, Value.cells]
end Go.Proofs.Ythleekdkbgnabaa
