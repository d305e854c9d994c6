/-
  Lists of integers in a list, each in a block of its own; the hours at which the jobs of each beach are done.
-/
import Derived.Test.YtgjgpcpghglnnaaYd
namespace Go.Proofs.Ytgjgpcpghglnnaa
open Go.RowKit Go.Deep M
set_option linter.unusedVariables false
set_option linter.unusedSimpArgs false

namespace M
/-- The hours at which the jobs of beach b are done, of the first k of an order. -/
def dnl (J : List (List Jb)) (o : List Int) (b : Int) : Nat → List Int
  | 0 => []
  | k + 1 => if el o k = b then dnl J o b k ++ [hr J o (k + 1)] else dnl J o b k
theorem dnl_yes {J : List (List Jb)} {o : List Int} {b : Int} {k : Nat} (h : el o k = b) : dnl J o b (k + 1) = dnl J o b k ++ [hr J o (k + 1)] := by
  show (if el o k = b then _ else _) = _
  rw [if_pos h]
theorem dnl_no {J : List (List Jb)} {o : List Int} {b : Int} {k : Nat} (h : ¬ el o k = b) : dnl J o b (k + 1) = dnl J o b k := by
  show (if el o k = b then _ else _) = _
  rw [if_neg h]
theorem dnl_len (J : List (List Jb)) (o : List Int) (b : Int) : ∀ k, (dnl J o b k).length = cnt o b k := by
  intro k
  induction k with
  | zero => rfl
  | succ k ih =>
    rw [cnt_succ]
    by_cases h : el o k = b
    · rw [dnl_yes h, if_pos h, List.length_append, ih]; rfl
    · rw [dnl_no h, if_neg h, ih]; rfl
/-- The lists behind one more job. -/
theorem dnl_step (J : List (List Jb)) (o : List Int) {k i : Nat} (h : el o k = (i : Int)) (b : Nat) : dnl J o (b : Nat) (k + 1) = if b = i then dnl J o (i : Nat) k ++ [hr J o (k + 1)] else dnl J o (b : Nat) k := by
  by_cases e : b = i
  · subst e; rw [if_pos rfl, dnl_yes h]
  · rw [if_neg e, dnl_no (by rw [h]; omega)]
end M

/-! ### a block of lists -/
def BlS (w : World) (g n : Nat) (V : Nat → Value) : Prop := ∃ cs : Array Value, w.heap[g]? = some (.cells cs 23 (0, 0)) ∧ ∀ i, i < n → cs[i]? = some (V i)
theorem BlS.lt {w : World} {g n : Nat} {V : Nat → Value} (h : BlS w g n V) : g < w.heap.size := by obtain ⟨cs, h1, _⟩ := h; exact blk_lt h1
theorem BlS.to {w w' : World} {g n : Nat} {V : Nat → Value} (h : BlS w g n V) (hb : w'.heap[g]? = w.heap[g]?) : BlS w' g n V := by obtain ⟨cs, h1, h2⟩ := h; exact ⟨cs, hb.trans h1, h2⟩
theorem BlS.cell {w : World} {g n i : Nat} {V : Nat → Value} (h : BlS w g n V) (hi : i < n) : w.cell? ⟨g, i, none⟩ = some (V i) := by obtain ⟨cs, h1, h2⟩ := h; simp [World.cell?, h1, h2 i hi]
theorem BlS.fz {w : World} {g n : Nat} {V : Nat → Value} (h : BlS w g n V) (i : Nat) : w.frozen? ⟨g, i, none⟩ = false := by obtain ⟨cs, h1, _⟩ := h; simp [World.frozen?, h1]
theorem BlS.congr {w : World} {g n : Nat} {V V' : Nat → Value} (h : BlS w g n V) (e : ∀ i, i < n → V i = V' i) : BlS w g n V' := by obtain ⟨cs, h1, h2⟩ := h; exact ⟨cs, h1, fun i hi => by rw [← e i hi]; exact h2 i hi⟩
theorem BlS.set {w : World} {g n j : Nat} {V : Nat → Value} (h : BlS w g n V) (hj : j < n) (x : Value) : BlS (w.setCell ⟨g, j, none⟩ x) g n (fun i => if i = j then x else V i) := by
  obtain ⟨cs, h1, h2⟩ := h
  have hjs : j < cs.size := by have := h2 j hj; exact (Array.getElem?_eq_some_iff.1 this).1
  refine ⟨cs.setIfInBounds j x, by simp [World.setCell, Array.getElem?_modify, h1], fun i hi => ?_⟩
  rw [Array.getElem?_setIfInBounds]
  by_cases e : i = j
  · subst e
    simp [hjs]
  · have e2 : ¬ j = i := fun h => e h.symm
    simp [e, e2, h2 i hi]
/-- A list of lists, each in a block of its own. -/
structure Lls (base g n : Nat) (V : Nat → Value) (F : Nat → List Int) (X : World) : Prop where
  blk : BlS X g n V
  lt : g < base
  own : ∀ i, i < n → X.ownsRow base 3 1 (V i) (F i).length (vals (F i))
  dis : ∀ i k, i < n → k < n → i ≠ k → ∀ b, (V i).ownBlock = some b → (V k).ownBlock ≠ some b
theorem Lls.up {base g n : Nat} {V : Nat → Value} {F : Nat → List Int} {X Y : World} (h : Lls base g n V F X) (hb : Below X.heap.size X Y) : Lls base g n V F Y :=
  ⟨h.blk.to (hb.block g h.blk.lt), h.lt, fun i hi => own_up (h.own i hi) hb, h.dis⟩
theorem Lls.congr {base g n : Nat} {V : Nat → Value} {F F' : Nat → List Int} {X : World} (h : Lls base g n V F X) (e : ∀ i, i < n → F i = F' i) : Lls base g n V F' X :=
  ⟨h.blk, h.lt, fun i hi => by rw [← e i hi]; exact h.own i hi, h.dis⟩
theorem Lls.app {base g n i : Nat} {V : Nat → Value} {F : Nat → List Int} {X Y : World} {v' : Value} {z : Int} (h : Lls base g n V F X) (hi : i < n)
    (hown : Y.ownsRow base 3 1 v' ((F i).length + 1) (vals (F i) ++ [.int .i64 z])) (hgrow : X.grownBy Y (V i).ownBlock) (hat : v'.ownBlock = (V i).ownBlock ∨ v'.ownBlock = some X.heap.size) :
    Lls base g n (fun k => if k = i then v' else V k) (fun k => if k = i then F i ++ [z] else F k) (Y.setCell ⟨g, i, none⟩ v') := by
  have hgY : Y.heap[g]? = X.heap[g]? := hgrow.block g h.blk.lt fun e => by
    have := ((h.own i hi).lt g e.symm).1
    have := h.lt
    omega
  have hset : ∀ b, base ≤ b → (Y.setCell ⟨g, i, none⟩ v').heap[b]? = Y.heap[b]? := fun b hb => setCell_far (by have := h.lt; omega)
  have hnb : ∀ k, k < n → k ≠ i → ∀ b, (V k).ownBlock = some b → some b ≠ (V i).ownBlock := fun k hk hne b hb e => h.dis k i hk hi hne b hb e.symm
  have hv : ∀ k, k < n → k ≠ i → ∀ b, (V k).ownBlock = some b → v'.ownBlock ≠ some b := fun k hk hne b hb e => by
    rcases hat with hat | hat
    · exact hnb k hk hne b hb (by rw [← hat, e])
    · rw [hat] at e
      injection e with e
      have := ((h.own k hk).lt b hb).2
      omega
  refine ⟨(h.blk.to hgY).set hi v', h.lt, fun k hk => ?_, fun a b ha hb hne r hr => ?_⟩
  · by_cases e : k = i
    · subst e
      rw [if_pos rfl, if_pos rfl]
      have : Y.ownsRow base 3 1 v' (F k ++ [z]).length (vals (F k ++ [z])) := by rw [List.length_append, vals_app]; exact hown
      exact own_to this fun r hr => hset r (this.lt r hr).1
    · rw [if_neg e, if_neg e]
      refine own_to (own_to (h.own k hk) fun r hr => hgrow.block r ((h.own k hk).lt r hr).2 (hnb k hk e r hr)) fun r hr => hset r ((h.own k hk).lt r hr).1
  · by_cases ea : a = i
    · subst ea
      have eb : ¬ b = a := fun e => hne e.symm
      rw [if_pos rfl] at hr
      rw [if_neg eb]
      exact fun e => hv b hb eb r e hr
    · rw [if_neg ea] at hr
      by_cases eb : b = i
      · subst eb
        rw [if_pos rfl]
        exact hv a ha ea r hr
      · rw [if_neg eb]
        exact h.dis a b ha hb hne r hr
theorem info23 : (Try.prog.info? 23).map (fun i => (i.zero, i.size, i.bytes)) = some (some (.slice none 0 0), 1, 24) := by kernel_rfl
/-- A new list of empty lists. -/
def mkS (w : World) (n : Nat) : World := w.alloc (.cells (madeCells #[.slice none 0 0] n) 23)
theorem mkS_below (w : World) (n : Nat) : Below w.heap.size w (mkS w n) := ba1 _ _
theorem mkS_lls (w : World) (n : Nat) : Lls (w.heap.size + 1) w.heap.size n (fun _ => .slice none 0 0) (fun _ => []) (mkS w n) :=
  ⟨⟨madeCells #[.slice none 0 0] n, heap_alloc_new w _, fun i hi => by unfold madeCells; simp [hi, Nat.mod_one]⟩, Nat.lt_succ_self _, fun i hi => World.ownsRow_nil _ _ _ _, fun i k hi hk hne b hb => by cases hb⟩
theorem Lls.drew {base g n : Nat} {V : Nat → Value} {F : Nat → List Int} {X : World} (h : Lls base g n V F X) : Lls base g n V F X.drew := ⟨h.blk, h.lt, h.own, h.dis⟩
/-- What lies below stays, where a list of lists is written to. -/
theorem Lls.below {B base g n i : Nat} {V : Nat → Value} {F : Nat → List Int} {w X Y : World} {v' : Value} (h : Lls base g n V F X) (hb : Below B w X) (hg : B ≤ g) (hi : i < n) (hgrow : X.grownBy Y (V i).ownBlock) : Below B w (Y.setCell ⟨g, i, none⟩ v') :=
  (hb.trans (below_grown hgrow (Nat.le_trans (Nat.le_trans hg (Nat.le_of_lt h.blk.lt)) (Nat.le_refl _)) fun r hr => by
    have := ((h.own i hi).lt r hr).1
    have := h.lt
    omega)).setCell hg _
end Go.Proofs.Ytgjgpcpghglnnaa
