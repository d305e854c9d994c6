/-
  A list of beaches copied, and one of them made shorter: how it lies in memory.
-/
import Derived.Test.YtgjgpcpghglnnaaMm
import Derived.Test.YtgjgpcpghglnnaaWa
import Derived.Test.YtgjgpcpghglnnaaK
namespace Go.Proofs.Ytgjgpcpghglnnaa
open Go.Joins Go.ChangeShapes Go.WideShapes Go.ChangeAt Go.RowKit Go.Deep M
set_option linter.unusedVariables false
set_option linter.unusedSimpArgs false

/-- The slices of beaches, as values. -/
def lvals (D : List Bc) : List Value := D.map fun x => .slice x.A x.l.length x.c
theorem lvals_len (D : List Bc) : (lvals D).length = D.length := by simp [lvals]
theorem lvals_get {D : List Bc} {j : Nat} {u : Value} (h : (lvals D)[j]? = some u) : j < D.length ∧ u = .slice (bc D j).A (be (bl D) j).length (bc D j).c := by
  have hj : j < D.length := by
    rcases Nat.lt_or_ge j D.length with hj | hj
    · exact hj
    · rw [List.getElem?_eq_none (by rw [lvals_len]; exact hj)] at h; cases h
  refine ⟨hj, ?_⟩
  unfold lvals at h
  rw [List.getElem?_map, List.getElem?_eq_getElem hj] at h
  rw [bl_at]
  have : bc D j = D[j] := by unfold bc; simp [List.getD, hj]
  rw [this]
  simpa using h.symm
theorem lvals_one (D : List Bc) : ∀ u ∈ lvals D, u.oneCell' = true := fun u hu => by
  obtain ⟨x, _, rfl⟩ := List.mem_map.1 hu
  rfl
theorem own_blkL {w : World} {base : Nat} {v : Value} {D : List Bc} (h : w.ownsRow base 51 1 v D.length (lvals D)) (hp : 0 < D.length) :
    ∃ g cap, v = .slice (some ⟨g, 0, none⟩) D.length cap ∧ D.length ≤ cap ∧ base ≤ g ∧ BlL w g D.length (fun i => .slice (bc D i).A (be (bl D) i).length (bc D i).c) := by
  rcases h.2 with ⟨_, h0⟩ | ⟨g, cap, cur, hv, hge, hh, hcap, _, hsz, htake⟩
  · omega
  · refine ⟨g, cap, hv, hcap, hge, cur, hh, fun i hi => ?_⟩
    have h1 : (cur.toList.take (D.length * 1))[i]? = (lvals D)[i]? := by rw [htake]
    rw [Nat.mul_one, List.getElem?_take, if_pos hi, Array.getElem?_toList] at h1
    rw [h1]
    have h2 : i < (lvals D).length := by rw [lvals_len]; exact hi
    have h3 := (lvals_get (List.getElem?_eq_getElem h2)).2
    rw [List.getElem?_eq_getElem h2, h3]
theorem empty_ownL (w : World) (t : TypeId) : (w.alloc (.cells #[] t)).ownsRow w.heap.size t 1 (.slice (some ⟨w.heap.size, 0, none⟩) 0 0) 0 [] := empty_own w t
/-- The beaches with one of them made shorter. -/
def trD (D : List Bc) (b q : Nat) : List Bc := D.set b ⟨(bc D b).l.take q, (bc D b).A, (bc D b).c⟩
theorem trD_len (D : List Bc) (b q : Nat) : (trD D b q).length = D.length := by simp [trD]
theorem trD_bl (D : List Bc) (b q : Nat) : bl (trD D b q) = trn (bl D) b q := by
  unfold trD bl trn
  rw [List.map_set]
  have : be (D.map (·.l)) b = (bc D b).l := bl_at D b
  rw [this]
theorem trD_at (D : List Bc) {b : Nat} (q : Nat) (hb : b < D.length) (i : Nat) : bc (trD D b q) i = if i = b then ⟨(bc D b).l.take q, (bc D b).A, (bc D b).c⟩ else bc D i := by
  unfold trD bc
  by_cases h : i = b
  · subst h
    simp [List.getD_eq_getElem?_getD, List.getElem?_set, hb]
  · have h' : ¬ b = i := fun e => h e.symm
    simp [List.getD_eq_getElem?_getD, List.getElem?_set, h', h]
theorem bcs_trD {w X : World} {B : Nat} {A : Option Addr} {D : List Bc} {b q g : Nat} (h : Bcs w B A D) (hB : B ≤ w.heap.size) (hX : Below w.heap.size w X) (hb : b < D.length) (hq : q ≤ (be (bl D) b).length)
    (hg : BlL X g D.length (fun i => if i = b then .slice (bc D b).A q (bc D b).c else .slice (bc D i).A (be (bl D) i).length (bc D i).c)) : Bcs X X.heap.size (some ⟨g, 0, none⟩) (trD D b q) := by
  have hql : (be (bl (trD D b q)) b).length = q := by
    rw [trD_bl, trn_be _ q (by rw [bl_len]; exact hb), if_pos rfl, List.length_take]; omega
  have hne : ∀ i, i ≠ b → be (bl (trD D b q)) i = be (bl D) i := fun i hi => by
    rw [trD_bl, trn_be _ q (by rw [bl_len]; exact hb), if_neg hi]
  have hBX := Nat.le_trans hB hX.size
  refine ⟨by rw [trD_len]; exact h.1, fun _ => ⟨g, 0, rfl, hg.lt, fun i hi => ?_⟩, fun i hi => ?_⟩
  · rw [trD_len] at hi
    obtain ⟨b0, o0, _, _, e0, hj⟩ := (h.below (hX.mono hB)).at_ i hi
    rw [Nat.zero_add, hg.cell hi, trD_at D q hb]
    by_cases e : i = b
    · subst e
      rw [if_pos rfl, if_pos rfl, hql]
      refine ⟨rfl, ?_, fun hn => ?_⟩
      · rw [hql]; have := hj.1; omega
      · rw [hql] at hn
        obtain ⟨b1, o1, e1, hb1, hc⟩ := hj.2 (by omega)
        refine ⟨b1, o1, e1, by omega, fun t ht => ?_⟩
        have hjb : jb (be (bl (trD D i q)) i) t = jb (be (bl D) i) t := by rw [trD_bl]; exact trn_jb _ q (by rw [bl_len]; exact hb) (by rw [← trD_bl]; exact ht)
        rw [hjb]
        rw [hql] at ht
        exact hc t (by omega)
    · rw [if_neg e, if_neg e, hne i e]
      exact ⟨rfl, hj.more hBX⟩
  · rw [trD_len] at hi
    rw [trD_at D q hb]
    have := h.2.2 i hi
    by_cases e : i = b
    · subst e
      rw [if_pos rfl, hql]
      simp only []
      omega
    · rw [if_neg e, hne i e]
      exact this
theorem u8_range {x : Int} (h : (Lit.int .u8 x).wf = true) : 0 ≤ x ∧ x ≤ 255 := bounds_u8 h
end Go.Proofs.Ytgjgpcpghglnnaa
