/-
  Plain mathematics of the tide back and of the shifted tide.
-/
import Derived.Test.YtmpmlgognkmfgaaTideF
import Derived.Test.YtmpmlgognkmfgaaSame
namespace Go.Proofs.Ytmpmlgognkmfgaa
open M

theorem bkRow_len (l : List Int) : (bkRow l).length = l.length := mk_len _ _
theorem shRow_len (b : Int) (l : List Int) : (shRow b l).length = l.length := mk_len _ _
theorem idx_eq (t : Int) (n : Nat) (h : 1 ≤ n) : (((t % (n : Int)).toNat : Nat) : Int) = t % (n : Int) := by
  have := Int.emod_nonneg t (show (n : Int) ≠ 0 by omega); omega
theorem at_mod {l : List Int} {s t : Int} (h : s % (l.length : Int) = t % (l.length : Int)) : M.at_ l s = M.at_ l t := by unfold M.at_; rw [h]
theorem at_bk (l : List Int) (h : 1 ≤ l.length) (t : Int) : M.at_ (bkRow l) t = - M.at_ l (-t) := by
  have h1 := idx_lt t l.length h
  unfold M.at_
  rw [bkRow_len]
  have e : el (bkRow l) (t % (l.length : Int)).toNat = - M.at_ l (-(((t % (l.length : Int)).toNat : Nat) : Int)) := mk_el _ _ _ h1
  rw [e, idx_eq t _ h]
  congr 1
  refine at_mod ?_
  rw [Int.neg_emod_eq_sub_emod, Int.neg_emod_eq_sub_emod (a := t)]
  rw [Int.sub_emod, Int.emod_emod, ← Int.sub_emod]
theorem at_sh (b : Int) (l : List Int) (h : 1 ≤ l.length) (t : Int) : M.at_ (shRow b l) t = M.at_ l (t + b) := by
  have h1 := idx_lt t l.length h
  have e : M.at_ (shRow b l) t = M.at_ l ((((t % (l.length : Int)).toNat : Nat) : Int) + b) := by
    conv => lhs; unfold M.at_
    rw [shRow_len]
    exact mk_el _ _ _ h1
  rw [e, idx_eq t _ h]
  refine at_mod ?_
  rw [Int.emod_add_emod]
theorem el_at (l : List Int) (i : Nat) (h : i < l.length) : M.at_ l i = el l i := by
  unfold M.at_
  congr 1
  rw [Int.emod_eq_of_lt (by omega) (by omega)]; omega
theorem bk_bk (l : List Int) (h : 1 ≤ l.length) : bkRow (bkRow l) = l := by
  refine ints_ext (by rw [bkRow_len, bkRow_len]) (fun i hi => ?_)
  rw [bkRow_len, bkRow_len] at hi
  have e : el (bkRow (bkRow l)) i = - M.at_ (bkRow l) (-(i : Int)) := mk_el _ _ _ (by rw [bkRow_len]; exact hi)
  rw [e, at_bk l h, Int.neg_neg, Int.neg_neg, el_at l i hi]

theorem bkT_len (T : List (List Int)) : (bkT T).length = T.length := mkT_len _ _
theorem shT_len (b : Int) (T : List (List Int)) : (shT b T).length = T.length := mkT_len _ _
theorem bkT_row (T : List (List Int)) (i : Nat) (h : i < T.length) : row (bkT T) i = bkRow (row T i) := mkT_row _ _ _ h
theorem shT_row (b : Int) (T : List (List Int)) (i : Nat) (h : i < T.length) : row (shT b T) i = shRow b (row T i) := mkT_row _ _ _ h
theorem val_bk {T : List (List Int)} (h : Val T) : Val (bkT T) := by
  refine ⟨by rw [bkT_len]; exact h.1, fun i hi => ?_⟩
  rw [bkT_len] at hi
  rw [bkT_row T i hi, bkRow_len]
  refine ⟨(h.2 i hi).1, fun j hj => ?_⟩
  have e : el (bkRow (row T i)) j = - M.at_ (row T i) (-(j : Int)) := mk_el _ _ _ hj
  have := at_bound h i hi (-(j : Int))
  rw [e]; omega
theorem val_sh {T : List (List Int)} (b : Int) (h : Val T) : Val (shT b T) := by
  refine ⟨by rw [shT_len]; exact h.1, fun i hi => ?_⟩
  rw [shT_len] at hi
  rw [shT_row b T i hi, shRow_len]
  refine ⟨(h.2 i hi).1, fun j hj => ?_⟩
  have e : el (shRow b (row T i)) j = M.at_ (row T i) ((j : Int) + b) := mk_el _ _ _ hj
  have := at_bound h i hi ((j : Int) + b)
  rw [e]; omega
theorem bkT_bkT {T : List (List Int)} (h : Val T) : bkT (bkT T) = T := by
  apply List.ext_getElem (by rw [bkT_len, bkT_len])
  intro i h1 h2
  have e1 := bkT_row (bkT T) i (by rw [bkT_len]; exact h2)
  rw [row_eq _ i h1, bkT_row T i h2, bk_bk _ (h.2 i h2).1.1, row_eq T i h2] at e1
  exact e1
theorem spd_bk {T : List (List Int)} (h : Val T) (t : Int) : spd (bkT T) t = - spd T (-t) := by
  unfold spd spdK
  rw [bkT_len, ← sm_neg]
  exact sm_congr _ (fun i hi => by rw [bkT_row T i hi, at_bk _ (h.2 i hi).1.1])
theorem spd_sh {T : List (List Int)} (b : Int) (h : Val T) (t : Int) : spd (shT b T) t = spd T (t + b) := by
  unfold spd spdK
  rw [shT_len]
  exact sm_congr _ (fun i hi => by rw [shT_row b T i hi, at_sh b _ (h.2 i hi).1.1])
theorem drf_bk {T : List (List Int)} (h : Val T) (f : Int) (n : Nat) : drf (bkT T) f n = - drf T (1 - f - n) n := by
  unfold drf sg
  rw [← sm_rev (fun j => spd T (1 - f - n + j)) n, ← sm_neg]
  refine sm_congr _ (fun j hj => ?_)
  rw [spd_bk h]
  congr 2
  omega
theorem rnd_sh {T : List (List Int)} (b : Int) : rnd (shT b T) = rnd T := by
  unfold rnd
  rw [shT_len]
  have : ∀ k, k ≤ T.length → rndK (shT b T) k = rndK T k := by
    intro k
    induction k with
    | zero => intro _; rfl
    | succ k ih => intro hk; rw [rndK_succ, rndK_succ, ih (by omega), shT_row b T k (by omega), shRow_len]
  exact this _ (Nat.le_refl _)
theorem rnd_bk {T : List (List Int)} : rnd (bkT T) = rnd T := by
  unfold rnd
  rw [bkT_len]
  have : ∀ k, k ≤ T.length → rndK (bkT T) k = rndK T k := by
    intro k
    induction k with
    | zero => intro _; rfl
    | succ k ih => intro hk; rw [rndK_succ, rndK_succ, ih (by omega), bkT_row T k (by omega), bkRow_len]
  exact this _ (Nat.le_refl _)
theorem drf_sh {T : List (List Int)} (b : Int) (h : Val T) (f : Int) (n : Nat) : drf (shT b T) f n = drf T (f + b) n := by
  unfold drf sg
  refine sm_congr _ (fun j hj => ?_)
  rw [spd_sh b h]
  congr 1
  omega

end Go.Proofs.Ytmpmlgognkmfgaa
