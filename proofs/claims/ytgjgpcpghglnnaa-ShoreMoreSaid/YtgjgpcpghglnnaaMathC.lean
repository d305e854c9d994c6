/-
  The best order runs: each beach is named as often as jobs of it are done, and never once too often.
-/
import Derived.Test.YtgjgpcpghglnnaaMath
namespace Go.Proofs.Ytgjgpcpghglnnaa
namespace M
theorem el_left {o p : List Int} {k : Nat} (h : k < o.length) : el (o ++ p) k = el o k := by
  unfold el
  rw [List.getD_eq_getElem?_getD, List.getD_eq_getElem?_getD, List.getElem?_append_left h]
theorem el_right (o p : List Int) (t : Nat) : el (o ++ p) (o.length + t) = el p t := by
  unfold el
  rw [List.getD_eq_getElem?_getD, List.getD_eq_getElem?_getD, List.getElem?_append_right (by omega), Nat.add_sub_cancel_left]
theorem el_rep {c t : Nat} (i : Int) (h : t < c) : el (List.replicate c i) t = i := by
  unfold el
  rw [List.getD_eq_getElem?_getD, List.getElem?_replicate, if_pos h]; rfl
theorem cnt_left (o p : List Int) (b : Int) : ∀ k, k ≤ o.length → cnt (o ++ p) b k = cnt o b k := by
  intro k
  induction k with
  | zero => intro _; rfl
  | succ k ih => intro hk; rw [cnt_succ, cnt_succ, ih (by omega), el_left (by omega)]
theorem cnt_right (o : List Int) (b i : Int) (c : Nat) : ∀ t, t ≤ c → cnt (o ++ List.replicate c i) b (o.length + t) = cnt o b o.length + if i = b then t else 0 := by
  intro t
  induction t with
  | zero => intro _; rw [Nat.add_zero, cnt_left _ _ _ _ (Nat.le_refl _)]; split <;> rfl
  | succ t ih =>
    intro ht
    rw [← Nat.add_assoc, cnt_succ, ih (by omega), el_right, el_rep i (by omega)]
    split <;> omega
theorem ord_runs (J : List (List Jb)) (s : Nat) : (∀ b : Nat, cnt (ord J s) (b : Int) (ord J s).length = nxt J s b) ∧ Runs J (ord J s) := by
  induction s with
  | zero => exact ⟨fun _ => rfl, fun k hk => absurd hk (Nat.not_lt_zero _)⟩
  | succ s ih =>
    obtain ⟨h1, h2⟩ := ih
    cases hg : gr J (nxt J s) J.length with
    | none =>
      have e1 : ord J (s + 1) = ord J s := by
        show (match gr J (nxt J s) J.length with | none => ord J s | some (i, c) => ord J s ++ List.replicate c (i : Int)) = _
        rw [hg]
      have e2 : nxt J (s + 1) = nxt J s := by
        show (match gr J (nxt J s) J.length with | none => nxt J s | some (i, c) => fun k => if k = i then nxt J s i + c else nxt J s k) = _
        rw [hg]
      rw [e1, e2]
      exact ⟨h1, h2⟩
    | some p =>
      obtain ⟨i, c⟩ := p
      obtain ⟨g1, g2, g3⟩ := gr_spec J _ (nxt_le J s) _ _ _ hg
      have g4 := (ld_b (be J i) _ g2).2
      rw [← g3] at g4
      rw [ord_some hg, nxt_some hg]
      refine ⟨fun b => ?_, fun k hk => ?_⟩
      · rw [List.length_append, List.length_replicate, cnt_right _ _ _ _ _ (Nat.le_refl _), h1 b]
        by_cases e : b = i
        · subst e; simp
        · show _ = (if b = i then _ else nxt J s b)
          rw [if_neg e, if_neg (show ¬ (i : Int) = (b : Int) by omega)]; rfl
      · rw [List.length_append, List.length_replicate] at hk
        by_cases hlt : k < (ord J s).length
        · obtain ⟨r1, r2⟩ := h2 k hlt
          rw [el_left hlt, cnt_left _ _ _ _ (by omega)]
          exact ⟨r1, r2⟩
        · obtain ⟨t, rfl⟩ := Nat.exists_eq_add_of_le (show (ord J s).length ≤ k by omega)
          rw [el_right, el_rep _ (by omega), cnt_right _ _ _ _ _ (by omega), if_pos rfl, h1 i, Int.toNat_natCast]
          exact ⟨⟨by omega, g1⟩, by omega⟩
end M
end Go.Proofs.Ytgjgpcpghglnnaa
