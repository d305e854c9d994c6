/-
  The order that comes next: plain mathematics.
-/
import Derived.Test.YtgjgpcpghglnnaaU
import Derived.Test.YtgjgpcpghglnnaaYa
import Derived.Test.YtgjgpcpghglnnaaV
namespace Go.Proofs.Ytgjgpcpghglnnaa.M
set_option linter.unusedVariables false
set_option linter.unusedSimpArgs false
/-- The least number of a list that is greater than another one. -/
def lg (b : Int) : List Int → Option Int
  | [] => none
  | y :: o => match lg b o with
    | none => if b < y then some y else none
    | some x => if b < y ∧ y < x then some y else some x
theorem lg_none {b : Int} : ∀ {o : List Int}, (∀ y ∈ o, y ≤ b) → lg b o = none := by
  intro o
  induction o with
  | nil => intro _; rfl
  | cons y o ih =>
    intro h
    unfold lg
    rw [ih fun z hz => h z (List.mem_cons_of_mem _ hz)]
    simp only []
    have := h y List.mem_cons_self
    rw [if_neg (by omega)]
theorem lg_none' {b : Int} : ∀ {o : List Int}, lg b o = none → ∀ y ∈ o, y ≤ b := by
  intro o
  induction o with
  | nil => intro _ y hy; cases hy
  | cons y o ih =>
    intro h z hz
    unfold lg at h
    cases hl : lg b o with
    | none =>
      rw [hl] at h
      simp only [] at h
      split at h
      · cases h
      · rcases List.mem_cons.1 hz with rfl | hz
        · omega
        · exact ih hl z hz
    | some x =>
      rw [hl] at h
      simp only [] at h
      split at h <;> cases h
theorem lg_some {b x : Int} : ∀ {o : List Int}, lg b o = some x → x ∈ o ∧ b < x ∧ ∀ y ∈ o, b < y → x ≤ y := by
  intro o
  induction o generalizing x with
  | nil => intro h; cases h
  | cons y o ih =>
    intro h
    unfold lg at h
    cases hl : lg b o with
    | none =>
      rw [hl] at h
      simp only [] at h
      have hn := lg_none' hl
      split at h
      · cases h
        refine ⟨List.mem_cons_self, by assumption, fun z hz hb => ?_⟩
        rcases List.mem_cons.1 hz with rfl | hz
        · omega
        · have := hn z hz; omega
      · cases h
    | some u =>
      rw [hl] at h
      simp only [] at h
      obtain ⟨h1, h2, h3⟩ := ih hl
      split at h
      · rename_i hh
        cases h
        refine ⟨List.mem_cons_self, hh.1, fun z hz hb => ?_⟩
        rcases List.mem_cons.1 hz with rfl | hz
        · omega
        · have := h3 z hz hb; omega
      · rename_i hh
        cases h
        refine ⟨List.mem_cons_of_mem _ h1, h2, fun z hz hb => ?_⟩
        rcases List.mem_cons.1 hz with rfl | hz
        · omega
        · exact h3 z hz hb
theorem lg_is {b x : Int} {o : List Int} (hx : x ∈ o) (hb : b < x) (h : ∀ y ∈ o, b < y → x ≤ y) : lg b o = some x := by
  cases hl : lg b o with
  | none => have := lg_none' hl x hx; omega
  | some u =>
    obtain ⟨h1, h2, h3⟩ := lg_some hl
    have := h u h1 h2
    have := h3 x hx hb
    rw [show u = x by omega]
/-- The list that comes next, of all with the same numbers. -/
def nx : List Int → Option (List Int)
  | [] => none
  | b :: o => match nx o with
    | some o' => some (b :: o')
    | none => match lg b o with
      | none => none
      | some x => some (x :: srt (b :: o.erase x))
/-- A list descends from a place on. -/
def Ds (l : List Int) (i : Nat) : Prop := ∀ j, i ≤ j → j + 1 < l.length → el l (j + 1) ≤ el l j
theorem el_cons (b : Int) (o : List Int) (j : Nat) : el (b :: o) (j + 1) = el o j := rfl
theorem ds_tail {b : Int} {o : List Int} {i : Nat} (h : Ds (b :: o) (i + 1)) : Ds o i := fun j hj hl => by
  have := h (j + 1) (by omega) (by simp; omega)
  rwa [el_cons, el_cons] at this
theorem ds_le {l : List Int} {i : Nat} (h : Ds l i) {p q : Nat} (hp : i ≤ p) (hpq : p ≤ q) (hq : q < l.length) : el l q ≤ el l p := by
  induction q with
  | zero => have : p = 0 := by omega
            subst this; exact Int.le_refl _
  | succ q ih =>
    rcases Nat.lt_or_ge p (q + 1) with h1 | h1
    · have := ih (by omega) (by omega)
      have := h q (by omega) hq
      omega
    · have : p = q + 1 := by omega
      subst this; exact Int.le_refl _
theorem mem_el {y : Int} {o : List Int} (h : y ∈ o) : ∃ j, j < o.length ∧ el o j = y := by
  obtain ⟨j, hj, e⟩ := List.mem_iff_getElem.1 h
  exact ⟨j, hj, by rw [el_eq o j hj, e]⟩
theorem el_mem {o : List Int} {j : Nat} (h : j < o.length) : el o j ∈ o := by rw [el_eq o j h]; exact List.getElem_mem h
theorem nx_none : ∀ {l : List Int}, Ds l 0 → nx l = none := by
  intro l
  induction l with
  | nil => intro _; rfl
  | cons b o ih =>
    intro h
    unfold nx
    rw [ih (ds_tail fun j hj => h j (by omega))]
    simp only []
    rw [lg_none fun y hy => ?_]
    obtain ⟨j, hj, rfl⟩ := mem_el hy
    have := ds_le h (Nat.zero_le 0) (Nat.zero_le (j + 1)) (by simp; omega)
    rwa [el_cons] at this
theorem nx_at {x : Int} : ∀ {i : Nat} {l : List Int}, i < l.length → Ds l (i + 1) → lg (el l i) (l.drop (i + 1)) = some x → nx l = some (l.take i ++ x :: srt (el l i :: (l.drop (i + 1)).erase x)) := by
  intro i
  induction i with
  | zero =>
    intro l hl hd hx
    match l, hl with
    | b :: o, _ =>
      have h1 : nx o = none := nx_none (ds_tail hd)
      unfold nx
      rw [h1]
      simp only []
      have h2 : lg b o = some x := hx
      rw [h2]
      rfl
  | succ i ih =>
    intro l hl hd hx
    match l, hl with
    | b :: o, hl =>
      have h1 := ih (l := o) (by simpa using hl) (ds_tail hd) hx
      unfold nx
      rw [h1]
      rfl
/-- What is sorted is the same, whatever order the numbers came in. -/
theorem srt_perm_eq {l m : List Int} (h : l.Perm m) : srt l = srt m :=
  List.Perm.eq_of_pairwise (le := (· ≤ ·)) (fun a b _ _ x y => Int.le_antisymm x y) (srt_sorted l) (srt_sorted m) ((srt_perm l).trans (h.trans (srt_perm m).symm))
theorem srt_of {l m : List Int} (hp : l.Perm m) (hs : l.Pairwise (· ≤ ·)) : l = srt m :=
  List.Perm.eq_of_pairwise (le := (· ≤ ·)) (fun a b _ _ x y => Int.le_antisymm x y) hs (srt_sorted m) (hp.trans (srt_perm m).symm)
theorem set_perm {o : List Int} {k : Nat} (hk : k < o.length) (b : Int) : (o.set k b).Perm (b :: o.erase (el o k)) := by
  rw [List.perm_iff_count]
  intro a
  rw [List.count_set hk, List.count_cons, List.count_erase, ← el_eq o k hk]
theorem el_set {o : List Int} {k : Nat} (b : Int) (hk : k < o.length) (j : Nat) : el (o.set k b) j = if j = k then b else el o j := by
  unfold el
  simp only [List.getD_eq_getElem?_getD, List.getElem?_set]
  by_cases h : k = j
  · subst h; simp [hk]
  · have h' : ¬ j = k := fun e => h e.symm
    simp [h, h']
theorem el_drop (l : List Int) (i j : Nat) : el (l.drop i) j = el l (i + j) := by
  unfold el
  simp [List.getD_eq_getElem?_getD, List.getElem?_drop]
theorem el_take {l : List Int} {i j : Nat} (h : j < i) : el (l.take i) j = el l j := by
  unfold el
  simp [List.getD_eq_getElem?_getD, List.getElem?_take, h]
theorem el_reverse {o : List Int} {j : Nat} (h : j < o.length) : el o.reverse j = el o (o.length - 1 - j) := by
  unfold el
  simp [List.getD_eq_getElem?_getD, List.getElem?_reverse h]
/-- The last place with a greater number behind it, and the last such number: what comes next. -/
theorem nx_last {l : List Int} {i k : Nat} (hik : i < k) (hk : k < l.length) (hd : Ds l (i + 1)) (hx : el l i < el l k) (hg : ∀ j, k < j → j < l.length → el l j ≤ el l i) :
    nx l = some (l.take i ++ el l k :: ((l.drop (i + 1)).set (k - (i + 1)) (el l i)).reverse) := by
  obtain ⟨o, ho⟩ : ∃ o, o = l.drop (i + 1) := ⟨_, rfl⟩
  have hol : o.length = l.length - (i + 1) := by rw [ho, List.length_drop]
  obtain ⟨t, ht⟩ : ∃ t, t = k - (i + 1) := ⟨_, rfl⟩
  have htl : t < o.length := by omega
  have hot : el o t = el l k := by rw [ho, el_drop, ht]; congr 1; omega
  have hod : ∀ p q, p ≤ q → q < o.length → el o q ≤ el o p := fun p q hpq hq => by
    rw [ho, el_drop, el_drop]
    exact ds_le hd (by omega) (by omega) (by omega)
  have hog : ∀ q, t < q → q < o.length → el o q ≤ el l i := fun q h1 h2 => by
    rw [ho, el_drop]
    exact hg _ (by omega) (by omega)
  have hlg : lg (el l i) o = some (el l k) := by
    refine lg_is (by rw [← hot]; exact el_mem htl) hx fun y hy hb => ?_
    obtain ⟨q, hq, rfl⟩ := mem_el hy
    rcases Nat.lt_or_ge t q with h1 | h1
    · have := hog q h1 hq; omega
    · rw [← hot]; exact hod q t h1 htl
  rw [nx_at (by omega) hd (by rw [← ho]; exact hlg), ← ho, ← ht]
  refine congrArg (fun z => some (l.take i ++ el l k :: z)) (srt_of ?_ ?_).symm
  · refine (List.reverse_perm _).trans ?_
    have := set_perm htl (el l i)
    rwa [hot] at this
  · rw [List.pairwise_reverse, List.pairwise_iff_getElem]
    intro p q hp hq hpq
    have hp' : p < o.length := by simpa using hp
    have hq' : q < o.length := by simpa using hq
    rw [← el_eq _ _ hp, ← el_eq _ _ hq, el_set _ htl, el_set _ htl]
    by_cases h1 : q = t
    · rw [if_pos h1, if_neg (by omega)]
      have := hod p t (by omega) htl
      rw [hot] at this
      omega
    · rw [if_neg h1]
      by_cases h2 : p = t
      · rw [if_pos h2]; exact hog q (by omega) hq'
      · rw [if_neg h2]; exact hod p q (by omega) hq'
/-- The same, by the first one of the least greater numbers. -/
theorem nx_least {l : List Int} {i k : Nat} (hik : i < k) (hk : k < l.length) (hd : Ds l (i + 1)) (hx : el l i < el l k) (hg : ∀ j, i < j → j < l.length → el l i < el l j → el l k ≤ el l j) :
    nx l = some (l.take i ++ el l k :: srt ((l.drop (i + 1)).set (k - (i + 1)) (el l i))) := by
  obtain ⟨o, ho⟩ : ∃ o, o = l.drop (i + 1) := ⟨_, rfl⟩
  have hol : o.length = l.length - (i + 1) := by rw [ho, List.length_drop]
  obtain ⟨t, ht⟩ : ∃ t, t = k - (i + 1) := ⟨_, rfl⟩
  have htl : t < o.length := by omega
  have hot : el o t = el l k := by rw [ho, el_drop, ht]; congr 1; omega
  have hlg : lg (el l i) o = some (el l k) := by
    refine lg_is (by rw [← hot]; exact el_mem htl) hx fun y hy hb => ?_
    obtain ⟨q, hq, rfl⟩ := mem_el hy
    rw [ho, el_drop] at hb ⊢
    exact hg _ (by omega) (by omega) hb
  rw [nx_at (by omega) hd (by rw [← ho]; exact hlg), ← ho, ← ht]
  have := set_perm htl (el l i)
  rw [hot] at this
  rw [srt_perm_eq this]
end Go.Proofs.Ytgjgpcpghglnnaa.M
