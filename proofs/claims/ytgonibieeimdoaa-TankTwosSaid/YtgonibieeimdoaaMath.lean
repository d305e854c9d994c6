/-
  Plain mathematics of tanks: levels, deeds, what a deed leads to, the measure. It imports nothing of the program.
-/
import Derived.Below
namespace Go.Proofs.Ytgonibieeimdoaa
namespace M

def el (l : List Int) (i : Nat) : Int := l.getD i 0
theorem el_eq (l : List Int) (i : Nat) (h : i < l.length) : el l i = l[i] := by simp [el, List.getD, h]
theorem ints_ext {a b : List Int} (h : a.length = b.length) (h' : ∀ i, i < a.length → el a i = el b i) : a = b := by
  refine List.ext_getElem h (fun i h1 h2 => ?_)
  have := h' i h1
  rwa [el_eq a i h1, el_eq b i h2] at this
/-- The list of n numbers that F says. -/
def mk (F : Nat → Int) (n : Nat) : List Int := (List.range n).map F
theorem mk_len (F : Nat → Int) (n : Nat) : (mk F n).length = n := by simp [mk]
theorem mk_el (F : Nat → Int) (n i : Nat) (h : i < n) : el (mk F n) i = F i := by rw [el_eq _ _ (by rw [mk_len]; exact h)]; simp [mk]
theorem el_set (l : List Int) (i j : Nat) (v : Int) (h : i < l.length) : el (l.set i v) j = if j = i then v else el l j := by
  by_cases e : j = i
  · subst e; simp [el, List.getD, h]
  · have e' : ¬ i = j := fun h => e h.symm
    simp [el, List.getD, e, e']

/-! ### sums -/
def sm (f : Nat → Int) : Nat → Int
  | 0 => 0
  | n + 1 => sm f n + f n
theorem sm_succ (f : Nat → Int) (n : Nat) : sm f (n + 1) = sm f n + f n := rfl
/-- The sum of levels. -/
def tot (l : List Int) : Int := sm (el l) l.length

/-! ### tanks, levels, deeds -/
def vT (t : List Int) : Prop := (2 ≤ t.length ∧ t.length ≤ 4) ∧ ∀ i, i < t.length → 1 ≤ el t i ∧ el t i ≤ 12
noncomputable def validB (t : List Int) : Bool := by classical exact decide (vT t)
theorem val_of {t : List Int} (h : validB t = true) : vT t := by unfold validB at h; simpa using h
theorem val_true {t : List Int} (h : vT t) : validB t = true := by unfold validB; simpa using h
theorem val_false {t : List Int} (h : ¬ vT t) : validB t = false := by unfold validB; simpa using h
def vL (t l : List Int) : Prop := l.length = t.length ∧ ∀ i, i < t.length → 0 ≤ el l i ∧ el l i ≤ el t i
noncomputable def lvlB (t l : List Int) : Bool := by classical exact decide (vL t l)
theorem lvl_of {t l : List Int} (h : lvlB t l = true) : vL t l := by unfold lvlB at h; simpa using h
theorem lvl_true {t l : List Int} (h : vL t l) : lvlB t l = true := by unfold lvlB; simpa using h
theorem lvl_false {t l : List Int} (h : ¬ vL t l) : lvlB t l = false := by unfold lvlB; simpa using h

structure Dd where
  d : Int
  f : Int
  t : Int
deriving DecidableEq, Inhabited
def dd (l : List Dd) (i : Nat) : Dd := l.getD i ⟨0, 0, 0⟩
theorem dd_eq (l : List Dd) (i : Nat) (h : i < l.length) : dd l i = l[i] := by simp [dd, List.getD, h]
theorem dds_ext {a b : List Dd} (h : a.length = b.length) (h' : ∀ i, i < a.length → dd a i = dd b i) : a = b := by
  refine List.ext_getElem h (fun i h1 h2 => ?_)
  have := h' i h1
  rwa [dd_eq a i h1, dd_eq b i h2] at this
def mkD (F : Nat → Dd) (n : Nat) : List Dd := (List.range n).map F
theorem mkD_len (F : Nat → Dd) (n : Nat) : (mkD F n).length = n := by simp [mkD]
theorem mkD_dd (F : Nat → Dd) (n i : Nat) (h : i < n) : dd (mkD F n) i = F i := by rw [dd_eq _ _ (by rw [mkD_len]; exact h)]; simp [mkD]
def isD (n : Nat) (x : Dd) : Prop := (0 ≤ x.t ∧ x.t < n) ∧ (((x.d = 1 ∨ x.d = 2) ∧ x.f = 0) ∨ (x.d = 3 ∧ (0 ≤ x.f ∧ x.f < n) ∧ x.f ≠ x.t))
instance (n : Nat) (x : Dd) : Decidable (isD n x) := by unfold isD; infer_instance
def isDB (n : Nat) (x : Dd) : Bool := decide (isD n x)
/-- All deeds of n tanks. -/
def fills (n : Nat) : List Dd := (List.range n).map fun (i : Nat) => ⟨1, 0, (i : Int)⟩
def empties (n : Nat) : List Dd := (List.range n).map fun (i : Nat) => ⟨2, 0, (i : Int)⟩
def poursOf (n i : Nat) : List Dd := ((List.range n).filter fun j => j ≠ i).map fun (j : Nat) => ⟨3, (i : Int), (j : Int)⟩
def pours (n : Nat) : List Dd := (List.range n).flatMap fun i => poursOf n i
def allD (n : Nat) : List Dd := fills n ++ empties n ++ pours n
theorem mem_allD (n : Nat) (x : Dd) : x ∈ allD n ↔ isD n x := by
  obtain ⟨d, f, t⟩ := x
  unfold allD fills empties pours poursOf isD
  simp only [List.mem_append, List.mem_map, List.mem_flatMap, List.mem_range, List.mem_filter, Dd.mk.injEq, decide_eq_true_eq]
  constructor
  · rintro ((⟨i, hi, rfl, rfl, rfl⟩ | ⟨i, hi, rfl, rfl, rfl⟩) | ⟨i, hi, j, ⟨hj, hne⟩, rfl, rfl, rfl⟩)
    · exact ⟨⟨by omega, by omega⟩, .inl ⟨.inl rfl, rfl⟩⟩
    · exact ⟨⟨by omega, by omega⟩, .inl ⟨.inr rfl, rfl⟩⟩
    · exact ⟨⟨by omega, by omega⟩, .inr ⟨rfl, ⟨by omega, by omega⟩, by omega⟩⟩
  · rintro ⟨⟨h1, h2⟩, ⟨rfl | rfl, rfl⟩ | ⟨rfl, ⟨h3, h4⟩, hne⟩⟩
    · exact .inl (.inl ⟨t.toNat, by omega, rfl, rfl, by omega⟩)
    · exact .inl (.inr ⟨t.toNat, by omega, rfl, rfl, by omega⟩)
    · exact .inr ⟨f.toNat, by omega, t.toNat, ⟨by omega, by omega⟩, rfl, by omega, by omega⟩
/-- Are these deeds? -/
def vD (n : Nat) (D : List Dd) : Prop := D.length ≤ 200 ∧ ∀ i, i < D.length → isD n (dd D i)
noncomputable def dsB (n : Nat) (D : List Dd) : Bool := by classical exact decide (vD n D)
theorem ds_of {n : Nat} {D : List Dd} (h : dsB n D = true) : vD n D := by unfold dsB at h; simpa using h
theorem ds_true {n : Nat} {D : List Dd} (h : vD n D) : dsB n D = true := by unfold dsB; simpa using h
theorem ds_false {n : Nat} {D : List Dd} (h : ¬ vD n D) : dsB n D = false := by unfold dsB; simpa using h

/-! ### what a deed leads to -/
/-- How much is poured. -/
def pd (t l : List Int) (f g : Nat) : Int := min (el l f) (el t g - el l g)
def doL (t l : List Int) (x : Dd) : List Int :=
  if x.d = 1 then l.set x.t.toNat (el t x.t.toNat) else if x.d = 2 then l.set x.t.toNat 0 else (l.set x.f.toNat (el l x.f.toNat - pd t l x.f.toNat x.t.toNat)).set x.t.toNat (el l x.t.toNat + pd t l x.f.toNat x.t.toNat)
theorem doL_len (t l : List Int) (x : Dd) : (doL t l x).length = l.length := by unfold doL; split <;> (try split) <;> simp
theorem doL_fill (t l : List Int) (g i : Nat) (hg : g < l.length) : el (doL t l ⟨1, 0, (g : Int)⟩) i = if i = g then el t g else el l i := by
  unfold doL; simp only [if_true, Int.toNat_natCast]; exact el_set _ _ _ _ hg
theorem doL_empty (t l : List Int) (g i : Nat) (hg : g < l.length) : el (doL t l ⟨2, 0, (g : Int)⟩) i = if i = g then 0 else el l i := by
  unfold doL; simp only [if_true, Int.toNat_natCast, show ¬ ((2 : Int) = 1) by decide, if_false]; exact el_set _ _ _ _ hg
theorem doL_pour (t l : List Int) (f g i : Nat) (hf : f < l.length) (hg : g < l.length) : el (doL t l ⟨3, (f : Int), (g : Int)⟩) i = if i = g then el l g + pd t l f g else if i = f then el l f - pd t l f g else el l i := by
  unfold doL; simp only [Int.toNat_natCast, show ¬ ((3 : Int) = 1) by decide, show ¬ ((3 : Int) = 2) by decide, if_false]
  rw [el_set _ _ _ _ (by simpa using hg)]
  by_cases e : i = g
  · simp [e]
  · simp only [e, if_false]; rw [el_set _ _ _ _ hf]
theorem isD_cases {n : Nat} {x : Dd} (h : isD n x) : (∃ g : Nat, g < n ∧ x = ⟨1, 0, (g : Int)⟩) ∨ (∃ g : Nat, g < n ∧ x = ⟨2, 0, (g : Int)⟩) ∨ ∃ f g : Nat, f < n ∧ g < n ∧ f ≠ g ∧ x = ⟨3, (f : Int), (g : Int)⟩ := by
  obtain ⟨d, f, t⟩ := x
  obtain ⟨⟨h1, h2⟩, ⟨h3, h4⟩ | ⟨h3, ⟨h4, h5⟩, h6⟩⟩ := h
  · simp only at h1 h2 h3 h4
    rcases h3 with rfl | rfl
    · exact .inl ⟨t.toNat, by omega, by rw [Dd.mk.injEq]; omega⟩
    · exact .inr (.inl ⟨t.toNat, by omega, by rw [Dd.mk.injEq]; omega⟩)
  · simp only at h1 h2 h3 h4 h5 h6
    exact .inr (.inr ⟨f.toNat, t.toNat, by omega, by omega, by omega, by rw [Dd.mk.injEq]; omega⟩)
theorem doL_ok {t l : List Int} {x : Dd} (hv : vL t l) (hx : isD t.length x) : vL t (doL t l x) := by
  refine ⟨(doL_len t l x).trans hv.1, fun i hi => ?_⟩
  have hl := hv.1
  rcases isD_cases hx with ⟨g, hg, rfl⟩ | ⟨g, hg, rfl⟩ | ⟨f, g, hf, hg, _, rfl⟩
  · rw [doL_fill t l g i (by omega)]
    have := hv.2 i hi
    by_cases e : i = g
    · subst e; simp only [if_true]; omega
    · simp only [e, if_false]; omega
  · rw [doL_empty t l g i (by omega)]
    have := hv.2 i hi
    by_cases e : i = g
    · subst e; simp only [if_true]; omega
    · simp only [e, if_false]; omega
  · rw [doL_pour t l f g i (by omega) (by omega)]
    have h1 := hv.2 f hf
    have h2 := hv.2 g hg
    have h3 := hv.2 i hi
    unfold pd
    by_cases e : i = g
    · subst e; simp only [if_true]; omega
    · by_cases e2 : i = f
      · subst e2; simp only [e, if_false, if_true]; omega
      · simp only [e, e2, if_false]; omega
/-- The levels behind the first k deeds. -/
def afN (t l : List Int) (D : List Dd) : Nat → List Int
  | 0 => l
  | k + 1 => doL t (afN t l D k) (dd D k)
def afL (t l : List Int) (D : List Dd) : List Int := afN t l D D.length
theorem afN_ok {t l : List Int} {D : List Dd} (hv : vL t l) (hD : vD t.length D) (k : Nat) (hk : k ≤ D.length) : vL t (afN t l D k) := by
  induction k with
  | zero => exact hv
  | succ k ih => exact doL_ok (ih (by omega)) (hD.2 k (by omega))
theorem afN_len (t l : List Int) (D : List Dd) (k : Nat) : (afN t l D k).length = l.length := by
  induction k with
  | zero => rfl
  | succ k ih => exact (doL_len _ _ _).trans ih
/-- What came in and what went out by the first k deeds. -/
def inN (t l : List Int) (D : List Dd) : Nat → Int := sm fun k => max (tot (afN t l D (k + 1)) - tot (afN t l D k)) 0
def outN (t l : List Int) (D : List Dd) : Nat → Int := sm fun k => max (tot (afN t l D k) - tot (afN t l D (k + 1))) 0
theorem io_tot (t l : List Int) (D : List Dd) (k : Nat) : tot (afN t l D k) = tot l + inN t l D k - outN t l D k := by
  induction k with
  | zero => simp [inN, outN, sm, afN]
  | succ k ih =>
    unfold inN outN at *
    rw [sm_succ, sm_succ]
    generalize sm _ k = a at *
    generalize sm _ k = b at *
    omega
theorem tot_b {t l : List Int} (ht : vT t) (h : vL t l) : 0 ≤ tot l ∧ tot l ≤ 48 := by
  unfold tot
  have h4 := ht.1.2
  have hl := h.1
  have key : ∀ k, k ≤ l.length → 0 ≤ sm (el l) k ∧ sm (el l) k ≤ 12 * k := by
    intro k
    induction k with
    | zero => intro _; exact ⟨Int.le_refl _, Int.le_refl _⟩
    | succ k ih =>
      intro hk
      have := ih (by omega)
      have h1 := h.2 k (by omega)
      have h2 := ht.2 k (by omega)
      rw [sm_succ]; omega
  have := key l.length (Nat.le_refl _)
  omega
theorem io_b {t l : List Int} {D : List Dd} (ht : vT t) (hv : vL t l) (hD : vD t.length D) (k : Nat) (hk : k ≤ D.length) : (0 ≤ inN t l D k ∧ inN t l D k ≤ 48 * k) ∧ (0 ≤ outN t l D k ∧ outN t l D k ≤ 48 * k) := by
  induction k with
  | zero => exact ⟨⟨Int.le_refl _, Int.le_refl _⟩, Int.le_refl _, Int.le_refl _⟩
  | succ k ih =>
    have := ih (by omega)
    have h1 := tot_b ht (afN_ok hv hD k (by omega))
    have h2 := tot_b ht (afN_ok hv hD (k + 1) hk)
    unfold inN outN at *
    rw [sm_succ, sm_succ]
    omega
end M
end Go.Proofs.Ytgonibieeimdoaa
