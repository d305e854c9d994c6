/-
  Plain mathematics of slicks: what a cell gives, moves, prices before moves. It imports nothing of the program.
-/
import Derived.Below
namespace Go.Proofs.YtnbgjgiknfcdkaaDoor
namespace M

def el (l : List Int) (i : Nat) : Int := l.getD i 0
def bl (l : List Bool) (i : Nat) : Bool := l.getD i false
theorem el_eq (l : List Int) (i : Nat) (h : i < l.length) : el l i = l[i] := by simp [el, List.getD, h]
theorem bl_eq (l : List Bool) (i : Nat) (h : i < l.length) : bl l i = l[i] := by simp [bl, List.getD, h]
theorem ints_ext {a b : List Int} (h : a.length = b.length) (h' : ∀ i, i < a.length → el a i = el b i) : a = b := by
  refine List.ext_getElem h (fun i h1 h2 => ?_)
  have := h' i h1
  rwa [el_eq a i h1, el_eq b i h2] at this
theorem bools_ext {a b : List Bool} (h : a.length = b.length) (h' : ∀ i, i < a.length → bl a i = bl b i) : a = b := by
  refine List.ext_getElem h (fun i h1 h2 => ?_)
  have := h' i h1
  rwa [bl_eq a i h1, bl_eq b i h2] at this
/-- The list of n numbers that F says. -/
def mk (F : Nat → Int) (n : Nat) : List Int := (List.range n).map F
theorem mk_len (F : Nat → Int) (n : Nat) : (mk F n).length = n := by simp [mk]
theorem mk_el (F : Nat → Int) (n i : Nat) (h : i < n) : el (mk F n) i = F i := by rw [el_eq _ _ (by rw [mk_len]; exact h)]; simp [mk]
theorem mk_congr {F G : Nat → Int} (n : Nat) (h : ∀ i, i < n → F i = G i) : mk F n = mk G n := List.map_congr_left fun i hi => h i (List.mem_range.1 hi)
theorem mk_self (l : List Int) : mk (el l) l.length = l := ints_ext (mk_len _ _) (fun i hi => mk_el _ _ _ (by rwa [mk_len] at hi))
def mkB (F : Nat → Bool) (n : Nat) : List Bool := (List.range n).map F
theorem mkB_len (F : Nat → Bool) (n : Nat) : (mkB F n).length = n := by simp [mkB]
theorem mkB_bl (F : Nat → Bool) (n i : Nat) (h : i < n) : bl (mkB F n) i = F i := by rw [bl_eq _ _ (by rw [mkB_len]; exact h)]; simp [mkB]

/-! ### sums -/
def sm (f : Nat → Int) : Nat → Int
  | 0 => 0
  | n + 1 => sm f n + f n
theorem sm_zero (f : Nat → Int) : sm f 0 = 0 := rfl
theorem sm_succ (f : Nat → Int) (n : Nat) : sm f (n + 1) = sm f n + f n := rfl
theorem sm_congr {f g : Nat → Int} (n : Nat) (h : ∀ i, i < n → f i = g i) : sm f n = sm g n := by
  induction n with
  | zero => rfl
  | succ n ih => rw [sm_succ, sm_succ, ih (fun i hi => h i (by omega)), h n (by omega)]
theorem sm_add (f g : Nat → Int) (n : Nat) : sm (fun i => f i + g i) n = sm f n + sm g n := by
  induction n with
  | zero => rfl
  | succ n ih => rw [sm_succ, sm_succ, sm_succ, ih]; omega
theorem sm_sub (f g : Nat → Int) (n : Nat) : sm (fun i => f i - g i) n = sm f n - sm g n := by
  induction n with
  | zero => rfl
  | succ n ih => rw [sm_succ, sm_succ, sm_succ, ih]; omega
theorem sm_const0 (n : Nat) : sm (fun _ => 0) n = 0 := by
  induction n with
  | zero => rfl
  | succ n ih => rw [sm_succ, ih]; rfl
theorem sm_zero_of {f : Nat → Int} (n : Nat) (h : ∀ i, i < n → f i = 0) : sm f n = 0 := (sm_congr n h).trans (sm_const0 n)
theorem sm_mul (c : Int) (f : Nat → Int) (n : Nat) : sm (fun i => c * f i) n = c * sm f n := by
  induction n with
  | zero => simp [sm_zero]
  | succ n ih => rw [sm_succ, sm_succ, ih, Int.mul_add]
theorem sm_mul_right (f : Nat → Int) (c : Int) (n : Nat) : sm (fun i => f i * c) n = sm f n * c := by
  rw [Int.mul_comm, ← sm_mul]; exact sm_congr n (fun i _ => Int.mul_comm _ _)
theorem sm_swap (g : Nat → Nat → Int) (m n : Nat) : sm (fun k => sm (fun i => g i k) m) n = sm (fun i => sm (fun k => g i k) n) m := by
  induction n with
  | zero => exact (sm_const0 m).symm
  | succ n ih => rw [sm_succ, ih, ← sm_add]; rfl
theorem sm_nonneg {f : Nat → Int} (n : Nat) (h : ∀ i, i < n → 0 ≤ f i) : 0 ≤ sm f n := by
  induction n with
  | zero => exact Int.le_refl _
  | succ n ih => rw [sm_succ]; have := ih (fun i hi => h i (by omega)); have := h n (by omega); omega
theorem sm_le {f g : Nat → Int} (n : Nat) (h : ∀ i, i < n → f i ≤ g i) : sm f n ≤ sm g n := by
  induction n with
  | zero => exact Int.le_refl _
  | succ n ih => rw [sm_succ, sm_succ]; have := ih (fun i hi => h i (by omega)); have := h n (by omega); omega
/-- Part of a sum of numbers from 0 on. -/
theorem sm_part {f : Nat → Int} (n k : Nat) (hk : k ≤ n) (h : ∀ i, i < n → 0 ≤ f i) : sm f k ≤ sm f n := by
  induction n with
  | zero => have : k = 0 := by omega
            subst this; exact Int.le_refl _
  | succ n ih =>
    rcases Nat.lt_or_ge k (n + 1) with h1 | h1
    · rw [sm_succ]; have := ih (by omega) (fun i hi => h i (by omega)); have := h n (by omega); omega
    · have : k = n + 1 := by omega
      subst this; exact Int.le_refl _
theorem sm_term {f : Nat → Int} (n k : Nat) (hk : k < n) (h : ∀ i, i < n → 0 ≤ f i) : f k ≤ sm f n := by
  have h1 := sm_part n (k + 1) hk h
  rw [sm_succ] at h1
  have := sm_nonneg (f := f) k (fun i hi => h i (by omega))
  omega
/-- A sum of which one term alone is not 0. -/
theorem sm_one {f : Nat → Int} (n k : Nat) (hk : k < n) (h : ∀ i, i < n → i ≠ k → f i = 0) : sm f n = f k := by
  induction n with
  | zero => omega
  | succ n ih =>
    rw [sm_succ]
    rcases Nat.lt_or_ge k n with h1 | h1
    · rw [ih h1 (fun i hi hne => h i (by omega) hne), h n (by omega) (by omega)]; omega
    · have : k = n := by omega
      subst this
      rw [sm_zero_of k (fun i hi => h i (by omega) (by omega))]; omega
theorem sm_pick (f : Nat → Int) (q n : Nat) : sm (fun p => if p = q then f p else 0) n = if q < n then f q else 0 := by
  by_cases h : q < n
  · rw [if_pos h, sm_one n q h (fun i _ hne => by simp [hne])]; simp
  · rw [if_neg h]; exact sm_zero_of n (fun i hi => by rw [if_neg (by omega)])

/-! ### where a direction leads -/
/-- The place to which way k leads from the cell i of a bay of w columns and h rows. -/
def dst (w h i k : Nat) : Nat :=
  if k = 0 then i
  else if k = 1 then (if i / w = 0 then w * h else i - w)
  else if k = 2 then (if i % w + 1 = w then w * h else i + 1)
  else if k = 3 then (if i / w + 1 = h then w * h else i + w)
  else (if i % w = 0 then w * h else i - 1)
def rightOf (k : Nat) : Int := if k = 2 then 1 else if k = 4 then -1 else 0
def downOf (k : Nat) : Int := if k = 1 then -1 else if k = 3 then 1 else 0

theorem xy (w i : Nat) (hw : 1 ≤ w) : i = i / w * w + i % w ∧ i % w < w := by
  have h1 := Nat.div_add_mod i w
  have h2 := Nat.mod_lt i (show w > 0 by omega)
  rw [Nat.mul_comm] at h1
  exact ⟨h1.symm, h2⟩
theorem row_lt {w h i : Nat} (hi : i < w * h) : i / w < h := Nat.div_lt_of_lt_mul hi
theorem cell_lt {w h x y : Nat} (hx : x < w) (hy : y < h) : y * w + x < w * h := by
  have : (y + 1) * w ≤ h * w := Nat.mul_le_mul_right w hy
  rw [Nat.add_mul, Nat.mul_comm h w] at this
  omega
theorem div_xy {w x y : Nat} (hx : x < w) : (y * w + x) / w = y := by
  rw [Nat.mul_comm, Nat.mul_add_div (by omega), Nat.div_eq_of_lt hx]; omega
theorem mod_xy {w x y : Nat} (hx : x < w) : (y * w + x) % w = x := by
  rw [Nat.mul_comm, Nat.mul_add_mod, Nat.mod_eq_of_lt hx]
theorem dst_le {w h i k : Nat} (hw : 1 ≤ w) (hi : i < w * h) : dst w h i k ≤ w * h := by
  obtain ⟨e, hx⟩ := xy w i hw
  have hy := row_lt hi
  unfold dst
  split
  · omega
  split
  · split <;> omega
  split
  · split <;> omega
  split
  · split
    · omega
    · have := cell_lt (w := w) (h := h) (x := i % w) (y := i / w + 1) hx (by omega)
      rw [Nat.add_mul] at this
      omega
  · split <;> omega

/-! ### what a place gives -/
/-- The sixteenths of cell i that go way k. -/
def sh (S : List Int) (i k : Nat) : Int := el S (i * 5 + k)
/-- Does the oil of a place move no more? -/
def keeps (w h : Nat) (L : List Bool) (p : Nat) : Bool := decide (p = w * h) || bl L p
/-- How many sixteenths of place p place j gets. -/
def G (w h : Nat) (L : List Bool) (S : List Int) (p j : Nat) : Int :=
  if keeps w h L p = true then (if p = j then 16 else 0) else sm (fun k => if dst w h p k = j then sh S p k else 0) 5
/-- The pairs that come, of the first m ways. -/
def gvK (w h : Nat) (S : List Int) (p : Nat) : Nat → List (Nat × Int)
  | 0 => []
  | m + 1 => if 0 < sh S p m then gvK w h S p m ++ [(dst w h p m, sh S p m)] else gvK w h S p m
def gv (w h : Nat) (L : List Bool) (S : List Int) (p : Nat) : List (Nat × Int) := if keeps w h L p = true then [(p, 16)] else gvK w h S p 5
/-- What place j gets of pairs. -/
def gs : List (Nat × Int) → Nat → Int
  | [], _ => 0
  | x :: l, j => (if x.1 = j then x.2 else 0) + gs l j
theorem gs_snoc (l : List (Nat × Int)) (x : Nat × Int) (j : Nat) : gs (l ++ [x]) j = gs l j + (if x.1 = j then x.2 else 0) := by
  induction l with
  | nil => simp [gs]
  | cons y l ih => simp only [List.cons_append, gs, ih]; omega
/-- What pairs cost. -/
def gd (c : List Int) : List (Nat × Int) → Int
  | [] => 0
  | x :: l => el c x.1 * x.2 + gd c l
theorem gd_snoc (c : List Int) (l : List (Nat × Int)) (x : Nat × Int) : gd c (l ++ [x]) = gd c l + el c x.1 * x.2 := by
  induction l with
  | nil => simp [gd]
  | cons y l ih => simp only [List.cons_append, gd, ih]; omega

/-- A bay of w columns and h rows. -/
def Bay (w h : Nat) (L : List Bool) (S : List Int) : Prop :=
  ((1 ≤ w ∧ w ≤ 6) ∧ (1 ≤ h ∧ h ≤ 6)) ∧ (L.length = w * h ∧ S.length = w * h * 5) ∧
    ∀ i, i < w * h → (∀ k, k < 5 → 0 ≤ sh S i k ∧ sh S i k ≤ 16) ∧ sm (fun k => sh S i k) 5 = if bl L i = true then 0 else 16
theorem Bay.cells {w h : Nat} {L : List Bool} {S : List Int} (hB : Bay w h L S) : 1 ≤ w * h ∧ w * h ≤ 36 := by
  obtain ⟨⟨⟨a, b⟩, c, d⟩, _⟩ := hB
  exact ⟨Nat.mul_le_mul a c, Nat.mul_le_mul b d⟩
theorem Bay.land0 {w h : Nat} {L : List Bool} {S : List Int} (hB : Bay w h L S) {i : Nat} (hi : i < w * h) (hl : bl L i = true) (k : Nat) (hk : k < 5) : sh S i k = 0 := by
  obtain ⟨h1, h2⟩ := hB.2.2 i hi
  rw [if_pos hl] at h2
  have := sm_term (f := fun k => sh S i k) 5 k hk (fun j hj => (h1 j hj).1)
  have := (h1 k hk).1
  omega

theorem gvK_succ (w h : Nat) (S : List Int) (p m : Nat) : gvK w h S p (m + 1) = if 0 < sh S p m then gvK w h S p m ++ [(dst w h p m, sh S p m)] else gvK w h S p m := rfl
theorem gs_gvK {w h : Nat} {S : List Int} (p j : Nat) (m : Nat) (h0 : ∀ k, k < m → 0 ≤ sh S p k) : gs (gvK w h S p m) j = sm (fun k => if dst w h p k = j then sh S p k else 0) m := by
  induction m with
  | zero => rfl
  | succ m ih =>
    rw [sm_succ, ← ih (fun k hk => h0 k (by omega)), gvK_succ]
    split
    · rw [gs_snoc]
    · have := h0 m (by omega)
      have e : sh S p m = 0 := by omega
      rw [e]; simp
theorem gs_gv {w h : Nat} {L : List Bool} {S : List Int} (hB : Bay w h L S) (p j : Nat) (hp : p ≤ w * h) : gs (gv w h L S p) j = G w h L S p j := by
  unfold gv G
  cases hk : keeps w h L p with
  | true => simp [gs]
  | false =>
    simp only [Bool.false_eq_true, if_false]
    refine gs_gvK p j 5 (fun k hk5 => ?_)
    have hp' : p < w * h := by
      unfold keeps at hk
      simp at hk
      omega
    exact ((hB.2.2 p hp').1 k hk5).1
theorem keeps_of {w h : Nat} {L : List Bool} {p : Nat} (h0 : keeps w h L p = false) (hp : p ≤ w * h) : p < w * h ∧ bl L p = false := by
  unfold keeps at h0
  simp at h0
  exact ⟨by omega, h0.2⟩
theorem G_nonneg {w h : Nat} {L : List Bool} {S : List Int} (hB : Bay w h L S) (p j : Nat) (hp : p ≤ w * h) : 0 ≤ G w h L S p j := by
  unfold G
  cases hk : keeps w h L p with
  | true => simp only [if_true]; split <;> omega
  | false =>
    simp only [Bool.false_eq_true, if_false]
    refine sm_nonneg 5 (fun k hk5 => ?_)
    split
    · exact ((hB.2.2 p (keeps_of hk hp).1).1 k hk5).1
    · omega
/-- All sixteenths of a place come somewhere. -/
theorem G_sum {w h : Nat} {L : List Bool} {S : List Int} (hB : Bay w h L S) (p : Nat) (hp : p ≤ w * h) : sm (fun j => G w h L S p j) (w * h + 1) = 16 := by
  cases hk : keeps w h L p with
  | true =>
    have e : sm (fun j => G w h L S p j) (w * h + 1) = sm (fun j => if j = p then (16 : Int) else 0) (w * h + 1) := sm_congr _ (fun j _ => by
      unfold G; rw [if_pos hk]
      by_cases e : p = j
      · simp [e]
      · rw [if_neg e, if_neg (fun e' => e e'.symm)])
    rw [e, sm_pick (fun _ => 16), if_pos (by omega)]
  | false =>
    obtain ⟨hp1, hp2⟩ := keeps_of hk hp
    have e : sm (fun j => G w h L S p j) (w * h + 1) = sm (fun j => sm (fun k => if dst w h p k = j then sh S p k else 0) 5) (w * h + 1) := sm_congr _ (fun j _ => by
      unfold G; rw [if_neg (by rw [hk]; simp)])
    rw [e, sm_swap (fun k j => if dst w h p k = j then sh S p k else 0) 5 (w * h + 1)]
    have h2 := (hB.2.2 p hp1).2
    rw [hp2] at h2
    simp only [Bool.false_eq_true, if_false] at h2
    rw [← h2]
    refine sm_congr 5 (fun k _ => ?_)
    have hd := dst_le (k := k) hB.1.1.1 hp1
    have e2 : sm (fun j => if dst w h p k = j then sh S p k else 0) (w * h + 1) = sm (fun j => if j = dst w h p k then sh S p k else 0) (w * h + 1) := sm_congr _ (fun j _ => by
      by_cases e : dst w h p k = j
      · simp [e]
      · rw [if_neg e, if_neg (fun e' => e e'.symm)])
    rw [e2, sm_pick (fun _ => sh S p k), if_pos (by omega)]

/-! ### moves -/
/-- The amounts behind one move. -/
def mvF (w h : Nat) (L : List Bool) (S : List Int) (a : List Int) (j : Nat) : Int := sm (fun p => el a p * G w h L S p j) (w * h + 1)
def mv (w h : Nat) (L : List Bool) (S : List Int) (a : List Int) : List Int := mk (mvF w h L S a) (w * h + 1)
def af (w h : Nat) (L : List Bool) (S : List Int) : Nat → List Int → List Int
  | 0, a => a
  | n + 1, a => mv w h L S (af w h L S n a)
/-- The prices before one move. -/
def prF (w h : Nat) (L : List Bool) (S : List Int) (c : List Int) (p : Nat) : Int := sm (fun j => G w h L S p j * el c j) (w * h + 1)
def pr (w h : Nat) (L : List Bool) (S : List Int) (c : List Int) : List Int := mk (prF w h L S c) (w * h + 1)
def bf (w h : Nat) (L : List Bool) (S : List Int) : Nat → List Int → List Int
  | 0, c => c
  | n + 1, c => pr w h L S (bf w h L S n c)
def tot (a : List Int) : Int := sm (el a) a.length
def NonNeg (a : List Int) : Prop := ∀ i, i < a.length → 0 ≤ el a i
theorem mv_len (w h : Nat) (L : List Bool) (S a : List Int) : (mv w h L S a).length = w * h + 1 := mk_len _ _
theorem pr_len (w h : Nat) (L : List Bool) (S a : List Int) : (pr w h L S a).length = w * h + 1 := mk_len _ _
theorem mv_el {w h : Nat} {L : List Bool} {S a : List Int} {j : Nat} (hj : j ≤ w * h) : el (mv w h L S a) j = mvF w h L S a j := mk_el _ _ _ (by omega)
theorem pr_el {w h : Nat} {L : List Bool} {S a : List Int} {j : Nat} (hj : j ≤ w * h) : el (pr w h L S a) j = prF w h L S a j := mk_el _ _ _ (by omega)
theorem af_len {w h : Nat} {L : List Bool} {S a : List Int} (ha : a.length = w * h + 1) (n : Nat) : (af w h L S n a).length = w * h + 1 := by
  cases n with
  | zero => exact ha
  | succ n => exact mv_len _ _ _ _ _
theorem bf_len {w h : Nat} {L : List Bool} {S a : List Int} (ha : a.length = w * h + 1) (n : Nat) : (bf w h L S n a).length = w * h + 1 := by
  cases n with
  | zero => exact ha
  | succ n => exact pr_len _ _ _ _ _
theorem mv_nonneg {w h : Nat} {L : List Bool} {S a : List Int} (hB : Bay w h L S) (ha : a.length = w * h + 1) (h0 : NonNeg a) : NonNeg (mv w h L S a) := fun i hi => by
  rw [mv_len] at hi
  rw [mv_el (by omega)]
  exact sm_nonneg _ (fun p hp => Int.mul_nonneg (h0 p (by omega)) (G_nonneg hB p i (by omega)))
theorem mv_tot {w h : Nat} {L : List Bool} {S a : List Int} (hB : Bay w h L S) (ha : a.length = w * h + 1) : tot (mv w h L S a) = 16 * tot a := by
  unfold tot
  rw [mv_len, ha]
  have e : sm (el (mv w h L S a)) (w * h + 1) = sm (fun j => sm (fun p => el a p * G w h L S p j) (w * h + 1)) (w * h + 1) := sm_congr _ (fun j hj => mv_el (by omega))
  rw [e, sm_swap (fun p j => el a p * G w h L S p j), ← sm_mul]
  exact sm_congr _ (fun p hp => by rw [sm_mul, G_sum hB p (by omega), Int.mul_comm])
theorem af_nonneg {w h : Nat} {L : List Bool} {S a : List Int} (hB : Bay w h L S) (ha : a.length = w * h + 1) (h0 : NonNeg a) (n : Nat) : NonNeg (af w h L S n a) := by
  induction n with
  | zero => exact h0
  | succ n ih => exact mv_nonneg hB (af_len ha n) ih
theorem af_tot {w h : Nat} {L : List Bool} {S a : List Int} (hB : Bay w h L S) (ha : a.length = w * h + 1) (n : Nat) : tot (af w h L S n a) = 16 ^ n * tot a := by
  induction n with
  | zero => simp [af]
  | succ n ih =>
    show tot (mv w h L S (af w h L S n a)) = _
    rw [mv_tot hB (af_len ha n), ih, Int.pow_succ, Int.mul_left_comm, Int.mul_assoc]
theorem el_le_tot {a : List Int} (h0 : NonNeg a) (i : Nat) (hi : i < a.length) : el a i ≤ tot a := sm_term _ i hi h0
theorem af_add {w h : Nat} {L : List Bool} {S a : List Int} (n m : Nat) : af w h L S (m + n) a = af w h L S m (af w h L S n a) := by
  induction m with
  | zero => simp [af]
  | succ m ih => rw [Nat.add_right_comm]; show mv _ _ _ _ _ = mv _ _ _ _ _; rw [ih]
/-- The cost of amounts by prices. -/
def cst (a c : List Int) (n : Nat) : Int := sm (fun p => el a p * el c p) n
theorem cst_mv {w h : Nat} {L : List Bool} {S a c : List Int} : cst (mv w h L S a) c (w * h + 1) = cst a (pr w h L S c) (w * h + 1) := by
  unfold cst
  have e1 : sm (fun j => el (mv w h L S a) j * el c j) (w * h + 1) = sm (fun j => sm (fun p => el a p * G w h L S p j * el c j) (w * h + 1)) (w * h + 1) :=
    sm_congr _ (fun j hj => by rw [mv_el (by omega)]; exact (sm_mul_right _ _ _).symm)
  have e2 : sm (fun p => el a p * el (pr w h L S c) p) (w * h + 1) = sm (fun p => sm (fun j => el a p * G w h L S p j * el c j) (w * h + 1)) (w * h + 1) :=
    sm_congr _ (fun p hp => by rw [pr_el (by omega)]; show el a p * sm _ _ = _; rw [← sm_mul]; exact sm_congr _ (fun j _ => (Int.mul_assoc _ _ _).symm))
  rw [e1, e2]
  exact sm_swap (fun p j => el a p * G w h L S p j * el c j) _ _
theorem cst_af {w h : Nat} {L : List Bool} {S : List Int} (n : Nat) : ∀ (a c : List Int), cst (af w h L S n a) c (w * h + 1) = cst a (bf w h L S n c) (w * h + 1) := by
  induction n with
  | zero => intro a c; rfl
  | succ n ih =>
    intro a c
    show cst (mv w h L S (af w h L S n a)) c _ = _
    rw [cst_mv, ih]
    congr 1
    clear ih
    induction n with
    | zero => rfl
    | succ n ih => show pr w h L S (bf w h L S n (pr w h L S c)) = _; rw [ih]; rfl

end M
end Go.Proofs.YtnbgjgiknfcdkaaDoor
