/-
  Plain mathematics of mirrored bays: the mirrored amounts move in the mirrored bay as the amounts in the bay.
-/
import Derived.Test.YtnbgjgiknfcdkaaDoorMath
namespace Go.Proofs.YtnbgjgiknfcdkaaDoor
namespace M

/-- A cell mirrored left to right. -/
def mi (w i : Nat) : Nat := i / w * w + (w - 1 - i % w)
/-- A place mirrored: what is away stays. -/
def mp (w n p : Nat) : Nat := if p < n then mi w p else p
/-- A way mirrored. -/
def sw (k : Nat) : Nat := if k = 2 then 4 else if k = 4 then 2 else k
theorem sw_lt {k : Nat} (hk : k < 5) : sw k < 5 := by unfold sw; split; omega; split <;> omega
theorem sw_sw {k : Nat} : sw (sw k) = k := by
  unfold sw
  by_cases h2 : k = 2
  · subst h2; rfl
  by_cases h4 : k = 4
  · subst h4; rfl
  · simp [h2, h4]
theorem mi_parts {w i : Nat} (hw : 1 ≤ w) : mi w i / w = i / w ∧ mi w i % w = w - 1 - i % w := by
  obtain ⟨_, hx⟩ := xy w i hw
  unfold mi
  exact ⟨div_xy (by omega), mod_xy (by omega)⟩
theorem mi_mi {w i : Nat} (hw : 1 ≤ w) : mi w (mi w i) = i := by
  obtain ⟨h1, h2⟩ := mi_parts (i := i) hw
  obtain ⟨e, hx⟩ := xy w i hw
  have h3 : mi w (mi w i) = mi w i / w * w + (w - 1 - mi w i % w) := rfl
  rw [h3, h1, h2]
  omega
theorem mi_lt {w h i : Nat} (hw : 1 ≤ w) (hi : i < w * h) : mi w i < w * h := by
  obtain ⟨_, hx⟩ := xy w i hw
  unfold mi
  exact cell_lt (by omega) (row_lt hi)
theorem mp_mp {w h p : Nat} (hw : 1 ≤ w) : mp w (w * h) (mp w (w * h) p) = p := by
  unfold mp
  by_cases hp : p < w * h
  · rw [if_pos hp, if_pos (mi_lt hw hp), mi_mi hw]
  · rw [if_neg hp, if_neg hp]
theorem mp_lt {w h p : Nat} (hw : 1 ≤ w) (hp : p < w * h + 1) : mp w (w * h) p < w * h + 1 := by
  unfold mp
  split
  · have := mi_lt hw ‹_›; omega
  · exact hp
/-- A sum told in another order. -/
theorem sm_inv (f : Nat → Int) (σ : Nat → Nat) (n : Nat) (h1 : ∀ p, p < n → σ p < n) (h2 : ∀ p, σ (σ p) = p) : sm (fun p => f (σ p)) n = sm f n := by
  have e1 : sm (fun p => f (σ p)) n = sm (fun p => sm (fun q => if q = σ p then f q else 0) n) n := sm_congr n (fun p hp => by rw [sm_pick, if_pos (h1 p hp)])
  have e2 : sm f n = sm (fun q => sm (fun p => if q = σ p then f q else 0) n) n := sm_congr n (fun q hq => by
    have e3 : sm (fun p => if q = σ p then f q else 0) n = sm (fun p => if p = σ q then f q else 0) n := sm_congr n (fun p _ => by
      by_cases e : q = σ p
      · subst e; simp [h2]
      · rw [if_neg e, if_neg (fun e' => e (by rw [e', h2]))])
    rw [e3, sm_pick (fun _ => f q), if_pos (h1 q hq)])
  rw [e1, e2]
  exact sm_swap (fun q p => if q = σ p then f q else 0) n n

/-- The lists of a mirrored bay. -/
def mL (w n : Nat) (L : List Bool) : List Bool := mkB (fun i => bl L (mi w i)) n
def mS (w n : Nat) (S : List Int) : List Int := mk (fun j => sh S (mi w (j / 5)) (sw (j % 5))) (n * 5)
def mO (w n : Nat) (O : List Int) : List Int := mk (fun i => el O (mi w i)) n
theorem mL_len (w n : Nat) (L : List Bool) : (mL w n L).length = n := mkB_len _ _
theorem mS_len (w n : Nat) (S : List Int) : (mS w n S).length = n * 5 := mk_len _ _
theorem mO_len (w n : Nat) (S : List Int) : (mO w n S).length = n := mk_len _ _
theorem mL_bl {w n i : Nat} {L : List Bool} (h : i < n) : bl (mL w n L) i = bl L (mi w i) := mkB_bl _ _ _ h
theorem mO_el {w n i : Nat} {O : List Int} (h : i < n) : el (mO w n O) i = el O (mi w i) := mk_el _ _ _ h
theorem mS_sh {w n i k : Nat} {S : List Int} (h : i < n) (hk : k < 5) : sh (mS w n S) i k = sh S (mi w i) (sw k) := by
  unfold sh mS
  rw [mk_el _ _ _ (by omega)]
  have e1 : (i * 5 + k) / 5 = i := by omega
  have e2 : (i * 5 + k) % 5 = k := by omega
  rw [e1, e2]; rfl
theorem mL_mL {w h : Nat} {L : List Bool} (hw : 1 ≤ w) (hl : L.length = w * h) : mL w (w * h) (mL w (w * h) L) = L :=
  bools_ext (by rw [mL_len, hl]) (fun i hi => by rw [mL_len] at hi; rw [mL_bl hi, mL_bl (mi_lt hw hi), mi_mi hw])
theorem mO_mO {w h : Nat} {O : List Int} (hw : 1 ≤ w) (hl : O.length = w * h) : mO w (w * h) (mO w (w * h) O) = O :=
  ints_ext (by rw [mO_len, hl]) (fun i hi => by rw [mO_len] at hi; rw [mO_el hi, mO_el (mi_lt hw hi), mi_mi hw])
theorem mS_mS {w h : Nat} {S : List Int} (hw : 1 ≤ w) (hl : S.length = w * h * 5) : mS w (w * h) (mS w (w * h) S) = S :=
  ints_ext (by rw [mS_len, hl]) (fun j hj => by
    rw [mS_len] at hj
    have e : j = j / 5 * 5 + j % 5 := by omega
    have e1 : el (mS w (w * h) (mS w (w * h) S)) j = sh (mS w (w * h) (mS w (w * h) S)) (j / 5) (j % 5) := by unfold sh; rw [← e]
    have e2 : el S j = sh S (j / 5) (j % 5) := by unfold sh; rw [← e]
    rw [e1, e2, mS_sh (by omega) (by omega), mS_sh (mi_lt hw (by omega)) (sw_lt (by omega)), mi_mi hw, sw_sw])
theorem sm_sw (f : Nat → Int) : sm (fun k => f (sw k)) 5 = sm f 5 := by
  show ((((0 + f 0) + f 1) + f 4) + f 3) + f 2 = ((((0 + f 0) + f 1) + f 2) + f 3) + f 4
  omega
theorem Bay.mirror {w h : Nat} {L : List Bool} {S : List Int} (hB : Bay w h L S) : Bay w h (mL w (w * h) L) (mS w (w * h) S) := by
  have hw := hB.1.1.1
  refine ⟨hB.1, ⟨mL_len _ _ _, mS_len _ _ _⟩, fun i hi => ?_⟩
  obtain ⟨h1, h2⟩ := hB.2.2 (mi w i) (mi_lt hw hi)
  refine ⟨fun k hk => by rw [mS_sh hi hk]; exact h1 _ (sw_lt hk), ?_⟩
  rw [mL_bl hi, ← h2, ← sm_sw (fun k => sh S (mi w i) k)]
  exact sm_congr 5 (fun k hk => mS_sh hi hk)
/-- Where a way leads, by column and row. -/
def dxy (w h x y k : Nat) : Nat :=
  if k = 0 then y * w + x
  else if k = 1 then (if y = 0 then w * h else (y - 1) * w + x)
  else if k = 2 then (if x + 1 = w then w * h else y * w + (x + 1))
  else if k = 3 then (if y + 1 = h then w * h else (y + 1) * w + x)
  else (if x = 0 then w * h else y * w + (x - 1))
theorem dst_xy {w h x y k : Nat} (hx : x < w) : dst w h (y * w + x) k = dxy w h x y k := by
  unfold dst dxy
  rw [div_xy hx, mod_xy hx]
  have e2 : y ≠ 0 → (y - 1) * w = y * w - w ∧ w ≤ y * w := fun h0 => by
    rw [Nat.sub_mul, Nat.one_mul]
    exact ⟨rfl, Nat.le_mul_of_pos_left w (by omega)⟩
  have e3 : (y + 1) * w = y * w + w := by rw [Nat.add_mul, Nat.one_mul]
  rw [e3]
  generalize y * w = q at *
  generalize (y - 1) * w = r at *
  generalize w * h = n at *
  split
  · rfl
  split
  · split
    · rfl
    · have := e2 ‹_›; omega
  split
  · split <;> omega
  split
  · split <;> omega
  · split <;> omega
theorem dst_mi {w h i k : Nat} (hw : 1 ≤ w) (hi : i < w * h) (hk : k < 5) : dst w h (mi w i) (sw k) = mp w (w * h) (dst w h i k) := by
  obtain ⟨e, hx⟩ := xy w i hw
  have hy := row_lt hi
  have hm : mi w i = i / w * w + (w - 1 - i % w) := rfl
  rw [hm]
  generalize i / w = y at *
  generalize i % w = x at *
  subst e
  rw [dst_xy (by omega), dst_xy hx]
  have hN : mp w (w * h) (w * h) = w * h := by unfold mp; rw [if_neg (by omega)]
  have hlt : ∀ x y, x < w → y < h → mp w (w * h) (y * w + x) = y * w + (w - 1 - x) := fun x y hx hy => by
    unfold mp; rw [if_pos (cell_lt hx hy)]; unfold mi; rw [div_xy hx, mod_xy hx]
  have hk' : k = 0 ∨ k = 1 ∨ k = 2 ∨ k = 3 ∨ k = 4 := by omega
  rcases hk' with rfl | rfl | rfl | rfl | rfl
  · show y * w + (w - 1 - x) = mp w (w * h) (y * w + x)
    rw [hlt x y hx hy]
  · show (if y = 0 then w * h else (y - 1) * w + (w - 1 - x)) = mp w (w * h) (if y = 0 then w * h else (y - 1) * w + x)
    split
    · exact hN.symm
    · rw [hlt x (y - 1) hx (by omega)]
  · show (if w - 1 - x = 0 then w * h else y * w + (w - 1 - x - 1)) = mp w (w * h) (if x + 1 = w then w * h else y * w + (x + 1))
    by_cases e5 : x + 1 = w
    · rw [if_pos e5, if_pos (by omega), hN]
    · rw [if_neg e5, if_neg (by omega), hlt (x + 1) y (by omega) hy]
      congr 1
  · show (if y + 1 = h then w * h else (y + 1) * w + (w - 1 - x)) = mp w (w * h) (if y + 1 = h then w * h else (y + 1) * w + x)
    split
    · exact hN.symm
    · rw [hlt x (y + 1) hx (by omega)]
  · show (if w - 1 - x + 1 = w then w * h else y * w + (w - 1 - x + 1)) = mp w (w * h) (if x = 0 then w * h else y * w + (x - 1))
    by_cases e5 : x = 0
    · rw [if_pos e5, if_pos (by omega), hN]
    · rw [if_neg e5, if_neg (by omega), hlt (x - 1) y (by omega) hy]
      congr 1
      omega
theorem mp_keeps {w h p : Nat} {L : List Bool} (hw : 1 ≤ w) (hp : p ≤ w * h) : keeps w h (mL w (w * h) L) p = keeps w h L (mp w (w * h) p) := by
  unfold keeps mp
  by_cases e : p < w * h
  · have h1 := mi_lt hw e
    rw [if_pos e, mL_bl e, decide_eq_false (by omega), decide_eq_false (by omega)]
  · have e2 : p = w * h := by omega
    rw [if_neg e, decide_eq_true e2]
    rfl
theorem G_mirror {w h p j : Nat} {L : List Bool} {S : List Int} (hw : 1 ≤ w) (hp : p ≤ w * h) : G w h (mL w (w * h) L) (mS w (w * h) S) p j = G w h L S (mp w (w * h) p) (mp w (w * h) j) := by
  have inj : ∀ a b : Nat, mp w (w * h) a = mp w (w * h) b ↔ a = b := fun a b => ⟨fun e => by rw [← mp_mp (w := w) (h := h) (p := a) hw, e, mp_mp hw], fun e => by rw [e]⟩
  unfold G
  rw [mp_keeps hw hp]
  cases hk : keeps w h L (mp w (w * h) p) with
  | true =>
    simp only [if_true]
    by_cases e : p = j
    · rw [if_pos e, if_pos ((inj _ _).2 e)]
    · rw [if_neg e, if_neg (fun e' => e ((inj _ _).1 e'))]
  | false =>
    simp only [Bool.false_eq_true, if_false]
    have hp1 : p < w * h := by
      have := keeps_of hk (by have := mp_lt (w := w) (h := h) (p := p) hw (by omega); omega)
      unfold mp at this
      by_cases e : p < w * h
      · exact e
      · rw [if_neg e] at this; exact this.1
    have e0 : mp w (w * h) p = mi w p := by unfold mp; rw [if_pos hp1]
    rw [← sm_sw (fun k => if dst w h (mp w (w * h) p) k = mp w (w * h) j then sh S (mp w (w * h) p) k else 0), e0]
    refine sm_congr 5 (fun k hk5 => ?_)
    rw [mS_sh hp1 hk5, dst_mi hw hp1 hk5]
    by_cases e : dst w h p k = j
    · rw [if_pos e, if_pos ((inj _ _).2 e)]
    · rw [if_neg e, if_neg (fun e' => e ((inj _ _).1 e'))]
/-- Amounts mirrored: what is away stays. -/
def mA (w n : Nat) (a : List Int) : List Int := mk (fun p => el a (mp w n p)) (n + 1)
theorem mA_len (w n : Nat) (a : List Int) : (mA w n a).length = n + 1 := mk_len _ _
theorem mA_el {w n p : Nat} {a : List Int} (h : p ≤ n) : el (mA w n a) p = el a (mp w n p) := mk_el _ _ _ (by omega)
theorem mv_mirror {w h : Nat} {L : List Bool} {S a : List Int} (hw : 1 ≤ w) : mv w h (mL w (w * h) L) (mS w (w * h) S) (mA w (w * h) a) = mA w (w * h) (mv w h L S a) := by
  refine ints_ext (by rw [mv_len, mA_len]) (fun j hj => ?_)
  rw [mv_len] at hj
  have hj2 := mp_lt (w := w) (h := h) (p := j) hw hj
  rw [mv_el (by omega), mA_el (by omega), mv_el (by omega)]
  unfold mvF
  rw [← sm_inv (fun p => el a p * G w h L S p (mp w (w * h) j)) (mp w (w * h)) (w * h + 1) (fun p hp => mp_lt hw hp) (fun p => mp_mp hw)]
  refine sm_congr _ (fun p hp => ?_)
  rw [mA_el (by omega), G_mirror hw (by omega)]
theorem af_mirror {w h : Nat} {L : List Bool} {S a : List Int} (hw : 1 ≤ w) (n : Nat) : af w h (mL w (w * h) L) (mS w (w * h) S) n (mA w (w * h) a) = mA w (w * h) (af w h L S n a) := by
  induction n with
  | zero => rfl
  | succ n ih => show mv _ _ _ _ (af _ _ _ _ n _) = _; rw [ih, mv_mirror hw]; rfl
theorem tot_mirror {w h : Nat} {a : List Int} (hw : 1 ≤ w) (ha : a.length = w * h + 1) : tot (mA w (w * h) a) = tot a := by
  unfold tot
  rw [mA_len, ha, ← sm_inv (el a) (mp w (w * h)) (w * h + 1) (fun p hp => mp_lt hw hp) (fun p => mp_mp hw)]
  exact sm_congr _ (fun p hp => mA_el (by omega))
end M
end Go.Proofs.YtnbgjgiknfcdkaaDoor
