/-
  Plain mathematics of one move: what comes to a cell from itself and from its neighbours is what all places give to it.
-/
import Derived.Test.YtnbgjgiknfcdkaaDoorMm
namespace Go.Proofs.YtnbgjgiknfcdkaaDoor
namespace M

/-- The sixteenths of the cell (x, y) that go way k, and the cell; 0 and 0 if there is none. -/
def shP (w h : Nat) (S : List Int) (x y : Int) (k : Nat) : Int × Int :=
  if x < 0 ∨ (w : Int) ≤ x ∨ y < 0 ∨ (h : Int) ≤ y then (0, 0) else (sh S (y * w + x).toNat k, y * w + x)
/-- What comes from there. -/
def tm (w h : Nat) (S O : List Int) (x y : Int) (k : Nat) : Int := (shP w h S x y k).1 * el O (shP w h S x y k).2.toNat
/-- All that comes to the cell (x, y). -/
def pull (w h : Nat) (L : List Bool) (S O : List Int) (x y : Nat) : Int :=
  (if bl L (y * w + x) = true then 16 * el O (y * w + x) else 0) + (shP w h S x y 0).1 * el O (y * w + x) + tm w h S O x (y + 1) 1 + tm w h S O (x - 1) y 2 + tm w h S O x (y - 1) 3 + tm w h S O (x + 1) y 4

theorem shP_in {w h : Nat} {S : List Int} {x y k : Nat} (hx : x < w) (hy : y < h) : shP w h S x y k = (sh S (y * w + x) k, ((y * w + x : Nat) : Int)) := by
  unfold shP
  rw [if_neg (by omega)]
  have e : (y : Int) * w + x = ((y * w + x : Nat) : Int) := by simp
  rw [e, Int.toNat_natCast]
/-- A sum over the places from which way k leads to one cell. -/
theorem sm_src {w h x y k : Nat} (f : Nat → Int) (hw : 1 ≤ w) (hx : x < w) (hy : y < h) (hk : k < 5) :
    sm (fun p => if dst w h p k = y * w + x then f p else 0) (w * h) =
      if k = 0 then f (y * w + x)
      else if k = 1 then (if y + 1 < h then f ((y + 1) * w + x) else 0)
      else if k = 2 then (if 0 < x then f (y * w + (x - 1)) else 0)
      else if k = 3 then (if 0 < y then f ((y - 1) * w + x) else 0)
      else (if x + 1 < w then f (y * w + (x + 1)) else 0) := by
  have out : ∀ p, p < w * h → dst w h p k = y * w + x → ∃ x' y', x' < w ∧ y' < h ∧ p = y' * w + x' ∧ dxy w h x' y' k = y * w + x := fun p hp hd => by
    obtain ⟨e, hx'⟩ := xy w p hw
    have hy' := row_lt hp
    exact ⟨p % w, p / w, hx', hy', e, by rw [← dst_xy hx', ← e]; exact hd⟩
  have inj : ∀ a b c d : Nat, a < w → c < w → b * w + a = d * w + c → a = c ∧ b = d := fun a b c d ha hc e => by
    have h1 := congrArg (· % w) e
    have h2 := congrArg (· / w) e
    simp only [mod_xy ha, mod_xy hc, div_xy ha, div_xy hc] at h1 h2
    exact ⟨h1, h2⟩
  have hlt := cell_lt hx hy
  have one : ∀ x1 y1, x1 < w → y1 < h → dxy w h x1 y1 k = y * w + x → (∀ x' y', x' < w → y' < h → dxy w h x' y' k = y * w + x → x' = x1 ∧ y' = y1) → sm (fun p => if dst w h p k = y * w + x then f p else 0) (w * h) = f (y1 * w + x1) := fun x1 y1 h1 h2 h3 h4 => by
    rw [sm_one (w * h) (y1 * w + x1) (cell_lt h1 h2) (fun p hp hne => by
      by_cases e : dst w h p k = y * w + x
      · obtain ⟨x', y', a, b, c, d⟩ := out p hp e
        obtain ⟨rfl, rfl⟩ := h4 x' y' a b d
        exact absurd c hne
      · rw [if_neg e]), dst_xy h1, if_pos h3]
  have none : (∀ x' y', x' < w → y' < h → dxy w h x' y' k ≠ y * w + x) → sm (fun p => if dst w h p k = y * w + x then f p else 0) (w * h) = 0 := fun h4 =>
    sm_zero_of _ (fun p hp => by
      by_cases e : dst w h p k = y * w + x
      · obtain ⟨x', y', a, b, c, d⟩ := out p hp e
        exact absurd d (h4 x' y' a b)
      · rw [if_neg e])
  have hk' : k = 0 ∨ k = 1 ∨ k = 2 ∨ k = 3 ∨ k = 4 := by omega
  rcases hk' with rfl | rfl | rfl | rfl | rfl
  · rw [if_pos rfl]
    exact one x y hx hy rfl (fun x' y' a b d => inj _ _ _ _ a hx d)
  · show _ = if y + 1 < h then f ((y + 1) * w + x) else 0
    by_cases e : y + 1 < h
    · rw [if_pos e]
      refine one x (y + 1) hx e (by show (if y + 1 = 0 then w * h else (y + 1 - 1) * w + x) = _; simp) (fun x' y' a b d => ?_)
      have d' : (if y' = 0 then w * h else (y' - 1) * w + x') = y * w + x := d
      split at d'
      · omega
      · have := inj _ _ _ _ a hx d'; omega
    · rw [if_neg e]
      refine none (fun x' y' a b d => ?_)
      have d' : (if y' = 0 then w * h else (y' - 1) * w + x') = y * w + x := d
      split at d'
      · omega
      · have := inj _ _ _ _ a hx d'; omega
  · show _ = if 0 < x then f (y * w + (x - 1)) else 0
    by_cases e : 0 < x
    · rw [if_pos e]
      refine one (x - 1) y (by omega) hy (by show (if x - 1 + 1 = w then w * h else y * w + (x - 1 + 1)) = _; rw [if_neg (by omega)]; congr 1; omega) (fun x' y' a b d => ?_)
      have d' : (if x' + 1 = w then w * h else y' * w + (x' + 1)) = y * w + x := d
      split at d'
      · omega
      · have := inj _ _ _ _ (by omega) hx d'; omega
    · rw [if_neg e]
      refine none (fun x' y' a b d => ?_)
      have d' : (if x' + 1 = w then w * h else y' * w + (x' + 1)) = y * w + x := d
      split at d'
      · omega
      · have := inj _ _ _ _ (by omega) hx d'; omega
  · show _ = if 0 < y then f ((y - 1) * w + x) else 0
    by_cases e : 0 < y
    · rw [if_pos e]
      refine one x (y - 1) hx (by omega) (by show (if y - 1 + 1 = h then w * h else (y - 1 + 1) * w + x) = _; rw [if_neg (by omega)]; congr 2; omega) (fun x' y' a b d => ?_)
      have d' : (if y' + 1 = h then w * h else (y' + 1) * w + x') = y * w + x := d
      split at d'
      · omega
      · have := inj _ _ _ _ a hx d'; omega
    · rw [if_neg e]
      refine none (fun x' y' a b d => ?_)
      have d' : (if y' + 1 = h then w * h else (y' + 1) * w + x') = y * w + x := d
      split at d'
      · omega
      · have := inj _ _ _ _ a hx d'; omega
  · show _ = if x + 1 < w then f (y * w + (x + 1)) else 0
    by_cases e : x + 1 < w
    · rw [if_pos e]
      refine one (x + 1) y e hy (by show (if x + 1 = 0 then w * h else y * w + (x + 1 - 1)) = _; simp) (fun x' y' a b d => ?_)
      have d' : (if x' = 0 then w * h else y' * w + (x' - 1)) = y * w + x := d
      split at d'
      · omega
      · have := inj _ _ _ _ (by omega) hx d'; omega
    · rw [if_neg e]
      refine none (fun x' y' a b d => ?_)
      have d' : (if x' = 0 then w * h else y' * w + (x' - 1)) = y * w + x := d
      split at d'
      · omega
      · have := inj _ _ _ _ (by omega) hx d'; omega

theorem G_split {w h p j : Nat} {L : List Bool} {S : List Int} (hB : Bay w h L S) (hp : p < w * h) : G w h L S p j = (if p = j then (if bl L p = true then 16 else 0) else 0) + sm (fun k => if dst w h p k = j then sh S p k else 0) 5 := by
  unfold G
  cases hl : bl L p with
  | true =>
    have hk : keeps w h L p = true := by unfold keeps; simp [hl]
    have e0 : sm (fun k => if dst w h p k = j then sh S p k else 0) 5 = 0 := sm_zero_of 5 (fun k hk5 => by rw [hB.land0 hp hl k hk5]; simp)
    rw [hk, e0]
    simp
  | false =>
    have hk : keeps w h L p = false := by unfold keeps; rw [hl]; simp; omega
    rw [hk]
    simp
theorem pull_mv {w h : Nat} {L : List Bool} {S : List Int} {O : List Int} {aw : Int} {x y : Nat} (hB : Bay w h L S) (hO : O.length = w * h) (hx : x < w) (hy : y < h) :
    pull w h L S O x y = mvF w h L S (O ++ [aw]) (y * w + x) := by
  have hw := hB.1.1.1
  have hi := cell_lt hx hy
  have hel : ∀ p, p < w * h → el (O ++ [aw]) p = el O p := fun p hp => by
    have : p < O.length := by omega
    simp [el, List.getD, List.getElem?_append, this]
  unfold mvF
  rw [sm_succ]
  have e1 : G w h L S (w * h) (y * w + x) = 0 := by
    unfold G keeps
    simp
    omega
  rw [e1, Int.mul_zero, Int.add_zero]
  have e2 : sm (fun p => el (O ++ [aw]) p * G w h L S p (y * w + x)) (w * h) =
      sm (fun p => (if p = y * w + x then (if bl L p = true then 16 * el O p else 0) else 0) + sm (fun k => if dst w h p k = y * w + x then el O p * sh S p k else 0) 5) (w * h) := sm_congr _ (fun p hp => by
    rw [hel p hp, G_split hB hp, Int.mul_add]
    congr 1
    · by_cases e : p = y * w + x
      · rw [if_pos e, if_pos e]
        cases bl L p <;> simp [Int.mul_comm]
      · rw [if_neg e, if_neg e, Int.mul_zero]
    · rw [← sm_mul]
      refine sm_congr 5 (fun k hk => ?_)
      by_cases e : dst w h p k = y * w + x
      · rw [if_pos e, if_pos e]
      · rw [if_neg e, if_neg e, Int.mul_zero])
  rw [e2, sm_add, sm_pick (fun p => if bl L p = true then 16 * el O p else 0), if_pos hi, sm_swap (fun k p => if dst w h p k = y * w + x then el O p * sh S p k else 0) 5 (w * h)]
  have e3 : sm (fun k => sm (fun p => if dst w h p k = y * w + x then el O p * sh S p k else 0) (w * h)) 5 =
      (shP w h S x y 0).1 * el O (y * w + x) + tm w h S O x (y + 1) 1 + tm w h S O (x - 1) y 2 + tm w h S O x (y - 1) 3 + tm w h S O (x + 1) y 4 := by
    show ((((0 + _) + _) + _) + _) + _ = _
    dsimp only
    rw [sm_src (k := 0) (fun p => el O p * sh S p 0) hw hx hy (by omega), sm_src (k := 1) (fun p => el O p * sh S p 1) hw hx hy (by omega), sm_src (k := 2) (fun p => el O p * sh S p 2) hw hx hy (by omega), sm_src (k := 3) (fun p => el O p * sh S p 3) hw hx hy (by omega), sm_src (k := 4) (fun p => el O p * sh S p 4) hw hx hy (by omega)]
    have t0 : (shP w h S x y 0).1 * el O (y * w + x) = el O (y * w + x) * sh S (y * w + x) 0 := by rw [shP_in hx hy]; exact Int.mul_comm _ _
    have t1 : tm w h S O x (y + 1) 1 = if y + 1 < h then el O ((y + 1) * w + x) * sh S ((y + 1) * w + x) 1 else 0 := by
      by_cases e : y + 1 < h
      · have := shP_in (S := S) (k := 1) hx e
        unfold tm
        rw [if_pos e, show ((y : Int) + 1) = ((y + 1 : Nat) : Int) by omega, this, Int.toNat_natCast]
        exact Int.mul_comm _ _
      · unfold tm shP
        rw [if_neg e, if_pos (by omega), Int.zero_mul]
    have t2 : tm w h S O ((x : Int) - 1) y 2 = if 0 < x then el O (y * w + (x - 1)) * sh S (y * w + (x - 1)) 2 else 0 := by
      by_cases e : 0 < x
      · have := shP_in (S := S) (k := 2) (show x - 1 < w by omega) hy
        unfold tm
        rw [if_pos e, show ((x : Int) - 1) = ((x - 1 : Nat) : Int) by omega, this, Int.toNat_natCast]
        exact Int.mul_comm _ _
      · unfold tm shP
        rw [if_neg e, if_pos (by omega), Int.zero_mul]
    have t3 : tm w h S O x ((y : Int) - 1) 3 = if 0 < y then el O ((y - 1) * w + x) * sh S ((y - 1) * w + x) 3 else 0 := by
      by_cases e : 0 < y
      · have := shP_in (S := S) (k := 3) hx (show y - 1 < h by omega)
        unfold tm
        rw [if_pos e, show ((y : Int) - 1) = ((y - 1 : Nat) : Int) by omega, this, Int.toNat_natCast]
        exact Int.mul_comm _ _
      · unfold tm shP
        rw [if_neg e, if_pos (by omega), Int.zero_mul]
    have t4 : tm w h S O ((x : Int) + 1) y 4 = if x + 1 < w then el O (y * w + (x + 1)) * sh S (y * w + (x + 1)) 4 else 0 := by
      by_cases e : x + 1 < w
      · have := shP_in (S := S) (k := 4) e hy
        unfold tm
        rw [if_pos e, show ((x : Int) + 1) = ((x + 1 : Nat) : Int) by omega, this, Int.toNat_natCast]
        exact Int.mul_comm _ _
      · unfold tm shP
        rw [if_neg e, if_pos (by omega), Int.zero_mul]
    rw [t0, t1, t2, t3, t4]
    simp only [if_true, Nat.one_ne_zero, if_false, show (2 : Nat) ≠ 0 by decide, show (2 : Nat) ≠ 1 by decide, show (3 : Nat) ≠ 0 by decide, show (3 : Nat) ≠ 1 by decide, show (3 : Nat) ≠ 2 by decide, show (4 : Nat) ≠ 0 by decide, show (4 : Nat) ≠ 1 by decide, show (4 : Nat) ≠ 2 by decide, show (4 : Nat) ≠ 3 by decide]
    omega
  rw [e3]
  unfold pull
  omega
/-- What is in no cell any more goes out. -/
theorem away_mv {w h : Nat} {L : List Bool} {S : List Int} {O : List Int} {aw : Int} (hB : Bay w h L S) (hO : O.length = w * h) :
    16 * aw + sm (fun i => 16 * el O i - mvF w h L S (O ++ [aw]) i) (w * h) = mvF w h L S (O ++ [aw]) (w * h) := by
  have ha : (O ++ [aw]).length = w * h + 1 := by simp [hO]
  have ht := mv_tot (a := O ++ [aw]) hB ha
  unfold tot at ht
  rw [mv_len, ha] at ht
  have e1 : sm (el (mv w h L S (O ++ [aw]))) (w * h + 1) = sm (fun i => mvF w h L S (O ++ [aw]) i) (w * h) + mvF w h L S (O ++ [aw]) (w * h) := by
    rw [sm_succ, mv_el (by omega)]
    congr 1
    exact sm_congr _ (fun i hi => mv_el (by omega))
  have hel : ∀ p, p < w * h → el (O ++ [aw]) p = el O p := fun p hp => by
    have : p < O.length := by omega
    simp [el, List.getD, List.getElem?_append, this]
  have e2 : sm (el (O ++ [aw])) (w * h + 1) = sm (fun i => el O i) (w * h) + aw := by
    rw [sm_succ]
    congr 1
    · exact sm_congr _ (fun i hi => hel i hi)
    · rw [← hO]; simp [el, List.getD]
  rw [e1, e2] at ht
  rw [sm_sub, sm_mul]
  have ht' : sm (mvF w h L S (O ++ [aw])) (w * h) + mvF w h L S (O ++ [aw]) (w * h) = 16 * (sm (el O) (w * h) + aw) := ht
  clear ht e1 e2
  omega
end M
end Go.Proofs.YtnbgjgiknfcdkaaDoor
