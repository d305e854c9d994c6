/-
  How many hours are open: of not, both and one of two; over several periods; of both, where the periods have no common divisor.
-/
import Derived.Test.YtlnpnfjdcnijhaaBi
namespace Go.Proofs.Ytlnpnfjdcnijhaa
set_option linter.unusedVariables false
set_option linter.unusedSimpArgs false
namespace M

/-- Sums. -/
def Sm : Nat → (Nat → Nat) → Nat
  | 0, _ => 0
  | n + 1, F => Sm n F + F n
theorem sm_succ (n : Nat) (F : Nat → Nat) : Sm (n + 1) F = Sm n F + F n := rfl
theorem sm_congr {n : Nat} {F G : Nat → Nat} (h : ∀ i, i < n → F i = G i) : Sm n F = Sm n G := by
  induction n with
  | zero => rfl
  | succ n ih => rw [sm_succ, sm_succ, ih fun i hi => h i (by omega), h n (by omega)]
theorem sm_add (n : Nat) (F G : Nat → Nat) : Sm n (fun i => F i + G i) = Sm n F + Sm n G := by
  induction n with
  | zero => rfl
  | succ n ih => rw [sm_succ, sm_succ, sm_succ, ih]; omega
theorem sm_mul (n c : Nat) (F : Nat → Nat) : Sm n (fun i => c * F i) = c * Sm n F := by
  induction n with
  | zero => rfl
  | succ n ih => rw [sm_succ, sm_succ, ih, Nat.mul_add]
theorem sm_const (n c : Nat) : Sm n (fun _ => c) = n * c := by
  induction n with
  | zero => simp [Sm]
  | succ n ih => rw [sm_succ, ih, Nat.succ_mul]
theorem sm_swap (n m : Nat) (F : Nat → Nat → Nat) : Sm n (fun i => Sm m (F i)) = Sm m (fun j => Sm n (fun i => F i j)) := by
  induction n with
  | zero => exact (by rw [show (fun j => Sm 0 (fun i => F i j)) = fun _ => 0 from rfl, sm_const]; simp [Sm])
  | succ n ih =>
    rw [sm_succ, ih]
    show _ = Sm m (fun j => Sm n (fun i => F i j) + F n j)
    rw [sm_add]
theorem sm_split (a b : Nat) (F : Nat → Nat) : Sm (a + b) F = Sm a F + Sm b (fun j => F (a + j)) := by
  induction b with
  | zero => simp [Sm]
  | succ b ih => rw [← Nat.add_assoc, sm_succ, sm_succ, ih, Nat.add_assoc]
theorem sm_block (t p : Nat) (F : Nat → Nat) : Sm (t * p) F = Sm t (fun u => Sm p (fun i => F (u * p + i))) := by
  induction t with
  | zero => simp [Sm]
  | succ t ih => rw [Nat.succ_mul, sm_split, ih, sm_succ]
theorem sm_zero {n : Nat} {F : Nat → Nat} (h : ∀ i, i < n → F i = 0) : Sm n F = 0 := by
  rw [sm_congr (G := fun _ => 0) h, sm_const]; simp
theorem sm_ind {n r : Nat} (hr : r < n) (v : Nat) : Sm n (fun s => if r = s then v else 0) = v := by
  induction n with
  | zero => omega
  | succ n ih =>
    rw [sm_succ]
    by_cases e : r = n
    · subst e
      rw [sm_zero (fun i hi => by rw [if_neg (by omega)]), if_pos rfl]; omega
    · rw [ih (by omega), if_neg e]; rfl
theorem sm_ge {n : Nat} {c : Nat → Nat} (h : ∀ i, i < n → 1 ≤ c i) : n ≤ Sm n c := by
  induction n with
  | zero => omega
  | succ n ih => rw [sm_succ]; have := ih fun i hi => h i (by omega); have := h n (by omega); omega
theorem sm_one : ∀ {n : Nat} {c : Nat → Nat}, (∀ i, i < n → 1 ≤ c i) → Sm n c = n → ∀ i, i < n → c i = 1 := by
  intro n
  induction n with
  | zero => intro c _ _ i hi; omega
  | succ n ih =>
    intro c h hs i hi
    rw [sm_succ] at hs
    have h1 := sm_ge (n := n) (c := c) fun i hi => h i (by omega)
    have h2 := h n (by omega)
    rcases Nat.lt_succ_iff_lt_or_eq.1 hi with h' | rfl
    · exact ih (fun i hi => h i (by omega)) (by omega) i h'
    · omega
/-- Steps of a length that has no divisor in common with the period go through all hours. -/
theorem sm_perm {p q : Nat} (hq : 1 ≤ q) (hg : Nat.gcd p q = 1) (i : Nat) (F : Nat → Nat) : Sm q (fun t => F ((i + t * p) % q)) = Sm q F := by
  have hm : ∀ t, (i + t * p) % q < q := fun t => Nat.mod_lt _ (by omega)
  have e1 : Sm q (fun t => F ((i + t * p) % q)) = Sm q (fun t => Sm q (fun r => if (i + t * p) % q = r then F r else 0)) := sm_congr fun t _ => by
    rw [← sm_ind (hm t) (F ((i + t * p) % q))]
    exact sm_congr fun r _ => by
      by_cases e : (i + t * p) % q = r
      · rw [if_pos e, if_pos e, e]
      · rw [if_neg e, if_neg e]
  rw [e1, sm_swap]
  have e2 : ∀ r, Sm q (fun t => if (i + t * p) % q = r then F r else 0) = F r * Sm q (fun t => if (i + t * p) % q = r then 1 else 0) := fun r => by
    rw [← sm_mul]
    exact sm_congr fun t _ => by
      by_cases e : (i + t * p) % q = r
      · rw [if_pos e, if_pos e, Nat.mul_one]
      · rw [if_neg e, if_neg e, Nat.mul_zero]
  have hge : ∀ r, r < q → 1 ≤ Sm q (fun t => if (i + t * p) % q = r then 1 else 0) := fun r hr => by
    obtain ⟨k, hk, hh⟩ := dvd_hit (a := i) (e := p) (b := r) hq hr (by rw [hg]; exact Int.one_dvd _)
    unfold hitB at hh
    have hh : (i + k * p) % q = r := by simpa using hh
    rw [show q = k + (q - k) by omega, sm_split]
    have h2 : 1 ≤ Sm (q - k) (fun j => if (i + (k + j) * p) % (k + (q - k)) = r then 1 else 0) := by
      rw [show q - k = 1 + (q - k - 1) by omega, sm_split, sm_succ]
      rw [show k + (1 + (q - k - 1)) = q by omega]
      rw [show k + 0 = k from rfl, if_pos hh]
      omega
    omega
  have hsum : Sm q (fun r => Sm q (fun t => if (i + t * p) % q = r then 1 else 0)) = q := by
    rw [sm_swap, sm_congr (G := fun _ => 1) fun t _ => sm_ind (hm t) 1, sm_const, Nat.mul_one]
  have h1 := sm_one hge hsum
  exact sm_congr fun r hr => by rw [e2 r, h1 r hr, Nat.mul_one]

def ind (b : Bool) : Nat := if b = true then 1 else 0
theorem ind_and (a b : Bool) : ind (a && b) = ind a * ind b := by cases a <;> cases b <;> rfl
/-- How many hours are open. -/
theorem cnt_sm (f : Nat → Bool) (n : Nat) : (hrsL f n).length = Sm n (fun i => ind (f i)) := by
  induction n with
  | zero => rfl
  | succ n ih =>
    rw [sm_succ, ← ih]
    cases hf : f n with
    | true => rw [hrsL_yes hf]; simp [ind]
    | false => rw [hrsL_no hf]; simp [ind]
theorem cnt_not (f : Nat → Bool) (n : Nat) : (hrsL (fun i => !f i) n).length + (hrsL f n).length = n := by
  rw [cnt_sm, cnt_sm, ← sm_add, sm_congr (G := fun _ => 1) fun i _ => by cases f i <;> rfl, sm_const, Nat.mul_one]
theorem cnt_or (f g : Nat → Bool) (n : Nat) : (hrsL (fun i => f i && g i) n).length + (hrsL (fun i => f i || g i) n).length = (hrsL f n).length + (hrsL g n).length := by
  rw [cnt_sm, cnt_sm, cnt_sm, cnt_sm, ← sm_add, ← sm_add]
  exact sm_congr fun i _ => by cases f i <;> cases g i <;> rfl
theorem per_add {f : Int → Bool} {p : Nat} (h : PerM f p) (u i : Nat) : f ((u * p + i : Nat) : Int) = f (i : Nat) := by
  rw [show ((u * p + i : Nat) : Int) = (i : Int) + (u : Int) * (p : Int) by rw [Int.natCast_add, Int.natCast_mul]; omega]
  exact step_mul h.step u i
/-- .. over several periods. -/
theorem cnt_per {f : Int → Bool} {p : Nat} (h : PerM f p) (t : Nat) : (hrsL (fun i => f (i : Nat)) (t * p)).length = t * (hrsL (fun i => f (i : Nat)) p).length := by
  rw [cnt_sm, cnt_sm, sm_block]
  rw [sm_congr (G := fun _ => Sm p (fun i => ind (f (i : Nat)))) fun u _ => sm_congr fun i _ => by rw [per_add h], sm_const]
/-- .. of both. -/
theorem cnt_both {f g : Int → Bool} {p q : Nat} (hf : PerM f p) (hg : PerM g q) (hq : 1 ≤ q) (hgc : Nat.gcd p q = 1) : (hrsL (fun i => f (i : Nat) && g (i : Nat)) (p * q)).length = (hrsL (fun i => f (i : Nat)) p).length * (hrsL (fun i => g (i : Nat)) q).length := by
  rw [cnt_sm, cnt_sm, cnt_sm, Nat.mul_comm p q, sm_block]
  have e1 : Sm q (fun u => Sm p (fun i => ind (f ((u * p + i : Nat) : Int) && g ((u * p + i : Nat) : Int)))) = Sm q (fun u => Sm p (fun i => ind (f (i : Nat)) * ind (g (((i + u * p) % q : Nat) : Int)))) :=
    sm_congr fun u _ => sm_congr fun i _ => by
      rw [ind_and, per_add hf, show u * p + i = i + u * p by omega, Int.natCast_emod, hg]
  rw [e1, sm_swap]
  rw [sm_congr (G := fun i => Sm q (fun j => ind (g (j : Nat))) * ind (f (i : Nat))) fun i _ => by
    rw [sm_mul, sm_perm hq hgc i (fun j => ind (g (j : Nat))), Nat.mul_comm]]
  rw [sm_mul, Nat.mul_comm]
end M
end Go.Proofs.Ytlnpnfjdcnijhaa
