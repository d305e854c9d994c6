/-
  Plain mathematics of two tanks: the deeds of Two, what they lead to, and that they come to every amount that the measure divides.
-/
import Derived.Test.YtgonibieeimdoaaMathB
namespace Go.Proofs.Ytgonibieeimdoaa
namespace M

/-- The next deed of Two. -/
def nx (t l : List Int) : Dd := if el l 1 = el t 1 then ⟨2, 0, 1⟩ else if el l 0 = 0 then ⟨1, 0, 0⟩ else ⟨3, 0, 1⟩
theorem nx_isD {t l : List Int} (h : t.length = 2) : isD t.length (nx t l) := by
  rw [h]; unfold nx
  split
  · decide
  · split <;> decide
/-- The levels behind the first j deeds of Two. -/
def twL (t : List Int) : Nat → List Int
  | 0 => [0, 0]
  | j + 1 => doL t (twL t j) (nx t (twL t j))
theorem twL_succ (t : List Int) (j : Nat) : twL t (j + 1) = doL t (twL t j) (nx t (twL t j)) := rfl
def twD (t : List Int) (j : Nat) : List Dd := (List.range j).map fun i => nx t (twL t i)
theorem twD_len (t : List Int) (j : Nat) : (twD t j).length = j := by simp [twD]
theorem twD_succ (t : List Int) (j : Nat) : twD t (j + 1) = twD t j ++ [nx t (twL t j)] := by simp [twD, List.range_succ]
theorem twL_len (t : List Int) (j : Nat) : (twL t j).length = 2 := by
  induction j with
  | zero => rfl
  | succ j ih => exact (doL_len _ _ _).trans ih
theorem twL_ok {t : List Int} (ht : vT t) (h2 : t.length = 2) (j : Nat) : vL t (twL t j) := by
  induction j with
  | zero =>
    refine ⟨h2.symm, fun i hi => ?_⟩
    have := ht.2 i hi
    have hi' : i = 0 ∨ i = 1 := by omega
    rcases hi' with rfl | rfl <;> (simp [twL, el] at *; omega)
  | succ j ih => exact doL_ok ih (nx_isD h2)
/-- Does one come to the amount with so many deeds more? -/
def reach (t : List Int) (n : Int) : Nat → List Int → Bool
  | 0, l => decide (el l 1 = n)
  | f + 1, l => decide (el l 1 = n) || reach t n f (doL t l (nx t l))
theorem reach_succ {t : List Int} {n : Int} {f : Nat} {l : List Int} (h : reach t n (f + 1) l = true) (h1 : el l 1 ≠ n) : reach t n f (doL t l (nx t l)) = true := by
  unfold reach at h; simpa [h1] using h
theorem reach_zero {t : List Int} {n : Int} {l : List Int} (h : reach t n 0 l = true) : el l 1 = n := by unfold reach at h; simpa using h
theorem reach_all : ∀ a < 13, ∀ b < 13, ∀ n < 13, (1 ≤ a ∧ 1 ≤ b ∧ n ≤ b ∧ n % Nat.gcd a b = 0) → reach [(a : Nat), (b : Nat)] (n : Nat) 60 [0, 0] = true := by decide +kernel
/-- The first time that the tank 1 has the amount. -/
def FirstK (t : List Int) (n : Int) (j : Nat) : Prop := el (twL t j) 1 = n ∧ ∀ i, i < j → el (twL t i) 1 ≠ n
theorem FirstK.uniq {t : List Int} {n : Int} {i j : Nat} (h : FirstK t n i) (h' : FirstK t n j) : i = j := by
  rcases Nat.lt_trichotomy i j with hl | e | hl
  · exact absurd h.1 (h'.2 i hl)
  · exact e
  · exact absurd h'.1 (h.2 j hl)
/-- Two may be asked, and has an answer. -/
def TwoOk (a b n : Int) : Prop := validB [a, b] = true ∧ (0 ≤ n ∧ n ≤ b) ∧ n.tmod (meas [a, b] : Nat) = 0
theorem meas2 (a b : Int) : meas [a, b] = Nat.gcd a.toNat b.toNat := by
  show Nat.gcd (Nat.gcd 0 a.toNat) b.toNat = _
  rw [Nat.gcd_zero_left]
theorem vT2 {a b : Int} (h : validB [a, b] = true) : (1 ≤ a ∧ a ≤ 12) ∧ (1 ≤ b ∧ b ≤ 12) := ⟨(val_of h).2 0 (by simp), (val_of h).2 1 (by simp)⟩
theorem two_reach {a b n : Int} (h : TwoOk a b n) : reach [a, b] n 60 [0, 0] = true := by
  obtain ⟨hv, hn, hm⟩ := h
  obtain ⟨ha, hb⟩ := vT2 hv
  rw [meas2] at hm
  obtain ⟨a', rfl⟩ := Int.eq_ofNat_of_zero_le (show 0 ≤ a by omega)
  obtain ⟨b', rfl⟩ := Int.eq_ofNat_of_zero_le (show 0 ≤ b by omega)
  obtain ⟨n', rfl⟩ := Int.eq_ofNat_of_zero_le (show 0 ≤ n by omega)
  rw [Int.toNat_natCast, Int.toNat_natCast] at hm
  have e : ((n' : Int)).tmod ((Nat.gcd a' b' : Nat) : Int) = ((n' % Nat.gcd a' b' : Nat) : Int) := rfl
  rw [e] at hm
  exact reach_all a' (by omega) b' (by omega) n' (by omega) ⟨by omega, by omega, by omega, by omega⟩
/-- What Two answers: the deeds, and the error. -/
def TwoP (a b n : Int) (D : List Dd) (er : Int) : Prop :=
  (validB [a, b] = false ∧ D = [] ∧ er = 40) ∨ (validB [a, b] = true ∧ ¬ (0 ≤ n ∧ n ≤ b) ∧ D = [] ∧ er = 2) ∨
  (validB [a, b] = true ∧ (0 ≤ n ∧ n ≤ b) ∧ n.tmod (meas [a, b] : Nat) ≠ 0 ∧ D = [] ∧ er = 5) ∨ (TwoOk a b n ∧ (∃ j, FirstK [a, b] n j ∧ j ≤ 60 ∧ D = twD [a, b] j) ∧ er = 0)
theorem TwoP.uniq {a b n : Int} {D D' : List Dd} {er er' : Int} (h : TwoP a b n D er) (h' : TwoP a b n D' er') : D = D' ∧ er = er' := by
  rcases h with ⟨h1, rfl, rfl⟩ | ⟨h1, h2, rfl, rfl⟩ | ⟨h1, h2, h3, rfl, rfl⟩ | ⟨h1, ⟨j, hj, hj6, rfl⟩, rfl⟩ <;>
    rcases h' with ⟨g1, rfl, rfl⟩ | ⟨g1, g2, rfl, rfl⟩ | ⟨g1, g2, g3, rfl, rfl⟩ | ⟨g1, ⟨k, hk, hk6, rfl⟩, rfl⟩
  all_goals first | exact ⟨rfl, rfl⟩ | (exfalso; first | (rw [h1] at g1; cases g1; done) | exact h2 g2 | exact g2 h2 | (have := g1.1; rw [h1] at this; cases this; done) | (have := h1.1; rw [g1] at this; cases this; done) | exact h2 g1.2.1 | exact g2 h1.2.1 | exact h3 g1.2.2 | exact g3 h1.2.2) | skip
  rw [hj.uniq hk]; exact ⟨rfl, rfl⟩
/-- Where Two is: so many deeds done, so many left at most. -/
def TwIn (t : List Int) (n : Int) (j : Nat) : Prop := (∀ i, i < j → el (twL t i) 1 ≠ n) ∧ ∃ f, j + f = 60 ∧ reach t n f (twL t j) = true
theorem twIn_zero {a b n : Int} (h : TwoOk a b n) : TwIn [a, b] n 0 := ⟨fun _ hi => absurd hi (Nat.not_lt_zero _), 60, rfl, two_reach h⟩
theorem twIn_succ {t : List Int} {n : Int} {j : Nat} (h : TwIn t n j) (hn : el (twL t j) 1 ≠ n) : TwIn t n (j + 1) ∧ j < 60 := by
  obtain ⟨h1, f, hf, hr⟩ := h
  cases f with
  | zero => exact absurd (reach_zero hr) hn
  | succ f =>
    refine ⟨⟨fun i hi => ?_, f, by omega, reach_succ hr hn⟩, by omega⟩
    rcases Nat.lt_succ_iff_lt_or_eq.1 hi with h' | rfl
    · exact h1 i h'
    · exact hn
theorem twIn_le {t : List Int} {n : Int} {j : Nat} (h : TwIn t n j) : j ≤ 60 := by obtain ⟨_, f, hf, _⟩ := h; omega
end M
end Go.Proofs.Ytgonibieeimdoaa
