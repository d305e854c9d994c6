/-
  Rounds in plain terms: which are valid, where two meet, where a list of them meets.
-/
namespace Go.Proofs.Ytlnpnfjdcnijhaa
set_option linter.unusedVariables false
set_option linter.unusedSimpArgs false
namespace M

def el (l : List Int) (i : Nat) : Int := l.getD i 0
theorem el_eq (l : List Int) (i : Nat) (h : i < l.length) : el l i = l[i] := by simp [el, List.getD, h]
theorem ints_ext {a b : List Int} (h : a.length = b.length) (h' : ∀ i, i < a.length → el a i = el b i) : a = b := by
  refine List.ext_getElem h (fun i h1 h2 => ?_)
  have := h' i h1
  rwa [el_eq a i h1, el_eq b i h2] at this
def mk (F : Nat → Int) (n : Nat) : List Int := (List.range n).map F
theorem mk_len (F : Nat → Int) (n : Nat) : (mk F n).length = n := by simp [mk]
theorem mk_el (F : Nat → Int) (n i : Nat) (h : i < n) : el (mk F n) i = F i := by rw [el_eq _ _ (by rw [mk_len]; exact h)]; simp [mk]

/-- A round: its hour, and its length. -/
structure Rd where
  a : Int
  e : Int
deriving DecidableEq
def rd (l : List Rd) (i : Nat) : Rd := l.getD i ⟨0, 0⟩
theorem rd_eq (l : List Rd) (i : Nat) (h : i < l.length) : rd l i = l[i] := by simp [rd, List.getD, h]
def mkR (F : Nat → Rd) (n : Nat) : List Rd := (List.range n).map F
theorem mkR_len (F : Nat → Rd) (n : Nat) : (mkR F n).length = n := by simp [mkR]
theorem mkR_el (F : Nat → Rd) (n i : Nat) (h : i < n) : rd (mkR F n) i = F i := by rw [rd_eq _ _ (by rw [mkR_len]; exact h)]; simp [mkR]

/-- A round that may be given. -/
def okR (r : Rd) : Bool := decide (1 ≤ r.e) && decide (r.e ≤ 1000) && decide (0 ≤ r.a) && decide (r.a < r.e)
theorem okR_iff {r : Rd} : okR r = true ↔ (1 ≤ r.e ∧ r.e ≤ 1000) ∧ 0 ≤ r.a ∧ r.a < r.e := by unfold okR; simp [and_assoc]
def Oks (l : List Rd) (k : Nat) : Prop := ∀ i, i < k → okR (rd l i) = true
instance (l : List Rd) (k : Nat) : Decidable (Oks l k) := by unfold Oks; infer_instance
theorem oks_zero (l : List Rd) : Oks l 0 := fun i hi => absurd hi (Nat.not_lt_zero _)
theorem oks_succ {l : List Rd} {k : Nat} (h : Oks l k) (h1 : okR (rd l k) = true) : Oks l (k + 1) := fun j hj => by
  rcases Nat.lt_succ_iff_lt_or_eq.1 hj with h' | rfl
  · exact h j h'
  · exact h1
def oksB (l : List Rd) : Bool := decide (Oks l l.length)
def validR (l : List Rd) : Bool := decide (1 ≤ l.length) && decide (l.length ≤ 6) && oksB l
/-- Rounds that are valid. -/
def vR (l : List Rd) : Prop := (1 ≤ l.length ∧ l.length ≤ 6) ∧ ∀ i, i < l.length → (1 ≤ (rd l i).e ∧ (rd l i).e ≤ 1000) ∧ 0 ≤ (rd l i).a ∧ (rd l i).a < (rd l i).e
theorem validR_iff {l : List Rd} : validR l = true ↔ vR l := by
  unfold validR oksB vR Oks
  simp only [Bool.and_eq_true, decide_eq_true_eq, okR_iff]

/-! ### two rounds -/
/-- The least number that two numbers divide. -/
def mulN (m n : Nat) : Nat := m / Nat.gcd m n * n
theorem gcd_pos {m n : Nat} (h : 1 ≤ m) : 1 ≤ Nat.gcd m n := Nat.gcd_pos_of_pos_left _ h
theorem mulN_pos {m n : Nat} (h : 1 ≤ m) (h' : 1 ≤ n) : 1 ≤ mulN m n := by
  unfold mulN
  have h1 : 1 ≤ m / Nat.gcd m n := Nat.div_pos (Nat.le_of_dvd h (Nat.gcd_dvd_left _ _)) (gcd_pos h)
  exact Nat.mul_pos h1 h'
theorem mulN_le (m n : Nat) : mulN m n ≤ m * n := Nat.mul_le_mul_right _ (Nat.div_le_self _ _)
/-- The other way to see it. -/
theorem mulN_eq {m n : Nat} (h : 1 ≤ m) : mulN m n = m * (n / Nat.gcd m n) := by
  unfold mulN
  obtain ⟨p, hp⟩ := Nat.gcd_dvd_left m n
  obtain ⟨q, hq⟩ := Nat.gcd_dvd_right m n
  have hg := gcd_pos (n := n) h
  generalize Nat.gcd m n = g at *
  have e1 : m / g = p := by rw [hp]; exact Nat.mul_div_cancel_left _ hg
  have e2 : n / g = q := by rw [hq]; exact Nat.mul_div_cancel_left _ hg
  rw [e1, e2, hp, hq]
  rw [← Nat.mul_assoc, Nat.mul_comm p g]
/-- Is the hour behind k more rounds in the other one? -/
def hitB (A M b n k : Nat) : Bool := (A + k * M) % n == b
/-- The first number of rounds behind which it is. -/
def fstK (A M b n : Nat) : Option Nat := (List.range n).find? (hitB A M b n)
theorem hit_add (A M b n k : Nat) (h : 1 ≤ M) : hitB A M b n (k + n / Nat.gcd M n) = hitB A M b n k := by
  unfold hitB
  have e : A + (k + n / Nat.gcd M n) * M = A + k * M + n * (M / Nat.gcd M n) := by
    have h1 : M * (n / Nat.gcd M n) = M / Nat.gcd M n * n := (mulN_eq h).symm
    rw [Nat.add_mul, Nat.mul_comm (n / Nat.gcd M n) M, h1, Nat.mul_comm (M / Nat.gcd M n) n, Nat.add_assoc]
  rw [e, Nat.add_mul_mod_self_left]
/-- If no number below n / gcd is one, none is. -/
theorem no_hit {A M b n : Nat} (hM : 1 ≤ M) (hn : 1 ≤ n) (h : ∀ j, j < n / Nat.gcd M n → hitB A M b n j = false) : ∀ j, hitB A M b n j = false := by
  intro j
  have hq : 1 ≤ n / Nat.gcd M n := Nat.div_pos (Nat.le_of_dvd hn (Nat.gcd_dvd_right _ _)) (gcd_pos hM)
  induction j using Nat.strongRecOn with
  | _ j ih =>
    by_cases hj : j < n / Nat.gcd M n
    · exact h j hj
    · have e : j = (j - n / Nat.gcd M n) + n / Nat.gcd M n := by omega
      rw [e, hit_add _ _ _ _ _ hM]
      exact ih _ (by omega)
theorem fstK_some {A M b n k : Nat} (hk : k < n) (hh : hitB A M b n k = true) (h : ∀ j, j < k → hitB A M b n j = false) : fstK A M b n = some k := by
  unfold fstK
  rw [List.find?_range_eq_some]
  exact ⟨hh, by simpa using hk, fun j hj => by rw [h j hj]; rfl⟩
theorem fstK_none {A M b n : Nat} (h : ∀ j, j < n → hitB A M b n j = false) : fstK A M b n = none := by
  unfold fstK
  rw [List.find?_range_eq_none]
  intro j hj
  simpa using h j hj
theorem fstK_spec {A M b n k : Nat} (h : fstK A M b n = some k) : k < n ∧ hitB A M b n k = true ∧ ∀ j, j < k → hitB A M b n j = false := by
  unfold fstK at h
  rw [List.find?_range_eq_some] at h
  obtain ⟨h1, h2, h3⟩ := h
  exact ⟨by simpa using h2, h1, fun j hj => by simpa using h3 j hj⟩
theorem fstK_spec0 {A M b n : Nat} (h : fstK A M b n = none) : ∀ j, j < n → hitB A M b n j = false := by
  unfold fstK at h
  rw [List.find?_range_eq_none] at h
  intro j hj
  simpa using h j hj
/-- Where the first hit lies: within the common length. -/
theorem at_lt {A M n k : Nat} (hA : A < M) (hM : 1 ≤ M) : A + k * M < mulN M n ↔ k < n / Nat.gcd M n := by
  rw [mulN_eq hM]
  generalize n / Nat.gcd M n = q
  have e : M * q = q * M := Nat.mul_comm _ _
  rw [e]
  constructor
  · intro h
    have h1 : k * M < q * M := by omega
    exact Nat.lt_of_mul_lt_mul_right h1
  · intro h
    have h1 : (k + 1) * M ≤ q * M := Nat.mul_le_mul_right _ h
    have h2 : (k + 1) * M = k * M + M := by rw [Nat.add_mul, Nat.one_mul]
    omega
theorem q_le (M n : Nat) : n / Nat.gcd M n ≤ n := Nat.div_le_self _ _

/-! ### where a list of rounds meets -/
def stp (s : Option (Nat × Nat)) (r : Rd) : Option (Nat × Nat) :=
  match s with
  | none => none
  | some (A, M) => match fstK A M r.a.toNat r.e.toNat with
    | none => none
    | some k => some (A + k * M, mulN M r.e.toNat)
def meetN (l : List Rd) : Nat → Option (Nat × Nat)
  | 0 => some (0, 1)
  | k + 1 => stp (meetN l k) (rd l k)
theorem meetN_none {l : List Rd} {k : Nat} (h : meetN l k = none) : ∀ j, k ≤ j → meetN l j = none := by
  intro j hj
  induction j with
  | zero => have : k = 0 := by omega
            subst this; exact h
  | succ j ih =>
    by_cases e : k = j + 1
    · subst e; exact h
    · show stp (meetN l j) (rd l j) = none
      rw [ih (by omega)]; rfl
/-- What stays true of where the first k of valid rounds meet. -/
structure Met (l : List Rd) (k A M : Nat) : Prop where
  lt : A < M
  big : M * 1000 ^ (6 - k) ≤ 1000000000000000000
theorem met_zero (l : List Rd) : Met l 0 0 1 := ⟨by omega, by decide⟩
theorem met_step {l : List Rd} {k A M q : Nat} (h : Met l k A M) (hv : vR l) (hk : k < l.length) (hq : fstK A M (rd l k).a.toNat (rd l k).e.toNat = some q) :
    Met l (k + 1) (A + q * M) (mulN M (rd l k).e.toNat) := by
  obtain ⟨hl, hb⟩ := hv
  obtain ⟨⟨h1, h2⟩, h3, h4⟩ := hb k hk
  obtain ⟨n, hn⟩ : ∃ n, n = (rd l k).e.toNat := ⟨_, rfl⟩
  obtain ⟨b, hb'⟩ : ∃ b, b = (rd l k).a.toNat := ⟨_, rfl⟩
  rw [← hn, ← hb'] at hq
  rw [← hn]
  have hn1 : 1 ≤ n := by omega
  have hn2 : n ≤ 1000 := by omega
  have hM : 1 ≤ M := by have := h.lt; omega
  refine ⟨?_, ?_⟩
  · rw [at_lt h.lt hM]
    obtain ⟨_, hh, hno⟩ := fstK_spec hq
    rcases Nat.lt_or_ge q (n / Nat.gcd M n) with hlt | hge
    · exact hlt
    · exfalso
      have := no_hit (A := A) (b := b) hM hn1 (fun j hj => hno j (by omega)) q
      rw [hh] at this; cases this
  · have e : 1000 ^ (6 - k) = 1000 * 1000 ^ (6 - (k + 1)) := by
      rw [show 6 - k = (6 - (k + 1)) + 1 by omega, Nat.pow_succ, Nat.mul_comm]
    have hbig := h.big
    rw [e] at hbig
    calc mulN M n * 1000 ^ (6 - (k + 1)) ≤ (M * n) * 1000 ^ (6 - (k + 1)) := Nat.mul_le_mul_right _ (mulN_le _ _)
      _ ≤ (M * 1000) * 1000 ^ (6 - (k + 1)) := Nat.mul_le_mul_right _ (Nat.mul_le_mul_left _ hn2)
      _ = M * (1000 * 1000 ^ (6 - (k + 1))) := by rw [Nat.mul_assoc]
      _ ≤ _ := hbig
theorem Met.le {l : List Rd} {k A M : Nat} (h : Met l k A M) (hk : k < 6) : M * 1000 ≤ 1000000000000000000 := by
  have e : 1000 ^ (6 - k) = 1000 * 1000 ^ (6 - (k + 1)) := by
    rw [show 6 - k = (6 - (k + 1)) + 1 by omega, Nat.pow_succ, Nat.mul_comm]
  have hbig := h.big
  rw [e] at hbig
  have h1 : 1 ≤ 1000 ^ (6 - (k + 1)) := Nat.one_le_pow _ _ (by omega)
  calc M * 1000 = M * (1000 * 1) := by rw [Nat.mul_one]
    _ ≤ M * (1000 * 1000 ^ (6 - (k + 1))) := Nat.mul_le_mul_left _ (Nat.mul_le_mul_left _ h1)
    _ ≤ _ := hbig
theorem Met.top {l : List Rd} {k A M : Nat} (h : Met l k A M) : M ≤ 1000000000000000000 := by
  have h1 : 1 ≤ 1000 ^ (6 - k) := Nat.one_le_pow _ _ (by omega)
  calc M = M * 1 := by rw [Nat.mul_one]
    _ ≤ M * 1000 ^ (6 - k) := Nat.mul_le_mul_left _ h1
    _ ≤ _ := h.big
/-- What Meet answers. -/
def meetR (l : List Rd) : Int × Int × Int :=
  if validR l = true then (match meetN l l.length with | some (A, M) => ((A : Int), (M : Int), 0) | none => (0, 0, 5)) else (0, 0, 51)

/-! ### rounds that never meet -/
/-- Two rounds never meet: by the lengths' common divisor. -/
def nevB (r s : Rd) : Bool := decide ((r.a - s.a).tmod (Nat.gcd r.e.toNat s.e.toNat : Nat) ≠ 0)
end M
end Go.Proofs.Ytlnpnfjdcnijhaa
