/-
  Which tanks are valid, and which lists are levels for them: the program's and the specification's functions.
-/
import Derived.Test.YtgonibieeimdoaaData
namespace Go.Proofs.Ytgonibieeimdoaa
open Go.RowKit Go.Deep M
set_option linter.unusedVariables false
set_option linter.unusedSimpArgs false

def badB (v : Int) : Bool := decide (v < 1) || decide (12 < v)
theorem noTank_any (v : Int) (w : World) : Calls Try.prog 54 #[.int .i64 v] w fun e w' => e = .returned (.bool (badB v)) ∧ w = w' := by
  by_cases h1 : v < 1 <;> by_cases h2 : 12 < v
  all_goals
    go_enter Try.func54, Try.ntmps54
    go_wp2
    go_ret
    exact ⟨ret_bool (by simp [badB]; try omega), rfl⟩
def inB (a n b : Int) : Bool := decide (a ≤ n) && decide (n ≤ b)
theorem within_any (a n b : Int) (w : World) : Calls Try.prog 55 #[.int .i64 a, .int .i64 n, .int .i64 b] w fun e w' => e = .returned (.bool (inB a n b)) ∧ w = w' := by
  by_cases h1 : a ≤ n <;> by_cases h2 : n ≤ b
  all_goals
    go_enter Try.func55, Try.ntmps55
    go_wp2
    go_ret
    exact ⟨ret_bool (by simp [inB]; try omega), rfl⟩

def Goods (t : List Int) (k : Nat) : Prop := ∀ i, i < k → 1 ≤ el t i ∧ el t i ≤ 12
theorem goods_zero (t : List Int) : Goods t 0 := fun i hi => absurd hi (Nat.not_lt_zero _)
theorem goods_succ {t : List Int} {k : Nat} (h : Goods t k) (h1 : 1 ≤ el t k) (h2 : el t k ≤ 12) : Goods t (k + 1) := fun j hj => by
  rcases Nat.lt_succ_iff_lt_or_eq.1 hj with h' | rfl
  · exact h j h'
  · exact ⟨h1, h2⟩
instance (t : List Int) (k : Nat) : Decidable (Goods t k) := by unfold Goods; infer_instance
def elsB (t : List Int) : Bool := decide (Goods t t.length)
theorem badB_true {v : Int} (h : badB v = true) : v < 1 ∨ 12 < v := by unfold badB at h; simpa using h
theorem badB_false {v : Int} (h : badB v = false) : 1 ≤ v ∧ v ≤ 12 := by unfold badB at h; simp at h; omega
/-- What a search for something says: the place of the first one, or -1. -/
def Found (all : Bool) (w : World) (e : Ending) (w' : World) : Prop := ∃ x : Int, e = .returned (.int .i64 x) ∧ (all = true → x = -1) ∧ (all = false → 0 ≤ x) ∧ -1 ≤ x ∧ x ≤ 9223372036854775807 ∧ w = w'

set_option maxHeartbeats 1000000 in
theorem indexBad (B : Nat) (A : Option Addr) (c : Nat) (l : List Int) (w : World) (h : Row w B A l) :
    Calls Try.prog 87 #[.slice A l.length c, .func (Fn.func 54) #[] #[]] w (Found (elsB l) w) := by
  have h63 := h.1
  go_enter Try.func87, Try.ntmps87
  go_wp2
  go_loop [8] (fun i => ∃ k : Nat, k ≤ l.length ∧ i = .int .i64 k ∧ Goods l k) (fun i => l.length - (intOf i).toNat)
  case atStart => exact ⟨0, Nat.zero_le _, rfl, goods_zero _⟩
  case round =>
    obtain ⟨k, hk, rfl, hel⟩ := hrel
    have hel := Lib.hid hel
    by_cases hlt : k < l.length
    · obtain ⟨b, o, rfl, hb, hc⟩ := h.at_ k hlt
      by_cases hbad : badB (el l k) = true
      · have hw := Lib.hid (show elsB l = false by
          unfold elsB; rw [decide_eq_false]; intro hh
          have h1 := badB_true hbad
          have := hh k hlt
          omega)
        have hbad := Lib.hid hbad
        go_wp2_with (go_at_call 54; refine (noTank_any _ _).mono ?_; rintro e w' ⟨rfl, rfl⟩; rw [hbad.out])
        go_ret
        exact ⟨k, rfl, (by rw [hw.out]; intro h; cases h), (by intro; omega), by omega, by omega, rfl⟩
      · have hbad : badB (el l k) = false := by simpa using hbad
        obtain ⟨e1, e2⟩ := badB_false hbad
        have hs := Lib.hid (goods_succ hel.out e1 e2)
        have hbad := Lib.hid hbad
        go_wp2_with (go_at_call 54; refine (noTank_any _ _).mono ?_; rintro e w' ⟨rfl, rfl⟩; rw [hbad.out])
        go_round
        case rel => exact ⟨k + 1, by omega, by go_num, hs.out⟩
        case measure => simp [intOf]; omega
    · have hk' : k = l.length := by omega
      subst hk'
      have hw := Lib.hid (show elsB l = true from decide_eq_true hel.out)
      go_wp2
      go_ret
      exact ⟨-1, rfl, (by intro; rfl), (by rw [hw.out]; intro h; cases h), by omega, by omega, rfl⟩

set_option maxHeartbeats 1000000 in
theorem containsBad (B : Nat) (A : Option Addr) (c : Nat) (l : List Int) (w : World) (h : Row w B A l) :
    Calls Try.prog 53 #[.slice A l.length c, .func (Fn.func 54) #[] #[]] w fun e w' => e = .returned (.bool (!elsB l)) ∧ w = w' := by
  go_enter Try.func53, Try.ntmps53
  go_wp2_with fail
  refine (indexBad B _ _ _ _ h).mono ?_
  rintro e w' ⟨x, rfl, h1, h2, h3, h4, rfl⟩
  cases he : elsB l with
  | true =>
    have := h1 he
    subst this
    have he := Lib.hid he
    clear h1 h2
    go_wp2
    go_ret
    exact ⟨ret_bool (by rw [he.out]; rfl), rfl⟩
  | false =>
    have hx := h2 he
    have he := Lib.hid he
    clear h1 h2
    go_wp2
    go_ret
    exact ⟨ret_bool (by rw [he.out]; rfl), rfl⟩

theorem valid_els {t : List Int} (h2 : 2 ≤ t.length) (h4 : t.length ≤ 4) : validB t = elsB t := by
  unfold elsB
  by_cases h : Goods t t.length
  · rw [decide_eq_true h]; exact val_true ⟨⟨h2, h4⟩, h⟩
  · rw [decide_eq_false h]; exact val_false fun g => h g.2

set_option maxHeartbeats 1000000 in
theorem Valid_any (B : Nat) (A : Option Addr) (c : Nat) (t : List Int) (w : World) (h : Row w B A t) :
    Calls Try.prog 21 #[.slice A t.length c] w fun e w' => e = .returned (.bool (validB t)) ∧ w = w' := by
  have h63 := h.1
  by_cases h2 : 2 ≤ t.length
  · by_cases h4 : t.length ≤ 4
    · have hv := Lib.hid (valid_els h2 h4)
      go_enter Try.func21, Try.ntmps21
      go_wp2_with fail
      refine (containsBad B _ _ _ _ h).mono ?_
      rintro e w' ⟨rfl, rfl⟩
      go_wp2
      go_ret
      exact ⟨ret_bool (by rw [hv.out]), rfl⟩
    · have hv := Lib.hid (val_false (fun g => h4 g.1.2) : validB t = false)
      go_enter Try.func21, Try.ntmps21
      go_wp2
      go_ret
      exact ⟨ret_bool (by rw [hv.out]), rfl⟩
  · have hv := Lib.hid (val_false (fun g => h2 g.1.1) : validB t = false)
    go_enter Try.func21, Try.ntmps21
    go_wp2
    go_ret
    exact ⟨ret_bool (by rw [hv.out]), rfl⟩

theorem inB_true {a n b : Int} (h : inB a n b = true) : a ≤ n ∧ n ≤ b := by unfold inB at h; simpa using h
theorem inB_false {a n b : Int} (h : inB a n b = false) : ¬ (a ≤ n ∧ n ≤ b) := by unfold inB at h; simp at h; omega
theorem inB_eq {a n b : Int} {q : Prop} [Decidable q] (h : (a ≤ n ∧ n ≤ b) ↔ q) : inB a n b = decide q := by unfold inB; rw [Bool.eq_iff_iff]; simp [h]

set_option maxHeartbeats 2000000 in
theorem Valid_ref (B : Nat) (A : Option Addr) (c : Nat) (t : List Int) (w : World) (h : Row w B A t) :
    Calls Try.prog 22 #[.slice A t.length c] w fun e w' => e = .returned (.bool (validB t)) ∧ w = w' := by
  have h63 := h.1
  go_enter Try.func22, Try.ntmps22
  go_wp2
  go_loop [3] (fun i => ∃ k : Nat, k ≤ t.length ∧ k ≤ 5 ∧ i = .int .i64 k ∧ Goods t k) (fun i => t.length - (intOf i).toNat)
  case atStart => exact ⟨0, Nat.zero_le _, by omega, rfl, goods_zero _⟩
  case round =>
    obtain ⟨k, hk, hk5, rfl, hel⟩ := hrel
    have hel := Lib.hid hel
    by_cases hlt : k < t.length
    · by_cases h5 : k ≤ 4
      · obtain ⟨b, o, rfl, hb, hc⟩ := h.at_ k hlt
        cases hin : inB 1 (el t k) 12 with
        | false =>
          have hw := Lib.hid (val_false (fun g => inB_false hin (g.2 k hlt)) : validB t = false)
          have hin := Lib.hid hin
          go_wp2_with (go_at_call 55; refine (within_any _ _ _ _).mono ?_; rintro e w' ⟨rfl, rfl⟩; rw [hin.out])
          go_ret
          exact ⟨ret_bool hw.out.symm, rfl⟩
        | true =>
          obtain ⟨e1, e2⟩ := inB_true hin
          have hs := Lib.hid (goods_succ hel.out e1 e2)
          have hin := Lib.hid hin
          go_wp2_with (go_at_call 55; refine (within_any _ _ _ _).mono ?_; rintro e w' ⟨rfl, rfl⟩; rw [hin.out])
          go_round
          case rel => exact ⟨k + 1, by omega, by omega, by go_num, hs.out⟩
          case measure => simp [intOf]; omega
      · have hin : inB 2 (t.length : Int) 4 = false := by unfold inB; simp; omega
        have hw := Lib.hid (val_false (fun g => by have := g.1.2; omega) : validB t = false)
        replace hin := Lib.hid hin
        go_wp2_with (go_at_call 55; refine (within_any _ _ _ _).mono ?_; rintro e w' ⟨rfl, rfl⟩; rw [hin.out])
        go_ret
        exact ⟨ret_bool hw.out.symm, rfl⟩
    · have hk' : k = t.length := by omega
      subst hk'
      cases hin : inB 2 (t.length : Int) 4 with
      | false =>
        have hw := Lib.hid (val_false (fun g => inB_false hin (by have := g.1; omega)) : validB t = false)
        have hin := Lib.hid hin
        go_wp2_with (go_at_call 55; refine (within_any _ _ _ _).mono ?_; rintro e w' ⟨rfl, rfl⟩; rw [hin.out])
        go_ret
        exact ⟨ret_bool hw.out.symm, rfl⟩
      | true =>
        have hw := Lib.hid (val_true ⟨by have := inB_true hin; omega, hel.out⟩ : validB t = true)
        have hin := Lib.hid hin
        go_wp2_with (go_at_call 55; refine (within_any _ _ _ _).mono ?_; rintro e w' ⟨rfl, rfl⟩; rw [hin.out])
        go_ret
        exact ⟨ret_bool hw.out.symm, rfl⟩

/-! ### levels -/
def Lvs (t l : List Int) (k : Nat) : Prop := ∀ i, i < k → 0 ≤ el l i ∧ el l i ≤ el t i
theorem lvs_zero (t l : List Int) : Lvs t l 0 := fun i hi => absurd hi (Nat.not_lt_zero _)
theorem lvs_succ {t l : List Int} {k : Nat} (h : Lvs t l k) (h1 : 0 ≤ el l k) (h2 : el l k ≤ el t k) : Lvs t l (k + 1) := fun j hj => by
  rcases Nat.lt_succ_iff_lt_or_eq.1 hj with h' | rfl
  · exact h j h'
  · exact ⟨h1, h2⟩

set_option maxHeartbeats 2000000 in
theorem areLevels_any (B : Nat) (A A' : Option Addr) (c c' : Nat) (t l : List Int) (w : World) (h : Row w B A t) (h' : Row w B A' l) :
    Calls Try.prog 91 #[.slice A t.length c, .slice A' l.length c'] w fun e w' => e = .returned (.bool (lvlB t l)) ∧ w = w' := by
  have h63 := h.1
  have h63' := h'.1
  by_cases hl : l.length = t.length
  · have hn' : ((l.length : Int) != (t.length : Int)) = false := by simp [hl]
    go_enter Try.func91, Try.ntmps91
    go_wp2
    go_loop [14] (fun i => ∃ k : Nat, k ≤ l.length ∧ i = .int .i64 k ∧ Lvs t l k) (fun i => l.length - (intOf i).toNat)
    case atStart => exact ⟨0, Nat.zero_le _, rfl, lvs_zero _ _⟩
    case round =>
      obtain ⟨k, hk, rfl, hel⟩ := hrel
      have hel := Lib.hid hel
      by_cases hlt : k < l.length
      · obtain ⟨b, o, rfl, hb, hc⟩ := h'.at_ k hlt
        obtain ⟨b', o', rfl, hb', hc'⟩ := h.at_ k (by omega)
        by_cases h0 : el l k < 0
        · have hw := Lib.hid (lvl_false (fun g => by have := g.2 k (by omega); omega) : lvlB t l = false)
          go_wp2
          go_ret
          exact ⟨ret_bool hw.out.symm, rfl⟩
        · by_cases h1 : el t k < el l k
          · have hw := Lib.hid (lvl_false (fun g => by have := g.2 k (by omega); omega) : lvlB t l = false)
            go_wp2
            go_ret
            exact ⟨ret_bool hw.out.symm, rfl⟩
          · have hs := Lib.hid (lvs_succ hel.out (by omega : 0 ≤ el l k) (by omega : el l k ≤ el t k))
            go_wp2
            go_round
            case rel => exact ⟨k + 1, by omega, by go_num, hs.out⟩
            case measure => simp [intOf]; omega
      · have hk' : k = l.length := by omega
        subst hk'
        have hw := Lib.hid (lvl_true ⟨hl, by rw [← hl]; exact hel.out⟩ : lvlB t l = true)
        go_wp2
        go_ret
        exact ⟨ret_bool hw.out.symm, rfl⟩
  · have hw := Lib.hid (lvl_false (fun g => hl g.1) : lvlB t l = false)
    have hl' : ((l.length : Int) != (t.length : Int)) = true := by simp; omega
    go_enter Try.func91, Try.ntmps91
    go_wp2
    go_ret
    exact ⟨ret_bool hw.out.symm, rfl⟩

set_option maxHeartbeats 2000000 in
theorem AreLevels_ref (B : Nat) (A A' : Option Addr) (c c' : Nat) (t l : List Int) (w : World) (h : Row w B A t) (h' : Row w B A' l) :
    Calls Try.prog 50 #[.slice A t.length c, .slice A' l.length c'] w fun e w' => e = .returned (.bool (lvlB t l)) ∧ ∃ n, w' = w.drewN n := by
  have h63 := h.1
  have h63' := h'.1
  go_enter Try.func50, Try.ntmps50
  go_wp2
  go_loopw [5] (fun i wr => ∃ k : Nat, k ≤ l.length ∧ k ≤ t.length ∧ i = .int .i64 k ∧ Lvs t l k ∧ ∃ n, wr = w.drewN n) (fun i _ => l.length - (intOf i).toNat)
  case atStart => exact ⟨0, Nat.zero_le _, Nat.zero_le _, rfl, lvs_zero _ _, 0, rfl⟩
  case round =>
    obtain ⟨k, hk, hkt, rfl, hel, n, hw0⟩ := hrel
    have hr : Row wr B A t := h.keep fun p _ => by rw [hw0]; rfl
    have hr' : Row wr B A' l := h'.keep fun p _ => by rw [hw0]; rfl
    replace hw0 := Lib.hid hw0
    have hel := Lib.hid hel
    by_cases hlt : k < l.length
    · by_cases hlt' : k < t.length
      · obtain ⟨b, o, rfl, hb, hc⟩ := hr'.at_ k hlt
        obtain ⟨b', o', rfl, hb', hc'⟩ := hr.at_ k hlt'
        cases hin : inB 0 (el l k) (el t k) with
        | false =>
          have hw := Lib.hid (lvl_false (fun g => inB_false hin (g.2 k (by omega))) : lvlB t l = false)
          have hin := Lib.hid hin
          have c55 : ∀ W, Calls Try.prog 55 #[.int .i64 0, .int .i64 (el l k), .int .i64 (el t k)] W fun e w' => e = .returned (.bool false) ∧ w' = W := fun W => (within_any 0 (el l k) (el t k) W).mono fun e w' ⟨h1, h2⟩ => ⟨by rw [h1, hin.out], h2.symm⟩
          replace c55 := Lib.hid c55
          go_wp2_with fail
          go_quiet ((go_at_call 55; exact Calls.quiet_of_same (c55.out _)))
          go_wp2
          go_ret
          exact ⟨ret_bool hw.out.symm, n + nq, by rw [hw0.out, World.drewN_drewN]⟩
        | true =>
          obtain ⟨e1, e2⟩ := inB_true hin
          have hs := Lib.hid (lvs_succ hel.out e1 e2)
          have hin := Lib.hid hin
          have c55 : ∀ W, Calls Try.prog 55 #[.int .i64 0, .int .i64 (el l k), .int .i64 (el t k)] W fun e w' => e = .returned (.bool true) ∧ w' = W := fun W => (within_any 0 (el l k) (el t k) W).mono fun e w' ⟨h1, h2⟩ => ⟨by rw [h1, hin.out], h2.symm⟩
          replace c55 := Lib.hid c55
          go_wp2_with fail
          go_quiet ((go_at_call 55; exact Calls.quiet_of_same (c55.out _)))
          go_wp2
          go_round
          case rel => exact ⟨k + 1, by omega, by omega, by go_num, hs.out, n + nq, by rw [hw0.out, World.drewN_drewN]⟩
          case measure => simp [intOf]; omega
      · have hw := Lib.hid (lvl_false (fun g => by have := g.1; omega) : lvlB t l = false)
        have hne : ((l.length : Int) == (t.length : Int)) = false := by simp; omega
        go_wp2
        go_ret
        exact ⟨ret_bool hw.out.symm, n, hw0.out⟩
    · by_cases hl : l.length = t.length
      · have hw := Lib.hid (lvl_true ⟨hl, fun i hi => hel.out i (by omega)⟩ : lvlB t l = true)
        have hne : ((l.length : Int) == (t.length : Int)) = true := by simp; omega
        go_wp2
        go_ret
        exact ⟨ret_bool hw.out.symm, n, hw0.out⟩
      · have hw := Lib.hid (lvl_false (fun g => hl g.1) : lvlB t l = false)
        have hne : ((l.length : Int) == (t.length : Int)) = false := by simp; omega
        go_wp2
        go_ret
        exact ⟨ret_bool hw.out.symm, n, hw0.out⟩
end Go.Proofs.Ytgonibieeimdoaa
