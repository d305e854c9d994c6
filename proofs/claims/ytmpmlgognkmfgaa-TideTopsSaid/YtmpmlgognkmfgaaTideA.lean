/-
  The contracts of the program's functions: which tides are valid, and what is told of a tide.
-/
import Derived.Test.YtmpmlgognkmfgaaRefD
namespace Go.Proofs.Ytmpmlgognkmfgaa
open Go.RowKit M
set_option linter.unusedVariables false
set_option linter.unusedSimpArgs false

/-! ### ContainsFunc over a wave -/
instance (l : List Int) (k : Nat) : Decidable (ElsUpto l k) := by unfold ElsUpto; infer_instance
instance (l : List Int) : Decidable (GoodRow l) := by unfold GoodRow; infer_instance
instance (T : List (List Int)) (k : Nat) : Decidable (GoodUpto T k) := by unfold GoodUpto; infer_instance
def elsB (l : List Int) : Bool := decide (ElsUpto l l.length)
def goodB (l : List Int) : Bool := decide (GoodRow l)
def rowsB (T : List (List Int)) : Bool := decide (GoodUpto T T.length)
theorem badB_true {v : Int} (h : badB v = true) : v < -100 ∨ 100 < v := by unfold badB at h; simpa using h
theorem badB_false {v : Int} (h : badB v = false) : -100 ≤ v ∧ v ≤ 100 := by unfold badB at h; simpa using h
/-- What a search for something says: the place of the first one, or -1. -/
def Found (all : Bool) (w : World) (e : Ending) (w' : World) : Prop := ∃ x : Int, e = .returned (.int .i64 x) ∧ (all = true → x = -1) ∧ (all = false → 0 ≤ x) ∧ -1 ≤ x ∧ x ≤ 9223372036854775807 ∧ w = w'

set_option maxHeartbeats 1000000 in
theorem indexBad (B : Nat) (A : Option Addr) (c : Nat) (l : List Int) (w : World) (h : Row w B A l) :
    Calls Try.prog 101 #[.slice A l.length c, .func (Fn.func 88) #[] #[]] w (Found (elsB l) w) := by
  have h63 := h.1
  go_enter Try.func101, Try.ntmps101
  go_wp2
  go_loop [8] (fun i => ∃ k : Nat, k ≤ l.length ∧ i = .int .i64 k ∧ ElsUpto l k) (fun i => l.length - (intOf i).toNat)
  case atStart => exact ⟨0, Nat.zero_le _, rfl, els_zero _⟩
  case round =>
    obtain ⟨k, hk, rfl, hel⟩ := hrel
    have hel := Lib.hid hel
    by_cases hlt : k < l.length
    · obtain ⟨b, o, rfl, hb, hc⟩ := h.at_ k hlt
      by_cases hbad : badB (el l k) = true
      · have hw := Lib.hid (show elsB l = false by
          unfold elsB; rw [decide_eq_false]; intro hh
          have h1 := badB_true hbad
          have := hh k hlt
          omega)
        have hbad := Lib.hid hbad
        go_wp2_with (go_at_call 88; refine (isBad_any _ _).mono ?_; rintro e w' ⟨rfl, rfl⟩; rw [hbad.out])
        go_ret
        exact ⟨k, rfl, (by rw [hw.out]; intro h; cases h), (by intro; omega), by omega, by omega, rfl⟩
      · have hbad : badB (el l k) = false := by simpa using hbad
        obtain ⟨e1, e2⟩ := badB_false hbad
        have hs := Lib.hid (els_succ hel.out e1 e2)
        have hbad := Lib.hid hbad
        go_wp2_with (go_at_call 88; refine (isBad_any _ _).mono ?_; rintro e w' ⟨rfl, rfl⟩; rw [hbad.out])
        go_round
        case rel => exact ⟨k + 1, by omega, by go_num, hs.out⟩
        case measure => simp [intOf]; omega
    · have hk' : k = l.length := by omega
      subst hk'
      have hw := Lib.hid (show elsB l = true from decide_eq_true hel.out)
      go_wp2
      go_ret
      exact ⟨-1, rfl, (by intro; rfl), (by rw [hw.out]; intro h; cases h), by omega, by omega, rfl⟩

set_option maxHeartbeats 1000000 in
theorem containsBad (B : Nat) (A : Option Addr) (c : Nat) (l : List Int) (w : World) (h : Row w B A l) :
    Calls Try.prog 87 #[.slice A l.length c, .func (Fn.func 88) #[] #[]] w fun e w' => e = .returned (.bool (!elsB l)) ∧ w = w' := by
  go_enter Try.func87, Try.ntmps87
  go_wp2_with fail
  refine (indexBad B _ _ _ _ h).mono ?_
  rintro e w' ⟨x, rfl, h1, h2, h3, h4, rfl⟩
  cases he : elsB l with
  | true =>
    have := h1 he
    subst this
    have he := Lib.hid he
    clear h1 h2
    go_wp2
    go_ret
    exact ⟨ret_bool (by rw [he.out]; rfl), rfl⟩
  | false =>
    have hx := h2 he
    have he := Lib.hid he
    clear h1 h2
    go_wp2
    go_ret
    exact ⟨ret_bool (by rw [he.out]; rfl), rfl⟩

set_option maxHeartbeats 1000000 in
theorem isBadWave_any (B : Nat) (A : Option Addr) (c : Nat) (l : List Int) (w : World) (h : Row w B A l) :
    Calls Try.prog 60 #[.slice A l.length c] w fun e w' => e = .returned (.bool (!goodB l)) ∧ w = w' := by
  have h63 := h.1
  by_cases h1 : lenB l.length 12 = true
  · have hl : 1 ≤ l.length ∧ l.length ≤ 12 := by unfold lenB at h1; simp at h1; omega
    have hg := Lib.hid (show goodB l = elsB l by
      unfold goodB elsB
      by_cases hh : ElsUpto l l.length
      · rw [decide_eq_true hh, decide_eq_true ⟨hl, hh⟩]
      · rw [decide_eq_false hh, decide_eq_false (fun g => hh g.2)])
    have h1 := Lib.hid h1
    go_enter Try.func60, Try.ntmps60
    go_wp2_with fail
    refine (isLength_any _ _ _).mono ?_
    rintro e w' ⟨rfl, rfl⟩
    rw [h1.out]
    go_wp2_with fail
    refine (containsBad B _ _ _ _ h).mono ?_
    rintro e w' ⟨rfl, rfl⟩
    go_wp2
    go_ret
    exact ⟨ret_bool (by rw [hg.out]), rfl⟩
  · have h1 : lenB l.length 12 = false := by simpa using h1
    have hg := Lib.hid (show goodB l = false by
      unfold goodB
      rw [decide_eq_false]
      intro g
      have := g.1
      unfold lenB at h1
      simp at h1
      omega)
    have h1 := Lib.hid h1
    go_enter Try.func60, Try.ntmps60
    go_wp2_with fail
    refine (isLength_any _ _ _).mono ?_
    rintro e w' ⟨rfl, rfl⟩
    rw [h1.out]
    go_wp2
    go_ret
    exact ⟨ret_bool (by rw [hg.out]; rfl), rfl⟩

/-! ### ContainsFunc over a tide -/
set_option maxHeartbeats 1000000 in
theorem indexBadWave (B : Nat) (A : Option Addr) (c : Nat) (T : List (List Int)) (w : World) (h : Mat w B A T) :
    Calls Try.prog 86 #[.slice A T.length c, .func (Fn.func 60) #[] #[]] w (Found (rowsB T) w) := by
  have h63 := h.1
  go_enter Try.func86, Try.ntmps86
  go_wp2
  go_loop [8] (fun i => ∃ k : Nat, k ≤ T.length ∧ i = .int .i64 k ∧ GoodUpto T k) (fun i => T.length - (intOf i).toNat)
  case atStart => exact ⟨0, Nat.zero_le _, rfl, good_zero _⟩
  case round =>
    obtain ⟨k, hk, rfl, hel⟩ := hrel
    have hel := Lib.hid hel
    by_cases hlt : k < T.length
    · obtain ⟨b, o, Ai, ci, rfl, hb, hc, hr⟩ := h.at_ k hlt
      by_cases hbad : goodB (row T k) = true
      · have hs := Lib.hid (show GoodUpto T (k + 1) from fun j hj => by
          rcases Nat.lt_succ_iff_lt_or_eq.1 hj with h' | rfl
          · exact hel.out j h'
          · exact of_decide_eq_true hbad)
        have hbad := Lib.hid hbad
        go_wp2_with (go_at_call 60; refine (isBadWave_any B _ _ _ _ hr).mono ?_; rintro e w' ⟨rfl, rfl⟩; rw [hbad.out])
        go_round
        case rel => exact ⟨k + 1, by omega, by go_num, hs.out⟩
        case measure => simp [intOf]; omega
      · have hbad : goodB (row T k) = false := by simpa using hbad
        have hw := Lib.hid (show rowsB T = false by
          unfold rowsB; rw [decide_eq_false]; intro hh
          have := decide_eq_true (hh k hlt)
          unfold goodB at hbad
          rw [hbad] at this
          cases this)
        have hbad := Lib.hid hbad
        go_wp2_with (go_at_call 60; refine (isBadWave_any B _ _ _ _ hr).mono ?_; rintro e w' ⟨rfl, rfl⟩; rw [hbad.out])
        go_ret
        exact ⟨k, rfl, (by rw [hw.out]; intro h; cases h), (by intro; omega), by omega, by omega, rfl⟩
    · have hk' : k = T.length := by omega
      subst hk'
      have hw := Lib.hid (show rowsB T = true from decide_eq_true hel.out)
      go_wp2
      go_ret
      exact ⟨-1, rfl, (by intro; rfl), (by rw [hw.out]; intro h; cases h), by omega, by omega, rfl⟩

set_option maxHeartbeats 1000000 in
theorem containsBadWave (B : Nat) (A : Option Addr) (c : Nat) (T : List (List Int)) (w : World) (h : Mat w B A T) :
    Calls Try.prog 59 #[.slice A T.length c, .func (Fn.func 60) #[] #[]] w fun e w' => e = .returned (.bool (!rowsB T)) ∧ w = w' := by
  go_enter Try.func59, Try.ntmps59
  go_wp2_with fail
  refine (indexBadWave B _ _ _ _ h).mono ?_
  rintro e w' ⟨x, rfl, h1, h2, h3, h4, rfl⟩
  cases he : rowsB T with
  | true =>
    have := h1 he
    subst this
    have he := Lib.hid he
    clear h1 h2
    go_wp2
    go_ret
    exact ⟨ret_bool (by rw [he.out]; rfl), rfl⟩
  | false =>
    have hx := h2 he
    have he := Lib.hid he
    clear h1 h2
    go_wp2
    go_ret
    exact ⟨ret_bool (by rw [he.out]; rfl), rfl⟩

set_option maxHeartbeats 1000000 in
theorem valid_any (B : Nat) (A : Option Addr) (c : Nat) (T : List (List Int)) (w : World) (h : Mat w B A T) :
    Calls Try.prog 21 #[.slice A T.length c] w fun e w' => e = .returned (.bool (validB T)) ∧ w = w' := by
  have h63 := h.1
  by_cases h1 : lenB T.length 4 = true
  · have hl : 1 ≤ T.length ∧ T.length ≤ 4 := by unfold lenB at h1; simp at h1; omega
    have hg := Lib.hid (show validB T = rowsB T by
      unfold rowsB
      by_cases hh : GoodUpto T T.length
      · rw [decide_eq_true hh, validB_true ⟨hl, hh⟩]
      · rw [decide_eq_false hh, validB_false (fun g => hh g.2)])
    have h1 := Lib.hid h1
    go_enter Try.func21, Try.ntmps21
    go_wp2_with fail
    refine (isLength_any _ _ _).mono ?_
    rintro e w' ⟨rfl, rfl⟩
    rw [h1.out]
    go_wp2_with fail
    refine (containsBadWave B _ _ _ _ h).mono ?_
    rintro e w' ⟨rfl, rfl⟩
    go_wp2
    go_ret
    exact ⟨ret_bool (by rw [hg.out]), rfl⟩
  · have h1 : lenB T.length 4 = false := by simpa using h1
    have hg := Lib.hid (show validB T = false from validB_false (by
      intro g
      have := g.1
      unfold lenB at h1
      simp at h1
      omega))
    have h1 := Lib.hid h1
    go_enter Try.func21, Try.ntmps21
    go_wp2_with fail
    refine (isLength_any _ _ _).mono ?_
    rintro e w' ⟨rfl, rfl⟩
    rw [h1.out]
    go_wp2
    go_ret
    exact ⟨ret_bool (by rw [hg.out]), rfl⟩

/-! ### Contains over bools -/
def Bools (w : World) (A : Option Addr) (fs : List Bool) : Prop :=
  fs.length ≤ 1000 ∧ (0 < fs.length → ∃ b o, A = some ⟨b, o, none⟩ ∧ ∀ i, i < fs.length → w.cell? ⟨b, o + i, none⟩ = some (.bool (fs.getD i true)))
def bl (fs : List Bool) (i : Nat) : Bool := fs.getD i true
def allB (fs : List Bool) : Bool := decide (∀ i, i < fs.length → bl fs i = true)

set_option maxHeartbeats 1000000 in
theorem indexBool (A : Option Addr) (c : Nat) (fs : List Bool) (w : World) (h : Bools w A fs) :
    Calls Try.prog 100 #[.slice A fs.length c, .bool false] w (Found (allB fs) w) := by
  have h63 := h.1
  go_enter Try.func100, Try.ntmps100
  go_wp2
  go_loop [8] (fun i => ∃ k : Nat, k ≤ fs.length ∧ i = .int .i64 k ∧ ∀ j, j < k → bl fs j = true) (fun i => fs.length - (intOf i).toNat)
  case atStart => exact ⟨0, Nat.zero_le _, rfl, fun j hj => absurd hj (Nat.not_lt_zero _)⟩
  case round =>
    obtain ⟨k, hk, rfl, hel⟩ := hrel
    have hel := Lib.hid hel
    by_cases hlt : k < fs.length
    · obtain ⟨b, o, rfl, hcs⟩ := h.2 (by omega)
      have hc : w.cell? ⟨b, o + k, none⟩ = some (.bool (bl fs k)) := hcs k hlt
      clear hcs
      cases hx : bl fs k with
      | false =>
        rw [hx] at hc
        have hw := Lib.hid (show allB fs = false by
          unfold allB; rw [decide_eq_false]; intro hh
          have := hh k hlt
          rw [hx] at this; cases this)
        clear hx
        go_wp2
        go_ret
        exact ⟨k, rfl, (by rw [hw.out]; intro h; cases h), (by intro; omega), by omega, by omega, rfl⟩
      | true =>
        rw [hx] at hc
        have hx := Lib.hid hx
        go_wp2
        go_round
        case rel => exact ⟨k + 1, by omega, by go_num, fun j hj => by
          rcases Nat.lt_succ_iff_lt_or_eq.1 hj with h' | rfl
          · exact hel.out j h'
          · exact hx.out⟩
        case measure => simp [intOf]; omega
    · have hk' : k = fs.length := by omega
      subst hk'
      have hw := Lib.hid (show allB fs = true from decide_eq_true hel.out)
      go_wp2
      go_ret
      exact ⟨-1, rfl, (by intro; rfl), (by rw [hw.out]; intro h; cases h), by omega, by omega, rfl⟩

set_option maxHeartbeats 1000000 in
theorem containsFalse (A : Option Addr) (c : Nat) (fs : List Bool) (w : World) (h : Bools w A fs) :
    Calls Try.prog 83 #[.slice A fs.length c, .bool false] w fun e w' => e = .returned (.bool (!allB fs)) ∧ w = w' := by
  go_enter Try.func83, Try.ntmps83
  go_wp2_with fail
  refine (indexBool _ _ _ _ h).mono ?_
  rintro e w' ⟨x, rfl, h1, h2, h3, h4, rfl⟩
  cases he : allB fs with
  | true =>
    have := h1 he
    subst this
    have he := Lib.hid he
    clear h1 h2
    go_wp2
    go_ret
    exact ⟨ret_bool (by rw [he.out]; rfl), rfl⟩
  | false =>
    have hx := h2 he
    have he := Lib.hid he
    clear h1 h2
    go_wp2
    go_ret
    exact ⟨ret_bool (by rw [he.out]; rfl), rfl⟩

end Go.Proofs.Ytmpmlgognkmfgaa
