/-
  Which slicks are some for a bay: isSlick and checked.
-/
import Derived.Test.YtnbgjgiknfcdkaaDoorD
namespace Go.Proofs.YtnbgjgiknfcdkaaDoor
open Go.RowKit Go.Deep M
set_option linter.unusedVariables false
set_option linter.unusedSimpArgs false

/-- The amounts of a slick: its oil, and what is away. -/
def amt (O : List Int) (aw : Int) : List Int := O ++ [aw]
theorem amt_len (O : List Int) (aw : Int) : (amt O aw).length = O.length + 1 := by simp [amt]
theorem amt_el (O : List Int) (aw : Int) (i : Nat) (h : i < O.length) : el (amt O aw) i = el O i := by simp [el, amt, List.getD, List.getElem?_append, h]
theorem amt_away (O : List Int) (aw : Int) : el (amt O aw) O.length = aw := by simp [el, amt, List.getD]
/-- A slick: its K, its numbers. -/
def SlkP (K : Int) (O : List Int) (aw : Int) : Prop := (0 ≤ K ∧ K ≤ 5) ∧ NonNeg (amt O aw) ∧ tot (amt O aw) ≤ 36000 * (16 : Int) ^ K.toNat
open Classical in
noncomputable def slkB (n : Nat) (K : Int) (O : List Int) (aw : Int) : Bool := decide (O.length = n ∧ SlkP K O aw)
theorem slkB_true {n : Nat} {K : Int} {O : List Int} {aw : Int} (h : O.length = n) (h' : SlkP K O aw) : slkB n K O aw = true := by unfold slkB; simp [h, h']
theorem slkB_false {n : Nat} {K : Int} {O : List Int} {aw : Int} (h : ¬ (O.length = n ∧ SlkP K O aw)) : slkB n K O aw = false := by unfold slkB; simp only [h, decide_false]
theorem slk_of {n : Nat} {K : Int} {O : List Int} {aw : Int} (h : slkB n K O aw = true) : O.length = n ∧ SlkP K O aw := by unfold slkB at h; simpa using h
theorem not_slk {n : Nat} {K : Int} {O : List Int} {aw : Int} (h : slkB n K O aw = false) : ¬ (O.length = n ∧ SlkP K O aw) := by
  intro hn
  rw [slkB_true hn.1 hn.2] at h
  cases h

theorem nonneg_part {a : List Int} {k : Nat} (h : ∀ i, i < k → 0 ≤ el a i) (hk : k ≤ a.length) (j : Nat) (hj : j < k) : el a j ≤ sm (el a) k := sm_term k j hj h
/-- A number that is below 0, or greater than what is left: no slick. -/
theorem slk_bad {n : Nat} {K : Int} {O : List Int} {aw : Int} {k : Nat} {p : Int} (hp : p = 36000 * (16 : Int) ^ K.toNat) (hk : k < (amt O aw).length) (h : el (amt O aw) k < 0 ∨ p - sm (el (amt O aw)) k < el (amt O aw) k) : slkB n K O aw = false :=
  slkB_false fun hs => by
    obtain ⟨_, _, h1, h2⟩ := hs
    have h3 := h1 k hk
    have h4 := sm_part (f := el (amt O aw)) (amt O aw).length (k + 1) (by omega) (fun i hi => h1 i hi)
    rw [sm_succ] at h4
    unfold tot at h2
    omega

set_option maxRecDepth 100000 in
set_option maxHeartbeats 4000000 in
theorem isSlick_any (B : Nat) (W H : Int) (aL aS aO : Option Addr) (cL cS cO : Nat) (L : List Bool) (n : Nat) (S : List Int) (K : Int) (O : List Int) (aw : Int) (w : World) (hO : Row w B aO O) (hB : B ≤ w.heap.size) (hl : L.length ≤ 36) :
    Calls Tryd.prog 60 #[.agg #[.int .i64 W, .int .i64 H, .slice aL L.length cL, .slice aS n cS], .agg #[.int .i64 K, .slice aO O.length cO, .int .i64 aw]] w
      fun e w' => e = .returned (.bool (slkB L.length K O aw)) ∧ Below w.heap.size w w' := by
  have hl63 := hO.1
  cases hK : movesB K with
  | false =>
    have hn := Lib.hid (slkB_false (fun hs => by have := hs.2.1; unfold movesB at hK; simp at hK; omega) : slkB L.length K O aw = false)
    go_enter Tryd.func60, Tryd.ntmps60
    go_wp2_with fail
    refine (isMoves_any K _).mono ?_
    rintro e w' ⟨rfl, rfl⟩
    rw [hK]
    go_wp2
    go_ret
    exact ⟨ret_bool hn.out.symm, ((Below.refl _ _).alloc (Nat.le_refl _) _).alloc (by simp) _⟩
  | true =>
    have hKb : 0 ≤ K ∧ K ≤ 5 := by unfold movesB at hK; simpa using hK
    by_cases hlen : (O.length : Int) = L.length
    · obtain ⟨k0, rfl⟩ : ∃ k0 : Nat, K = k0 := ⟨K.toNat, by omega⟩
      have hm := fun w => most_any k0 w (by omega)
      obtain ⟨p, hp⟩ : ∃ p, 36000 * (16 : Int) ^ k0 = p := ⟨_, rfl⟩
      have hpb : 0 ≤ p ∧ p ≤ 40000000000 := by
        have hk' : k0 = 0 ∨ k0 = 1 ∨ k0 = 2 ∨ k0 = 3 ∨ k0 = 4 ∨ k0 = 5 := by omega
        subst hp
        rcases hk' with rfl | rfl | rfl | rfl | rfl | rfl <;> decide
      rw [hp] at hm
      have hpe : p = 36000 * (16 : Int) ^ ((k0 : Int)).toNat := by simpa using hp.symm
      have ham : ∀ W, Below w.heap.size w W → Calls Tryd.prog 64 #[.agg #[.int .i64 k0, .slice aO O.length cO, .int .i64 aw]] W (NewRow W (amt O aw)) := fun W hb => amounts_row (hO.below (hb.mono hB)) (by have := hb.size; omega) (by omega)
      have hlm : (amt O aw).length = O.length + 1 := amt_len O aw
      have hbad : ∀ k, k < (amt O aw).length → (el (amt O aw) k < 0 ∨ p - sm (el (amt O aw)) k < el (amt O aw) k) → slkB L.length k0 O aw = false := fun k hk h => slk_bad hpe hk h
      have hgood : (∀ i, i < (amt O aw).length → 0 ≤ el (amt O aw) i) → sm (el (amt O aw)) (amt O aw).length ≤ p → slkB L.length k0 O aw = true := fun h1 h2 => slkB_true (by omega) ⟨hKb, h1, by unfold tot; rw [← hpe]; exact h2⟩
      generalize amt O aw = a at *
      generalize slkB L.length k0 O aw = r at *
      clear hpe hp
      replace ham := Lib.hid ham
      replace hbad := Lib.hid hbad
      replace hgood := Lib.hid hgood
      replace hm := Lib.hid hm
      have hlm' : (a.length : Int) = O.length + 1 := by omega
      replace hlm := Lib.hid hlm
      go_enter Tryd.func60, Tryd.ntmps60
      go_wp2_with fail
      refine (isMoves_any k0 _).mono ?_
      rintro e w' ⟨rfl, rfl⟩
      rw [hK]
      go_wp2_with fail
      refine (hm.out _).mono ?_
      rintro e w' ⟨rfl, rfl⟩
      go_wp2_with fail
      refine (ham.out _ (((Below.refl _ _).alloc (Nat.le_refl _) _).alloc (by simp) _)).mono ?_
      rintro e w1 ⟨A1, c1, rfl, hb1, hr1⟩
      have hbb : Below w.heap.size w w1 := (((Below.refl w.heap.size w).alloc (Nat.le_refl _) _).alloc (by simp) _).trans (hb1.mono (by simp; omega))
      have ha63 := hr1.1
      clear hb1
      go_wp2
      go_loopw [5, 27] (fun x i wr => ∃ k : Nat, k ≤ a.length ∧ i = .int .i64 k ∧ x = .int .i64 (p - sm (el a) k) ∧ (∀ i, i < k → 0 ≤ el a i) ∧ sm (el a) k ≤ p ∧ wr = w1) (fun _ i _ => a.length - (intOf i).toNat)
      case atStart => exact ⟨0, Nat.zero_le _, rfl, by rw [sm_zero]; simp, fun i hi => absurd hi (Nat.not_lt_zero _), by rw [sm_zero]; exact hpb.1, rfl⟩
      case round =>
        obtain ⟨k, hk, rfl, rfl, hnn, hle, rfl⟩ := hrel
        have hs0 := sm_nonneg k hnn
        by_cases hlt : k < a.length
        · obtain ⟨b, o, rfl, hb, hc⟩ := hr1.at_ k hlt
          have hss := Lib.hid (sm_succ (el a) k)
          by_cases h1 : el a k < 0
          · have hn := Lib.hid (hbad.out k hlt (.inl h1))
            go_wp2
            go_ret
            exact ⟨ret_bool hn.out.symm, hbb⟩
          · by_cases h2 : p - sm (el a) k < el a k
            · have hn := Lib.hid (hbad.out k hlt (.inr h2))
              go_wp2
              go_ret
              exact ⟨ret_bool hn.out.symm, hbb⟩
            · replace hnn := Lib.hid hnn
              go_wp2
              go_roundw
              case rel => exact ⟨k + 1, by omega, by go_num, by rw [hss.out]; congr 1; omega, fun i hi => by
                rcases Nat.lt_succ_iff_lt_or_eq.1 hi with h' | rfl
                · exact hnn.out i h'
                · omega, by rw [hss.out]; omega, trivial⟩
              case measure => simp [intOf]; omega
        · have hk' : k = a.length := by omega
          subst hk'
          have hn := Lib.hid (hgood.out hnn hle)
          replace hnn := Lib.hid hnn
          go_wp2
          go_ret
          exact ⟨ret_bool hn.out.symm, hbb⟩
    · have hn := Lib.hid (slkB_false (fun hs => hlen (by rw [hs.1])) : slkB L.length K O aw = false)
      have hlen' : ((O.length : Int) != (L.length : Int)) = true := by simpa using hlen
      go_enter Tryd.func60, Tryd.ntmps60
      go_wp2_with fail
      refine (isMoves_any K _).mono ?_
      rintro e w' ⟨rfl, rfl⟩
      rw [hK]
      go_wp2
      go_ret
      exact ⟨ret_bool hn.out.symm, ((Below.refl _ _).alloc (Nat.le_refl _) _).alloc (by simp) _⟩
end Go.Proofs.YtnbgjgiknfcdkaaDoor
