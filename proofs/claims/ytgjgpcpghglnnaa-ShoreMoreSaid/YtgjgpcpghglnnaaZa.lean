/-
  What the laws of this layer have in common: are there too many jobs, and a list of integers that came in.
-/
import Derived.Test.YtgjgpcpghglnnaaK
import Derived.Test.YtgjgpcpghglnnaaF
namespace Go.Proofs.Ytgjgpcpghglnnaa
open Go.Joins Go.ChangeShapes Go.WideShapes Go.ChangeAt Go.RowKit Go.Deep M
set_option linter.unusedVariables false
set_option linter.unusedSimpArgs false

def mkL (F : Nat → Int) (n : Nat) : List Int := (List.range n).map F
theorem mkL_len (F : Nat → Int) (n : Nat) : (mkL F n).length = n := by simp [mkL]
theorem mkL_el (F : Nat → Int) (n i : Nat) (h : i < n) : el (mkL F n) i = F i := by rw [el_eq _ _ (by rw [mkL_len]; exact h)]; simp [mkL]
section
variable {H : Type} {enc : TypeId × Value → H} {W : World} {fuel : Nat} {v : Value} {x : DataW H × List MemPlace}
set_option maxRecDepth 100000 in
/-- A LIST OF INTEGERS THAT CAME IN. -/
theorem row_of (hf : DataW.trod enc Try.prog W 0 (fun _ => true) true fuel 23 [v] = some x) : ∃ A len cap l, v = .slice A len cap ∧ l.length = len ∧ Row W W.heap.size A l := by
  rcases open_slice Try.underlying23 hf with ⟨hcs, hx⟩ | ⟨a, len, cap, m, n, D, Pl, hcs, _, hl, hm, hmm, hx, hi⟩
  · obtain rfl : v = .slice none 0 0 := by simpa using hcs
    exact ⟨none, 0, 0, [], rfl, rfl, row_nil _ _ _⟩
  · obtain rfl : v = .slice (some a) len cap := by simpa using hcs
    have hm' : m = cap := by simpa using hmm
    subst hm'
    have hc : ∀ i, i < len → ∃ z, W.cell? (a.add i) = some (.int .i64 z) := fun i hil => by
      obtain ⟨cs', hc, ht⟩ := hi i (by omega)
      rw [cells3] at hc
      obtain ⟨z, rfl, _, _⟩ := DataW.trod_int Try.underlying3 ht
      obtain ⟨_, hcl, hat⟩ := World.cells?_some hc
      have := hat 0 (by omega)
      rw [Go.Deep.add_add, Nat.mul_one, Nat.add_zero] at this
      exact ⟨z, this⟩
    unfold maxLen at hm
    refine ⟨some a, len, m, mkL (readI W a) len, rfl, mkL_len _ _, by rw [mkL_len]; omega, fun hn => ?_⟩
    rw [mkL_len] at hn
    obtain ⟨z, hz⟩ := hc 0 hn
    obtain ⟨b, o, rfl, hb, hadd⟩ := addr_plain hz
    refine ⟨b, o, rfl, hb, fun i hil => ?_⟩
    rw [mkL_len] at hil
    obtain ⟨z, hz⟩ := hc i hil
    rw [mkL_el _ _ _ hil]
    have hr : readI W ⟨b, o, none⟩ i = z := by unfold readI; rw [hz]
    rw [hr, ← hadd i]; exact hz
end

/-- Are there too many beaches or jobs? -/
def LongP (D : List Bc) : Prop := 20 < D.length ∨ ∃ i, i < D.length ∧ 100 < (be (bl D) i).length
set_option maxRecDepth 100000 in
set_option maxHeartbeats 2000000 in
theorem Long_any (B : Nat) (A : Option Addr) (c : Nat) (D : List Bc) (w : World) (h : Bcs w B A D) (q : Bool) (hq1 : q = true → LongP D) (hq2 : q = false → ¬ LongP D) :
    Calls Try.prog 14 #[.slice A D.length c] w fun e w' => e = .returned (.bool q) ∧ w = w' := by
  have h63 := h.1
  have hat := fun k (hk : k < D.length) => h.at_ k hk
  have hyes : ∀ k, k < D.length → 100 < (be (bl D) k).length → q = true := fun k hk hh => by
    cases q with
    | true => rfl
    | false => exact absurd (.inr ⟨k, hk, hh⟩) (hq2 rfl)
  have hend : (∀ k, k < D.length → (be (bl D) k).length ≤ 100) → q = decide (20 < D.length) := fun hh => by
    cases q with
    | true =>
      rcases hq1 rfl with h1 | ⟨k, hk, h1⟩
      · rw [decide_eq_true h1]
      · exact absurd (hh k hk) (by omega)
    | false => rw [decide_eq_false fun h1 => hq2 rfl (.inl h1)]
  obtain ⟨n, hn⟩ : ∃ n, n = D.length := ⟨_, rfl⟩
  rw [← hn] at h63 hat hyes hend ⊢
  replace hn := Lib.hid hn
  replace hat := Lib.hid hat
  replace hyes := Lib.hid hyes
  replace hend := Lib.hid hend
  replace h := Lib.hid h
  clear hq1 hq2
  go_enter Try.func14, Try.ntmps14
  go_wp2
  go_loop [3] (fun i => ∃ k : Nat, k ≤ n ∧ i = .int .i64 (k : Nat) ∧ ∀ j, j < k → (be (bl D) j).length ≤ 100) (fun i => n - (intOf i).toNat)
  case atStart => exact ⟨0, by omega, rfl, fun j hj => absurd hj (Nat.not_lt_zero _)⟩
  case round =>
    obtain ⟨k, hk, rfl, hel⟩ := hrel
    by_cases hlk : k < n
    · obtain ⟨b, o, rfl, hb, e0, hjb⟩ := hat.out k hlk
      have hy := hyes.out k hlk
      have hel' := fun hh => (fun (j : Nat) (hj : j < k + 1) => show (be (bl D) j).length ≤ 100 by
        rcases Nat.lt_succ_iff_lt_or_eq.1 hj with h' | rfl
        · exact hel j h'
        · exact hh)
      have l63 := hjb.1
      replace hjb := Lib.hid hjb
      replace hel := Lib.hid hel
      obtain ⟨L, hL⟩ : ∃ L, L = (be (bl D) k).length := ⟨_, rfl⟩
      rw [← hL] at e0 hy hel' l63
      replace hL := Lib.hid hL
      by_cases h100 : 100 < L
      · have hqq := hy h100
        subst hqq
        clear hel'
        go_wp2
        go_ret
        exact ⟨rfl, rfl⟩
      · have hs := Lib.hid (hel' (by omega))
        clear hel' hy
        go_wp2
        go_round
        case rel => exact ⟨k + 1, by omega, by go_num, hs.out⟩
        case measure => simp [intOf]; omega
    · have hk' : k = n := by omega
      subst hk'
      have hqq := hend.out hel
      subst hqq
      replace hel := Lib.hid hel
      by_cases h20 : 20 < k
      · go_wp2
        go_ret
        exact ⟨ret_bool (by simp [h20]; try omega), rfl⟩
      · go_wp2
        go_ret
        exact ⟨ret_bool (by simp [h20]; try omega), rfl⟩

theorem LongP.no {D : List Bc} (hl : ¬ LongP D) : ∀ i, i < D.length → (be (bl D) i).length ≤ 100 := fun i hi => by
  rcases Nat.lt_or_ge 100 (be (bl D) i).length with h1 | h1
  · exact absurd (.inr ⟨i, hi, h1⟩) hl
  · exact h1
end Go.Proofs.Ytgjgpcpghglnnaa
