/-
  The contracts of the specification's comparisons: SameInts, Equal.
-/
import Derived.Test.YtmpmlgognkmfgaaMade
namespace Go.Proofs.Ytmpmlgognkmfgaa
open Go.RowKit Go.Deep M
set_option linter.unusedVariables false
set_option linter.unusedSimpArgs false

theorem ints_ext {l m : List Int} (hl : l.length = m.length) (h : ∀ j, j < l.length → el l j = el m j) : l = m := by
  apply List.ext_getElem hl
  intro i h1 h2
  have := h i h1
  rwa [el_eq l i h1, el_eq m i h2] at this
theorem rows_ext {l m : List (List Int)} (hl : l.length = m.length) (h : ∀ j, j < l.length → row l j = row m j) : l = m := by
  apply List.ext_getElem hl
  intro i h1 h2
  have := h i h1
  rwa [row_eq l i h1, row_eq m i h2] at this

set_option maxHeartbeats 1000000 in
theorem sameInts (B : Nat) (A A' : Option Addr) (c c' : Nat) (l m : List Int) (w : World) (h : Row w B A l) (h' : Row w B A' m) :
    Calls Try.prog 31 #[.slice A l.length c, .slice A' m.length c'] w fun e w' => e = .returned (.bool (decide (l = m))) ∧ ∃ n, w' = w.drewN n := by
  have h63 := h.1
  have h63' := h'.1
  by_cases hl : l.length = m.length
  · have hd := Lib.hid hl
    have hne : ((l.length : Int) != (m.length : Int)) = false := by simp; omega
    clear hl
    go_enter Try.func31, Try.ntmps31
    go_wp2
    go_loopw [13] (fun i wr => ∃ k : Nat, k ≤ l.length ∧ i = .int .i64 k ∧ (∀ j, j < k → el l j = el m j) ∧ ∃ n, wr = w.drewN n) (fun i _ => l.length - (intOf i).toNat)
    case atStart => exact ⟨0, Nat.zero_le _, rfl, fun j hj => absurd hj (Nat.not_lt_zero _), 0, rfl⟩
    case round =>
      obtain ⟨k, hk, rfl, hall, n, rfl⟩ := hrel
      replace hall := Lib.hid hall
      by_cases hlt : k < l.length
      · have hlt' : k < m.length := by have := hd.out; omega
        obtain ⟨b, o, rfl, hb, hc⟩ := h.at_ k hlt
        obtain ⟨b', o', rfl, hb', hc'⟩ := h'.at_ k hlt'
        by_cases he : el l k = el m k
        · have heq := Lib.hid he
          have ht : (el l k != el m k) = false := by simp [he]
          clear he
          go_wp2
          go_quiet (fail)
          go_wp2
          go_roundw
          case rel => exact ⟨k + 1, by omega, by go_num, fun j hj => by
            rcases Nat.lt_succ_iff_lt_or_eq.1 hj with h1 | rfl
            · exact hall.out j h1
            · exact heq.out, _, rfl⟩
          case measure => simp [intOf]; omega
        · have hne2 := Lib.hid (show decide (l = m) = false from decide_eq_false (fun h => he (by rw [h])))
          have ht : (el l k != el m k) = true := by simpa using he
          clear he
          go_wp2
          go_quiet (fail)
          go_wp2
          go_ret
          exact ⟨ret_bool hne2.out.symm, n + nq, by simp⟩
      · have hk' : k = l.length := by omega
        subst hk'
        have heq := Lib.hid (show decide (l = m) = true from decide_eq_true (ints_ext hd.out hall.out))
        go_wp2
        go_ret
        exact ⟨ret_bool heq.out.symm, n, rfl⟩
  · have hne2 := Lib.hid (show decide (l = m) = false from decide_eq_false (fun h => hl (by rw [h])))
    have hne : ((l.length : Int) != (m.length : Int)) = true := by simp; omega
    clear hl
    go_enter Try.func31, Try.ntmps31
    go_wp2
    go_ret
    exact ⟨ret_bool hne2.out.symm, 0, rfl⟩

set_option maxHeartbeats 1000000 in
theorem equal (B : Nat) (A A' : Option Addr) (c c' : Nat) (l m : List (List Int)) (w : World) (h : Mat w B A l) (h' : Mat w B A' m) :
    Calls Try.prog 40 #[.slice A l.length c, .slice A' m.length c'] w fun e w' => e = .returned (.bool (decide (l = m))) ∧ ∃ n, w' = w.drewN n := by
  have h63 := h.1
  have h63' := h'.1
  by_cases hl : l.length = m.length
  · have hd := Lib.hid hl
    have hne : ((l.length : Int) != (m.length : Int)) = false := by simp; omega
    clear hl
    go_enter Try.func40, Try.ntmps40
    go_wp2
    go_loopw [13] (fun i wr => ∃ k : Nat, k ≤ l.length ∧ i = .int .i64 k ∧ (∀ j, j < k → row l j = row m j) ∧ ∃ n, wr = w.drewN n) (fun i _ => l.length - (intOf i).toNat)
    case atStart => exact ⟨0, Nat.zero_le _, rfl, fun j hj => absurd hj (Nat.not_lt_zero _), 0, rfl⟩
    case round =>
      obtain ⟨k, hk, rfl, hall, n, rfl⟩ := hrel
      replace hall := Lib.hid hall
      by_cases hlt : k < l.length
      · have hlt' : k < m.length := by have := hd.out; omega
        obtain ⟨b, o, Ai, ci, rfl, hb, hc, hr⟩ := h.at_ k hlt
        obtain ⟨b', o', Ai', ci', rfl, hb', hc', hr'⟩ := h'.at_ k hlt'
        have hsame := Lib.hid (fun W (e1 : Row W B Ai (row l k)) (e2 : Row W B Ai' (row m k)) => sameInts B Ai Ai' ci ci' (row l k) (row m k) W e1 e2)
        by_cases he : row l k = row m k
        · have heq := Lib.hid he
          rw [decide_eq_true he] at hsame
          clear he
          go_wp2
          go_quiet ((go_at_call 31; (with_reducible exact quiet_add (hsame.out _ (hr.drewN _) (hr'.drewN _)))))
          go_wp2
          go_roundw
          case rel => exact ⟨k + 1, by omega, by go_num, fun j hj => by
            rcases Nat.lt_succ_iff_lt_or_eq.1 hj with h1 | rfl
            · exact hall.out j h1
            · exact heq.out, _, rfl⟩
          case measure => simp [intOf]; omega
        · have hne2 := Lib.hid (show decide (l = m) = false from decide_eq_false (fun h => he (by rw [h])))
          rw [decide_eq_false he] at hsame
          clear he
          go_wp2
          go_quiet ((go_at_call 31; (with_reducible exact quiet_add (hsame.out _ (hr.drewN _) (hr'.drewN _)))))
          go_wp2
          go_ret
          exact ⟨ret_bool hne2.out.symm, n + nq, by simp⟩
      · have hk' : k = l.length := by omega
        subst hk'
        have heq := Lib.hid (show decide (l = m) = true from decide_eq_true (rows_ext hd.out hall.out))
        go_wp2
        go_ret
        exact ⟨ret_bool heq.out.symm, n, rfl⟩
  · have hne2 := Lib.hid (show decide (l = m) = false from decide_eq_false (fun h => hl (by rw [h])))
    have hne : ((l.length : Int) != (m.length : Int)) = true := by simp; omega
    clear hl
    go_enter Try.func40, Try.ntmps40
    go_wp2
    go_ret
    exact ⟨ret_bool hne2.out.symm, 0, rfl⟩

end Go.Proofs.Ytmpmlgognkmfgaa
