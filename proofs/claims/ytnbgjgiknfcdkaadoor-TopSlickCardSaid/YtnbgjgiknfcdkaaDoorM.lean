/-
  Totals, and the amounts of land or of water alone.
-/
import Derived.Test.YtnbgjgiknfcdkaaDoorK
namespace Go.Proofs.YtnbgjgiknfcdkaaDoor
open Go.RowKit Go.Deep M
set_option linter.unusedVariables false
set_option linter.unusedSimpArgs false

set_option maxHeartbeats 1000000 in
theorem total_any (B : Nat) (A : Option Addr) (c : Nat) (a : List Int) (w : World) (h : Row w B A a) (hnn : NonNeg a) (ht : tot a ≤ 1000000000000) (hl : a.length ≤ 1000) :
    Calls Tryd.prog 63 #[.slice A a.length c] w fun e w' => e = .returned (.int .i64 (tot a)) ∧ w = w' := by
  have hb : ∀ k, k ≤ a.length → 0 ≤ sm (el a) k ∧ sm (el a) k ≤ 1000000000000 := fun k hk => ⟨sm_nonneg k (fun i hi => hnn i (by omega)), Int.le_trans (sm_part a.length k hk hnn) ht⟩
  have he : sm (el a) a.length = tot a := rfl
  generalize tot a = t at *
  replace he := Lib.hid he
  replace hb := Lib.hid hb
  go_enter Tryd.func63, Tryd.ntmps63
  go_wp2
  go_loop [3, 8] (fun s i => ∃ k : Nat, k ≤ a.length ∧ i = .int .i64 k ∧ s = .int .i64 (sm (el a) k)) (fun _ i => a.length - (intOf i).toNat)
  case atStart => exact ⟨0, Nat.zero_le _, rfl, rfl⟩
  case round =>
    obtain ⟨k, hk, rfl, rfl⟩ := hrel
    obtain ⟨s1, s2⟩ := hb.out k hk
    by_cases hlt : k < a.length
    · obtain ⟨b, o, rfl, hbb, hc⟩ := h.at_ k hlt
      have s3 := hb.out (k + 1) hlt
      rw [sm_succ] at s3
      obtain ⟨s3, s4⟩ := s3
      have hs := Lib.hid (sm_succ (el a) k)
      go_wp2
      go_round
      case rel => exact ⟨k + 1, by omega, by go_num, by rw [hs.out]⟩
      case measure => simp [intOf]; omega
    · have hk' : k = a.length := by omega
      subst hk'
      go_wp2
      go_ret
      exact ⟨ret_int he.out, rfl⟩

/-- The amounts of land alone, or of water alone. -/
def onlyF (L : List Bool) (a : List Int) (land : Bool) (i : Nat) : Int := if bl L i = land then el a i else 0
def only (L : List Bool) (a : List Int) (land : Bool) : List Int := mk (onlyF L a land) L.length
theorem only_len (L : List Bool) (a : List Int) (land : Bool) : (only L a land).length = L.length := mk_len _ _
theorem mk_step {w : World} {b n k : Nat} {F : Nat → Int} (h : w.rowIs b 3 n (fun i => if i < k then .int .i64 (F i) else .int .i64 0)) :
    (w.setCell ⟨b, k, none⟩ (.int .i64 (F k))).rowIs b 3 n (fun i => if i < k + 1 then .int .i64 (F i) else .int .i64 0) :=
  (h.set k _).congr (fun i _ => by
    by_cases e : i = k
    · subst e; simp
    · rw [if_neg e]
      by_cases hlt : i < k
      · rw [if_pos hlt, if_pos (by omega)]
      · rw [if_neg hlt, if_neg (by omega)])
theorem mk_skip {w : World} {b n k : Nat} {F : Nat → Int} (h : w.rowIs b 3 n (fun i => if i < k then .int .i64 (F i) else .int .i64 0)) (h0 : F k = 0) :
    w.rowIs b 3 n (fun i => if i < k + 1 then .int .i64 (F i) else .int .i64 0) :=
  h.congr (fun i _ => by
    by_cases e : i = k
    · subst e; simp [h0]
    · by_cases hlt : i < k
      · rw [if_pos hlt, if_pos (by omega)]
      · rw [if_neg hlt, if_neg (by omega)])
theorem mk_row {w : World} {b n : Nat} {F : Nat → Int} (h : w.rowIs b 3 n (fun i => if i < n then .int .i64 (F i) else .int .i64 0)) (hn : n ≤ 9223372036854775807) : Row w w.heap.size (some ⟨b, 0, none⟩) (mk F n) :=
  ⟨by rw [mk_len]; exact hn, fun _ => ⟨b, 0, rfl, h.lt, fun i hi => by rw [mk_len] at hi; rw [Nat.zero_add, h.cell hi, if_pos hi, mk_el F n i hi]⟩⟩

set_option maxRecDepth 100000 in
set_option maxHeartbeats 4000000 in
theorem only_any (B : Nat) (W H : Int) (aL aS A : Option Addr) (cL nS cS c : Nat) (L : List Bool) (a : List Int) (land : Bool) (w : World) (hL : Bools w B aL L) (ha : Row w B A a) (hB : B ≤ w.heap.size) (hl : L.length ≤ a.length) (h36 : L.length ≤ 36) (h1000 : a.length ≤ 1000) :
    Calls Tryd.prog 67 #[.agg #[.int .i64 W, .int .i64 H, .slice aL L.length cL, .slice aS nS cS], .slice A a.length c, .bool land] w (NewRow w (only L a land)) := by
  have hmk := run_make_row' (P := Tryd.prog) 26 3 (.int .i64 0) 8 Tryd.underlying26 info3 rfl .i64 .i64 L.length (by omega) (by omega)
  have hr0 := World.rowIs_made (w.alloc (.cells #[.int .i64 W, .int .i64 H, .slice aL L.length cL, .slice aS nS cS] 82)) (.int .i64 0) L.length 3
  rw [World.size_alloc] at hr0
  have hb0 := ba2 w (.cells #[.int .i64 W, .int .i64 H, .slice aL L.length cL, .slice aS nS cS] 82) (.cells (madeCells #[.int .i64 0] L.length) 3)
  replace hr0 := Lib.hid hr0
  replace hb0 := Lib.hid hb0
  go_enter Tryd.func67, Tryd.ntmps67
  go_wp2
  clear hmk
  go_loopw [17] (fun i wr => ∃ k : Nat, k ≤ L.length ∧ i = .int .i64 k ∧ Below w.heap.size w wr ∧ wr.rowIs (w.heap.size + 1) 3 L.length (fun i => if i < k then .int .i64 (onlyF L a land i) else .int .i64 0)) (fun i _ => L.length - (intOf i).toNat)
  case atStart => exact ⟨0, Nat.zero_le _, rfl, hb0.out, hr0.out.congr (fun i _ => by simp)⟩
  case round =>
    obtain ⟨k, hk, rfl, hb, hr⟩ := hrel
    by_cases hlt : k < L.length
    · obtain ⟨b, o, rfl, hbl, hc⟩ := (hL.below (hb.mono hB)).at_ k hlt
      obtain ⟨b', o', rfl, hbl', hc'⟩ := (ha.below (hb.mono hB)).at_ k (by omega)
      have hka : (k : Int) < (a.length : Nat) := by omega
      by_cases he : bl L k = land
      · have hf : onlyF L a land k = el a k := if_pos he
        have hst := mk_step hr
        rw [hf] at hst
        have hb2 := hb.setCell (p := ⟨w.heap.size + 1, k, none⟩) (Nat.le_succ _) (.int .i64 (el a k))
        have cr := hr.cell hlt
        have fr := hr.frozen k
        simp only [Nat.lt_irrefl, if_false] at cr
        have hee : (bl L k == land) = true := by simp [he]
        replace hst := Lib.hid hst
        replace hb2 := Lib.hid hb2
        replace he := Lib.hid he
        clear hr hf
        go_wp2
        go_roundw
        case rel => exact ⟨k + 1, by omega, by go_num, hb2.out, hst.out⟩
        case measure => simp [intOf]; omega
      · have hf : onlyF L a land k = 0 := if_neg he
        have hst := mk_skip hr hf
        have hee : (bl L k == land) = false := by simp [he]
        replace hst := Lib.hid hst
        replace he := Lib.hid he
        clear hr hf
        go_wp2
        go_roundw
        case rel => exact ⟨k + 1, by omega, by go_num, hb, hst.out⟩
        case measure => simp [intOf]; omega
    · have hk' : k = L.length := by omega
      subst hk'
      have hend := mk_row hr (by omega)
      go_wp2
      go_ret
      exact ⟨some ⟨w.heap.size + 1, 0, none⟩, L.length, by rw [only_len]; rfl, hb, hend⟩

set_option maxHeartbeats 2000000 in
theorem SameInts_ref (B : Nat) (A A' : Option Addr) (c c' : Nat) (a a' : List Int) (w : World) (h : Row w B A a) (h' : Row w B A' a') :
    Calls Tryd.prog 28 #[.slice A a.length c, .slice A' a'.length c'] w fun e w' => e = .returned (.bool (decide (a = a'))) ∧ ∃ n, w' = w.drewN n := by
  have h63 := h.1
  have h63' := h'.1
  by_cases hl : a.length = a'.length
  · have hext : (∀ i, i < a.length → el a i = el a' i) → a = a' := fun hh => ints_ext hl hh
    have hlI : (a.length : Int) = a'.length := by omega
    have hlb : ((a.length : Int) != (a'.length : Int)) = false := by simp [hl]
    replace hext := Lib.hid hext
    replace hl := Lib.hid hl
    clear hlI
    go_enter Tryd.func28, Tryd.ntmps28
    go_wp2
    go_loopw [5] (fun i wr => ∃ k : Nat, k ≤ a.length ∧ i = .int .i64 k ∧ (∀ i, i < k → el a i = el a' i) ∧ ∃ n, wr = w.drewN n) (fun i _ => a.length - (intOf i).toNat)
    case atStart => exact ⟨0, Nat.zero_le _, rfl, fun i hi => absurd hi (Nat.not_lt_zero _), 0, rfl⟩
    case round =>
      obtain ⟨k, hk, rfl, hel, n, rfl⟩ := hrel
      by_cases hlt : k < a.length
      · obtain ⟨b, o, rfl, hb, hc⟩ := h.at_ k hlt
        have hk2 : k < a'.length := by have := hl.out; omega
        have hk2I : (k : Int) < (a'.length : Nat) := by omega
        obtain ⟨b', o', rfl, hb', hc'⟩ := h'.at_ k hk2
        by_cases he : el a k = el a' k
        · have hel' : ∀ i, i < k + 1 → el a i = el a' i := fun i hi => by
            rcases Nat.lt_succ_iff_lt_or_eq.1 hi with h1 | rfl
            · exact hel i h1
            · exact he
          have hne : (el a k != el a' k) = false := by simp [he]
          replace hel' := Lib.hid hel'
          replace hel := Lib.hid hel
          replace he := Lib.hid he
          go_wp2
          go_quiet (fail)
          go_wp2
          go_roundw
          case rel => exact ⟨k + 1, by omega, by go_num, hel'.out, n + nq, by simp⟩
          case measure => simp [intOf]; omega
        · have hne : (el a k != el a' k) = true := by simp [he]
          have hd : decide (a = a') = false := by rw [decide_eq_false_iff_not]; intro e; exact he (by rw [e])
          replace hd := Lib.hid hd
          replace hel := Lib.hid hel
          replace he := Lib.hid he
          go_wp2
          go_quiet (fail)
          go_wp2
          go_ret
          exact ⟨ret_bool hd.out.symm, n + nq, by simp⟩
      · have hk' : k = a.length := by omega
        subst hk'
        have hd : decide (a = a') = true := by rw [decide_eq_true_iff]; exact hext.out hel
        replace hd := Lib.hid hd
        replace hel := Lib.hid hel
        go_wp2
        go_ret
        exact ⟨ret_bool hd.out.symm, n, rfl⟩
  · have hd : decide (a = a') = false := by rw [decide_eq_false_iff_not]; intro e; exact hl (by rw [e])
    have hlb : ((a.length : Int) != (a'.length : Int)) = true := by simp; omega
    replace hd := Lib.hid hd
    go_enter Tryd.func28, Tryd.ntmps28
    go_wp2
    go_ret
    exact ⟨ret_bool hd.out.symm, 0, rfl⟩
end Go.Proofs.YtnbgjgiknfcdkaaDoor
