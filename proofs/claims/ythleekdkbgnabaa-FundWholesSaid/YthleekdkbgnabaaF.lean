/-
  Claims and an estate checked, what is missing, the rule of a number: program and specification.
-/
import Derived.Test.YthleekdkbgnabaaE
namespace Go.Proofs.Ythleekdkbgnabaa
open Go.RowKit Go.Deep M
set_option linter.unusedVariables false
set_option linter.unusedSimpArgs false

namespace M
def okE (l : List Int) (e : Int) : Prop := vC l ∧ 0 ≤ e ∧ e ≤ sm l
instance (l : List Int) (e : Int) : Decidable (okE l e) := by unfold okE; infer_instance
theorem errC_ok {l : List Int} {e : Int} (h : okE l e) : errC l e = 0 := by
  unfold errC valB
  rw [if_pos (decide_eq_true h.1), if_pos h.2]
theorem errC_80 {l : List Int} {e : Int} (h : ¬ vC l) : errC l e = 80 := by
  unfold errC valB
  rw [if_neg (by simpa using h)]
theorem errC_2 {l : List Int} {e : Int} (h : vC l) (h2 : ¬ (0 ≤ e ∧ e ≤ sm l)) : errC l e = 2 := by
  unfold errC valB
  rw [if_pos (decide_eq_true h), if_neg h2]
theorem errC_bad {l : List Int} {e : Int} (h : ¬ okE l e) : ¬ vC l ∧ errC l e = 80 ∨ vC l ∧ e < 0 ∧ errC l e = 2 ∨ vC l ∧ 0 ≤ e ∧ sm l < e ∧ errC l e = 2 := by
  by_cases hv : vC l
  · by_cases h1 : e < 0
    · exact .inr (.inl ⟨hv, h1, errC_2 hv (by omega)⟩)
    · by_cases h2 : sm l < e
      · exact .inr (.inr ⟨hv, by omega, h2, errC_2 hv (by omega)⟩)
      · exact absurd ⟨hv, by omega, by omega⟩ h
  · exact .inl ⟨hv, errC_80 hv⟩
theorem errC_ne {l : List Int} {e : Int} (h : ¬ okE l e) : errC l e = 80 ∨ errC l e = 2 := by
  rcases errC_bad h with h | h | h
  · exact .inl h.2
  · exact .inr h.2.2
  · exact .inr h.2.2.2
theorem val_t {l : List Int} (h : vC l) : valB l = true := decide_eq_true h
theorem val_f {l : List Int} (h : ¬ vC l) : valB l = false := decide_eq_false h
theorem val_len {l : List Int} (h : vC l) : 1 ≤ l.length ∧ l.length ≤ 8 := h.1
/-- The error of claims, an estate and a rule. -/
def errS (l : List Int) (e q : Int) : Int := if okE l e then if 1 ≤ q ∧ q ≤ 4 then 0 else 2 else errC l e
def okS (l : List Int) (e q : Int) : Prop := okE l e ∧ 1 ≤ q ∧ q ≤ 4
instance (l : List Int) (e q : Int) : Decidable (okS l e q) := by unfold okS; infer_instance
theorem errS_ok {l : List Int} {e q : Int} (h : okS l e q) : errS l e q = 0 := by unfold errS; rw [if_pos h.1, if_pos h.2]
theorem errS_bad {l : List Int} {e q : Int} (h : ¬ okS l e q) : ¬ okE l e ∧ errS l e q = errC l e ∨ okE l e ∧ (q < 1 ∨ 1 ≤ q ∧ 4 < q) ∧ errS l e q = 2 := by
  by_cases h1 : okE l e
  · have h2 : ¬ (1 ≤ q ∧ q ≤ 4) := fun hh => h ⟨h1, hh⟩
    exact .inr ⟨h1, by omega, by unfold errS; rw [if_pos h1, if_neg h2]⟩
  · exact .inl ⟨h1, by unfold errS; rw [if_neg h1]⟩
theorem errS_ne {l : List Int} {e q : Int} (h : ¬ okS l e q) : errS l e q = 80 ∨ errS l e q = 2 := by
  rcases errS_bad h with ⟨h1, h2⟩ | ⟨h1, h2, h3⟩
  · rw [h2]; exact errC_ne h1
  · exact .inr h3
end M

set_option maxHeartbeats 2000000 in
theorem checked_ok (B : Nat) (A : Option Addr) (c : Nat) (l : List Int) (e : Int) (w : World) (h : Row w B A l) (hk : okE l e) :
    Calls Try.prog 55 #[.slice A l.length c, .int .i64 e] w fun r w' => r = .returned (.tuple #[.slice A l.length c, .int .i64 0]) ∧ w' = w := by
  have kv := Valid_any B A c l w h
  rw [val_t hk.1] at kv
  have kss := sum_any B A c l w h hk.1.2 (by have := val_len hk.1; omega)
  obtain ⟨hv, h0, h1⟩ := hk
  generalize l.length = n at *
  have e1 : ¬ e < 0 := by omega
  have e2 : ¬ sm l < e := by omega
  generalize sm l = S at *
  replace kv := Lib.hid kv
  replace kss := Lib.hid kss
  replace h := Lib.hid h
  replace hv := Lib.hid hv
  go_enter Try.func55, Try.ntmps55
  go_wp2_with fail
  refine kv.out.mono ?_
  rintro _ X ⟨rfl, rfl⟩
  go_wp2_with fail
  refine kss.out.mono ?_
  rintro _ X ⟨rfl, rfl⟩
  go_wp2
  go_ret2
  exact ⟨rfl, rfl⟩
set_option maxHeartbeats 2000000 in
theorem checked_bad (B : Nat) (A : Option Addr) (c : Nat) (l : List Int) (e : Int) (w : World) (h : Row w B A l) (hk : ¬ okE l e) :
    Calls Try.prog 55 #[.slice A l.length c, .int .i64 e] w fun r w' => r = .returned (.tuple #[.slice none 0 0, .int .i64 (errC l e)]) ∧ w' = w := by
  have kv := Valid_any B A c l w h
  rcases errC_bad hk with ⟨hv, he⟩ | ⟨hv, hlt, he⟩ | ⟨hv, hge, hlt, he⟩
  · rw [he]
    rw [val_f hv] at kv
    generalize l.length = n at *
    replace kv := Lib.hid kv
    replace h := Lib.hid h
    replace hv := Lib.hid hv
    replace hk := Lib.hid hk
    replace he := Lib.hid he
    go_enter Try.func55, Try.ntmps55
    go_wp2_with fail
    refine kv.out.mono ?_
    rintro _ X ⟨rfl, rfl⟩
    go_wp2
    go_ret2
    exact ⟨rfl, rfl⟩
  · rw [he]
    rw [val_t hv] at kv
    generalize l.length = n at *
    replace kv := Lib.hid kv
    replace h := Lib.hid h
    replace hv := Lib.hid hv
    replace hk := Lib.hid hk
    replace he := Lib.hid he
    go_enter Try.func55, Try.ntmps55
    go_wp2_with fail
    refine kv.out.mono ?_
    rintro _ X ⟨rfl, rfl⟩
    go_wp2
    go_ret2
    exact ⟨rfl, rfl⟩
  · rw [he]
    rw [val_t hv] at kv
    have kss := sum_any B A c l w h hv.2 (by have := val_len hv; omega)
    have e1 : ¬ e < 0 := by omega
    generalize l.length = n at *
    generalize sm l = S at *
    replace kv := Lib.hid kv
    replace kss := Lib.hid kss
    replace h := Lib.hid h
    replace hv := Lib.hid hv
    replace hk := Lib.hid hk
    replace he := Lib.hid he
    go_enter Try.func55, Try.ntmps55
    go_wp2_with fail
    refine kv.out.mono ?_
    rintro _ X ⟨rfl, rfl⟩
    go_wp2_with fail
    refine kss.out.mono ?_
    rintro _ X ⟨rfl, rfl⟩
    go_wp2
    go_ret2
    exact ⟨rfl, rfl⟩

set_option maxHeartbeats 2000000 in
theorem asked_any (B : Nat) (A : Option Addr) (c : Nat) (l : List Int) (e : Int) (w : World) (h : Row w B A l) :
    Calls Try.prog 57 #[.slice A l.length c, .int .i64 e] w fun r w' => r = .returned (.int .i64 (errC l e)) ∧ w' = w := by
  have kv := Valid_ref B A c l w h
  by_cases hv : vC l
  · rw [val_t hv] at kv
    have kss := Total_ref B A c l w h hv.2 (by have := val_len hv; omega)
    have kw := within_any 0 e (sm l) w
    by_cases hk : 0 ≤ e ∧ e ≤ sm l
    · rw [errC_ok ⟨hv, hk⟩]
      rw [decide_eq_true hk] at kw
      generalize l.length = n at *
      generalize sm l = S at *
      replace kv := Lib.hid kv
      replace kss := Lib.hid kss
      replace kw := Lib.hid kw
      replace h := Lib.hid h
      replace hv := Lib.hid hv
      replace hk := Lib.hid hk
      go_enter Try.func57, Try.ntmps57
      go_wp2_with fail
      refine kv.out.mono ?_
      rintro _ X ⟨rfl, rfl⟩
      go_wp2_with fail
      refine kss.out.mono ?_
      rintro _ X ⟨rfl, rfl⟩
      go_wp2_with fail
      refine kw.out.mono ?_
      rintro _ X ⟨rfl, rfl⟩
      go_wp2
      go_ret
      exact ⟨rfl, rfl⟩
    · rw [errC_2 hv hk]
      rw [decide_eq_false hk] at kw
      generalize l.length = n at *
      generalize sm l = S at *
      replace kv := Lib.hid kv
      replace kss := Lib.hid kss
      replace kw := Lib.hid kw
      replace h := Lib.hid h
      replace hv := Lib.hid hv
      replace hk := Lib.hid hk
      go_enter Try.func57, Try.ntmps57
      go_wp2_with fail
      refine kv.out.mono ?_
      rintro _ X ⟨rfl, rfl⟩
      go_wp2_with fail
      refine kss.out.mono ?_
      rintro _ X ⟨rfl, rfl⟩
      go_wp2_with fail
      refine kw.out.mono ?_
      rintro _ X ⟨rfl, rfl⟩
      go_wp2
      go_ret
      exact ⟨rfl, rfl⟩
  · rw [errC_80 hv]
    rw [val_f hv] at kv
    generalize l.length = n at *
    replace kv := Lib.hid kv
    replace h := Lib.hid h
    replace hv := Lib.hid hv
    go_enter Try.func57, Try.ntmps57
    go_wp2_with fail
    refine kv.out.mono ?_
    rintro _ X ⟨rfl, rfl⟩
    go_wp2
    go_ret
    exact ⟨rfl, rfl⟩

set_option maxHeartbeats 2000000 in
theorem missing_any (B : Nat) (A : Option Addr) (c : Nat) (l : List Int) (e : Int) (w : World) (h : Row w B A l) (hk : okE l e) :
    Calls Try.prog 56 #[.slice A l.length c, .int .i64 e] w fun r w' => r = .returned (.int .i64 (sm l - e)) ∧ w' = w := by
  have kss := sum_any B A c l w h hk.1.2 (by have := val_len hk.1; omega)
  have hb := sm_b hk.1
  obtain ⟨hv, h0, h1⟩ := hk
  generalize l.length = n at *
  generalize sm l = S at *
  replace kss := Lib.hid kss
  replace h := Lib.hid h
  replace hv := Lib.hid hv
  go_enter Try.func56, Try.ntmps56
  go_wp2_with fail
  refine kss.out.mono ?_
  rintro _ X ⟨rfl, rfl⟩
  go_wp2
  go_ret
  exact ⟨rfl, rfl⟩

namespace M
def misR (l : List Int) (e : Int) : Int := if okE l e then sm l - e else 0
end M
set_option maxHeartbeats 2000000 in
theorem Missing_any (B : Nat) (A : Option Addr) (c : Nat) (l : List Int) (e : Int) (w : World) (h : Row w B A l) :
    Calls Try.prog 21 #[.slice A l.length c, .int .i64 e] w fun r w' => r = .returned (.tuple #[.int .i64 (misR l e), .int .i64 (errC l e)]) ∧ w' = w := by
  unfold misR
  by_cases hk : okE l e
  · rw [if_pos hk, errC_ok hk]
    have k1 := checked_ok B A c l e w h hk
    have k2 := missing_any B A c l e w h hk
    generalize l.length = n at *
    generalize sm l = S at *
    replace k1 := Lib.hid k1
    replace k2 := Lib.hid k2
    replace h := Lib.hid h
    replace hk := Lib.hid hk
    go_enter Try.func21, Try.ntmps21
    go_wp2_with fail
    refine k1.out.mono ?_
    rintro _ X ⟨rfl, rfl⟩
    go_wp2_with fail
    refine k2.out.mono ?_
    rintro _ X ⟨rfl, rfl⟩
    go_wp2
    go_ret2
    exact ⟨rfl, rfl⟩
  · rw [if_neg hk]
    have k1 := checked_bad B A c l e w h hk
    have hne := errC_ne hk
    generalize l.length = n at *
    generalize errC l e = E at *
    have hn : (E != 0) = true := by simp; omega
    replace k1 := Lib.hid k1
    replace h := Lib.hid h
    replace hk := Lib.hid hk
    replace hne := Lib.hid hne
    go_enter Try.func21, Try.ntmps21
    go_wp2_with fail
    refine k1.out.mono ?_
    rintro _ X ⟨rfl, rfl⟩
    go_wp2
    go_ret2
    exact ⟨rfl, rfl⟩
set_option maxHeartbeats 2000000 in
theorem Missing_ref (B : Nat) (A : Option Addr) (c : Nat) (l : List Int) (e : Int) (w : World) (h : Row w B A l) :
    Calls Try.prog 22 #[.slice A l.length c, .int .i64 e] w fun r w' => r = .returned (.tuple #[.int .i64 (misR l e), .int .i64 (errC l e)]) ∧ w' = w := by
  unfold misR
  have k1 := asked_any B A c l e w h
  by_cases hk : okE l e
  · rw [if_pos hk]
    rw [errC_ok hk] at k1 ⊢
    have k2 := Total_ref B A c l w h hk.1.2 (by have := val_len hk.1; omega)
    have hb := sm_b hk.1
    obtain ⟨hv, h0, h1⟩ := hk
    generalize l.length = n at *
    generalize sm l = S at *
    replace k1 := Lib.hid k1
    replace k2 := Lib.hid k2
    replace h := Lib.hid h
    replace hv := Lib.hid hv
    go_enter Try.func22, Try.ntmps22
    go_wp2_with fail
    refine k1.out.mono ?_
    rintro _ X ⟨rfl, rfl⟩
    go_wp2_with fail
    refine k2.out.mono ?_
    rintro _ X ⟨rfl, rfl⟩
    go_wp2
    go_ret2
    exact ⟨rfl, rfl⟩
  · rw [if_neg hk]
    have hne := errC_ne hk
    generalize l.length = n at *
    generalize errC l e = E at *
    have hn : (E != 0) = true := by simp; omega
    replace k1 := Lib.hid k1
    replace h := Lib.hid h
    replace hk := Lib.hid hk
    replace hne := Lib.hid hne
    go_enter Try.func22, Try.ntmps22
    go_wp2_with fail
    refine k1.out.mono ?_
    rintro _ X ⟨rfl, rfl⟩
    go_wp2
    go_ret2
    exact ⟨rfl, rfl⟩
theorem Long_any (A : Option Addr) (c n : Nat) (w : World) (hn : n ≤ 9223372036854775807) : Calls Try.prog 17 #[.slice A n c] w fun e w' => e = .returned (.bool (decide (40 < (n : Int)))) ∧ w' = w := by
  go_enter Try.func17, Try.ntmps17
  go_wp2
  go_ret
  exact ⟨rfl, rfl⟩
end Go.Proofs.Ythleekdkbgnabaa
