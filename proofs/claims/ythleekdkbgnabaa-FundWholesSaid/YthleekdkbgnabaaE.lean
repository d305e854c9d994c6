/-
  Which claims are valid, their sum, the error of claims and an estate: program and specification.
-/
import Derived.Test.YthleekdkbgnabaaB
namespace Go.Proofs.Ythleekdkbgnabaa
open Go.RowKit Go.Deep M
set_option linter.unusedVariables false
set_option linter.unusedSimpArgs false

namespace M
theorem oks_ex {l : List Int} {k : Nat} (hk : k < l.length) (h : ¬ okC (el l k)) : ¬ Oks l l.length := fun hh => h (hh k hk)
end M

set_option maxHeartbeats 2000000 in
theorem IndexFunc_any (B : Nat) (A : Option Addr) (c : Nat) (l : List Int) (w : World) (h : Row w B A l) (hl : l.length ≤ 1000) :
    Calls Try.prog 89 #[.slice A l.length c, .func (.func 59) #[] #[]] w fun e w' => (∃ z : Int, e = .returned (.int .i64 z) ∧ (0 ≤ z ∧ ¬ Oks l l.length ∨ z < 0 ∧ Oks l l.length)) ∧ w' = w := by
  have h63 := h.1
  have hat := fun k (hk : k < l.length) => h.at_ k hk
  have hex := fun k (hk : k < l.length) => @oks_ex l k hk
  have hsu := fun k => @oks_succ l k
  have hz := oks_zero l
  have kb := fun x => bad_any x w
  generalize l.length = n at *
  replace hat := Lib.hid hat
  replace hex := Lib.hid hex
  replace hsu := Lib.hid hsu
  replace hz := Lib.hid hz
  replace kb := Lib.hid kb
  replace h := Lib.hid h
  go_enter Try.func89, Try.ntmps89
  go_wp2
  go_loop [8, 5] (fun i x => ∃ k : Nat, k ≤ n ∧ i = .int .i64 (k : Nat) ∧ Oks l k) (fun i _ => n - (intOf i).toNat)
  case atStart => exact ⟨0, by omega, rfl, hz.out⟩
  case round =>
    obtain ⟨k, hk, rfl, hO⟩ := hrel
    by_cases hkn : k < n
    · obtain ⟨b, o, rfl, hb, e0⟩ := hat.out k hkn
      have kk := kb.out (el l k)
      by_cases hok : okC (el l k)
      · have hO2 := Lib.hid (hsu.out k hO hok)
        rw [show (!decide (okC (el l k))) = false by simp [hok]] at kk
        replace kk := Lib.hid kk
        replace hO := Lib.hid hO
        replace hok := Lib.hid hok
        go_wp2_with fail
        refine kk.out.mono ?_
        rintro _ X ⟨rfl, rfl⟩
        go_wp2
        go_round
        case rel => exact ⟨k + 1, by omega, by simp, hO2.out⟩
        case measure => simp [intOf]; omega
      · have hno := Lib.hid (hex.out k hkn hok)
        rw [show (!decide (okC (el l k))) = true by simp [hok]] at kk
        replace kk := Lib.hid kk
        replace hO := Lib.hid hO
        replace hok := Lib.hid hok
        go_wp2_with fail
        refine kk.out.mono ?_
        rintro _ X ⟨rfl, rfl⟩
        go_wp2
        go_ret
        exact ⟨⟨_, rfl, .inl ⟨by omega, hno.out⟩⟩, rfl⟩
    · have : k = n := by omega
      subst this
      replace hO := Lib.hid hO
      go_wp2
      go_ret
      exact ⟨⟨_, rfl, .inr ⟨by omega, hO.out⟩⟩, rfl⟩

set_option maxHeartbeats 2000000 in
theorem ContainsFunc_any (B : Nat) (A : Option Addr) (c : Nat) (l : List Int) (w : World) (h : Row w B A l) (hl : l.length ≤ 1000) :
    Calls Try.prog 58 #[.slice A l.length c, .func (.func 59) #[] #[]] w fun e w' => e = .returned (.bool !decide (Oks l l.length)) ∧ w' = w := by
  have k89 := IndexFunc_any B A c l w h hl
  generalize l.length = n at *
  by_cases ho : Oks l n
  all_goals
    replace k89 := Lib.hid k89
    replace h := Lib.hid h
    first | rw [decide_eq_true ho, Bool.not_true] | rw [decide_eq_false ho, Bool.not_false]
    go_enter Try.func58, Try.ntmps58
    go_wp2_with fail
    refine k89.out.mono ?_
    rintro e X ⟨⟨z, rfl, hz⟩, rfl⟩
    rcases hz with ⟨hz, ho2⟩ | ⟨hz, ho2⟩
    all_goals
      first
      | exact absurd ho ho2
      | exact absurd ho2 ho
      | (replace ho := Lib.hid ho
         replace ho2 := Lib.hid ho2
         go_wp2
         go_ret
         first | exact ⟨rfl, rfl⟩ | exact ⟨ret_bool (decide_eq_false (by omega)), rfl⟩)

set_option maxHeartbeats 2000000 in
theorem Valid_any (B : Nat) (A : Option Addr) (c : Nat) (l : List Int) (w : World) (h : Row w B A l) :
    Calls Try.prog 23 #[.slice A l.length c] w fun e w' => e = .returned (.bool (valB l)) ∧ w' = w := by
  have h63 := h.1
  have kc := fun hl => ContainsFunc_any B A c l w h hl
  have hv : valB l = decide (vC l) := rfl
  rw [hv]
  have hvc : vC l ↔ (1 ≤ l.length ∧ l.length ≤ 8) ∧ Oks l l.length := Iff.rfl
  generalize l.length = n at *
  by_cases h1 : n = 0
  · have : decide (vC l) = false := decide_eq_false (by rw [hvc]; omega)
    rw [this]
    replace kc := Lib.hid kc
    replace h := Lib.hid h
    replace hv := Lib.hid hv
    clear this hvc
    subst h1
    go_enter Try.func23, Try.ntmps23
    go_wp2
    go_ret
    exact ⟨rfl, rfl⟩
  · by_cases h2 : 8 < n
    · have : decide (vC l) = false := decide_eq_false (by rw [hvc]; omega)
      rw [this]
      replace kc := Lib.hid kc
      replace h := Lib.hid h
      replace hv := Lib.hid hv
      clear this hvc
      go_enter Try.func23, Try.ntmps23
      go_wp2
      go_ret
      exact ⟨rfl, rfl⟩
    · have kc2 := kc (by omega)
      have e1 : decide (vC l) = decide (Oks l n) := by
        by_cases ho : Oks l n
        · rw [decide_eq_true ho]; exact decide_eq_true (hvc.2 ⟨by omega, ho⟩)
        · rw [decide_eq_false ho]; exact decide_eq_false fun hh => ho (hvc.1 hh).2
      rw [e1]
      replace kc := Lib.hid kc
      replace h := Lib.hid h
      replace hv := Lib.hid hv
      replace e1 := Lib.hid e1
      clear hvc
      generalize decide (Oks l n) = q at *
      replace kc2 := Lib.hid kc2
      go_enter Try.func23, Try.ntmps23
      go_wp2_with fail
      refine kc2.out.mono ?_
      rintro _ X ⟨rfl, rfl⟩
      go_wp2
      go_ret
      exact ⟨rfl, rfl⟩

set_option maxHeartbeats 2000000 in
theorem Valid_ref (B : Nat) (A : Option Addr) (c : Nat) (l : List Int) (w : World) (h : Row w B A l) :
    Calls Try.prog 24 #[.slice A l.length c] w fun e w' => e = .returned (.bool (valB l)) ∧ w' = w := by
  have h63 := h.1
  have hat := fun k (hk : k < l.length) => h.at_ k hk
  have hex := fun k (hk : k < l.length) => @oks_ex l k hk
  have hsu := fun k => @oks_succ l k
  have hz := oks_zero l
  have hv : valB l = decide (vC l) := rfl
  have hvc : vC l ↔ (1 ≤ l.length ∧ l.length ≤ 8) ∧ Oks l l.length := Iff.rfl
  generalize l.length = n at *
  have e1 : ∀ k, k < n → ¬ okC (el l k) → valB l = false := fun k hk hno => by
    rw [hv]; exact decide_eq_false fun hh => hex k hk hno (hvc.1 hh).2
  have e2 : Oks l n → valB l = decide (1 ≤ (n : Int) ∧ (n : Int) ≤ 8) := fun ho => by
    rw [hv]
    by_cases hn : 1 ≤ n ∧ n ≤ 8
    · rw [decide_eq_true (hvc.2 ⟨hn, ho⟩)]; symm; exact decide_eq_true (by omega)
    · rw [decide_eq_false (fun hh => hn (hvc.1 hh).1)]; symm; exact decide_eq_false (by omega)
  have e3 : 8 < n → valB l = decide (1 ≤ (n : Int) ∧ (n : Int) ≤ 8) := fun ho => by
    rw [hv, decide_eq_false (fun hh => by have := (hvc.1 hh).1; omega)]; symm; exact decide_eq_false (by omega)
  have kw := fun x => within_any 0 x 1000 w
  have kn := within_any 1 n 8 w
  clear hvc hv hex
  generalize valB l = q at *
  replace hat := Lib.hid hat
  replace hsu := Lib.hid hsu
  replace hz := Lib.hid hz
  replace e1 := Lib.hid e1
  replace e2 := Lib.hid e2
  replace e3 := Lib.hid e3
  replace kw := Lib.hid kw
  replace kn := Lib.hid kn
  replace h := Lib.hid h
  go_enter Try.func24, Try.ntmps24
  go_wp2
  go_loop [3] (fun i => ∃ k : Nat, k ≤ n ∧ k ≤ 9 ∧ i = .int .i64 (k : Nat) ∧ Oks l k) (fun i => n - (intOf i).toNat)
  case atStart => exact ⟨0, by omega, by omega, rfl, hz.out⟩
  case round =>
    obtain ⟨k, hk, hk9, rfl, hO⟩ := hrel
    by_cases hkn : k < n
    · by_cases hk8 : k ≤ 8
      · obtain ⟨b, o, rfl, hb, e0⟩ := hat.out k hkn
        have kk := kw.out (el l k)
        by_cases hok : okC (el l k)
        · have hO2 := Lib.hid (hsu.out k hO hok)
          rw [show decide (0 ≤ el l k ∧ el l k ≤ 1000) = true from decide_eq_true hok] at kk
          replace kk := Lib.hid kk
          replace hO := Lib.hid hO
          replace hok := Lib.hid hok
          go_wp2_with fail
          refine kk.out.mono ?_
          rintro _ X ⟨rfl, rfl⟩
          go_wp2
          go_round
          case rel => exact ⟨k + 1, by omega, by omega, by simp, hO2.out⟩
          case measure => simp [intOf]; omega
        · have hno := Lib.hid (e1.out k hkn hok)
          rw [show decide (0 ≤ el l k ∧ el l k ≤ 1000) = false from decide_eq_false hok] at kk
          replace kk := Lib.hid kk
          replace hO := Lib.hid hO
          replace hok := Lib.hid hok
          go_wp2_with fail
          refine kk.out.mono ?_
          rintro _ X ⟨rfl, rfl⟩
          go_wp2
          go_ret
          exact ⟨by rw [hno.out]; rfl, rfl⟩
      · have hq := e3.out (by omega)
        rw [← hq] at kn
        replace hO := Lib.hid hO
        replace hq := Lib.hid hq
        go_wp2_with fail
        refine kn.out.mono ?_
        rintro _ X ⟨rfl, rfl⟩
        go_wp2
        go_ret
        exact ⟨rfl, rfl⟩
    · have : k = n := by omega
      subst this
      have hq := e2.out hO
      rw [← hq] at kn
      replace hO := Lib.hid hO
      replace hq := Lib.hid hq
      go_wp2_with fail
      refine kn.out.mono ?_
      rintro _ X ⟨rfl, rfl⟩
      go_wp2
      go_ret
      exact ⟨rfl, rfl⟩

set_option maxHeartbeats 2000000 in
theorem sum_any (B : Nat) (A : Option Addr) (c : Nat) (l : List Int) (w : World) (h : Row w B A l) (hO : Oks l l.length) (hl : l.length ≤ 1000) :
    Calls Try.prog 88 #[.slice A l.length c] w fun e w' => e = .returned (.int .i64 (sm l)) ∧ w' = w := by
  have h63 := h.1
  have hat := fun k (hk : k < l.length) => h.at_ k hk
  have hb := fun k (hk : k ≤ l.length) => tot_b hO k hk
  have hs := tot_succ l
  have hx := fun k (hk : k < l.length) => hO k hk
  have h0 : tot l 0 = 0 := rfl
  have he : sm l = tot l l.length := rfl
  rw [he]
  generalize l.length = n at *
  replace hat := Lib.hid hat
  replace hb := Lib.hid hb
  replace hs := Lib.hid hs
  replace hx := Lib.hid hx
  replace hO := Lib.hid hO
  replace he := Lib.hid he
  replace h0 := Lib.hid h0
  replace h := Lib.hid h
  go_enter Try.func88, Try.ntmps88
  go_wp2
  go_loop [8, 5, 3] (fun i x s => ∃ k : Nat, k ≤ n ∧ i = .int .i64 (k : Nat) ∧ s = .int .i64 (tot l k)) (fun i _ _ => n - (intOf i).toNat)
  case atStart => exact ⟨0, by omega, rfl, by rw [h0.out]⟩
  case round =>
    obtain ⟨k, hk, rfl, rfl⟩ := hrel
    by_cases hkn : k < n
    · obtain ⟨b, o, rfl, hb', e0⟩ := hat.out k hkn
      have b1 := hb.out k hk
      have b2 := hs.out k
      have b3 := hx.out k hkn
      unfold okC at b3
      replace b2 := Lib.hid b2
      go_wp2
      go_round
      case rel => exact ⟨k + 1, by omega, by simp, by rw [b2.out]⟩
      case measure => simp [intOf]; omega
    · have : k = n := by omega
      subst this
      go_wp2
      go_ret
      exact ⟨rfl, rfl⟩

set_option maxHeartbeats 2000000 in
theorem Total_ref (B : Nat) (A : Option Addr) (c : Nat) (l : List Int) (w : World) (h : Row w B A l) (hO : Oks l l.length) (hl : l.length ≤ 1000) :
    Calls Try.prog 51 #[.slice A l.length c] w fun e w' => e = .returned (.int .i64 (sm l)) ∧ w' = w := by
  have h63 := h.1
  have hat := fun k (hk : k < l.length) => h.at_ k hk
  have hb := fun k (hk : k ≤ l.length) => tot_b hO k hk
  have hs := tot_succ l
  have hx := fun k (hk : k < l.length) => hO k hk
  have h0 : tot l 0 = 0 := rfl
  have he : sm l = tot l l.length := rfl
  rw [he]
  generalize l.length = n at *
  replace hat := Lib.hid hat
  replace hb := Lib.hid hb
  replace hs := Lib.hid hs
  replace hx := Lib.hid hx
  replace hO := Lib.hid hO
  replace he := Lib.hid he
  replace h0 := Lib.hid h0
  replace h := Lib.hid h
  go_enter Try.func51, Try.ntmps51
  go_wp2
  go_loop [4, 3] (fun i s => ∃ k : Nat, k ≤ n ∧ i = .int .i64 (k : Nat) ∧ s = .int .i64 (tot l k)) (fun i _ => n - (intOf i).toNat)
  case atStart => exact ⟨0, by omega, rfl, by rw [h0.out]⟩
  case round =>
    obtain ⟨k, hk, rfl, rfl⟩ := hrel
    by_cases hkn : k < n
    · obtain ⟨b, o, rfl, hb', e0⟩ := hat.out k hkn
      have b1 := hb.out k hk
      have b2 := hs.out k
      have b3 := hx.out k hkn
      unfold okC at b3
      replace b2 := Lib.hid b2
      go_wp2
      go_round
      case rel => exact ⟨k + 1, by omega, by simp, by rw [b2.out]⟩
      case measure => simp [intOf]; omega
    · have : k = n := by omega
      subst this
      go_wp2
      go_ret
      exact ⟨rfl, rfl⟩

end Go.Proofs.Ythleekdkbgnabaa
