/-
  Whether a list has each claimant once: the program's function.
-/
import Derived.Test.YthleekdkbgnabaaTa
namespace Go.Proofs.Ythleekdkbgnabaa
open Go.RowKit Go.Deep M
set_option linter.unusedVariables false
set_option linter.unusedSimpArgs false

namespace M
/-- A list that sorts to 0, 1, 2, .. -/
def ordP (o : List Int) (n : Nat) : Prop := o.length = n ∧ ∀ k, k < n → el (srt o) k = (k : Nat)
end M
set_option maxRecDepth 100000 in
set_option maxHeartbeats 4000000 in
theorem isOrder_any (A Ao : Option Addr) (n c co : Nat) (o : List Int) (w : World) (h : Row w w.heap.size Ao o) (hn : n ≤ 8) (q : Bool) (hq : q = true ↔ ordP o n) :
    Calls Try.prog 82 #[.slice A n c, .slice Ao o.length co] w fun r w' => r = .returned (.bool q) ∧ Below w.heap.size w w' := by
  have h63 := h.1
  unfold ordP at hq
  by_cases hl : o.length = n
  · have kv := ValuesI_any Ao o.length co w
    have ks := SortedI_any w.heap.size Ao co o (w.alloc (.cells #[.slice Ao o.length co] 22)) (by simp) (by have := heap_alloc_new w (.cells #[.slice Ao o.length co] 22); unfold World.cell?; rw [this]; rfl) (h.up (ba1 w (.cells #[.slice Ao o.length co] 22))) (by omega)
    have hsl := srt_len o
    have hown := fun (X : World) base v (ho : X.ownsRow base 3 1 v (srt o).length (vals (srt o))) => own_row ho (by omega)
    have hyes : (∀ k, k < n → el (srt o) k = (k : Nat)) → q = true := fun hh => hq.2 ⟨hl, hh⟩
    have hno : ∀ k, k < n → el (srt o) k ≠ (k : Nat) → q = false := fun k hk hne => by
      cases q with
      | false => rfl
      | true => exact absurd ((hq.1 rfl).2 k hk) hne
    obtain ⟨s, hs⟩ : ∃ s, s = srt o := ⟨_, rfl⟩
    rw [← hs] at hsl hown ks hyes hno
    rw [hsl] at hown ks
    rw [hl] at hown ks kv h63 ⊢
    have hb0 := Lib.hid (ba1 w (.cells #[.slice Ao n co] 22))
    rw [hl] at hsl
    clear hq
    replace hl := Lib.hid hl
    replace hs := Lib.hid hs
    replace kv := Lib.hid kv
    replace ks := Lib.hid ks
    replace hsl := Lib.hid hsl
    replace hown := Lib.hid hown
    replace hyes := Lib.hid hyes
    replace hno := Lib.hid hno
    replace h := Lib.hid h
    go_enter Try.func82, Try.ntmps82
    go_wp2_with fail
    refine kv.out.mono ?_
    rintro _ X1 ⟨rfl, rfl⟩
    go_wp2_with fail
    refine ks.out.mono ?_
    rintro _ X2 ⟨v, rfl, hb2, ho2⟩
    obtain ⟨A2, c2, rfl, hr2⟩ := hown.out X2 _ _ ho2
    have hat := fun k (hk : k < s.length) => hr2.at_ k hk
    rw [hsl.out] at hat
    have hfin := Lib.hid (bel_trans hb0.out hb2)
    replace hat := Lib.hid hat
    replace ho2 := Lib.hid ho2
    replace hr2 := Lib.hid hr2
    replace hb2 := Lib.hid hb2
    go_wp2
    go_loop [16, 5, 6] (fun i _ _ => ∃ k : Nat, k ≤ n ∧ i = .int .i64 (k : Nat) ∧ ∀ t, t < k → el s t = (t : Nat)) (fun i _ _ => n - (intOf i).toNat)
    case atStart => exact ⟨0, by omega, rfl, fun t ht => absurd ht (by omega)⟩
    case round =>
      obtain ⟨k, hk, rfl, hall⟩ := hrel
      by_cases hkn : k < n
      · obtain ⟨b, o', rfl, hb', e0⟩ := hat.out k hkn
        by_cases hx : el s k = (k : Nat)
        · have hall2 := Lib.hid (show ∀ t, t < k + 1 → el s t = (t : Nat) from fun t ht => by
            rcases Nat.lt_succ_iff_lt_or_eq.1 ht with h' | rfl
            · exact hall t h'
            · exact hx)
          rw [hx] at e0
          have hne : (((k : Nat) : Int) != ((k : Nat) : Int)) = false := by simp
          replace hall := Lib.hid hall
          replace hx := Lib.hid hx
          go_wp2
          go_round
          case rel => exact ⟨k + 1, by omega, by simp, hall2.out⟩
          case measure => simp [intOf]; omega
        · have hqf := Lib.hid (hno.out k hkn hx)
          have hne : (el s k != ((k : Nat) : Int)) = true := by simpa using hx
          generalize el s k = x at *
          replace hall := Lib.hid hall
          replace hx := Lib.hid hx
          go_wp2
          go_ret
          exact ⟨by rw [hqf.out]; rfl, hfin.out⟩
      · have hkk : k = n := by omega
        subst hkk
        have hqt := Lib.hid (hyes.out hall)
        replace hall := Lib.hid hall
        go_wp2
        go_ret
        exact ⟨by rw [hqt.out]; rfl, hfin.out⟩
  · have hqf : q = false := by
      cases q with
      | false => rfl
      | true => exact absurd (hq.1 rfl).1 hl
    subst hqf
    have hb := Lib.hid (Below.refl w.heap.size w)
    clear hq
    generalize o.length = m at *
    have hne : ((m : Int) != (n : Int)) = true := by simp; omega
    replace hl := Lib.hid hl
    replace h := Lib.hid h
    go_enter Try.func82, Try.ntmps82
    go_wp2
    go_ret
    exact ⟨rfl, hb.out⟩
end Go.Proofs.Ythleekdkbgnabaa
