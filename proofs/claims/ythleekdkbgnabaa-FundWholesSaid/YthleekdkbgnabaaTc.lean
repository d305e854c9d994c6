/-
  What claimants get who come in an order: the program's function.
-/
import Derived.Test.YthleekdkbgnabaaTb
namespace Go.Proofs.Ythleekdkbgnabaa
open Go.RowKit Go.Deep M
set_option linter.unusedVariables false
set_option linter.unusedSimpArgs false

namespace M
/-- What is left behind k claimants, and what each has got. -/
def tuS (l o : List Int) (e : Int) : Nat → Int × (Nat → Int)
  | 0 => (e, fun _ => 0)
  | k + 1 => ((tuS l o e k).1 - min (el l (el o k).toNat) (tuS l o e k).1, fun i => if i = (el o k).toNat then min (el l (el o k).toNat) (tuS l o e k).1 else (tuS l o e k).2 i)
theorem tuS_1 (l o : List Int) (e : Int) (k : Nat) : (tuS l o e (k + 1)).1 = (tuS l o e k).1 - min (el l (el o k).toNat) (tuS l o e k).1 := rfl
theorem tuS_2 (l o : List Int) (e : Int) (k : Nat) : (tuS l o e (k + 1)).2 = fun i => if i = (el o k).toNat then min (el l (el o k).toNat) (tuS l o e k).1 else (tuS l o e k).2 i := rfl
theorem tuS_b {l o : List Int} {e : Int} (hv : ∀ k, k < o.length → 0 ≤ el l (el o k).toNat) (he : 0 ≤ e ∧ e ≤ 8000) : ∀ k, k ≤ o.length → 0 ≤ (tuS l o e k).1 ∧ (tuS l o e k).1 ≤ 8000 := by
  intro k
  induction k with
  | zero => intro _; exact he
  | succ k ih =>
    intro hk
    have h1 := ih (by omega)
    have h2 := hv k (by omega)
    rw [tuS_1]
    omega
end M

set_option maxRecDepth 100000 in
set_option maxHeartbeats 4000000 in
theorem turn_any (A Ao : Option Addr) (c co : Nat) (l o : List Int) (e : Int) (w : World) (h : Row w w.heap.size A l) (ho : Row w w.heap.size Ao o) (hk : okE l e) (hlen : o.length = l.length) (hin : ∀ k, k < o.length → 0 ≤ el o k ∧ el o k < l.length) :
    Calls Try.prog 83 #[.slice A l.length c, .slice Ao o.length co, .int .i64 e] w fun r w' => ∃ g, r = .returned (.slice (some ⟨g, 0, none⟩) l.length l.length) ∧ Below w.heap.size w w' ∧ BlI w' g l.length (tuS l o e o.length).2 := by
  have hn := val_len hk.1
  have hsm := sm_b hk.1
  have he := hk.2
  have hmk := run_mkI w l.length (by omega)
  have hat := fun X (hX : Below w.heap.size w X) k (hk : k < l.length) => (h.below hX).at_ k hk
  have hao := fun X (hX : Below w.heap.size w X) k (hk : k < l.length) => (ho.below hX).at_ k (show k < o.length by omega)
  have hx := fun k (hkl : k < l.length) => hk.1.2 k hkl
  have hb := tuS_b (l := l) (o := o) (e := e) (fun k hkk => (hx _ (by have := hin k hkk; omega)).1) (by omega)
  have h1 := tuS_1 l o e
  have h2 := tuS_2 l o e
  have hW0 : Below w.heap.size w (mkI w l.length) ∧ BlI (mkI w l.length) w.heap.size l.length (tuS l o e 0).2 := ⟨mkI_below _ _, mkI_blk _ _⟩
  have hz : (tuS l o e 0).1 = e := rfl
  rw [hlen] at hin hb ⊢
  generalize l.length = n at *
  generalize tuS l o e = T at *
  obtain ⟨g, hg⟩ : ∃ g, g = w.heap.size := ⟨_, rfl⟩
  rw [← hg] at hmk hW0
  obtain ⟨Y, hY⟩ : ∃ Y, Y = mkI w n := ⟨_, rfl⟩
  rw [← hY] at hmk hW0
  have hwg : w.heap.size ≤ g := by omega
  rw [← hz]
  replace hz := Lib.hid hz
  replace hg := Lib.hid hg
  replace hY := Lib.hid hY
  replace hat := Lib.hid hat
  replace hao := Lib.hid hao
  replace hx := Lib.hid hx
  replace hin := Lib.hid hin
  replace hb := Lib.hid hb
  replace h1 := Lib.hid h1
  replace h2 := Lib.hid h2
  replace hlen := Lib.hid hlen
  replace h := Lib.hid h
  replace ho := Lib.hid ho
  replace hk := Lib.hid hk
  replace he := Lib.hid he
  replace hsm := Lib.hid hsm
  replace hW0 := Lib.hid hW0
  obtain ⟨hn1, hn8⟩ := hn
  go_enter Try.func83, Try.ntmps83
  go_wp2
  go_loopw [17, 10, 8] (fun i _ lf wr => ∃ k : Nat, k ≤ n ∧ i = .int .i64 (k : Nat) ∧ lf = .int .i64 (T k).1 ∧ Below w.heap.size w wr ∧ BlI wr g n (T k).2) (fun i _ _ _ => n - (intOf i).toNat)
  case atStart => exact ⟨0, by omega, rfl, rfl, by rw [hg.out] at hW0 ⊢; exact hW0.out⟩
  case round =>
    clear hW0
    obtain ⟨k, hkk, rfl, rfl, hX, hbl⟩ := hrel
    by_cases hkn : k < n
    · obtain ⟨bo, oo, rfl, _, e0⟩ := hao.out wr hX k hkn
      obtain ⟨r0, r1⟩ := hin.out k hkn
      have hT1 := h1.out k
      have hT2 := h2.out k
      have hbk := hb.out k hkk
      obtain ⟨i, hi⟩ := Int.eq_ofNat_of_zero_le r0
      rw [hi] at r1 e0 hT1 hT2
      simp only [Int.ofNat_eq_natCast, Int.toNat_natCast] at r1 e0 hT1 hT2
      have hin' : i < n := by omega
      obtain ⟨ba, oa, rfl, _, a0⟩ := hat.out wr hX i hin'
      have hxi := hx.out i hin'
      unfold okC at hxi
      generalize T k = t at *
      obtain ⟨lf, gf⟩ := t
      simp only at hT1 hT2 hbk hbl ⊢
      generalize el l i = x at *
      have hv0 : 0 ≤ min x lf ∧ min x lf ≤ 1000 ∧ min x lf ≤ lf := by omega
      have w1 : IntKind.i64.wrap (lf - min x lf) = lf - min x lf := IntWalk.i64_in _ (by omega)
      have c0 := hbl.cell hin'
      have f0 := hbl.fz i
      have l0 := hbl.lt
      have hset := hbl.set hin' (min x lf)
      have s0 := hset.cell hin'
      simp only [if_true] at s0
      have hX2 := Lib.hid (hX.setCell (p := ⟨g, i, none⟩) hwg (.int .i64 (min x lf)))
      have hin2 : (i : Int) < (n : Int) := by omega
      have hkn2 : (k : Int) < (n : Int) := by omega
      replace hset := Lib.hid hset
      replace hT1 := Lib.hid hT1
      replace hT2 := Lib.hid hT2
      replace hbl := Lib.hid hbl
      replace hX := Lib.hid hX
      replace hi := Lib.hid hi
      go_wp2
      go_roundw
      case rel => exact ⟨k + 1, by omega, by simp, by rw [hT1.out], hX2.out, by rw [hT2.out]; exact hset.out⟩
      case measure => simp [intOf]; omega
    · have : k = n := by omega
      subst this
      replace hbl := Lib.hid hbl
      replace hX := Lib.hid hX
      go_wp2
      go_ret
      exact ⟨g, rfl, hX.out, hbl.out⟩
end Go.Proofs.Ythleekdkbgnabaa
