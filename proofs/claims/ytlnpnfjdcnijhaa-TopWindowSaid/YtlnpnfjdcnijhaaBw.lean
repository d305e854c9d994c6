/-
  Hours that are counted and found; the law's own function that asks whether all windows are open.
-/
import Derived.Test.YtlnpnfjdcnijhaaBv
namespace Go.Proofs.Ytlnpnfjdcnijhaa
open Go.RowKit Go.Deep M
set_option linter.unusedVariables false
set_option linter.unusedSimpArgs false
namespace M
/-- How many of the first hours are open. -/
def cnt (f : Int → Bool) (k : Nat) : Nat := (hrsL (fun j => f (j : Nat)) k).length
theorem cnt_yes {f : Int → Bool} {k : Nat} (h : f (k : Nat) = true) : cnt f (k + 1) = cnt f k + 1 := by
  unfold cnt; rw [hrsL_yes (f := fun j => f (j : Nat)) h]; simp
theorem cnt_no {f : Int → Bool} {k : Nat} (h : f (k : Nat) = false) : cnt f (k + 1) = cnt f k := by
  unfold cnt; rw [hrsL_no (f := fun j => f (j : Nat)) h]
theorem cnt_zero (f : Int → Bool) : cnt f 0 = 0 := rfl
theorem cnt_le (f : Int → Bool) (k : Nat) : cnt f k ≤ k := hrsL_le _ k
theorem cnt_stay {f : Int → Bool} {a : Nat} : ∀ n : Nat, (∀ j : Nat, j < n → f ((a : Int) + (j : Int)) = false) → cnt f (a + n) = cnt f a
  | 0, _ => rfl
  | n + 1, h => by
    rw [← Nat.add_assoc, cnt_no (by have := h n (by omega); rwa [show (a : Int) + (n : Int) = ((a + n : Nat) : Int) by omega] at this)]
    exact cnt_stay n fun j hj => h j (by omega)
theorem cnt_mono {f : Int → Bool} {a b : Nat} (h : a ≤ b) : cnt f a ≤ cnt f b := by
  obtain ⟨n, rfl⟩ : ∃ n, b = a + n := ⟨b - a, by omega⟩
  induction n with
  | zero => exact Nat.le_refl _
  | succ n ih =>
    have := ih (by omega)
    rw [← Nat.add_assoc]
    cases hf : f ((a + n : Nat) : Int) with
    | true => rw [cnt_yes hf]; omega
    | false => rw [cnt_no hf]; exact this
/-- None is open within a period from an hour on: none is. -/
theorem none_open {f : Int → Bool} {p : Nat} (hp : 1 ≤ p) (hper : PerM f p) {h : Int} (hn : fstO p f h = none) : cnt f p = 0 := by
  have h0 := fstO_spec0 hn
  have := cnt_stay (f := f) (a := 0) p fun j hj => by
    have m0 := Int.emod_nonneg ((j : Int) - h) (show (p : Int) ≠ 0 by omega)
    have m1 := Int.emod_lt_of_pos ((j : Int) - h) (show (0 : Int) < p by omega)
    obtain ⟨i, hi⟩ := Int.eq_ofNat_of_zero_le m0
    have h1 := h0 i (by omega)
    rw [← hper, ← hi, Int.add_emod_emod, show h + ((j : Int) - h) = (j : Int) by omega, hper] at h1
    rw [show ((0 : Nat) : Int) + (j : Int) = (j : Int) by omega]; exact h1
  rw [Nat.zero_add, cnt_zero] at this
  exact this
theorem some_open {f : Int → Bool} {p : Nat} (hp : 1 ≤ p) (hper : PerM f p) {h : Int} {k : Nat} (hn : fstO p f h = some k) : 1 ≤ cnt f p := by
  obtain ⟨_, h2, _⟩ := fstO_spec hn
  have m0 := Int.emod_nonneg (h + k) (show (p : Int) ≠ 0 by omega)
  have m1 := Int.emod_lt_of_pos (h + k) (show (0 : Int) < p by omega)
  obtain ⟨i, hi⟩ := Int.eq_ofNat_of_zero_le m0
  have hf : f (i : Nat) = true := by rw [← hi, hper]; exact h2
  have a := cnt_yes hf
  have b := cnt_mono (f := f) (show i + 1 ≤ p by omega)
  omega
/-- The next open hour behind some that were counted. -/
theorem next_cnt {f : Int → Bool} {p : Nat} (hp : 1 ≤ p) (hper : PerM f p) (hc : 1 ≤ cnt f p) {at_ : Nat} (hat : at_ ≤ p) :
    ∃ j : Nat, fstO p f (at_ : Nat) = some j ∧ j < p ∧ (p ≤ at_ + j → cnt f p = cnt f at_) ∧ (at_ + j < p → cnt f (at_ + j + 1) = cnt f at_ + 1) := by
  cases e : fstO p f (at_ : Nat) with
  | none => have := none_open hp hper e; omega
  | some j =>
    obtain ⟨h1, h2, h3⟩ := fstO_spec e
    refine ⟨j, rfl, h1, fun h => ?_, fun h => ?_⟩
    · have := cnt_stay (f := f) (a := at_) (p - at_) fun i hi => h3 i (by omega)
      rwa [show at_ + (p - at_) = p by omega] at this
    · rw [cnt_yes (by rwa [show (at_ : Int) + (j : Int) = ((at_ + j : Nat) : Int) by omega] at h2)]
      rw [cnt_stay (f := f) (a := at_) j fun i hi => h3 i hi]
end M
theorem opT_false {D : List Wc} {h : Int} {k : Nat} (hf : opT D k h = false) : ∀ n, k ≤ n → opT D n h = false := by
  intro n
  induction n with
  | zero => intro hk; have : k = 0 := by omega
            subst this; exact hf
  | succ n ih =>
    intro hk
    rcases Nat.lt_or_ge n k with h' | h'
    · have : k = n + 1 := by omega
      subst this; exact hf
    · rw [opT_succ]; show (opT D n h && _) = false; rw [ih h']; rfl
theorem Wds.upp {w w' : World} {A : Option Addr} {D : List Wc} (h : Wds w w.heap.size A D) (hb : Below w.heap.size w w') : Wds w' w'.heap.size A D := (h.below hb).more hb.size

set_option maxHeartbeats 2000000 in
theorem every_any (B : Nat) (A : Option Addr) (c : Nat) (D : List Wc) (hour : Int) (w : World) (h : Wds w B A D) (hB : B ≤ w.heap.size) (hv : wnsB D 60 = true) (h0 : 0 ≤ hour) (h9 : hour ≤ 1000000000) :
    Calls Try.prog 60 #[.slice A D.length c, .int .i64 hour] w fun e w' => e = .returned (.bool (opT D D.length hour)) ∧ Below w.heap.size w w' := by
  have h63 := h.1
  have hstep : ∀ k, opT D (k + 1) hour = (opT D k hour && opB (wc D k).x hour) := fun k => rfl
  have hfal : ∀ k, k ≤ D.length → opT D k hour = false → opT D D.length hour = false := fun k hk hf => opT_false hf _ hk
  have hwin : ∀ k, k < D.length → winB (wc D k).x 3600 = true := fun k hk => win_more (wns_at hv hk) (by omega)
  have hzero : opT D 0 hour = true := rfl
  obtain ⟨n, hn⟩ : ∃ n, n = D.length := ⟨_, rfl⟩
  rw [← hn] at h63 hfal hwin ⊢
  replace hn := Lib.hid hn
  replace h := Lib.hid h
  replace hstep := Lib.hid hstep
  replace hfal := Lib.hid hfal
  replace hwin := Lib.hid hwin
  replace hzero := Lib.hid hzero
  replace hv := Lib.hid hv
  go_enter Try.func60, Try.ntmps60
  go_wp2
  go_loopw [11] (fun i X => ∃ k : Nat, k ≤ n ∧ i = .int .i64 (k : Nat) ∧ opT D k hour = true ∧ Below w.heap.size w X) (fun i _ => n - (intOf i).toNat)
  case atStart => exact ⟨0, Nat.zero_le _, rfl, hzero.out, Below.refl _ _⟩
  case round =>
    obtain ⟨k, hk, rfl, ho, hb⟩ := hrel
    by_cases hlt : k < n
    · obtain ⟨b, o, rfl, hbB, e0, e1, hrow⟩ := (h.out.below (hb.mono hB)).at_ k (hn.out ▸ hlt)
      have hs := hstep.out k
      have hf := hfal.out (k + 1) (by omega)
      have hw := hwin.out k hlt
      rw [ho, Bool.true_and] at hs
      generalize (wc D k).x = x at *
      generalize (wc D k).A = Ak at *
      generalize (wc D k).c = ck at *
      have hr63 := hrow.1
      have hBw := Bw.new (X := wr) ck (hrow.more (Nat.le_trans hB hb.size))
      have f0 := hBw.c0
      have f1 := hBw.c1
      have hb1 := ba hb hb.size (.cells #[.int .i64 x.p, .slice Ak x.hs.length ck] 24)
      obtain ⟨q, hq⟩ : ∃ q, opB x hour = q := ⟨_, rfl⟩
      have kc := opens_call hBw hw h0 h9 hq
      rw [hq] at hs
      replace hBw := Lib.hid hBw
      replace kc := Lib.hid kc
      replace hw := Lib.hid hw
      replace hq := Lib.hid hq
      replace hb1 := Lib.hid hb1
      replace hb := Lib.hid hb
      replace ho := Lib.hid ho
      replace hrow := Lib.hid hrow
      cases q with
      | true =>
        replace hs := Lib.hid hs
        clear hf
        go_wp2_with fail
        refine kc.out.mono ?_
        rintro e X2 ⟨rfl, hb2⟩
        have hb3 := Lib.hid (bel_trans hb1.out hb2)
        go_wp2
        go_roundw
        case rel => exact ⟨k + 1, by omega, by go_num, hs.out, hb3.out⟩
        case measure => simp [intOf]; omega
      | false =>
        have hff := Lib.hid (hf hs)
        clear hf hs
        go_wp2_with fail
        refine kc.out.mono ?_
        rintro e X2 ⟨rfl, hb2⟩
        have hb3 := Lib.hid (bel_trans hb1.out hb2)
        go_wp2
        go_ret
        exact ⟨by rw [hff.out]; rfl, hb3.out⟩
    · have hk' : k = n := by omega
      subst hk'
      replace ho := Lib.hid ho
      replace hb := Lib.hid hb
      go_wp2
      go_ret
      exact ⟨by rw [ho.out]; rfl, hb.out⟩
end Go.Proofs.Ytlnpnfjdcnijhaa
