/-
  Whether two rounds of a list never meet, whether an hour is in all rounds: by program and specification.
-/
import Derived.Test.YtlnpnfjdcnijhaaE
namespace Go.Proofs.Ytlnpnfjdcnijhaa
open Go.RowKit Go.Deep M
set_option linter.unusedVariables false
set_option linter.unusedSimpArgs false

namespace M
/-- Is an hour in the first k rounds? -/
def InK (l : List Rd) (h : Int) (k : Nat) : Prop := ∀ i, i < k → h % (rd l i).e = (rd l i).a
theorem inK_zero (l : List Rd) (h : Int) : InK l h 0 := fun _ hi => absurd hi (Nat.not_lt_zero _)
theorem inK_succ {l : List Rd} {h : Int} {k : Nat} (hk : InK l h k) (h' : h % (rd l k).e = (rd l k).a) : InK l h (k + 1) := fun i hi => by
  rcases Nat.lt_succ_iff_lt_or_eq.1 hi with h1 | rfl
  · exact hk i h1
  · exact h'
instance (l : List Rd) (h : Int) (k : Nat) : Decidable (InK l h k) := by unfold InK; infer_instance
def inB (l : List Rd) (h : Int) : Bool := decide (InK l h l.length)
/-- What Hits answers. -/
def hitsR (l : List Rd) (h : Int) : Bool × Int := if validR l = true then (if 0 ≤ h then (inB l h, 0) else (false, 2)) else (false, 51)
end M

set_option maxHeartbeats 1000000 in
theorem hits1_any (x : Rd) (h : Int) (bx : Nat) (w : World) (hc : w.cell? ⟨bx, 0, none⟩ = some (.int .i64 h)) (hx : bx < w.heap.size) (he : 1 ≤ x.e ∧ x.e ≤ 1000) (hh : 0 ≤ h ∧ h ≤ 9223372036854775807) (ha : 0 ≤ x.a) :
    Calls Try.prog 94 #[rdV x, .pointer (some ⟨bx, 0, none⟩)] w fun e w' => e = .returned (.bool (!(h % x.e == x.a))) ∧ Below w.heap.size w w' := by
  have hb1 := ba1 w (.cells #[.int .i64 x.a, .int .i64 x.e] 68)
  have hy := Bx2.new w x
  have c0 := hy.c0
  have c1 := hy.c1
  have c2 := (hb1.cell (p := ⟨bx, 0, none⟩) hx).trans hc
  have hin := isIn_any x h (w.alloc (.cells #[.int .i64 x.a, .int .i64 x.e] 68)) he hh ha
  generalize (h % x.e == x.a) = q at *
  unfold rdV at *
  obtain ⟨a, e⟩ := x
  simp only [] at *
  clear he hh ha
  replace hin := Lib.hid hin
  replace hy := Lib.hid hy
  have hb1' := Lib.hid hb1
  clear hb1
  go_enter Try.func94, Try.ntmps94
  go_wp2_with fail
  refine hin.out.mono ?_
  rintro e w1 ⟨rfl, hb2⟩
  cases q with
  | true =>
    go_wp2
    go_ret
    exact ⟨rfl, hb1'.out.trans (hb2.mono hb1'.out.size)⟩
  | false =>
    go_wp2
    go_ret
    exact ⟨rfl, hb1'.out.trans (hb2.mono hb1'.out.size)⟩

set_option maxHeartbeats 1000000 in
theorem indexIn (B : Nat) (A : Option Addr) (c : Nat) (l : List Rd) (hour : Int) (bx : Nat) (w : World) (h : Rds w B A l) (hB : B ≤ w.heap.size) (hc : w.cell? ⟨bx, 0, none⟩ = some (.int .i64 hour)) (hx : bx < w.heap.size) (hv : vR l) (hh : 0 ≤ hour ∧ hour ≤ 9223372036854775807) :
    Calls Try.prog 110 #[.slice A l.length c, .func (Fn.func 94) #[] #[.pointer (some ⟨bx, 0, none⟩)]] w (Found (inB l hour) w) := by
  have h63 := h.1
  go_enter Try.func110, Try.ntmps110
  go_wp2
  go_loopw [8] (fun i wr => ∃ k : Nat, k ≤ l.length ∧ i = .int .i64 k ∧ InK l hour k ∧ Below w.heap.size w wr) (fun i _ => l.length - (intOf i).toNat)
  case atStart => exact ⟨0, Nat.zero_le _, rfl, inK_zero _ _, Below.refl _ _⟩
  case round =>
    obtain ⟨k, hk, rfl, hel, hbw⟩ := hrel
    have hr := h.below (hbw.mono hB)
    have hcr := (hbw.cell (p := ⟨bx, 0, none⟩) hx).trans hc
    have hel := Lib.hid hel
    by_cases hlt : k < l.length
    · obtain ⟨b, o, rfl, hb, hc0, hc1⟩ := hr.at_ k hlt
      obtain ⟨g1, g2, g3⟩ := hv.2 k hlt
      have hn := hits1_any (rd l k) hour bx wr hcr (by have := hbw.size; omega) g1 hh g2
      unfold rdV at hn
      replace hr := Lib.hid hr
      have hbw := Lib.hid hbw
      by_cases hbad : hour % (rd l k).e = (rd l k).a
      · have hs := Lib.hid (inK_succ hel.out hbad)
        rw [show (!(hour % (rd l k).e == (rd l k).a)) = false by simp [hbad]] at hn
        have hn := Lib.hid hn
        have hbad := Lib.hid hbad
        go_wp2_with (go_at_call 94; refine hn.out.mono ?_; rintro e w' ⟨rfl, hb1⟩)
        go_roundw
        case rel => exact ⟨k + 1, by omega, by go_num, hs.out, hbw.out.trans (hb1.mono hbw.out.size)⟩
        case measure => simp [intOf]; omega
      · have hw := Lib.hid (show inB l hour = false by
          unfold inB; rw [decide_eq_false]; intro hh
          exact hbad (hh k hlt))
        rw [show (!(hour % (rd l k).e == (rd l k).a)) = true by simp [hbad]] at hn
        have hn := Lib.hid hn
        have hbad := Lib.hid hbad
        go_wp2_with (go_at_call 94; refine hn.out.mono ?_; rintro e w' ⟨rfl, hb1⟩)
        go_ret
        exact ⟨k, rfl, (by rw [hw.out]; intro h; cases h), (by intro; omega), by omega, by omega, hbw.out.trans (hb1.mono hbw.out.size)⟩
    · have hk' : k = l.length := by omega
      subst hk'
      have hw := Lib.hid (show inB l hour = true from decide_eq_true hel.out)
      replace hbw := Lib.hid hbw
      go_wp2
      go_ret
      exact ⟨-1, rfl, (by intro; rfl), (by rw [hw.out]; intro h; cases h), by omega, by omega, hbw.out⟩

set_option maxHeartbeats 1000000 in
theorem containsIn (B : Nat) (A : Option Addr) (c : Nat) (l : List Rd) (hour : Int) (bx : Nat) (w : World) (h : Rds w B A l) (hB : B ≤ w.heap.size) (hc : w.cell? ⟨bx, 0, none⟩ = some (.int .i64 hour)) (hx : bx < w.heap.size) (hv : vR l) (hh : 0 ≤ hour ∧ hour ≤ 9223372036854775807) :
    Calls Try.prog 93 #[.slice A l.length c, .func (Fn.func 94) #[] #[.pointer (some ⟨bx, 0, none⟩)]] w fun e w' => e = .returned (.bool (!inB l hour)) ∧ Below w.heap.size w w' := by
  have hi := Lib.hid (indexIn B A c l hour bx w h hB hc hx hv hh)
  go_enter Try.func93, Try.ntmps93
  go_wp2_with fail
  refine hi.out.mono ?_
  rintro e w' ⟨x, rfl, h1, h2, h3, h4, hbw⟩
  cases he : inB l hour with
  | true =>
    have := h1 he
    subst this
    have he := Lib.hid he
    clear h1 h2
    go_wp2
    go_ret
    exact ⟨ret_bool (by rw [he.out]; rfl), hbw⟩
  | false =>
    have hx := h2 he
    have he := Lib.hid he
    clear h1 h2
    go_wp2
    go_ret
    exact ⟨ret_bool (by rw [he.out]; rfl), hbw⟩

set_option maxHeartbeats 1000000 in
theorem Hits_any (B : Nat) (A : Option Addr) (c : Nat) (l : List Rd) (hour : Int) (w : World) (h : Rds w B A l) (hB : B ≤ w.heap.size) (hh : hour ≤ 9223372036854775807) :
    Calls Try.prog 55 #[.slice A l.length c, .int .i64 hour] w fun e w' => e = .returned (.tuple #[.bool (hitsR l hour).1, .int .i64 (hitsR l hour).2]) ∧ Below w.heap.size w w' := by
  have h63 := h.1
  have hb0 := ba1 w (.cells #[.int .i64 hour] 3)
  have hr := h.below (hb0.mono hB)
  have hcc := fun fits => checked_any B A c l fits _ hr (Nat.le_trans hB hb0.size)
  have hcell : (w.alloc (.cells #[.int .i64 hour] 3)).cell? ⟨w.heap.size, 0, none⟩ = some (.int .i64 hour) := by simp [go_sem]
  have hb0' := Lib.hid hb0
  cases hv : validR l with
  | false =>
    have hR : hitsR l hour = (false, 51) := by unfold hitsR; rw [hv]; simp
    rw [hR]
    by_cases h0 : 0 ≤ hour
    · have hc := hcc true
      rw [show errR l true = 51 by unfold errR; rw [hv]; simp] at hc
      clear hcc hb0
      replace hc := Lib.hid hc
      replace hv := Lib.hid hv
      replace hR := Lib.hid hR
      go_enter Try.func55, Try.ntmps55
      go_wp2_with fail
      refine hc.out.mono ?_
      rintro e w1 ⟨rfl, hb1⟩
      go_wp2
      go_ret2
      exact ⟨rfl, hb0'.out.trans (hb1.mono hb0'.out.size)⟩
    · have hc := hcc false
      rw [show errR l false = 51 by unfold errR; rw [hv]; simp] at hc
      clear hcc hb0
      replace hc := Lib.hid hc
      replace hv := Lib.hid hv
      replace hR := Lib.hid hR
      go_enter Try.func55, Try.ntmps55
      go_wp2_with fail
      refine hc.out.mono ?_
      rintro e w1 ⟨rfl, hb1⟩
      go_wp2
      go_ret2
      exact ⟨rfl, hb0'.out.trans (hb1.mono hb0'.out.size)⟩
  | true =>
    by_cases h0 : 0 ≤ hour
    · have hR : hitsR l hour = (inB l hour, 0) := by unfold hitsR; rw [hv]; simp [h0]
      rw [hR]
      have hc := hcc true
      rw [show errR l true = 0 by unfold errR; rw [hv]; simp] at hc
      have hci : ∀ w1, Below (w.alloc (.cells #[.int .i64 hour] 3)).heap.size (w.alloc (.cells #[.int .i64 hour] 3)) w1 → _ := fun w1 hb1 =>
        containsIn B A c l hour w.heap.size w1 (hr.below (hb1.mono (Nat.le_trans hB hb0.size))) (Nat.le_trans hB (Nat.le_trans hb0.size hb1.size)) ((hb1.cell (p := ⟨w.heap.size, 0, none⟩) (by simp)).trans hcell) (by have := hb1.size; simp at this; omega) (validR_iff.1 hv) ⟨h0, hh⟩
      generalize inB l hour = q at *
      clear hcc hb0
      replace hci := Lib.hid hci
      replace hc := Lib.hid hc
      replace hv := Lib.hid hv
      replace hR := Lib.hid hR
      go_enter Try.func55, Try.ntmps55
      go_wp2_with fail
      refine hc.out.mono ?_
      rintro e w1 ⟨rfl, hb1⟩
      go_wp2_with fail
      refine (hci.out w1 hb1).mono ?_
      rintro e w2 ⟨rfl, hb2⟩
      have hbz := hb0'.out.trans ((hb1.trans (hb2.mono hb1.size)).mono hb0'.out.size)
      cases q with
      | true =>
        go_wp2
        go_ret2
        exact ⟨rfl, hbz⟩
      | false =>
        go_wp2
        go_ret2
        exact ⟨rfl, hbz⟩
    · have hR : hitsR l hour = (false, 2) := by unfold hitsR; rw [hv]; simp [h0]
      rw [hR]
      have hc := hcc false
      rw [show errR l false = 2 by unfold errR; rw [hv]; simp] at hc
      clear hcc hb0
      replace hc := Lib.hid hc
      replace hv := Lib.hid hv
      replace hR := Lib.hid hR
      go_enter Try.func55, Try.ntmps55
      go_wp2_with fail
      refine hc.out.mono ?_
      rintro e w1 ⟨rfl, hb1⟩
      go_wp2
      go_ret2
      exact ⟨rfl, hb0'.out.trans (hb1.mono hb0'.out.size)⟩
end Go.Proofs.Ytlnpnfjdcnijhaa
