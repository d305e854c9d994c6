/-
  Lists of windows: the first error of windows, and of whether the other arguments fit.
-/
import Derived.Test.YtlnpnfjdcnijhaaL
namespace Go.Proofs.Ytlnpnfjdcnijhaa
open Go.RowKit Go.Deep M
set_option linter.unusedVariables false
set_option linter.unusedSimpArgs false

/-- A window, and where its hours lie. -/
structure Wc where
  x : Wn
  A : Option Addr
  c : Nat
def wc0 : Wc := ⟨⟨0, []⟩, none, 0⟩
def wc (l : List Wc) (i : Nat) : Wc := l.getD i wc0
def Wc.v (a : Wc) : Value := wnV a.x.p a.A a.x.hs.length a.c
/-- A slice of windows. -/
def Wds (w : World) (B : Nat) (A : Option Addr) (D : List Wc) : Prop :=
  D.length ≤ 9223372036854775807 ∧ (0 < D.length → ∃ b o, A = some ⟨b, o, none⟩ ∧ b < B ∧ ∀ i, i < D.length → w.cell? ⟨b, o + i * 2, none⟩ = some (.int .i64 (wc D i).x.p) ∧ w.cell? ⟨b, o + i * 2 + 1, none⟩ = some (.slice (wc D i).A (wc D i).x.hs.length (wc D i).c) ∧ Row w B (wc D i).A (wc D i).x.hs)
theorem Wds.keep {w w' : World} {B : Nat} {A : Option Addr} {D : List Wc} (h : Wds w B A D) (hk : ∀ p : Addr, p.block < B → w'.cell? p = w.cell? p) : Wds w' B A D :=
  ⟨h.1, fun hn => by
    obtain ⟨b, o, e, hb, hc⟩ := h.2 hn
    exact ⟨b, o, e, hb, fun i hi => ⟨(hk _ hb).trans (hc i hi).1, (hk _ hb).trans (hc i hi).2.1, (hc i hi).2.2.keep hk⟩⟩⟩
theorem Wds.below {w w' : World} {B : Nat} {A : Option Addr} {D : List Wc} (h : Wds w B A D) (hb : Below B w w') : Wds w' B A D := h.keep fun _ hp => hb.cell hp
theorem Wds.more {w : World} {B B' : Nat} {A : Option Addr} {D : List Wc} (h : Wds w B A D) (hB : B ≤ B') : Wds w B' A D :=
  ⟨h.1, fun hn => by
    obtain ⟨b, o, e, hb, hc⟩ := h.2 hn
    exact ⟨b, o, e, by omega, fun i hi => ⟨(hc i hi).1, (hc i hi).2.1, (hc i hi).2.2.more hB⟩⟩⟩
theorem Wds.at_ {w : World} {B : Nat} {A : Option Addr} {D : List Wc} (h : Wds w B A D) (k : Nat) (hk : k < D.length) : ∃ b o, A = some ⟨b, o, none⟩ ∧ b < B ∧ w.cell? ⟨b, o + k * 2, none⟩ = some (.int .i64 (wc D k).x.p) ∧ w.cell? ⟨b, o + k * 2 + 1, none⟩ = some (.slice (wc D k).A (wc D k).x.hs.length (wc D k).c) ∧ Row w B (wc D k).A (wc D k).x.hs := by
  obtain ⟨b, o, e, hb, hc⟩ := h.2 (by omega)
  exact ⟨b, o, e, hb, hc k hk⟩
theorem wds_nil (w : World) (B : Nat) (A : Option Addr) : Wds w B A [] := ⟨by simp, fun h => absurd h (by simp)⟩
/-- Are the first k windows valid? -/
def Wns (D : List Wc) (most : Int) (k : Nat) : Prop := ∀ i, i < k → winB (wc D i).x most = true
instance (D : List Wc) (most : Int) (k : Nat) : Decidable (Wns D most k) := by unfold Wns; infer_instance
theorem wns_zero (D : List Wc) (most : Int) : Wns D most 0 := fun _ h => absurd h (Nat.not_lt_zero _)
theorem wns_succ {D : List Wc} {most : Int} {k : Nat} (h : Wns D most k) (h1 : winB (wc D k).x most = true) : Wns D most (k + 1) := fun j hj => by
  rcases Nat.lt_succ_iff_lt_or_eq.1 hj with h' | rfl
  · exact h j h'
  · exact h1
def wnsB (D : List Wc) (most : Int) : Bool := decide (Wns D most D.length)
def errW (D : List Wc) (most : Int) (fits : Bool) : Int := if wnsB D most = true then (if fits = true then 0 else 2) else 50

set_option maxHeartbeats 1000000 in
theorem chk1_any (B : Nat) (a : Wc) (most : Int) (bx : Nat) (w : World) (h : Row w B a.A a.x.hs) (hB : B ≤ w.heap.size) (hc : w.cell? ⟨bx, 0, none⟩ = some (.int .i64 most)) (hx : bx < w.heap.size) (hm : most ≤ 1000000) :
    Calls Try.prog 97 #[a.v, .pointer (some ⟨bx, 0, none⟩)] w fun e w' => e = .returned (.bool (!winB a.x most)) ∧ Below w.heap.size w w' := by
  have hb1 := ba1 w (.cells #[.int .i64 a.x.p, .slice a.A a.x.hs.length a.c] 24)
  have hy := BxW.new w a.x.p a.A a.x.hs.length a.c
  have c0 := hy.c0
  have c1 := hy.c1
  have c2 := (hb1.cell (p := ⟨bx, 0, none⟩) hx).trans hc
  have hin := isWindow_any B a.A a.c a.x most _ (h.below (hb1.mono hB)) (Nat.le_trans hB hb1.size) hm
  generalize winB a.x most = q at *
  unfold Wc.v
  unfold wnV at *
  replace hin := Lib.hid hin
  replace hy := Lib.hid hy
  have hb1' := Lib.hid hb1
  clear hb1
  go_enter Try.func97, Try.ntmps97
  go_wp2_with fail
  refine hin.out.mono ?_
  rintro e w1 ⟨rfl, hb2⟩
  cases q with
  | true =>
    go_wp2
    go_ret
    exact ⟨rfl, hb1'.out.trans (hb2.mono hb1'.out.size)⟩
  | false =>
    go_wp2
    go_ret
    exact ⟨rfl, hb1'.out.trans (hb2.mono hb1'.out.size)⟩

set_option maxHeartbeats 1000000 in
theorem indexW (B : Nat) (A : Option Addr) (c : Nat) (D : List Wc) (most : Int) (bx : Nat) (w : World) (h : Wds w B A D) (hB : B ≤ w.heap.size) (hc : w.cell? ⟨bx, 0, none⟩ = some (.int .i64 most)) (hx : bx < w.heap.size) (hm : most ≤ 1000000) :
    Calls Try.prog 111 #[.slice A D.length c, .func (Fn.func 97) #[] #[.pointer (some ⟨bx, 0, none⟩)]] w (Found (wnsB D most) w) := by
  have h63 := h.1
  go_enter Try.func111, Try.ntmps111
  go_wp2
  go_loopw [8] (fun i wr => ∃ k : Nat, k ≤ D.length ∧ i = .int .i64 k ∧ Wns D most k ∧ Below w.heap.size w wr) (fun i _ => D.length - (intOf i).toNat)
  case atStart => exact ⟨0, Nat.zero_le _, rfl, wns_zero _ _, Below.refl _ _⟩
  case round =>
    obtain ⟨k, hk, rfl, hel, hbw⟩ := hrel
    have hr := h.below (hbw.mono hB)
    have hcr := (hbw.cell (p := ⟨bx, 0, none⟩) hx).trans hc
    have hel := Lib.hid hel
    by_cases hlt : k < D.length
    · obtain ⟨b, o, rfl, hb, hc0, hc1, hrow⟩ := hr.at_ k hlt
      have hn := chk1_any B (wc D k) most bx wr hrow (Nat.le_trans hB hbw.size) hcr (by have := hbw.size; omega) hm
      unfold Wc.v wnV at hn
      replace hr := Lib.hid hr
      replace hrow := Lib.hid hrow
      have hbw := Lib.hid hbw
      cases hq : winB (wc D k).x most with
      | true =>
        have hs := Lib.hid (wns_succ hel.out hq)
        rw [hq] at hn
        have hn := Lib.hid hn
        replace hq := Lib.hid hq
        go_wp2_with (go_at_call 97; refine hn.out.mono ?_; rintro e w' ⟨rfl, hb1⟩)
        go_roundw
        case rel => exact ⟨k + 1, by omega, by go_num, hs.out, hbw.out.trans (hb1.mono hbw.out.size)⟩
        case measure => simp [intOf]; omega
      | false =>
        have hw := Lib.hid (show wnsB D most = false by
          unfold wnsB; rw [decide_eq_false]; intro hh
          have := hh k hlt; rw [hq] at this; cases this)
        rw [hq] at hn
        have hn := Lib.hid hn
        replace hq := Lib.hid hq
        go_wp2_with (go_at_call 97; refine hn.out.mono ?_; rintro e w' ⟨rfl, hb1⟩)
        go_ret
        exact ⟨k, rfl, (by rw [hw.out]; intro h; cases h), (by intro; omega), by omega, by omega, hbw.out.trans (hb1.mono hbw.out.size)⟩
    · have hk' : k = D.length := by omega
      subst hk'
      have hw := Lib.hid (show wnsB D most = true from decide_eq_true hel.out)
      replace hbw := Lib.hid hbw
      go_wp2
      go_ret
      exact ⟨-1, rfl, (by intro; rfl), (by rw [hw.out]; intro h; cases h), by omega, by omega, hbw.out⟩

set_option maxHeartbeats 1000000 in
theorem containsW (B : Nat) (A : Option Addr) (c : Nat) (D : List Wc) (most : Int) (bx : Nat) (w : World) (h : Wds w B A D) (hB : B ≤ w.heap.size) (hc : w.cell? ⟨bx, 0, none⟩ = some (.int .i64 most)) (hx : bx < w.heap.size) (hm : most ≤ 1000000) :
    Calls Try.prog 96 #[.slice A D.length c, .func (Fn.func 97) #[] #[.pointer (some ⟨bx, 0, none⟩)]] w fun e w' => e = .returned (.bool (!wnsB D most)) ∧ Below w.heap.size w w' := by
  have hi := Lib.hid (indexW B A c D most bx w h hB hc hx hm)
  go_enter Try.func96, Try.ntmps96
  go_wp2_with fail
  refine hi.out.mono ?_
  rintro e w' ⟨x, rfl, h1, h2, h3, h4, hbw⟩
  cases he : wnsB D most with
  | true =>
    have := h1 he
    subst this
    have he := Lib.hid he
    clear h1 h2
    go_wp2
    go_ret
    exact ⟨ret_bool (by rw [he.out]; rfl), hbw⟩
  | false =>
    have hx := h2 he
    have he := Lib.hid he
    clear h1 h2
    go_wp2
    go_ret
    exact ⟨ret_bool (by rw [he.out]; rfl), hbw⟩

set_option maxHeartbeats 1000000 in
theorem checkedW_any (B : Nat) (A : Option Addr) (c : Nat) (D : List Wc) (most : Int) (fits : Bool) (w : World) (h : Wds w B A D) (hB : B ≤ w.heap.size) (hm : most ≤ 1000000) :
    Calls Try.prog 63 #[.int .i64 most, .bool fits, .slice A D.length c] w fun e w' => e = .returned (.int .i64 (errW D most fits)) ∧ Below w.heap.size w w' := by
  have hb0 := ba1 w (.cells #[.int .i64 most] 3)
  have hr := h.below (hb0.mono hB)
  have hcell : (w.alloc (.cells #[.int .i64 most] 3)).cell? ⟨w.heap.size, 0, none⟩ = some (.int .i64 most) := by simp [go_sem]
  have hc := containsW B A c D most w.heap.size _ hr (Nat.le_trans hB hb0.size) hcell (by simp) hm
  have hb0' := Lib.hid hb0
  clear hb0
  cases hq : wnsB D most with
  | true =>
    rw [hq] at hc
    replace hc := Lib.hid hc
    cases fits with
    | true =>
      have he := Lib.hid (show errW D most true = 0 by unfold errW; rw [hq]; simp)
      rw [he.out]
      replace hq := Lib.hid hq
      go_enter Try.func63, Try.ntmps63
      go_wp2_with fail
      refine hc.out.mono ?_
      rintro e w1 ⟨rfl, hb1⟩
      go_wp2
      go_ret
      exact ⟨rfl, hb0'.out.trans (hb1.mono hb0'.out.size)⟩
    | false =>
      have he := Lib.hid (show errW D most false = 2 by unfold errW; rw [hq]; simp)
      rw [he.out]
      replace hq := Lib.hid hq
      go_enter Try.func63, Try.ntmps63
      go_wp2_with fail
      refine hc.out.mono ?_
      rintro e w1 ⟨rfl, hb1⟩
      go_wp2
      go_ret
      exact ⟨rfl, hb0'.out.trans (hb1.mono hb0'.out.size)⟩
  | false =>
    have he := Lib.hid (show errW D most fits = 50 by unfold errW; rw [hq]; simp)
    rw [he.out]
    rw [hq] at hc
    replace hc := Lib.hid hc
    replace hq := Lib.hid hq
    go_enter Try.func63, Try.ntmps63
    go_wp2_with fail
    refine hc.out.mono ?_
    rintro e w1 ⟨rfl, hb1⟩
    go_wp2
    go_ret
    exact ⟨rfl, hb0'.out.trans (hb1.mono hb0'.out.size)⟩

/-! ### one window, or two, in a slice of their own -/
theorem wds1 {w : World} {B : Nat} (a : Wc) (h : Row w B a.A a.x.hs) (hB : B ≤ w.heap.size) : Wds (w.alloc (.cells #[.int .i64 a.x.p, .slice a.A a.x.hs.length a.c] 24)) (w.heap.size + 1) (some ⟨w.heap.size, 0, none⟩) [a] :=
  ⟨by simp, fun _ => ⟨w.heap.size, 0, rfl, by omega, fun i hi => by
    have hi : i = 0 := by simp at hi; omega
    subst hi
    exact ⟨by simp [go_sem, wc], by simp [go_sem, wc], (h.below ((ba1 w _).mono hB)).more (by omega)⟩⟩⟩
theorem wds2 {w : World} {B : Nat} (a b : Wc) (h : Row w B a.A a.x.hs) (h' : Row w B b.A b.x.hs) (hB : B ≤ w.heap.size) :
    Wds (w.alloc (.cells #[.int .i64 a.x.p, .slice a.A a.x.hs.length a.c, .int .i64 b.x.p, .slice b.A b.x.hs.length b.c] 24)) (w.heap.size + 1) (some ⟨w.heap.size, 0, none⟩) [a, b] :=
  ⟨by simp, fun _ => ⟨w.heap.size, 0, rfl, by omega, fun i hi => by
    have hi : i = 0 ∨ i = 1 := by simp at hi; omega
    rcases hi with rfl | rfl
    · exact ⟨by simp [go_sem, wc], by simp [go_sem, wc], (h.below ((ba1 w _).mono hB)).more (by omega)⟩
    · exact ⟨by simp [go_sem, wc], by simp [go_sem, wc], (h'.below ((ba1 w _).mono hB)).more (by omega)⟩⟩⟩
theorem wnsB1 (a : Wc) (most : Int) : wnsB [a] most = winB a.x most := by
  unfold wnsB
  rw [Bool.eq_iff_iff, decide_eq_true_iff]
  unfold Wns
  constructor
  · intro h; exact h 0 (by simp)
  · intro h i hi
    have hi : i = 0 := by simp at hi; omega
    subst hi; exact h
theorem wnsB2 (a b : Wc) (most : Int) : wnsB [a, b] most = (winB a.x most && winB b.x most) := by
  unfold wnsB
  rw [Bool.eq_iff_iff, decide_eq_true_iff, Bool.and_eq_true]
  unfold Wns
  constructor
  · intro h; exact ⟨h 0 (by simp), h 1 (by simp)⟩
  · rintro ⟨h1, h2⟩ i hi
    have hi : i = 0 ∨ i = 1 := by simp at hi; omega
    rcases hi with rfl | rfl
    · exact h1
    · exact h2
end Go.Proofs.Ytlnpnfjdcnijhaa
