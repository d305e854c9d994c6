/-
  Windows: which are valid, by program and specification; the first error of windows.
-/
import Derived.Test.YtlnpnfjdcnijhaaC
namespace Go.Proofs.Ytlnpnfjdcnijhaa
open Go.RowKit Go.Deep M
set_option linter.unusedVariables false
set_option linter.unusedSimpArgs false

namespace M
/-- A window: its period, its hours. -/
structure Wn where
  p : Int
  hs : List Int
/-- The least that the hour at a place may be. -/
def lst (hs : List Int) (i : Nat) : Int := if i = 0 then 0 else el hs (i - 1) + 1
theorem lst_zero (hs : List Int) : lst hs 0 = 0 := rfl
theorem lst_succ (hs : List Int) (i : Nat) : lst hs (i + 1) = el hs i + 1 := by simp [lst]
def Gd1 (x : Wn) (i : Nat) : Prop := lst x.hs i ≤ el x.hs i ∧ el x.hs i < x.p
instance (x : Wn) (i : Nat) : Decidable (Gd1 x i) := by unfold Gd1; infer_instance
def Gds (x : Wn) (k : Nat) : Prop := ∀ i, i < k → Gd1 x i
instance (x : Wn) (k : Nat) : Decidable (Gds x k) := by unfold Gds; infer_instance
theorem gds_zero (x : Wn) : Gds x 0 := fun _ h => absurd h (Nat.not_lt_zero _)
theorem gds_succ {x : Wn} {k : Nat} (h : Gds x k) (h' : Gd1 x k) : Gds x (k + 1) := fun i hi => by
  rcases Nat.lt_succ_iff_lt_or_eq.1 hi with h1 | rfl
  · exact h i h1
  · exact h'
theorem gds_pos {x : Wn} {k : Nat} (h : Gds x k) : ∀ i, i < k → 0 ≤ el x.hs i := by
  intro i
  induction i with
  | zero => intro hi; have := (h 0 hi).1; rw [lst_zero] at this; exact this
  | succ i ih => intro hi; have h1 := ih (by omega); have := (h (i + 1) hi).1; rw [lst_succ] at this; omega
theorem gds_lt {x : Wn} {k : Nat} (h : Gds x k) {i j : Nat} (hij : i < j) (hj : j < k) : el x.hs i < el x.hs j := by
  induction j with
  | zero => omega
  | succ j ih =>
    have h1 := (h (j + 1) hj).1
    rw [lst_succ] at h1
    rcases Nat.lt_succ_iff_lt_or_eq.1 hij with h2 | rfl
    · have := ih h2 (by omega); omega
    · omega
theorem lst_pos {x : Wn} {k : Nat} (h : Gds x k) : 0 ≤ lst x.hs k := by
  cases k with
  | zero => rw [lst_zero]; omega
  | succ k => rw [lst_succ]; have := gds_pos h k (by omega); omega
/-- Is a window valid, but for its period, which may be up to so many hours? -/
def winB (x : Wn) (most : Int) : Bool := decide (1 ≤ x.p) && decide (x.p ≤ most) && decide (Gds x x.hs.length)
theorem winB_iff {x : Wn} {most : Int} : winB x most = true ↔ (1 ≤ x.p ∧ x.p ≤ most) ∧ Gds x x.hs.length := by unfold winB; simp
theorem win_p1 {x : Wn} {most : Int} (h : x.p < 1) : winB x most = false := by unfold winB; rw [decide_eq_false (p := 1 ≤ x.p) (by omega)]; rfl
theorem win_p2 {x : Wn} {most : Int} (h : most < x.p) : winB x most = false := by unfold winB; rw [decide_eq_false (p := x.p ≤ most) (by omega)]; simp
theorem win_h {x : Wn} {most : Int} {i : Nat} (hi : i < x.hs.length) (h : ¬ Gd1 x i) : winB x most = false := by
  unfold winB; rw [decide_eq_false (p := Gds x x.hs.length) (fun hh => h (hh i hi))]; simp
theorem win_yes {x : Wn} {most : Int} (h1 : ¬ x.p < 1) (h2 : ¬ most < x.p) (h : Gds x x.hs.length) : winB x most = true := winB_iff.2 ⟨⟨by omega, by omega⟩, h⟩
end M

/-- A window as a value. -/
def wnV (p : Int) (A : Option Addr) (n c : Nat) : Value := .agg #[.int .i64 p, .slice A n c]
/-- A box of a window. -/
def BxW (w : World) (b : Nat) (p : Int) (A : Option Addr) (n c : Nat) : Prop := w.heap[b]? = some (.cells #[.int .i64 p, .slice A n c] 24 (0, 0))
theorem BxW.new (w : World) (p : Int) (A : Option Addr) (n c : Nat) : BxW (w.alloc (.cells #[.int .i64 p, .slice A n c] 24)) w.heap.size p A n c := heap_alloc_new w _
theorem BxW.lt {w : World} {b : Nat} {p : Int} {A : Option Addr} {n c : Nat} (h : BxW w b p A n c) : b < w.heap.size := blk_lt h
theorem BxW.c0 {w : World} {b : Nat} {p : Int} {A : Option Addr} {n c : Nat} (h : BxW w b p A n c) : w.cell? ⟨b, 0, none⟩ = some (.int .i64 p) := by simp [World.cell?, show w.heap[b]? = _ from h]
theorem BxW.c1 {w : World} {b : Nat} {p : Int} {A : Option Addr} {n c : Nat} (h : BxW w b p A n c) : w.cell? ⟨b, 1, none⟩ = some (.slice A n c) := by simp [World.cell?, show w.heap[b]? = _ from h]
theorem BxW.fz {w : World} {b : Nat} {p : Int} {A : Option Addr} {n c : Nat} (h : BxW w b p A n c) (k : Nat) : w.frozen? ⟨b, k, none⟩ = false := by simp [World.frozen?, show w.heap[b]? = _ from h]
theorem BxW.to {w w' : World} {b : Nat} {p : Int} {A : Option Addr} {n c : Nat} (h : BxW w b p A n c) (hb : w'.heap[b]? = w.heap[b]?) : BxW w' b p A n c := hb.trans h
theorem BxW.up {w w' : World} {b : Nat} {p : Int} {A : Option Addr} {n c : Nat} (h : BxW w b p A n c) (hb : Below w.heap.size w w') : BxW w' b p A n c := h.to (hb.block b h.lt)

set_option maxHeartbeats 1000000 in
theorem isWindow_any (B : Nat) (A : Option Addr) (c : Nat) (x : Wn) (most : Int) (w : World) (h : Row w B A x.hs) (hB : B ≤ w.heap.size) (hm : most ≤ 1000000) :
    Calls Try.prog 69 #[wnV x.p A x.hs.length c, .int .i64 most] w fun e w' => e = .returned (.bool (winB x most)) ∧ Below w.heap.size w w' := by
  have h63 := h.1
  have hb0 := ba1 w (.cells #[.int .i64 x.p, .slice A x.hs.length c] 24)
  have hx := BxW.new w x.p A x.hs.length c
  have c0 := hx.c0
  have c1 := hx.c1
  have hr := h.below (hb0.mono hB)
  obtain ⟨W, hW⟩ : ∃ W, W = w.alloc (.cells #[.int .i64 x.p, .slice A x.hs.length c] 24) := ⟨_, rfl⟩
  rw [← hW] at hb0 hr
  replace hx := Lib.hid hx
  unfold wnV
  by_cases h1 : x.p < 1
  · have hR := Lib.hid (win_p1 (most := most) h1)
    replace hW := Lib.hid hW
    go_enter Try.func69, Try.ntmps69
    go_wp2
    rw [← hW.out]
    go_ret
    exact ⟨ret_bool hR.out.symm, hb0⟩
  by_cases h2 : most < x.p
  · have hR := Lib.hid (win_p2 h2)
    replace hW := Lib.hid hW
    go_enter Try.func69, Try.ntmps69
    go_wp2
    rw [← hW.out]
    go_ret
    exact ⟨ret_bool hR.out.symm, hb0⟩
  have hyes := Lib.hid (@win_yes x most h1 h2)
  have hno := Lib.hid (fun (i : Nat) (hi : i < x.hs.length) (hh : ¬ Gd1 x i) => win_h (most := most) hi hh)
  have hb0' := Lib.hid hb0
  clear hb0
  replace hr := Lib.hid hr
  have hW' := Lib.hid hW
  clear hW
  go_enter Try.func69, Try.ntmps69
  go_wp2
  rw [← hW'.out]
  rw [← hW'.out] at c0 c1
  go_loop [5, 20] (fun a i => ∃ k : Nat, k ≤ x.hs.length ∧ i = .int .i64 k ∧ a = .int .i64 (lst x.hs k) ∧ Gds x k) (fun _ i => x.hs.length - (intOf i).toNat)
  case atStart => exact ⟨0, Nat.zero_le _, rfl, rfl, gds_zero x⟩
  case round =>
    obtain ⟨k, hk, rfl, rfl, hg⟩ := hrel
    by_cases hlt : k < x.hs.length
    · obtain ⟨b, o, rfl, hb, hc⟩ := hr.out.at_ k hlt
      have hlp := lst_pos hg
      have hls := lst_succ x.hs k
      have hgs := fun hh => gds_succ hg hh
      have hnk := hno.out k hlt
      unfold Gd1 at hgs hnk
      generalize lst x.hs k = q at *
      generalize el x.hs k = z at *
      replace hg := Lib.hid hg
      by_cases g1 : z < q
      · have hR := Lib.hid (hnk (by omega))
        clear hgs hnk hls
        go_wp2
        go_ret
        exact ⟨ret_bool hR.out.symm, hb0'.out⟩
      by_cases g2 : x.p ≤ z
      · have hR := Lib.hid (hnk (by omega))
        clear hgs hnk hls
        go_wp2
        go_ret
        exact ⟨ret_bool hR.out.symm, hb0'.out⟩
      · have hs := Lib.hid (hgs ⟨by omega, by omega⟩)
        clear hgs hnk
        replace hls := Lib.hid hls
        go_wp2
        go_round
        case rel => exact ⟨k + 1, by omega, by go_num, by rw [hls.out], hs.out⟩
        case measure => simp [intOf]; omega
    · have hk' : k = x.hs.length := by omega
      subst hk'
      have hR := Lib.hid (hyes.out hg)
      go_wp2
      go_ret
      exact ⟨ret_bool hR.out.symm, hb0'.out⟩
set_option maxHeartbeats 1000000 in
theorem isWindow_ref (B : Nat) (A : Option Addr) (c : Nat) (x : Wn) (most : Int) (w : World) (h : Row w B A x.hs) (hB : B ≤ w.heap.size) (hm : most ≤ 1000000) :
    Calls Try.prog 70 #[wnV x.p A x.hs.length c, .int .i64 most] w fun e w' => e = .returned (.bool (winB x most)) ∧ Below w.heap.size w w' := by
  have h63 := h.1
  have hb0 := ba1 w (.cells #[.int .i64 x.p, .slice A x.hs.length c] 24)
  have hx := BxW.new w x.p A x.hs.length c
  have c0 := hx.c0
  have c1 := hx.c1
  have hr := h.below (hb0.mono hB)
  obtain ⟨W, hW⟩ : ∃ W, W = w.alloc (.cells #[.int .i64 x.p, .slice A x.hs.length c] 24) := ⟨_, rfl⟩
  rw [← hW] at hb0 hr
  replace hx := Lib.hid hx
  unfold wnV
  by_cases h1 : x.p < 1
  · have hR := Lib.hid (win_p1 (most := most) h1)
    replace hW := Lib.hid hW
    go_enter Try.func70, Try.ntmps70
    go_wp2
    rw [← hW.out]
    go_ret
    exact ⟨ret_bool hR.out.symm, hb0⟩
  by_cases h2 : most < x.p
  · have hR := Lib.hid (win_p2 h2)
    replace hW := Lib.hid hW
    go_enter Try.func70, Try.ntmps70
    go_wp2
    rw [← hW.out]
    go_ret
    exact ⟨ret_bool hR.out.symm, hb0⟩
  have hyes := Lib.hid (@win_yes x most h1 h2)
  have hno := Lib.hid (fun (i : Nat) (hi : i < x.hs.length) (hh : ¬ Gd1 x i) => win_h (most := most) hi hh)
  have hb0' := Lib.hid hb0
  clear hb0
  replace hr := Lib.hid hr
  have hW' := Lib.hid hW
  clear hW
  go_enter Try.func70, Try.ntmps70
  go_wp2
  rw [← hW'.out]
  rw [← hW'.out] at c0 c1
  go_loop [19] (fun i => ∃ k : Nat, k ≤ x.hs.length ∧ i = .int .i64 k ∧ Gds x k) (fun i => x.hs.length - (intOf i).toNat)
  case atStart => exact ⟨0, Nat.zero_le _, rfl, gds_zero x⟩
  case round =>
    obtain ⟨k, hk, rfl, hg⟩ := hrel
    by_cases hlt : k < x.hs.length
    · obtain ⟨b, o, hA, hb, hc⟩ := hr.out.at_ k hlt
      have hgs := fun hh => gds_succ hg hh
      have hnk := hno.out k hlt
      have hgp := fun (h0 : 0 < k) => gds_pos hg (k - 1) (by omega)
      unfold Gd1 lst at hgs hnk
      by_cases hk0 : k = 0
      · subst hk0
        subst hA
        rw [if_pos rfl] at hgs hnk
        rw [Nat.add_zero] at hc
        clear hgp
        generalize el x.hs 0 = z at *
        replace hg := Lib.hid hg
        by_cases g1 : z < 0
        · have hR := Lib.hid (hnk (by omega))
          clear hgs hnk
          go_wp2
          go_ret
          exact ⟨ret_bool hR.out.symm, hb0'.out⟩
        by_cases g2 : x.p ≤ z
        · have hR := Lib.hid (hnk (by omega))
          clear hgs hnk
          go_wp2
          go_ret
          exact ⟨ret_bool hR.out.symm, hb0'.out⟩
        · have hs := Lib.hid (hgs ⟨by omega, by omega⟩)
          clear hgs hnk
          go_wp2
          go_round
          case rel => exact ⟨0 + 1, by omega, by go_num, hs.out⟩
          case measure => simp [intOf]; omega
      · rw [if_neg hk0] at hgs hnk
        have hy0 := hgp (by omega)
        obtain ⟨b', o', hA', hb', hc'⟩ := hr.out.at_ (k - 1) (by omega)
        rw [hA] at hA'
        injection hA' with hA'
        injection hA' with hA1 hA2 hA3
        subst hA1 hA2
        subst hA
        obtain ⟨j, hj⟩ : ∃ j, k = j + 1 := ⟨k - 1, by omega⟩
        subst hj
        rw [Nat.add_sub_cancel] at hgs hnk hy0 hc'
        have hci : ((j + 1 : Nat) : Int) - 1 = (j : Int) := by omega
        clear hgp
        generalize el x.hs (j + 1) = z at *
        generalize el x.hs j = y at *
        replace hg := Lib.hid hg
        by_cases g1 : z < 0
        · have hR := Lib.hid (hnk (by omega))
          clear hgs hnk
          go_wp2
          go_ret
          exact ⟨ret_bool hR.out.symm, hb0'.out⟩
        by_cases g2 : x.p ≤ z
        · have hR := Lib.hid (hnk (by omega))
          clear hgs hnk
          go_wp2
          go_ret
          exact ⟨ret_bool hR.out.symm, hb0'.out⟩
        by_cases g3 : z ≤ y
        · have hR := Lib.hid (hnk (by omega))
          clear hgs hnk
          go_wp2
          go_ret
          exact ⟨ret_bool hR.out.symm, hb0'.out⟩
        · have hs := Lib.hid (hgs ⟨by omega, by omega⟩)
          clear hgs hnk
          go_wp2
          go_round
          case rel => exact ⟨j + 1 + 1, by omega, by go_num, hs.out⟩
          case measure => simp [intOf]; omega
    · have hk' : k = x.hs.length := by omega
      subst hk'
      have hR := Lib.hid (hyes.out hg)
      go_wp2
      go_ret
      exact ⟨ret_bool hR.out.symm, hb0'.out⟩

/-! ### what the callers ask -/
theorem Valid_any (B : Nat) (A : Option Addr) (c : Nat) (x : Wn) (w : World) (h : Row w B A x.hs) (hB : B ≤ w.heap.size) :
    Calls Try.prog 24 #[wnV x.p A x.hs.length c] w fun e w' => e = .returned (.bool (winB x 60)) ∧ Below w.heap.size w w' := by
  have hb0 := ba1 w (.cells #[.int .i64 x.p, .slice A x.hs.length c] 24)
  have hx := BxW.new w x.p A x.hs.length c
  have c0 := hx.c0
  have c1 := hx.c1
  have hi := Lib.hid (isWindow_any B A c x 60 _ (h.below (hb0.mono hB)) (Nat.le_trans hB hb0.size) (by omega))
  unfold wnV at *
  replace hx := Lib.hid hx
  have hb0' := Lib.hid hb0
  clear hb0
  go_enter Try.func24, Try.ntmps24
  go_wp2_with fail
  refine hi.out.mono ?_
  rintro e w1 ⟨rfl, hb1⟩
  go_wp2
  go_ret
  exact ⟨rfl, hb0'.out.trans (hb1.mono hb0'.out.size)⟩
theorem Valid_ref (B : Nat) (A : Option Addr) (c : Nat) (x : Wn) (w : World) (h : Row w B A x.hs) (hB : B ≤ w.heap.size) :
    Calls Try.prog 25 #[wnV x.p A x.hs.length c] w fun e w' => e = .returned (.bool (winB x 60)) ∧ Below w.heap.size w w' := by
  have hb0 := ba1 w (.cells #[.int .i64 x.p, .slice A x.hs.length c] 24)
  have hx := BxW.new w x.p A x.hs.length c
  have c0 := hx.c0
  have c1 := hx.c1
  have hi := Lib.hid (isWindow_ref B A c x 60 _ (h.below (hb0.mono hB)) (Nat.le_trans hB hb0.size) (by omega))
  unfold wnV at *
  replace hx := Lib.hid hx
  have hb0' := Lib.hid hb0
  clear hb0
  go_enter Try.func25, Try.ntmps25
  go_wp2_with fail
  refine hi.out.mono ?_
  rintro e w1 ⟨rfl, hb1⟩
  go_wp2
  go_ret
  exact ⟨rfl, hb0'.out.trans (hb1.mono hb0'.out.size)⟩
theorem Wide_ref (B : Nat) (A : Option Addr) (c : Nat) (x : Wn) (w : World) (h : Row w B A x.hs) (hB : B ≤ w.heap.size) :
    Calls Try.prog 58 #[wnV x.p A x.hs.length c] w fun e w' => e = .returned (.bool (winB x 3600)) ∧ Below w.heap.size w w' := by
  have hb0 := ba1 w (.cells #[.int .i64 x.p, .slice A x.hs.length c] 24)
  have hx := BxW.new w x.p A x.hs.length c
  have c0 := hx.c0
  have c1 := hx.c1
  have hi := Lib.hid (isWindow_ref B A c x 3600 _ (h.below (hb0.mono hB)) (Nat.le_trans hB hb0.size) (by omega))
  unfold wnV at *
  replace hx := Lib.hid hx
  have hb0' := Lib.hid hb0
  clear hb0
  go_enter Try.func58, Try.ntmps58
  go_wp2_with fail
  refine hi.out.mono ?_
  rintro e w1 ⟨rfl, hb1⟩
  go_wp2
  go_ret
  exact ⟨rfl, hb0'.out.trans (hb1.mono hb0'.out.size)⟩
/-- The law's own bound on hours. -/
theorem wide_law (A : Option Addr) (c n : Nat) (p : Int) (w : World) (hn : n ≤ 9223372036854775807) :
    Calls Try.prog 18 #[wnV p A n c] w fun e w' => e = .returned (.bool (decide (4000 < n))) ∧ Below w.heap.size w w' := by
  have hb0 := ba1 w (.cells #[.int .i64 p, .slice A n c] 24)
  have hx := BxW.new w p A n c
  have c0 := hx.c0
  have c1 := hx.c1
  unfold wnV at *
  replace hx := Lib.hid hx
  have hb0' := Lib.hid hb0
  clear hb0
  by_cases h : 4000 < n
  · go_enter Try.func18, Try.ntmps18
    go_wp2
    go_ret
    exact ⟨ret_bool (by simp <;> omega), hb0'.out⟩
  · go_enter Try.func18, Try.ntmps18
    go_wp2
    go_ret
    exact ⟨ret_bool (by simp <;> omega), hb0'.out⟩
def hourB (h : Int) : Bool := decide (0 ≤ h) && decide (h ≤ 1000000000)
theorem isHour_any (h : Int) (w : World) : Calls Try.prog 64 #[.int .i64 h] w fun e w' => e = .returned (.bool (hourB h)) ∧ w = w' := by
  unfold hourB
  by_cases h1 : 0 ≤ h <;> by_cases h2 : h ≤ 1000000000
  all_goals
    go_enter Try.func64, Try.ntmps64
    go_wp2
    go_ret
    exact ⟨ret_bool (by simp [h1, h2]), rfl⟩
theorem isHour_ref (h : Int) (w : World) : Calls Try.prog 66 #[.int .i64 h] w fun e w' => e = .returned (.bool (hourB h)) ∧ w = w' := by
  unfold hourB
  by_cases h1 : 0 ≤ h <;> by_cases h2 : h ≤ 1000000000
  all_goals
    go_enter Try.func66, Try.ntmps66
    go_wp2
    go_ret
    exact ⟨ret_bool (by simp [h1, h2]), rfl⟩
end Go.Proofs.Ytlnpnfjdcnijhaa
