/-
  Where a step leads, and which places keep their oil: next, away, keeps.
-/
import Derived.Test.YtnbgjgiknfcdkaaDoorF
namespace Go.Proofs.YtnbgjgiknfcdkaaDoor
open Go.RowKit Go.Deep M
set_option linter.unusedVariables false
set_option linter.unusedSimpArgs false

theorem away_any (W H : Int) (aL aS : Option Addr) (cL nS cS : Nat) (nL : Nat) (w : World) :
    Calls Tryd.prog 93 #[.agg #[.int .i64 W, .int .i64 H, .slice aL nL cL, .slice aS nS cS]] w fun e w' => e = .returned (.int .i64 nL) ∧ Below w.heap.size w w' := by
  go_enter Tryd.func93, Tryd.ntmps93
  go_wp2
  go_ret
  exact ⟨rfl, (Below.refl _ _).alloc (Nat.le_refl _) _⟩

set_option maxRecDepth 100000 in
set_option maxHeartbeats 2000000 in
theorem keeps_any (B : Nat) (W H : Int) (aL aS : Option Addr) (cL nS cS : Nat) (L : List Bool) (p : Nat) (w : World) (h : Bools w B aL L) (hB : B ≤ w.heap.size) (hp : p ≤ L.length) (hl : L.length ≤ 36) :
    Calls Tryd.prog 99 #[.agg #[.int .i64 W, .int .i64 H, .slice aL L.length cL, .slice aS nS cS], .int .i64 p] w
      fun e w' => e = .returned (.bool (decide (p = L.length) || bl L p)) ∧ Below w.heap.size w w' := by
  have hb0 : Below w.heap.size w (w.alloc (.cells #[.int .i64 W, .int .i64 H, .slice aL L.length cL, .slice aS nS cS] 82)) := (Below.refl _ _).alloc (Nat.le_refl _) _
  by_cases he : p = L.length
  · have he' : ((p : Int) == (L.length : Int)) = true := by simp [he]
    have hr : (decide (p = L.length) || bl L p) = true := by simp [he]
    rw [hr]
    replace he := Lib.hid he
    go_enter Tryd.func99, Tryd.ntmps99
    go_wp2_with fail
    refine (away_any W H aL aS cL nS cS L.length _).mono ?_
    rintro e w1 ⟨rfl, hb1⟩
    have hbb := hb0.trans (hb1.mono (by simp))
    clear hb1
    go_wp2
    go_ret
    exact ⟨rfl, hbb⟩
  · have he' : ((p : Int) == (L.length : Int)) = false := by simp; omega
    have hr : (decide (p = L.length) || bl L p) = bl L p := by simp [he]
    rw [hr]
    have hlt : p < L.length := by omega
    obtain ⟨b, o, rfl, hb, hc⟩ := h.at_ p hlt
    go_enter Tryd.func99, Tryd.ntmps99
    go_wp2_with fail
    refine (away_any W H _ aS cL nS cS L.length _).mono ?_
    rintro e w1 ⟨rfl, hb1⟩
    have hbb := hb0.trans (hb1.mono (by simp))
    have g2 : w1.cell? ⟨w.heap.size, 2, none⟩ = some (.slice (some ⟨b, o, none⟩) L.length cL) := (hb1.cell (p := ⟨w.heap.size, 2, none⟩) (by simp)).trans (by simp [go_sem])
    have hc' := (hbb.cell (p := ⟨b, o + p, none⟩) (by simp; omega)).trans hc
    clear hb1
    go_wp2
    go_ret
    exact ⟨rfl, hbb⟩

/-- Where a step of r, d leads from (x, y). -/
def stepTo (w h : Nat) (x y r d : Int) : Int := if x + r < 0 ∨ (w : Int) ≤ x + r ∨ y + d < 0 ∨ (h : Int) ≤ y + d then (w * h : Nat) else (y + d) * w + (x + r)

set_option maxRecDepth 100000 in
set_option maxHeartbeats 4000000 in
theorem next_any (w h : Nat) (aL aS : Option Addr) (cL nS cS : Nat) (nL p : Nat) (r d : Int) (W : World) (hw : 1 ≤ w ∧ w ≤ 6) (hh : 1 ≤ h ∧ h ≤ 6) (hn : nL = w * h) (hp : p < w * h) (hr : -1 ≤ r ∧ r ≤ 1) (hd : -1 ≤ d ∧ d ≤ 1) :
    Calls Tryd.prog 100 #[.agg #[.int .i64 w, .int .i64 h, .slice aL nL cL, .slice aS nS cS], .int .i64 p, .agg #[.int .i64 r, .int .i64 d]] W
      fun e w' => e = .returned (.int .i64 (stepTo w h (p % w : Nat) (p / w : Nat) r d)) ∧ Below W.heap.size W w' := by
  have hx : (p : Int).tmod w = (p % w : Nat) := by rw [Int.tmod_eq_emod_of_nonneg (by omega)]; simp
  have hy : (p : Int).tdiv w = (p / w : Nat) := by rw [Int.tdiv_eq_ediv_of_nonneg (by omega)]; simp
  have hxl : p % w < w := Nat.mod_lt _ (by omega)
  have hyl : p / w < h := row_lt hp
  have hp36 : p < 36 := by
    have := Nat.mul_le_mul hw.2 hh.2
    omega
  generalize p % w = x at *
  generalize p / w = y at *
  have hw0 : ¬ w = 0 := by omega
  have hw1 : 1 ≤ (w : Int) := by omega
  have hb0 : Below W.heap.size W ((W.alloc (.cells #[.int .i64 w, .int .i64 h, .slice aL nL cL, .slice aS nS cS] 82)).alloc (.cells #[.int .i64 r, .int .i64 d] 110)) := ((Below.refl _ _).alloc (Nat.le_refl _) _).alloc (by simp) _
  have hst : ∀ q : Int, (if (x : Int) + r < 0 ∨ (w : Int) ≤ (x : Int) + r ∨ (y : Int) + d < 0 ∨ (h : Int) ≤ (y : Int) + d then ((w * h : Nat) : Int) else ((y : Int) + d) * w + ((x : Int) + r)) = q → stepTo w h x y r d = q := fun q e => e
  generalize stepTo w h x y r d = q at *
  have hmul : -6 ≤ ((y : Int) + d) * w ∧ ((y : Int) + d) * w ≤ 36 := by
    have h1 : ((y : Int) + d) * w ≤ 6 * w := Int.mul_le_mul_of_nonneg_right (by omega) (by omega)
    have h2 : (-1) * (w : Int) ≤ ((y : Int) + d) * w := Int.mul_le_mul_of_nonneg_right (by omega) (by omega)
    omega
  replace hst := Lib.hid hst
  by_cases c1 : (x : Int) + r < 0
  · have hq := hst.out _ (if_pos (.inl c1))
    replace hn := Lib.hid hn
    replace hq := Lib.hid hq
    go_enter Tryd.func100, Tryd.ntmps100
    go_wp2
    go_quiet (fail)
    go_wp2_with fail
    refine (away_any w h aL aS cL nS cS nL _).mono ?_
    rintro e w1 ⟨rfl, hb1⟩
    have hbb := (below_drewN hb0 nq).trans (hb1.mono (by simp; omega))
    clear hb1
    go_wp2
    go_ret
    exact ⟨ret_int (by rw [hq.out, hn.out]), hbb⟩
  by_cases c2 : (w : Int) ≤ (x : Int) + r
  · have hq := hst.out _ (if_pos (.inr (.inl c2)))
    replace hn := Lib.hid hn
    replace hq := Lib.hid hq
    go_enter Tryd.func100, Tryd.ntmps100
    go_wp2
    go_quiet (fail)
    go_wp2_with fail
    refine (away_any w h aL aS cL nS cS nL _).mono ?_
    rintro e w1 ⟨rfl, hb1⟩
    have hbb := (below_drewN hb0 nq).trans (hb1.mono (by simp; omega))
    clear hb1
    go_wp2
    go_ret
    exact ⟨ret_int (by rw [hq.out, hn.out]), hbb⟩
  by_cases c3 : (y : Int) + d < 0
  · have hq := hst.out _ (if_pos (.inr (.inr (.inl c3))))
    replace hn := Lib.hid hn
    replace hq := Lib.hid hq
    go_enter Tryd.func100, Tryd.ntmps100
    go_wp2
    go_quiet (fail)
    go_wp2_with fail
    refine (away_any w h aL aS cL nS cS nL _).mono ?_
    rintro e w1 ⟨rfl, hb1⟩
    have hbb := (below_drewN hb0 nq).trans (hb1.mono (by simp; omega))
    clear hb1
    go_wp2
    go_ret
    exact ⟨ret_int (by rw [hq.out, hn.out]), hbb⟩
  by_cases c4 : (h : Int) ≤ (y : Int) + d
  · have hq := hst.out _ (if_pos (.inr (.inr (.inr c4))))
    replace hn := Lib.hid hn
    replace hq := Lib.hid hq
    go_enter Tryd.func100, Tryd.ntmps100
    go_wp2
    go_quiet (fail)
    go_wp2_with fail
    refine (away_any w h aL aS cL nS cS nL _).mono ?_
    rintro e w1 ⟨rfl, hb1⟩
    have hbb := (below_drewN hb0 nq).trans (hb1.mono (by simp; omega))
    clear hb1
    go_wp2
    go_ret
    exact ⟨ret_int (by rw [hq.out, hn.out]), hbb⟩
  have hq := Lib.hid (hst.out _ (if_neg (fun hc => by omega)))
  replace hn := Lib.hid hn
  generalize hm : ((y : Int) + d) * w = m at *
  go_enter Tryd.func100, Tryd.ntmps100
  go_wp2
  go_quiet (fail)
  go_wp2
  go_ret
  exact ⟨ret_int hq.out.symm, below_drewN hb0 nq⟩

theorem stepTo_dst (w h p k : Nat) (hw : 1 ≤ w) (hh : 1 ≤ h) (hp : p < w * h) (hk : k < 5) : stepTo w h (p % w : Nat) (p / w : Nat) (rightOf k) (downOf k) = (dst w h p k : Nat) := by
  obtain ⟨e, hx⟩ := xy w p hw
  have hy := row_lt hp
  have hm : (p : Int) = ((p / w : Nat) : Int) * (w : Int) + ((p % w : Nat) : Int) := by
    have : ((p / w * w + p % w : Nat) : Int) = p := by rw [← e]
    rw [← this]; simp
  have hle : p / w = 0 ∨ w ≤ p / w * w := by
    rcases Nat.eq_zero_or_pos (p / w) with h0 | h0
    · exact .inl h0
    · exact .inr (Nat.le_mul_of_pos_left w h0)
  have d0 : dst w h p 0 = p := rfl
  have d1 : dst w h p 1 = if p / w = 0 then w * h else p - w := rfl
  have d2 : dst w h p 2 = if p % w + 1 = w then w * h else p + 1 := rfl
  have d3 : dst w h p 3 = if p / w + 1 = h then w * h else p + w := rfl
  have d4 : dst w h p 4 = if p % w = 0 then w * h else p - 1 := rfl
  generalize p % w = x at *
  generalize hyy : p / w = y at *
  have hz : ((y * w : Nat) : Int) = (y : Int) * w := by simp
  unfold stepTo
  have hk' : k = 0 ∨ k = 1 ∨ k = 2 ∨ k = 3 ∨ k = 4 := by omega
  rcases hk' with rfl | rfl | rfl | rfl | rfl
  · have r : rightOf 0 = 0 := rfl
    have d : downOf 0 = 0 := rfl
    rw [r, d, Int.add_zero, Int.add_zero, if_neg (by omega), d0]
    omega
  · have r : rightOf 1 = 0 := rfl
    have d : downOf 1 = -1 := rfl
    rw [r, d, Int.add_zero, d1, Int.add_mul]
    by_cases h0 : y = 0
    · rw [if_pos (by omega), if_pos h0]
    · rw [if_neg (by omega), if_neg h0]
      generalize y * w = z at *
      omega
  · have r : rightOf 2 = 1 := rfl
    have d : downOf 2 = 0 := rfl
    rw [r, d, Int.add_zero, d2]
    by_cases h0 : x + 1 = w
    · rw [if_pos (by omega), if_pos h0]
    · rw [if_neg (by omega), if_neg h0]
      omega
  · have r : rightOf 3 = 0 := rfl
    have d : downOf 3 = 1 := rfl
    rw [r, d, Int.add_zero, d3, Int.add_mul]
    by_cases h0 : y + 1 = h
    · rw [if_pos (by omega), if_pos h0]
    · rw [if_neg (by omega), if_neg h0]
      omega
  · have r : rightOf 4 = -1 := rfl
    have d : downOf 4 = 0 := rfl
    rw [r, d, Int.add_zero, d4]
    by_cases h0 : x = 0
    · rw [if_pos (by omega), if_pos h0]
    · rw [if_neg (by omega), if_neg h0]
      generalize y * w = z at *
      omega
theorem next_dst (w h : Nat) (aL aS : Option Addr) (cL nS cS : Nat) (nL p k : Nat) (W : World) (hw : 1 ≤ w ∧ w ≤ 6) (hh : 1 ≤ h ∧ h ≤ 6) (hn : nL = w * h) (hp : p < w * h) (hk : k < 5) :
    Calls Tryd.prog 100 #[.agg #[.int .i64 w, .int .i64 h, .slice aL nL cL, .slice aS nS cS], .int .i64 p, .agg #[.int .i64 (rightOf k), .int .i64 (downOf k)]] W
      fun e w' => e = .returned (.int .i64 (dst w h p k : Nat)) ∧ Below W.heap.size W w' := by
  rw [← stepTo_dst w h p k hw.1 hh.1 hp hk]
  exact next_any w h aL aS cL nS cS nL p _ _ W hw hh hn hp (by unfold rightOf; split <;> (try split) <;> omega) (by unfold downOf; split <;> (try split) <;> omega)
end Go.Proofs.YtnbgjgiknfcdkaaDoor
