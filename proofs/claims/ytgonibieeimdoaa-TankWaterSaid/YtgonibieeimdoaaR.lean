/-
  How much is filled in and emptied out: total and Water of the program, Sum and Water of the specification.
-/
import Derived.Test.YtgonibieeimdoaaQ
namespace Go.Proofs.Ytgonibieeimdoaa
open Go.RowKit Go.Deep M
set_option linter.unusedVariables false
set_option linter.unusedSimpArgs false

namespace M
/-- What Water answers. -/
noncomputable def watR (t l : List Int) (D : List Dd) : Int × Int × Int := if err2 t l D = 0 then (inN t l D D.length, outN t l D D.length, 0) else (0, 0, err2 t l D)
theorem sm_out (l : List Int) (k : Nat) : sm (el l) (l.length + k) = sm (el l) l.length := by
  induction k with
  | zero => rfl
  | succ k ih => rw [← Nat.add_assoc, sm_succ, ih, el_out l _ (by omega)]; omega
theorem sm_four {l : List Int} (h : l.length ≤ 4) : sm (el l) 4 = tot l := by
  have := sm_out l (4 - l.length)
  rw [show l.length + (4 - l.length) = 4 by omega] at this
  exact this
theorem el_b {t l : List Int} (ht : vT t) (h : vL t l) (i : Nat) : 0 ≤ el l i ∧ el l i ≤ 12 := by
  by_cases hi : i < t.length
  · have := h.2 i hi
    have := ht.2 i hi
    omega
  · rw [el_out l i (by rw [h.1]; omega)]; omega
theorem sm_b {l : List Int} (h : ∀ i, 0 ≤ el l i ∧ el l i ≤ 12) (k : Nat) : 0 ≤ sm (el l) k ∧ sm (el l) k ≤ 12 * k := by
  induction k with
  | zero => exact ⟨Int.le_refl _, Int.le_refl _⟩
  | succ k ih => rw [sm_succ]; have := h k; omega
theorem inN_succ (t l : List Int) (D : List Dd) (k : Nat) : inN t l D (k + 1) = inN t l D k + max (tot (afN t l D (k + 1)) - tot (afN t l D k)) 0 := rfl
theorem outN_succ (t l : List Int) (D : List Dd) (k : Nat) : outN t l D (k + 1) = outN t l D k + max (tot (afN t l D k) - tot (afN t l D (k + 1))) 0 := rfl
end M

theorem run_idx69 (w : World) (xs : Array Value) (k : Int) (v : Value) (h0 : 0 ≤ k) (h5 : k < 4) (hx : xs[k.toNat]? = some v) : (Instr.index 69 (.agg xs) (.int .i64 k)).run Try.prog w = .ok v w := by
  simp [Instr.index, asIntOf, run_underlying Try.underlying69, h0, h5, go_sem]
  rw [hx]; rfl
theorem run_idxL (l : List Int) (k : Nat) (hk : k < 4) (w : World) : (Instr.index 69 (.agg #[.int .i64 (el l 0), .int .i64 (el l 1), .int .i64 (el l 2), .int .i64 (el l 3)]) (.int .i64 (k : Nat))).run Try.prog w = .ok (.int .i64 (el l k)) w := by
  rcases (show k = 0 ∨ k = 1 ∨ k = 2 ∨ k = 3 by omega) with rfl | rfl | rfl | rfl
  all_goals exact run_idx69 w _ _ _ (by omega) (by omega) rfl

set_option maxRecDepth 100000 in
set_option maxHeartbeats 2000000 in
theorem total_any (l : List Int) (w : World) (hb : ∀ i, 0 ≤ el l i ∧ el l i ≤ 12) (h4 : l.length ≤ 4) :
    Calls Try.prog 63 #[.agg #[.int .i64 (el l 0), .int .i64 (el l 1), .int .i64 (el l 2), .int .i64 (el l 3)]] w fun e w' => e = .returned (.int .i64 (tot l)) ∧ Below w.heap.size w w' := by
  have hb0 := Lib.hid (ba1 w (.cells #[.int .i64 (el l 0), .int .i64 (el l 1), .int .i64 (el l 2), .int .i64 (el l 3)] 69))
  have hs := Lib.hid (sm_b hb)
  have hf := Lib.hid (sm_four h4)
  have hx := Lib.hid (run_idxL l)
  have hsc := Lib.hid (sm_succ (el l))
  have hz := Lib.hid (show sm (el l) 0 = 0 from rfl)
  replace hb := Lib.hid hb
  go_enter Try.func63, Try.ntmps63
  go_wp2
  go_loopw [3, 7] (fun s i X => ∃ k : Nat, k ≤ 4 ∧ i = .int .i64 (k : Nat) ∧ s = .int .i64 (sm (el l) k) ∧ Below w.heap.size w X) (fun _ i _ => 4 - (intOf i).toNat)
  case atStart => exact ⟨0, by omega, rfl, by rw [hz.out], hb0.out⟩
  case round =>
    obtain ⟨k, hk, rfl, rfl, hX⟩ := hrel
    by_cases hlt : k < 4
    · have hi := hx.out k hlt
      have s1 := hs.out k
      have s2 := hb.out k
      have s3 := hsc.out k
      generalize sm (el l) k = s at *
      generalize el l k = x at *
      have s9 : 0 ≤ s ∧ s ≤ 100 := by omega
      clear s1
      replace hX := Lib.hid hX
      replace s3 := Lib.hid s3
      go_wp2
      go_roundw
      case rel => exact ⟨k + 1, by omega, by go_num, by rw [s3.out], hX.out⟩
      case measure => simp [intOf]; omega
    · have hk' : k = 4 := by omega
      subst hk'
      rw [hf.out]
      replace hX := Lib.hid hX
      go_wp2
      go_ret
      exact ⟨rfl, hX.out⟩

set_option maxRecDepth 100000 in
set_option maxHeartbeats 2000000 in
theorem Sum_ref (B : Nat) (A : Option Addr) (c : Nat) (l : List Int) (w : World) (h : Row w B A l) (hb : ∀ i, 0 ≤ el l i ∧ el l i ≤ 12) (h4 : l.length ≤ 4) :
    Calls Try.prog 51 #[.slice A l.length c] w fun e w' => e = .returned (.int .i64 (tot l)) ∧ w = w' := by
  have hs := Lib.hid (sm_b hb)
  have hsc := Lib.hid (sm_succ (el l))
  have hz := Lib.hid (show sm (el l) 0 = 0 from rfl)
  have htt := Lib.hid (show tot l = sm (el l) l.length from rfl)
  obtain ⟨T, hT⟩ : ∃ T, T = tot l := ⟨_, rfl⟩
  rw [← hT]
  replace hT := Lib.hid hT
  obtain ⟨n, hn⟩ : ∃ n, n = l.length := ⟨_, rfl⟩
  rw [← hn] at h4 ⊢
  replace hn := Lib.hid hn
  replace hb := Lib.hid hb
  go_enter Try.func51, Try.ntmps51
  go_wp2
  go_loop [3, 4] (fun s i => ∃ k : Nat, k ≤ n ∧ i = .int .i64 (k : Nat) ∧ s = .int .i64 (sm (el l) k)) (fun _ i => n - (intOf i).toNat)
  case atStart => exact ⟨0, by omega, rfl, by rw [hz.out]⟩
  case round =>
    obtain ⟨k, hk, rfl, rfl⟩ := hrel
    by_cases hlt : k < n
    · obtain ⟨b, o, rfl, hbB, e0⟩ := h.at_ k (hn.out ▸ hlt)
      have s1 := hs.out k
      have s2 := hb.out k
      have s3 := hsc.out k
      generalize sm (el l) k = s at *
      generalize el l k = x at *
      have s9 : 0 ≤ s ∧ s ≤ 100 := by omega
      clear s1
      replace s3 := Lib.hid s3
      go_wp2
      go_round
      case rel => exact ⟨k + 1, by omega, by go_num, by rw [s3.out]⟩
      case measure => simp [intOf]; omega
    · have hk' : k = n := by omega
      subst hk'
      rw [show sm (el l) k = T by rw [hT.out, htt.out, hn.out]]
      go_wp2
      go_ret
      exact ⟨rfl, rfl⟩

/-- Two states in boxes. -/
structure WtW (w : World) (b1 b2 : Nat) (l1 l2 : List Int) (X : World) : Prop where
  below : Below w.heap.size w X
  x1 : Bx4 X b1 l1
  x2 : Bx4 X b2 l2
theorem WtW.up {w X Y : World} {b1 b2 : Nat} {l1 l2 : List Int} (h : WtW w b1 b2 l1 l2 X) (hb : Below X.heap.size X Y) : WtW w b1 b2 l1 l2 Y := ⟨bel_trans h.below hb, h.x1.up hb, h.x2.up hb⟩
theorem WtW.cells {w X : World} {b1 b2 : Nat} {l1 l2 : List Int} (h : WtW w b1 b2 l1 l2 X) :
    (X.cell? ⟨b1, 0, none⟩ = some (.int .i64 (el l1 0)) ∧ X.cell? ⟨b1, 1, none⟩ = some (.int .i64 (el l1 1)) ∧ X.cell? ⟨b1, 2, none⟩ = some (.int .i64 (el l1 2)) ∧ X.cell? ⟨b1, 3, none⟩ = some (.int .i64 (el l1 3))) ∧
    X.cell? ⟨b2, 0, none⟩ = some (.int .i64 (el l2 0)) ∧ X.cell? ⟨b2, 1, none⟩ = some (.int .i64 (el l2 1)) ∧ X.cell? ⟨b2, 2, none⟩ = some (.int .i64 (el l2 2)) ∧ X.cell? ⟨b2, 3, none⟩ = some (.int .i64 (el l2 3)) :=
  ⟨⟨h.x1.c0, h.x1.c1, h.x1.c2, h.x1.c3⟩, h.x2.c0, h.x2.c1, h.x2.c2, h.x2.c3⟩

set_option maxRecDepth 100000 in
set_option maxHeartbeats 4000000 in
theorem Water_any (B : Nat) (A A' A'' : Option Addr) (c c' c'' : Nat) (t l : List Int) (D : List Dd) (w : World) (h : Row w B A t) (h' : Row w B A' l) (h'' : Dls w B A'' D) (hB : B ≤ w.heap.size) :
    Calls Try.prog 26 #[.slice A t.length c, .slice A' l.length c', .slice A'' D.length c''] w fun e w' => e = .returned (.tuple #[.int .i64 (watR t l D).1, .int .i64 (watR t l D).2.1, .int .i64 (watR t l D).2.2]) ∧ Below w.heap.size w w' := by
  have h63 := h.1
  have h63' := h'.1
  have h63'' := h''.1
  have c56 := checkedDeeds_any B A A' A'' c c' c'' t l D w h h' h'' hB
  have hcs := err2_cases t l D
  have hz := @err2_zero t l D
  have hbad : ¬ err2 t l D = 0 → watR t l D = (0, 0, err2 t l D) := fun h => by unfold watR; rw [if_neg h]
  have hgood : err2 t l D = 0 → watR t l D = (inN t l D D.length, outN t l D D.length, 0) := fun h => by unfold watR; rw [if_pos h]
  obtain ⟨er, her⟩ : ∃ er, er = err2 t l D := ⟨_, rfl⟩
  rw [← her] at c56 hcs hz hbad hgood
  replace her := Lib.hid her
  replace c56 := Lib.hid c56
  by_cases h0 : er = 0
  · obtain ⟨hv, hl, hD⟩ := hz h0
    have hR := hgood h0
    rw [hR]
    clear hz hbad hgood hcs
    subst h0
    simp only []
    have hlt := hl.1
    have h2 := hv.1.1
    have h4 := hv.1.2
    have hok := Lib.hid (fun k (hk : k ≤ D.length) => afN_ok hl hD k hk)
    have hln := Lib.hid (fun k => afN_len t l D k)
    have hds := Lib.hid (fun i (hi : i < D.length) => hD.2 i hi)
    have hsc := Lib.hid (fun k => show doL t (afN t l D k) (dd D k) = afN t l D (k + 1) from rfl)
    have hz0 := Lib.hid (show afN t l D 0 = l from rfl)
    have hi0 := Lib.hid (show inN t l D 0 = 0 from rfl)
    have ho0 := Lib.hid (show outN t l D 0 = 0 from rfl)
    have his := Lib.hid (inN_succ t l D)
    have hos := Lib.hid (outN_succ t l D)
    have hio := Lib.hid (fun k (hk : k ≤ D.length) => io_b hv hl hD k hk)
    have hm200 := hD.1
    have htb := Lib.hid (fun k (hk : k ≤ D.length) => tot_b hv (hok.out k hk))
    have c57 := fun X (hX : Below w.heap.size w X) => stateOf_any B A' c' l X (h'.below (hX.mono hB)) (Nat.le_trans hB hX.size) (by omega) (by omega)
    have c58 := fun k (hk : k < D.length) X (hX : Below w.heap.size w X) => does_any B A c t (afN t l D k) (dd D k) X (h.below (hX.mono hB)) (Nat.le_trans hB hX.size) hv (hok.out k (by omega)) (hds.out k hk)
    have c63 := fun k (hk : k ≤ D.length) X => total_any (afN t l D k) X (fun i => el_b hv (hok.out k hk) i) (by rw [hln.out]; omega)
    obtain ⟨n, hn⟩ : ∃ n, n = t.length := ⟨_, rfl⟩
    obtain ⟨m, hm⟩ : ∃ m, m = D.length := ⟨_, rfl⟩
    unfold stL stV at c57 c58
    unfold ddV at c58
    rw [← hn] at h63 h2 h4 c56 c58 ⊢
    rw [hlt, ← hn] at h63' c56 c57 ⊢
    rw [← hm] at h63'' c56 c58 c63 hm200 ⊢
    obtain ⟨I9, hI9⟩ : ∃ I9, I9 = inN t l D m := ⟨_, rfl⟩
    obtain ⟨O9, hO9⟩ : ∃ O9, O9 = outN t l D m := ⟨_, rfl⟩
    rw [← hI9, ← hO9]
    replace hI9 := Lib.hid hI9
    replace hO9 := Lib.hid hO9
    replace hn := Lib.hid hn
    replace hm := Lib.hid hm
    replace hv := Lib.hid hv
    replace hl := Lib.hid hl
    replace hD := Lib.hid hD
    replace hlt := Lib.hid hlt
    replace hR := Lib.hid hR
    replace c57 := Lib.hid c57
    replace c58 := Lib.hid c58
    replace c63 := Lib.hid c63
    replace c56 := Lib.hid c56.out
    replace h := Lib.hid h
    replace h' := Lib.hid h'
    replace h'' := Lib.hid h''
    go_enter Try.func26, Try.ntmps26
    go_wp2_with fail
    refine c56.out.mono ?_
    rintro e X1 ⟨rfl, hb1⟩
    have k57 := Lib.hid (c57.out X1 hb1)
    go_wp2_with fail
    refine k57.out.mono ?_
    rintro e X2 ⟨rfl, hb2⟩
    have hbx := Bx4.new X2 l
    have hb3 := ba1 X2 (.cells #[.int .i64 (el l 0), .int .i64 (el l 1), .int .i64 (el l 2), .int .i64 (el l 3)] 69)
    have hbl := bel_trans (bel_trans hb1 hb2) hb3
    have hwb : w.heap.size ≤ X2.heap.size := (bel_trans hb1 hb2).size
    obtain ⟨b9, hb9⟩ : ∃ b, b = X2.heap.size := ⟨_, rfl⟩
    rw [← hb9] at hbx hwb
    replace hbx := Lib.hid hbx
    replace hbl := Lib.hid hbl
    have hb9' := Lib.hid hb9
    clear hb1 hb2 hb3 k57 hb9
    go_wp2
    rw [← hb9'.out]
    go_loopw [6, 7, 26] (fun a q i X => ∃ k : Nat, k ≤ m ∧ i = .int .i64 (k : Nat) ∧ a = .int .i64 (inN t l D k) ∧ q = .int .i64 (outN t l D k) ∧ Below w.heap.size w X ∧ Bx4 X b9 (afN t l D k)) (fun _ _ i _ => m - (intOf i).toNat)
    case atStart => exact ⟨0, by omega, rfl, by rw [hi0.out], by rw [ho0.out], hbl.out, by rw [hz0.out]; exact hbx.out⟩
    case round =>
      clear hbx hbl
      obtain ⟨k, hk, rfl, rfl, rfl, hX, hbx⟩ := hrel
      by_cases hlk : k < m
      · obtain ⟨b, o, rfl, hb, d0, d1, d2⟩ := (h''.out.below (hX.mono hB)).at_ k (hm.out ▸ hlk)
        have hY1 := ba1 wr (.cells #[.int .i64 (dd D k).d, .int .i64 (dd D k).f, .int .i64 (dd D k).t] 24)
        have hXY := bel_trans hX hY1
        have hbY := hbx.up hY1
        have k58 := c58.out k hlk _ hXY
        rw [hsc.out] at k58
        have t1 := htb.out k (hm.out ▸ (by omega))
        have t2 := htb.out (k + 1) (hm.out ▸ (by omega))
        have ka := c63.out (k + 1) (by omega)
        have kb := c63.out k (by omega)
        have io := hio.out k (hm.out ▸ (by omega))
        have is1 := his.out k
        have os1 := hos.out k
        obtain ⟨l1, hl1⟩ : ∃ l1, l1 = afN t l D k := ⟨_, rfl⟩
        obtain ⟨l2, hl2⟩ : ∃ l2, l2 = afN t l D (k + 1) := ⟨_, rfl⟩
        rw [← hl1] at k58 hbx hbY t1 kb is1 os1
        rw [← hl2] at k58 t2 ka is1 os1
        generalize dd D k = x at *
        generalize tot l1 = T1 at *
        generalize tot l2 = T2 at *
        obtain ⟨I2, hI2⟩ : ∃ I, I = inN t l D (k + 1) := ⟨_, rfl⟩
        obtain ⟨O2, hO2⟩ : ∃ O, O = outN t l D (k + 1) := ⟨_, rfl⟩
        rw [← hI2] at is1
        rw [← hO2] at os1
        generalize inN t l D k = I1 at *
        generalize outN t l D k = O1 at *
        obtain ⟨⟨i1, i2⟩, o1, o2⟩ := io
        have i9 : I1 ≤ 10000 := by omega
        have o9 : O1 ≤ 10000 := by omega
        clear i2 o2
        have s0 := hbY.c0
        have s1 := hbY.c1
        have s2 := hbY.c2
        have s3 := hbY.c3
        obtain ⟨Y, hY⟩ : ∃ Y, Y = wr.alloc (.cells #[.int .i64 x.d, .int .i64 x.f, .int .i64 x.t] 24) := ⟨_, rfl⟩
        rw [← hY] at k58 hXY hbY
        replace hl1 := Lib.hid hl1
        replace hl2 := Lib.hid hl2
        replace hI2 := Lib.hid hI2
        replace hO2 := Lib.hid hO2
        replace is1 := Lib.hid is1
        replace os1 := Lib.hid os1
        replace hY := Lib.hid hY
        replace k58 := Lib.hid k58
        replace ka := Lib.hid ka
        replace kb := Lib.hid kb
        replace hX := Lib.hid hX
        replace hbx := Lib.hid hbx
        replace hXY := Lib.hid hXY
        replace hbY := Lib.hid hbY
        replace hY1 := Lib.hid hY1
        go_wp2_with fail
        rw [← hY.out]
        refine k58.out.mono ?_
        rintro e X3 ⟨rfl, hb4⟩
        have hX3 := bel_trans hXY.out hb4
        have hq := hbY.out.up hb4
        have hb5 := ba1 X3 (.cells #[.int .i64 (el l2 0), .int .i64 (el l2 1), .int .i64 (el l2 2), .int .i64 (el l2 3)] 69)
        have hn2 := Bx4.new X3 l2
        have hW : WtW w b9 X3.heap.size l1 l2 (X3.alloc (.cells #[.int .i64 (el l2 0), .int .i64 (el l2 1), .int .i64 (el l2 2), .int .i64 (el l2 3)] 69)) := ⟨bel_trans hX3 hb5, hq.up hb5, hn2⟩
        obtain ⟨b13, hb13⟩ : ∃ b, b = X3.heap.size := ⟨_, rfl⟩
        obtain ⟨Z, hZ⟩ : ∃ Z, Z = X3.alloc (.cells #[.int .i64 (el l2 0), .int .i64 (el l2 1), .int .i64 (el l2 2), .int .i64 (el l2 3)] 69) := ⟨_, rfl⟩
        rw [← hb13, ← hZ] at hW
        have hWd : WtW w b9 b13 l1 l2 Z.drew := ⟨below_drewN hW.below 1, hW.x1.to rfl, hW.x2.to rfl⟩
        have kA := Lib.hid (fun X (hX : WtW w b9 b13 l1 l2 X) => (ka.out X).mono fun e w' (hh : e = .returned (.int .i64 T2) ∧ Below X.heap.size X w') => show e = .returned (.int .i64 T2) ∧ WtW w b9 b13 l1 l2 w' from ⟨hh.1, hX.up hh.2⟩)
        have kB := Lib.hid (fun X (hX : WtW w b9 b13 l1 l2 X) => (kb.out X).mono fun e w' (hh : e = .returned (.int .i64 T1) ∧ Below X.heap.size X w') => show e = .returned (.int .i64 T1) ∧ WtW w b9 b13 l1 l2 w' from ⟨hh.1, hX.up hh.2⟩)
        clear s0 s1 s2 s3
        replace hb13 := Lib.hid hb13
        replace hZ := Lib.hid hZ
        replace hb4 := Lib.hid hb4
        replace hb5 := Lib.hid hb5
        replace hX3 := Lib.hid hX3
        replace hq := Lib.hid hq
        replace hn2 := Lib.hid hn2
        replace hW := Lib.hid hW
        go_wp2_with fail
        rw [← hZ.out, ← hb13.out]
        go_region_held3 (fun X => (X.cell? ⟨b9, 0, none⟩ = some (.int .i64 (el l1 0)) ∧ X.cell? ⟨b9, 1, none⟩ = some (.int .i64 (el l1 1)) ∧ X.cell? ⟨b9, 2, none⟩ = some (.int .i64 (el l1 2)) ∧ X.cell? ⟨b9, 3, none⟩ = some (.int .i64 (el l1 3))) ∧
            X.cell? ⟨b13, 0, none⟩ = some (.int .i64 (el l2 0)) ∧ X.cell? ⟨b13, 1, none⟩ = some (.int .i64 (el l2 1)) ∧ X.cell? ⟨b13, 2, none⟩ = some (.int .i64 (el l2 2)) ∧ X.cell? ⟨b13, 3, none⟩ = some (.int .i64 (el l2 3)))
          (first | with_reducible exact WtW.cells (by assumption))
          (first | (go_at_call 63; first
            | (with_reducible refine (kA.out _ (by assumption)).mono ?_; rintro e X4 ⟨rfl, hX4⟩)
            | (with_reducible refine (kB.out _ (by assumption)).mono ?_; rintro e X5 ⟨rfl, hX5⟩)))
        all_goals
          obtain ⟨mo, hmo⟩ : ∃ mo, mo = T2 - T1 := ⟨_, rfl⟩
          have hwr : IntKind.i64.wrap (T2 - T1) = mo := by rw [hmo]; exact IntWalk.i64_in _ (by omega)
          rw [hwr]
          have hmb : -48 ≤ mo ∧ mo ≤ 48 := by omega
          have hq0 := hX5.x2
          have q0 := hq0.c0
          have q1 := hq0.c1
          have q2 := hq0.c2
          have q3 := hq0.c3
          have hp0 := hX5.x1
          have p0 := hp0.c0
          have p1 := hp0.c1
          have p2 := hp0.c2
          have p3 := hp0.c3
          have f0 := hp0.fz 0
          have f1 := hp0.fz 1
          have f2 := hp0.fz 2
          have f3 := hp0.fz 3
          have hql := hp0.lt
          have hend := Lib.hid (setCell4_below hX5.below hwb (.int .i64 (el l2 0)) (.int .i64 (el l2 1)) (.int .i64 (el l2 2)) (.int .i64 (el l2 3)))
          have hset := Lib.hid (hp0.set l2)
          have hI3 := Lib.hid (show I2 = I1 + max mo 0 by rw [is1.out, hmo])
          have hO3 := Lib.hid (show O2 = O1 + max (-mo) 0 by rw [os1.out, hmo]; congr 1; congr 1; omega)
          clear t1 t2
          replace hX4 := Lib.hid hX4
          replace hX5 := Lib.hid hX5
          replace hq0 := Lib.hid hq0
          replace hp0 := Lib.hid hp0
          replace hmo := Lib.hid hmo
          replace hwr := Lib.hid hwr
          replace hWd := Lib.hid hWd
          rcases Int.lt_trichotomy mo 0 with hc | hc | hc
          · have g1 : I2 = I1 := by rw [hI3.out]; omega
            have g2 : O2 = O1 + -mo := by rw [hO3.out]; omega
            replace g1 := Lib.hid g1
            replace g2 := Lib.hid g2
            have g3 : 0 < -mo := by omega
            go_wp2
            go_roundw
            case rel => exact ⟨k + 1, by omega, by go_num, by first | (rw [← hI2.out, g1.out]; done) | (rw [← hI2.out, g1.out]; go_num), by first | (rw [← hO2.out, g2.out]; done) | (rw [← hO2.out, g2.out]; go_num), hend.out, by rw [← hl2.out]; exact hset.out⟩
            case measure => simp [intOf]; omega
          · subst hc
            have g1 : I2 = I1 := by rw [hI3.out]; omega
            have g2 : O2 = O1 := by rw [hO3.out]; omega
            replace g1 := Lib.hid g1
            replace g2 := Lib.hid g2
            go_wp2
            go_roundw
            case rel => exact ⟨k + 1, by omega, by go_num, by first | (rw [← hI2.out, g1.out]; done) | (rw [← hI2.out, g1.out]; go_num), by first | (rw [← hO2.out, g2.out]; done) | (rw [← hO2.out, g2.out]; go_num), hend.out, by rw [← hl2.out]; exact hset.out⟩
            case measure => simp [intOf]; omega
          · have g1 : I2 = I1 + mo := by rw [hI3.out]; omega
            have g2 : O2 = O1 := by rw [hO3.out]; omega
            replace g1 := Lib.hid g1
            replace g2 := Lib.hid g2
            have g3 : -mo < 0 := by omega
            go_wp2
            go_roundw
            case rel => exact ⟨k + 1, by omega, by go_num, by first | (rw [← hI2.out, g1.out]; done) | (rw [← hI2.out, g1.out]; go_num), by first | (rw [← hO2.out, g2.out]; done) | (rw [← hO2.out, g2.out]; go_num), hend.out, by rw [← hl2.out]; exact hset.out⟩
            case measure => simp [intOf]; omega
      · have hk' : k = m := by omega
        subst hk'
        rw [← hI9.out, ← hO9.out]
        replace hX := Lib.hid hX
        replace hbx := Lib.hid hbx
        go_wp2
        exact bodyPost_ret (v := .tuple #[.int .i64 I9, .int .i64 O9, .int .i64 0]) (by simp [results, Try.results26, go_sem]) rfl ⟨rfl, hX.out⟩
  · have hR := hbad h0
    rw [hR]
    clear hz hbad hgood
    replace hR := Lib.hid hR
    replace hcs := Lib.hid hcs
    simp only []
    go_enter Try.func26, Try.ntmps26
    go_wp2_with fail
    refine c56.out.mono ?_
    rintro e X1 ⟨rfl, hb1⟩
    replace hb1 := Lib.hid hb1
    go_wp2
    exact bodyPost_ret (v := .tuple #[.int .i64 0, .int .i64 0, .int .i64 er]) (by simp [results, Try.results26, go_sem]) rfl ⟨rfl, hb1.out⟩
set_option maxRecDepth 100000 in
set_option maxHeartbeats 4000000 in
theorem Water_ref (B : Nat) (A A' A'' : Option Addr) (c c' c'' : Nat) (t l : List Int) (D : List Dd) (w : World) (h : Row w B A t) (h' : Row w B A' l) (h'' : Dls w B A'' D) (hB : B ≤ w.heap.size) :
    Calls Try.prog 27 #[.slice A t.length c, .slice A' l.length c', .slice A'' D.length c''] w fun e w' => e = .returned (.tuple #[.int .i64 (watR t l D).1, .int .i64 (watR t l D).2.1, .int .i64 (watR t l D).2.2]) ∧ Below w.heap.size w w' := by
  have h63 := h.1
  have h63' := h'.1
  have h63'' := h''.1
  have c25 := After_ref B A A' A'' c c' c'' t l D w h h' h'' hB
  unfold AftP at c25
  have hcs := err2_cases t l D
  have hz := @err2_zero t l D
  have har : (aftR t l D).2 = err2 t l D := by unfold aftR; split <;> simp_all
  have hbad : ¬ err2 t l D = 0 → watR t l D = (0, 0, err2 t l D) := fun h => by unfold watR; rw [if_neg h]
  have hgood : err2 t l D = 0 → watR t l D = (inN t l D D.length, outN t l D D.length, 0) := fun h => by unfold watR; rw [if_pos h]
  obtain ⟨er, her⟩ : ∃ er, er = err2 t l D := ⟨_, rfl⟩
  rw [← her] at hcs hz hbad hgood har
  rw [har] at c25
  generalize (aftR t l D).1 = r1 at *
  replace har := Lib.hid har
  replace her := Lib.hid her
  replace c25 := Lib.hid c25
  by_cases h0 : er = 0
  · obtain ⟨hv, hl, hD⟩ := hz h0
    have hR := hgood h0
    rw [hR]
    clear hz hbad hgood hcs
    subst h0
    simp only []
    have hlt := hl.1
    have h2 := hv.1.1
    have h4 := hv.1.2
    have hok := Lib.hid (fun k (hk : k ≤ D.length) => afN_ok hl hD k hk)
    have hln := Lib.hid (fun k => afN_len t l D k)
    have hds := Lib.hid (fun i (hi : i < D.length) => hD.2 i hi)
    have hsc := Lib.hid (fun k => show doL t (afN t l D k) (dd D k) = afN t l D (k + 1) from rfl)
    have hz0 := Lib.hid (show afN t l D 0 = l from rfl)
    have hi0 := Lib.hid (show inN t l D 0 = 0 from rfl)
    have ho0 := Lib.hid (show outN t l D 0 = 0 from rfl)
    have his := Lib.hid (inN_succ t l D)
    have hos := Lib.hid (outN_succ t l D)
    have hio := Lib.hid (fun k (hk : k ≤ D.length) => io_b hv hl hD k hk)
    have hm200 := hD.1
    have htb := Lib.hid (fun k (hk : k ≤ D.length) => tot_b hv (hok.out k hk))
    obtain ⟨n, hn⟩ : ∃ n, n = t.length := ⟨_, rfl⟩
    have hll := Lib.hid (fun k => (hln.out k).trans (hlt.trans hn.symm))
    have c62 := fun k (hk : k < D.length) X (hX : Below w.heap.size w X) A1 c1 (h1 : Row X X.heap.size A1 (afN t l D k)) => done_ref X.heap.size A A1 c c1 t (afN t l D k) (dd D k) X ((h.below (hX.mono hB)).more (Nat.le_trans hB hX.size)) h1 (Nat.le_refl _) hv (hok.out k (by omega)) (hds.out k hk)
    have c62' := Lib.hid (fun k (hk : k < D.length) X (hX : Below w.heap.size w X) A1 c1 (h1 : Row X X.heap.size A1 (afN t l D k)) => show Calls Try.prog 62 #[.slice A n c, .slice A1 n c1, .agg #[.int .i64 (dd D k).d, .int .i64 (dd D k).f, .int .i64 (dd D k).t]] X fun e w' => ∃ A2 c2, e = .returned (.slice A2 n c2) ∧ Below X.heap.size X w' ∧ Row w' w'.heap.size A2 (afN t l D (k + 1)) from by
      have := c62 k hk X hX A1 c1 h1
      unfold NewRow ddV at this
      rw [hll.out, hsc.out, hll.out, ← hn] at this
      exact this)
    clear c62
    have c51 := Lib.hid (fun k (hk : k ≤ D.length) X A1 c1 (h1 : Row X X.heap.size A1 (afN t l D k)) => show Calls Try.prog 51 #[.slice A1 n c1] X fun e w' => e = .returned (.int .i64 (tot (afN t l D k))) ∧ X = w' from by
      have := Sum_ref X.heap.size A1 c1 (afN t l D k) X h1 (fun i => el_b hv (hok.out k hk) i) (by rw [hln.out]; omega)
      rw [hll.out] at this
      exact this)
    obtain ⟨m, hm⟩ : ∃ m, m = D.length := ⟨_, rfl⟩
    have hrow0 := Lib.hid (fun X (hX : Below w.heap.size w X) => show Row X X.heap.size A' l from (h'.below (hX.mono hB)).more (Nat.le_trans hB hX.size))
    rw [← hn] at h63 h2 h4 c25 ⊢
    rw [hlt, ← hn] at h63' c25 ⊢
    rw [← hm] at h63'' c25 hm200 ⊢
    obtain ⟨I9, hI9⟩ : ∃ I9, I9 = inN t l D m := ⟨_, rfl⟩
    obtain ⟨O9, hO9⟩ : ∃ O9, O9 = outN t l D m := ⟨_, rfl⟩
    rw [← hI9, ← hO9]
    replace hI9 := Lib.hid hI9
    replace hO9 := Lib.hid hO9
    replace hn := Lib.hid hn
    replace hm := Lib.hid hm
    replace hv := Lib.hid hv
    replace hl := Lib.hid hl
    replace hD := Lib.hid hD
    replace hlt := Lib.hid hlt
    replace hR := Lib.hid hR
    replace c25 := Lib.hid c25.out
    replace h := Lib.hid h
    replace h' := Lib.hid h'
    replace h'' := Lib.hid h''
    go_enter Try.func27, Try.ntmps27
    go_wp2_with fail
    refine c25.out.mono ?_
    rintro e X1 ⟨Az, cz, rfl, hb1, hrz⟩
    have hr0 := Lib.hid (hrow0.out X1 hb1)
    replace hb1 := Lib.hid hb1
    replace hrz := Lib.hid hrz
    go_wp2
    go_loopw [6, 7, 11, 12] (fun a q v i X => ∃ k : Nat, k ≤ m ∧ i = .int .i64 (k : Nat) ∧ a = .int .i64 (inN t l D k) ∧ q = .int .i64 (outN t l D k) ∧ Below w.heap.size w X ∧ ∃ A1 c1, v = .slice A1 n c1 ∧ Row X X.heap.size A1 (afN t l D k)) (fun _ _ _ i _ => m - (intOf i).toNat)
    case atStart => exact ⟨0, by omega, rfl, by rw [hi0.out], by rw [ho0.out], hb1.out, _, _, rfl, by rw [hz0.out]; exact hr0.out⟩
    case round =>
      clear hr0 hb1 hrz
      obtain ⟨k, hk, rfl, rfl, rfl, hX, A1, c1, rfl, hr1⟩ := hrel
      by_cases hlk : k < m
      · obtain ⟨b, o, rfl, hb, d0, d1, d2⟩ := (h''.out.below (hX.mono hB)).at_ k (hm.out ▸ hlk)
        have k62 := c62'.out k (hm.out ▸ hlk) wr hX A1 c1 hr1
        have t1 := htb.out k (hm.out ▸ (by omega))
        have t2 := htb.out (k + 1) (hm.out ▸ (by omega))
        have ka := c51.out (k + 1) (hm.out ▸ (by omega))
        have kb := c51.out k (hm.out ▸ (by omega))
        have io := hio.out k (hm.out ▸ (by omega))
        have is1 := his.out k
        have os1 := hos.out k
        generalize dd D k = x at *
        obtain ⟨l1, hl1⟩ : ∃ l1, l1 = afN t l D k := ⟨_, rfl⟩
        obtain ⟨l2, hl2⟩ : ∃ l2, l2 = afN t l D (k + 1) := ⟨_, rfl⟩
        rw [← hl1] at hr1 kb t1 is1 os1
        rw [← hl2] at k62 t2 ka is1 os1
        generalize tot l1 = T1 at *
        generalize tot l2 = T2 at *
        obtain ⟨I2, hI2⟩ : ∃ I, I = inN t l D (k + 1) := ⟨_, rfl⟩
        obtain ⟨O2, hO2⟩ : ∃ O, O = outN t l D (k + 1) := ⟨_, rfl⟩
        rw [← hI2] at is1
        rw [← hO2] at os1
        generalize inN t l D k = I1 at *
        generalize outN t l D k = O1 at *
        obtain ⟨⟨i1, i2⟩, o1, o2⟩ := io
        have i9 : I1 ≤ 10000 := by omega
        have o9 : O1 ≤ 10000 := by omega
        clear i2 o2
        obtain ⟨mo, hmo⟩ : ∃ mo, mo = T2 - T1 := ⟨_, rfl⟩
        obtain ⟨om, hom⟩ : ∃ om, om = T1 - T2 := ⟨_, rfl⟩
        have hmb : -48 ≤ mo ∧ mo ≤ 48 := by omega
        have hob : om = -mo := by omega
        have hw1 : IntKind.i64.wrap (T2 - T1) = mo := by rw [hmo]; exact IntWalk.i64_in _ (by omega)
        have hw2 : IntKind.i64.wrap (T1 - T2) = om := by rw [hom]; exact IntWalk.i64_in _ (by omega)
        have hv1 : T2 - T1 = mo := hmo.symm
        have hv2 : T1 - T2 = om := hom.symm
        have hI3 := Lib.hid (show I2 = I1 + max mo 0 by rw [is1, hmo])
        have hO3 := Lib.hid (show O2 = O1 + max om 0 by rw [os1, hom])
        have hob1 : -48 ≤ om ∧ om ≤ 48 := by omega
        clear t1 t2 is1 os1
        replace hl1 := Lib.hid hl1
        replace hl2 := Lib.hid hl2
        replace hI2 := Lib.hid hI2
        replace hO2 := Lib.hid hO2
        replace hmo := Lib.hid hmo
        replace hom := Lib.hid hom
        replace hob := Lib.hid hob
        replace hX := Lib.hid hX
        have hr1' := Lib.hid hr1
        clear hr1
        replace k62 := Lib.hid k62
        replace ka := Lib.hid ka
        replace kb := Lib.hid kb
        have cases3 : (mo < 0 ∧ 0 < om) ∨ (mo = 0 ∧ om = 0) ∨ (0 < mo ∧ om < 0) := by have := hob.out; omega
        go_wp2_with fail
        refine k62.out.mono ?_
        rintro e X3 ⟨A2, c2, rfl, hb4, hr2⟩
        have hX3 := Lib.hid (bel_trans hX.out hb4)
        have hr13 := hr1'.out.up hb4
        have kA := Lib.hid (ka.out X3 A2 c2 hr2)
        have kB := Lib.hid (kb.out X3 A1 c1 hr13)
        replace hr2 := Lib.hid hr2
        replace hr13 := Lib.hid hr13
        clear hb4
        rcases cases3 with ⟨ca, cb⟩ | ⟨rfl, rfl⟩ | ⟨ca, cb⟩
        · have g1 := Lib.hid (show I2 = I1 by rw [hI3.out]; omega)
          have g2 := Lib.hid (show O2 = O1 + om by rw [hO3.out]; omega)
          go_wp2_with fail
          refine kA.out.mono ?_
          rintro e Xa ⟨rfl, rfl⟩
          go_wp2_with fail
          refine kB.out.mono ?_
          rintro e Xb ⟨rfl, rfl⟩
          go_wp2_with fail
          refine kB.out.mono ?_
          rintro e Xc ⟨rfl, rfl⟩
          go_wp2_with fail
          refine kA.out.mono ?_
          rintro e Xd ⟨rfl, rfl⟩
          go_wp2
          go_roundw
          case rel => exact ⟨k + 1, by omega, by go_num, by first | (rw [← hI2.out, g1.out]; done) | (rw [← hI2.out, g1.out]; go_num), by first | (rw [← hO2.out, g2.out]; done) | (rw [← hO2.out, g2.out]; go_num), hX3.out, A2, c2, rfl, by rw [← hl2.out]; exact hr2.out⟩
          case measure => simp [intOf]; omega
        · have g1 := Lib.hid (show I2 = I1 by rw [hI3.out]; omega)
          have g2 := Lib.hid (show O2 = O1 by rw [hO3.out]; omega)
          go_wp2_with fail
          refine kA.out.mono ?_
          rintro e Xa ⟨rfl, rfl⟩
          go_wp2_with fail
          refine kB.out.mono ?_
          rintro e Xb ⟨rfl, rfl⟩
          go_wp2_with fail
          refine kB.out.mono ?_
          rintro e Xc ⟨rfl, rfl⟩
          go_wp2_with fail
          refine kA.out.mono ?_
          rintro e Xd ⟨rfl, rfl⟩
          go_wp2
          go_roundw
          case rel => exact ⟨k + 1, by omega, by go_num, by first | (rw [← hI2.out, g1.out]; done) | (rw [← hI2.out, g1.out]; go_num), by first | (rw [← hO2.out, g2.out]; done) | (rw [← hO2.out, g2.out]; go_num), hX3.out, A2, c2, rfl, by rw [← hl2.out]; exact hr2.out⟩
          case measure => simp [intOf]; omega
        · have g1 := Lib.hid (show I2 = I1 + mo by rw [hI3.out]; omega)
          have g2 := Lib.hid (show O2 = O1 by rw [hO3.out]; omega)
          go_wp2_with fail
          refine kA.out.mono ?_
          rintro e Xa ⟨rfl, rfl⟩
          go_wp2_with fail
          refine kB.out.mono ?_
          rintro e Xb ⟨rfl, rfl⟩
          go_wp2_with fail
          refine kB.out.mono ?_
          rintro e Xc ⟨rfl, rfl⟩
          go_wp2_with fail
          refine kA.out.mono ?_
          rintro e Xd ⟨rfl, rfl⟩
          go_wp2
          go_roundw
          case rel => exact ⟨k + 1, by omega, by go_num, by first | (rw [← hI2.out, g1.out]; done) | (rw [← hI2.out, g1.out]; go_num), by first | (rw [← hO2.out, g2.out]; done) | (rw [← hO2.out, g2.out]; go_num), hX3.out, A2, c2, rfl, by rw [← hl2.out]; exact hr2.out⟩
          case measure => simp [intOf]; omega
      · have hk' : k = m := by omega
        subst hk'
        rw [← hI9.out, ← hO9.out]
        replace hX := Lib.hid hX
        replace hr1 := Lib.hid hr1
        go_wp2
        exact bodyPost_ret (v := .tuple #[.int .i64 I9, .int .i64 O9, .int .i64 0]) (by simp [results, Try.results27, go_sem]) rfl ⟨rfl, hX.out⟩
  · have hR := hbad h0
    rw [hR]
    clear hz hbad hgood
    replace hR := Lib.hid hR
    replace hcs := Lib.hid hcs
    simp only []
    go_enter Try.func27, Try.ntmps27
    go_wp2_with fail
    refine c25.out.mono ?_
    rintro e X1 ⟨Az, cz, rfl, hb1, hrz⟩
    replace hb1 := Lib.hid hb1
    replace hrz := Lib.hid hrz
    go_wp2
    exact bodyPost_ret (v := .tuple #[.int .i64 0, .int .i64 0, .int .i64 er]) (by simp [results, Try.results27, go_sem]) rfl ⟨rfl, hb1.out⟩
end Go.Proofs.Ytgonibieeimdoaa
