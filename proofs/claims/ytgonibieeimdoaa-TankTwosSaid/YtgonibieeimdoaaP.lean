/-
  After and Does of the program, and of the specification.
-/
import Derived.Test.YtgonibieeimdoaaO
namespace Go.Proofs.Ytgonibieeimdoaa
open Go.RowKit Go.Deep M
set_option linter.unusedVariables false
set_option linter.unusedSimpArgs false

namespace M
/-- What After answers. -/
noncomputable def aftR (t l : List Int) (D : List Dd) : List Int × Int := if err2 t l D = 0 then (afL t l D, 0) else ([], err2 t l D)
end M
def AftP (r : List Int × Int) (w : World) (e : Ending) (w' : World) : Prop :=
  ∃ A c, e = .returned (.tuple #[.slice A r.1.length c, .int .i64 r.2]) ∧ Below w.heap.size w w' ∧ Row w' w'.heap.size A r.1

set_option maxRecDepth 100000 in
set_option maxHeartbeats 4000000 in
theorem After_any (B : Nat) (A A' A'' : Option Addr) (c c' c'' : Nat) (t l : List Int) (D : List Dd) (w : World) (h : Row w B A t) (h' : Row w B A' l) (h'' : Dls w B A'' D) (hB : B ≤ w.heap.size) :
    Calls Try.prog 24 #[.slice A t.length c, .slice A' l.length c', .slice A'' D.length c''] w (AftP (aftR t l D) w) := by
  have h63 := h.1
  have h63' := h'.1
  have h63'' := h''.1
  have c56 := checkedDeeds_any B A A' A'' c c' c'' t l D w h h' h'' hB
  have hcs := err2_cases t l D
  have hz := @err2_zero t l D
  have hbad : ¬ err2 t l D = 0 → aftR t l D = ([], err2 t l D) := fun h => by unfold aftR; rw [if_neg h]
  have hgood : err2 t l D = 0 → aftR t l D = (afL t l D, 0) := fun h => by unfold aftR; rw [if_pos h]
  obtain ⟨er, her⟩ : ∃ er, er = err2 t l D := ⟨_, rfl⟩
  rw [← her] at c56 hcs hz hbad hgood
  replace her := Lib.hid her
  replace c56 := Lib.hid c56
  unfold AftP
  by_cases h0 : er = 0
  · obtain ⟨hv, hl, hD⟩ := hz h0
    have hR := hgood h0
    rw [hR]
    clear hz hbad hgood hcs
    subst h0
    simp only []
    have hlt := hl.1
    have h2 := hv.1.1
    have h4 := hv.1.2
    have hok := Lib.hid (fun k (hk : k ≤ D.length) => afN_ok hl hD k hk)
    have hln := Lib.hid (fun k => afN_len t l D k)
    have hds := Lib.hid (fun i (hi : i < D.length) => hD.2 i hi)
    have hsc := Lib.hid (fun k => show doL t (afN t l D k) (dd D k) = afN t l D (k + 1) from rfl)
    have hz0 := Lib.hid (show afN t l D 0 = l from rfl)
    have c57 := fun X (hX : Below w.heap.size w X) => stateOf_any B A' c' l X (h'.below (hX.mono hB)) (Nat.le_trans hB hX.size) (by omega) (by omega)
    have c58 := fun k (hk : k < D.length) X (hX : Below w.heap.size w X) => does_any B A c t (afN t l D k) (dd D k) X (h.below (hX.mono hB)) (Nat.le_trans hB hX.size) hv (hok.out k (by omega)) (hds.out k hk)
    have c59 := fun X => levels_any t.length (afL t l D) X (by show (afN t l D D.length).length = _; rw [hln.out, hlt]) h2 h4
    obtain ⟨n, hn⟩ : ∃ n, n = t.length := ⟨_, rfl⟩
    obtain ⟨m, hm⟩ : ∃ m, m = D.length := ⟨_, rfl⟩
    have hfin : afL t l D = afN t l D m := by rw [hm]; rfl
    have hfl : (afN t l D m).length = n := by rw [hln.out, hlt, hn]
    rw [hfin] at c59 ⊢
    unfold NewRow at c59
    obtain ⟨lf, hlf⟩ : ∃ lf, lf = afN t l D m := ⟨_, rfl⟩
    rw [← hlf] at c59 hfl ⊢
    rw [hfl] at c59
    rw [hfl]
    replace hlf := Lib.hid hlf
    unfold stL stV at c57 c58 c59
    unfold ddV at c58
    rw [← hn] at h63 h2 h4 c56 c58 c59 ⊢
    rw [hlt, ← hn] at h63' c56 c57 ⊢
    rw [← hm] at h63'' c56 c58 ⊢
    replace hn := Lib.hid hn
    replace hm := Lib.hid hm
    replace hv := Lib.hid hv
    replace hl := Lib.hid hl
    replace hD := Lib.hid hD
    replace hlt := Lib.hid hlt
    replace hfin := Lib.hid hfin
    replace hfl := Lib.hid hfl
    replace hR := Lib.hid hR
    replace c57 := Lib.hid c57
    replace c58 := Lib.hid c58
    replace c59 := Lib.hid c59
    replace c56 := c56.out
    replace c56 := Lib.hid c56
    replace h := Lib.hid h
    replace h' := Lib.hid h'
    replace h'' := Lib.hid h''
    go_enter Try.func24, Try.ntmps24
    go_wp2_with fail
    refine c56.out.mono ?_
    rintro e X1 ⟨rfl, hb1⟩
    have k57 := Lib.hid (c57.out X1 hb1)
    go_wp2_with fail
    refine k57.out.mono ?_
    rintro e X2 ⟨rfl, hb2⟩
    have hbx := Bx4.new X2 l
    have hb3 := ba1 X2 (.cells #[.int .i64 (el l 0), .int .i64 (el l 1), .int .i64 (el l 2), .int .i64 (el l 3)] 69)
    have hbl := bel_trans (bel_trans hb1 hb2) hb3
    have hwb : w.heap.size ≤ X2.heap.size := (bel_trans hb1 hb2).size
    obtain ⟨b9, hb9⟩ : ∃ b, b = X2.heap.size := ⟨_, rfl⟩
    rw [← hb9] at hbx hwb
    rw [← hz0.out] at hbx
    replace hbx := Lib.hid hbx
    replace hbl := Lib.hid hbl
    have hb9' := Lib.hid hb9
    clear hb1 hb2 hb3 k57 hb9
    go_wp2
    rw [← hb9'.out]
    go_loopw [23] (fun i X => ∃ k : Nat, k ≤ m ∧ i = .int .i64 (k : Nat) ∧ Below w.heap.size w X ∧ Bx4 X b9 (afN t l D k)) (fun i _ => m - (intOf i).toNat)
    case atStart => exact ⟨0, by omega, rfl, by rw [hz0.out] at hbx; exact hbl.out, by first | exact hbx.out | (rw [hz0.out]; exact hbx.out)⟩
    case round =>
      clear hbx hbl
      obtain ⟨k, hk, rfl, hX, hbx⟩ := hrel
      by_cases hlk : k < m
      · obtain ⟨b, o, rfl, hb, d0, d1, d2⟩ := (h''.out.below (hX.mono hB)).at_ k (hm.out ▸ hlk)
        have hY1 := ba1 wr (.cells #[.int .i64 (dd D k).d, .int .i64 (dd D k).f, .int .i64 (dd D k).t] 24)
        have hXY := bel_trans hX hY1
        have hbY := hbx.up hY1
        have hb3 := Bx3.new wr (dd D k)
        have k58 := c58.out k hlk _ hXY
        rw [hsc.out] at k58
        obtain ⟨l1, hl1⟩ : ∃ l1, l1 = afN t l D k := ⟨_, rfl⟩
        obtain ⟨l2, hl2⟩ : ∃ l2, l2 = afN t l D (k + 1) := ⟨_, rfl⟩
        rw [← hl1] at k58 hbx hbY
        rw [← hl2] at k58
        generalize dd D k = x at *
        have s0 := hbY.c0
        have s1 := hbY.c1
        have s2 := hbY.c2
        have s3 := hbY.c3
        obtain ⟨Y, hY⟩ : ∃ Y, Y = wr.alloc (.cells #[.int .i64 x.d, .int .i64 x.f, .int .i64 x.t] 24) := ⟨_, rfl⟩
        rw [← hY] at k58 hXY hbY
        clear hb3
        replace hl1 := Lib.hid hl1
        replace hl2 := Lib.hid hl2
        replace hY := Lib.hid hY
        replace k58 := Lib.hid k58
        replace hX := Lib.hid hX
        replace hbx := Lib.hid hbx
        replace hXY := Lib.hid hXY
        replace hbY := Lib.hid hbY
        replace hY1 := Lib.hid hY1
        go_wp2_with fail
        rw [← hY.out]
        refine k58.out.mono ?_
        rintro e X3 ⟨rfl, hb4⟩
        have hX3 := bel_trans hXY.out hb4
        have hq := hbY.out.up hb4
        have q0 := hq.c0
        have q1 := hq.c1
        have q2 := hq.c2
        have q3 := hq.c3
        have f0 := hq.fz 0
        have f1 := hq.fz 1
        have f2 := hq.fz 2
        have f3 := hq.fz 3
        have hql := hq.lt
        have hend := Lib.hid (setCell4_below hX3 hwb (.int .i64 (el l2 0)) (.int .i64 (el l2 1)) (.int .i64 (el l2 2)) (.int .i64 (el l2 3)))
        have hset := Lib.hid (hq.set l2)
        clear s0 s1 s2 s3 hb4
        replace hX3 := Lib.hid hX3
        replace hq := Lib.hid hq
        go_wp2
        go_roundw
        case rel => exact ⟨k + 1, by omega, by go_num, hend.out, by rw [← hl2.out]; exact hset.out⟩
        case measure => simp [intOf]; omega
      · have hk' : k = m := by omega
        subst hk'
        have k59 := Lib.hid (c59.out wr)
        rw [← hlf.out] at hbx
        have s0 := hbx.c0
        have s1 := hbx.c1
        have s2 := hbx.c2
        have s3 := hbx.c3
        replace hX := Lib.hid hX
        replace hbx := Lib.hid hbx
        go_wp2_with fail
        refine k59.out.mono ?_
        rintro e X4 ⟨A4, c4, rfl, hb4, hr4⟩
        have hend := Lib.hid (bel_trans hX.out hb4)
        replace hr4 := Lib.hid hr4
        clear hb4
        go_wp2
        exact bodyPost_ret (v := .tuple #[.slice A4 n c4, .int .i64 0]) (by simp [results, Try.results24, go_sem]) rfl ⟨A4, c4, rfl, hend.out, hr4.out⟩
  · have hR := hbad h0
    rw [hR]
    clear hz hbad hgood
    replace hR := Lib.hid hR
    replace hcs := Lib.hid hcs
    simp only []
    go_enter Try.func24, Try.ntmps24
    go_wp2_with fail
    refine c56.out.mono ?_
    rintro e X1 ⟨rfl, hb1⟩
    replace hb1 := Lib.hid hb1
    go_wp2
    exact bodyPost_ret (v := .tuple #[.slice none 0 0, .int .i64 er]) (by simp [results, Try.results24, go_sem]) rfl ⟨none, 0, rfl, hb1.out, row_nil _ _ _⟩

/-- One deed alone, as a list in a new block. -/
theorem dls_one (w : World) (x : Dd) : Dls (w.alloc (.cells #[.int .i64 x.d, .int .i64 x.f, .int .i64 x.t] 24)) (w.heap.size + 1) (some ⟨w.heap.size, 0, none⟩) [x] := by
  have h := Bx3.new w x
  refine ⟨by simp, fun _ => ⟨w.heap.size, 0, rfl, by omega, fun i hi => ?_⟩⟩
  have : i = 0 := by simpa using hi
  subst this
  exact ⟨h.c0, h.c1, h.c2⟩

set_option maxRecDepth 100000 in
set_option maxHeartbeats 2000000 in
theorem Does_any (A A' : Option Addr) (c c' : Nat) (t l : List Int) (x : Dd) (w : World) (h : Row w w.heap.size A t) (h' : Row w w.heap.size A' l) :
    Calls Try.prog 19 #[.slice A t.length c, .slice A' l.length c', .agg #[.int .i64 x.d, .int .i64 x.f, .int .i64 x.t]] w (AftP (aftR t l [x]) w) := by
  have h63 := h.1
  have h63' := h'.1
  have hb0 := ba1 w (.cells #[.int .i64 x.d, .int .i64 x.f, .int .i64 x.t] 24)
  have hbx := Bx3.new w x
  have d0 := hbx.c0
  have d1 := hbx.c1
  have d2 := hbx.c2
  have hb1 := ba1 (w.alloc (.cells #[.int .i64 x.d, .int .i64 x.f, .int .i64 x.t] 24)) (.cells #[.int .i64 x.d, .int .i64 x.f, .int .i64 x.t] 24)
  have hd := dls_one (w.alloc (.cells #[.int .i64 x.d, .int .i64 x.f, .int .i64 x.t] 24)) x
  rw [show (w.alloc (.cells #[.int .i64 x.d, .int .i64 x.f, .int .i64 x.t] 24)).heap.size = w.heap.size + 1 by simp] at hd
  have hb := bel_trans hb0 hb1
  obtain ⟨Y, hY⟩ : ∃ Y, Y = (w.alloc (.cells #[.int .i64 x.d, .int .i64 x.f, .int .i64 x.t] 24)).alloc (.cells #[.int .i64 x.d, .int .i64 x.f, .int .i64 x.t] 24) := ⟨_, rfl⟩
  have hsz : Y.heap.size = w.heap.size + 1 + 1 := by rw [hY]; simp
  rw [← hY] at hd hb
  have c24 := After_any (w.heap.size + 1 + 1) A A' (some ⟨w.heap.size + 1, 0, none⟩) c c' 1 t l [x] Y ((h.below hb).more (by omega)) ((h'.below hb).more (by omega)) hd (by omega)
  unfold AftP at c24 ⊢
  rw [show [x].length = 1 from rfl] at c24
  generalize aftR t l [x] = r at *
  obtain ⟨rl, re⟩ := r
  simp only [] at c24 ⊢
  replace c24 := Lib.hid c24
  replace hY := Lib.hid hY
  replace hd := Lib.hid hd
  replace hb := Lib.hid hb
  replace hb0 := Lib.hid hb0
  replace hb1 := Lib.hid hb1
  replace hbx := Lib.hid hbx
  replace hsz := Lib.hid hsz
  go_enter Try.func19, Try.ntmps19
  go_wp2_with fail
  rw [← hY.out]
  refine c24.out.mono ?_
  rintro e X1 ⟨A1, c1, rfl, hb2, hr⟩
  have hend := Lib.hid (bel_trans hb.out hb2)
  replace hr := Lib.hid hr
  clear hb2
  go_wp2
  exact bodyPost_ret (v := .tuple #[.slice A1 rl.length c1, .int .i64 re]) (by simp [results, Try.results19, go_sem]) rfl ⟨A1, c1, rfl, hend.out, hr.out⟩
end Go.Proofs.Ytgonibieeimdoaa
