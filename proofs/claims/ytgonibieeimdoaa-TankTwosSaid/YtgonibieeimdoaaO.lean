/-
  The levels behind deeds: checkedDeeds, stateOf, levels, After and Does of the program; asked, After and Does of the specification.
-/
import Derived.Test.YtgonibieeimdoaaN
import Derived.Test.YtgonibieeimdoaaF
import Derived.Laws.CopyOwn
namespace Go.Proofs.Ytgonibieeimdoaa
open Go.RowKit Go.Deep M
set_option linter.unusedVariables false
set_option linter.unusedSimpArgs false

theorem err1_zero {t l : List Int} (h : err1 t l = 0) : vT t ∧ vL t l := by
  unfold err1 at h
  by_cases h1 : validB t = true
  · rw [if_pos h1] at h
    by_cases h2 : lvlB t l = true
    · exact ⟨val_of h1, lvl_of h2⟩
    · rw [if_neg h2] at h; omega
  · rw [if_neg h1] at h; omega
theorem err1_cases (t l : List Int) : err1 t l = 0 ∨ err1 t l = 40 ∨ err1 t l = 41 := by
  unfold err1
  split
  · split <;> simp
  · simp
theorem err2_bad {t l : List Int} (D : List Dd) (h : ¬ err1 t l = 0) : err2 t l D = err1 t l := by
  unfold err2
  unfold err1 at h ⊢
  by_cases h1 : validB t = true
  · rw [if_pos h1] at h ⊢
    rw [if_pos h1]
    by_cases h2 : lvlB t l = true
    · rw [if_pos h2] at h; exact absurd rfl h
    · rw [if_neg h2, if_neg h2]
  · rw [if_neg h1, if_neg h1]
theorem err2_good {t l : List Int} (D : List Dd) (h : err1 t l = 0) : err2 t l D = if dsB t.length D = true then 0 else 2 := by
  obtain ⟨h1, h2⟩ := err1_zero h
  unfold err2
  rw [if_pos (val_true h1), if_pos (lvl_true h2)]
theorem err2_zero {t l : List Int} {D : List Dd} (h : err2 t l D = 0) : vT t ∧ vL t l ∧ vD t.length D := by
  by_cases h1 : err1 t l = 0
  · obtain ⟨a, b⟩ := err1_zero h1
    rw [err2_good D h1] at h
    by_cases h2 : dsB t.length D = true
    · exact ⟨a, b, ds_of h2⟩
    · rw [if_neg h2] at h; omega
  · rw [err2_bad D h1] at h; exact absurd h h1
theorem err2_cases (t l : List Int) (D : List Dd) : err2 t l D = 0 ∨ err2 t l D = 2 ∨ err2 t l D = 40 ∨ err2 t l D = 41 := by
  by_cases h : err1 t l = 0
  · rw [err2_good D h]; split <;> simp
  · rw [err2_bad D h]
    rcases err1_cases t l with h1 | h1 | h1
    · exact absurd h1 h
    · simp [h1]
    · simp [h1]

set_option maxRecDepth 100000 in
set_option maxHeartbeats 2000000 in
theorem checkedDeeds_any (B : Nat) (A A' A'' : Option Addr) (c c' c'' : Nat) (t l : List Int) (D : List Dd) (w : World) (h : Row w B A t) (h' : Row w B A' l) (h'' : Dls w B A'' D) (hB : B ≤ w.heap.size) :
    Calls Try.prog 56 #[.slice A t.length c, .slice A' l.length c', .slice A'' D.length c''] w fun e w' => e = .returned (.int .i64 (err2 t l D)) ∧ Below w.heap.size w w' := by
  have h63 := h.1
  have h63' := h'.1
  have h63'' := h''.1
  have hb0 := ba1 w (.cells #[.slice A' l.length c'] 22)
  have hbk := heap_alloc_new w (.cells #[.slice A' l.length c'] 22)
  have hc : (w.alloc (.cells #[.slice A' l.length c'] 22)).cell? ⟨w.heap.size, 0, none⟩ = some (.slice A' l.length c') := by
    unfold World.cell?
    rw [hbk]
    rfl
  have c64 := checked1_any B A A' c c' 1 t l w.heap.size _ (h.below (hb0.mono hB)) (h'.below (hb0.mono hB)) hc
  have hcs := err1_cases t l
  have hgood := @err2_good t l D
  have hbad := @err2_bad t l D
  have hz := @err1_zero t l
  obtain ⟨er, her⟩ : ∃ er, er = err1 t l := ⟨_, rfl⟩
  rw [← her] at c64 hcs hgood hbad hz
  obtain ⟨n, hn⟩ : ∃ n, n = t.length := ⟨_, rfl⟩
  have c88 := fun (h2 : 2 ≤ n) (h4 : n ≤ 4) => areDeeds_any B A A'' c c'' n D _ (h''.below (hb0.mono hB)) (Nat.le_trans hB hb0.size) h2 h4
  have hvn : vT t → 2 ≤ n ∧ n ≤ 4 := fun h => by rw [hn]; exact h.1
  rw [← hn] at h63 c64 hgood ⊢
  obtain ⟨Y, hY⟩ : ∃ Y, Y = w.alloc (.cells #[.slice A' l.length c'] 22) := ⟨_, rfl⟩
  rw [← hY] at c64 c88 hb0
  replace hn := Lib.hid hn
  replace her := Lib.hid her
  replace c64 := Lib.hid c64
  replace hY := Lib.hid hY
  replace hb0 := Lib.hid hb0
  clear hbk hc
  by_cases h0 : er = 0
  · obtain ⟨h2, h4⟩ := hvn (hz h0).1
    have hR := hgood h0
    have ck := c88 h2 h4
    clear hvn hz hgood hbad hcs c88
    subst h0
    rw [hR]
    generalize dsB n D = q at *
    replace ck := Lib.hid ck
    replace hR := Lib.hid hR
    go_enter Try.func56, Try.ntmps56
    go_wp2_with fail
    rw [← hY.out]
    refine c64.out.mono ?_
    rintro e w1 ⟨rfl, rfl⟩
    go_wp2_with fail
    refine ck.out.mono ?_
    rintro e w2 ⟨rfl, hb2⟩
    have hend := Lib.hid (bel_trans hb0.out hb2)
    clear hb2
    cases q with
    | true =>
      go_wp2
      go_ret
      exact ⟨rfl, hend.out⟩
    | false =>
      go_wp2
      go_ret
      exact ⟨rfl, hend.out⟩
  · have hR := hbad h0
    rw [hR]
    clear hvn hz hgood hbad c88
    replace hR := Lib.hid hR
    replace hcs := Lib.hid hcs
    go_enter Try.func56, Try.ntmps56
    go_wp2_with fail
    rw [← hY.out]
    refine c64.out.mono ?_
    rintro e w1 ⟨rfl, rfl⟩
    go_wp2
    go_ret
    exact ⟨rfl, hb0.out⟩

/-! ### states -/
theorem el_nil (i : Nat) : el [] i = 0 := rfl
theorem el_out (l : List Int) (i : Nat) (h : l.length ≤ i) : el l i = 0 := by
  unfold el
  rw [List.getD_eq_getElem?_getD, List.getElem?_eq_none h]; rfl
theorem vals_four {l : List Int} (h : l.length ≤ 4) : vals l ++ [Value.int .i64 0, .int .i64 0, .int .i64 0, .int .i64 0].drop l.length = [.int .i64 (el l 0), .int .i64 (el l 1), .int .i64 (el l 2), .int .i64 (el l 3)] := by
  match l, h with
  | [], _ => rfl
  | [a], _ => rfl
  | [a, b], _ => rfl
  | [a, b, c], _ => rfl
  | [a, b, c, d], _ => rfl
  | a :: b :: c :: d :: e :: l, h => simp at h
theorem Bx4.row {w : World} {b : Nat} {l : List Int} (h : Bx4 w b l) (hl : l.length ≤ 4) : Row w w.heap.size (some ⟨b, 0, none⟩) l :=
  ⟨by omega, fun _ => ⟨b, 0, rfl, h.lt, fun i hi => by
    rcases (show i = 0 ∨ i = 1 ∨ i = 2 ∨ i = 3 by omega) with rfl | rfl | rfl | rfl
    · exact h.c0
    · exact h.c1
    · exact h.c2
    · exact h.c3⟩⟩

set_option maxRecDepth 100000 in
set_option maxHeartbeats 2000000 in
theorem stateOf_any (B : Nat) (A : Option Addr) (c : Nat) (l : List Int) (w : World) (h : Row w B A l) (hB : B ≤ w.heap.size) (h1 : 1 ≤ l.length) (h4 : l.length ≤ 4) :
    Calls Try.prog 57 #[.slice A l.length c] w fun e w' => e = .returned (stL l) ∧ Below w.heap.size w w' := by
  obtain ⟨b, o, rfl, hb, hcell⟩ := h.2 (by omega)
  have hb2 : Below w.heap.size w ((w.alloc (.cells #[.int .i64 0, .int .i64 0, .int .i64 0, .int .i64 0] 69)).alloc (.cells #[.int .i64 0, .int .i64 0, .int .i64 0, .int .i64 0] 69)) := ((Below.refl _ _).alloc (Nat.le_refl _) _).alloc (by simp) _
  obtain ⟨Y, hY⟩ : ∃ Y, Y = (w.alloc (.cells #[.int .i64 0, .int .i64 0, .int .i64 0, .int .i64 0] 69)).alloc (.cells #[.int .i64 0, .int .i64 0, .int .i64 0, .int .i64 0] 69) := ⟨_, rfl⟩
  have hx0 : Bx4 Y w.heap.size [] := by
    rw [hY]
    exact (Bx4.new w []).up (ba1 _ _)
  have hx1 : Bx4 Y (w.heap.size + 1) [] := by
    rw [hY]
    have := Bx4.new (w.alloc (.cells #[.int .i64 0, .int .i64 0, .int .i64 0, .int .i64 0] 69)) []
    rw [show (w.alloc (.cells #[.int .i64 0, .int .i64 0, .int .i64 0, .int .i64 0] 69)).heap.size = w.heap.size + 1 by simp] at this
    exact this
  have hg : Y.heap[w.heap.size + 1]? = some (.cells #[.int .i64 0, .int .i64 0, .int .i64 0, .int .i64 0] 69 (0, 0)) := hx1
  rw [← hY] at hb2
  have hsrc : ∀ j u, (vals l)[j]? = some u → Y.cell? ((⟨b, o, none⟩ : Addr).add j) = some u := fun j u hu => by
    obtain ⟨hj, rfl⟩ := news_get hu
    rw [add_pl, hb2.cell (by show b < w.heap.size; omega)]
    exact hcell j hj
  have hvl := vals_len l
  have hmin : (vals l).length = Nat.min l.length 4 := by rw [hvl]; exact (Nat.min_eq_left h4).symm
  have hsz3 : (Try.prog.info? 3).map (·.size) = some 1 := by kernel_rfl
  have hvc : ∀ v ∈ vals l, v.oneCell' = true := fun v hv => by
    unfold vals at hv
    obtain ⟨z, _, rfl⟩ := List.mem_map.1 hv
    rfl
  have hrow := vals_four h4
  obtain ⟨Z, hZ⟩ : ∃ Z, Z = Y.setRow (w.heap.size + 1) ((#[Value.int .i64 0, .int .i64 0, .int .i64 0, .int .i64 0] : Array Value).toList.take 0 ++ (vals l ++ (#[Value.int .i64 0, .int .i64 0, .int .i64 0, .int .i64 0] : Array Value).toList.drop (0 + (vals l).length))).toArray := ⟨_, rfl⟩
  have hz1 : Bx4 Z (w.heap.size + 1) l := by
    rw [hZ]
    unfold Bx4
    rw [setRow_heap _ _ _ _ _ _ hg]
    rw [List.take_zero, List.nil_append, Nat.zero_add, hvl]
    rw [hrow]
  have hz0 : Bx4 Z w.heap.size [] := by
    rw [hZ]
    exact hx0.to (setRow_other _ _ _ _ (by omega))
  have hzb : Below w.heap.size w Z := by
    rw [hZ]
    exact below_setRow hb2 (by omega) _
  have hfin := Lib.hid (setCell4_below hzb (Nat.le_refl w.heap.size) (.int .i64 (el l 0)) (.int .i64 (el l 1)) (.int .i64 (el l 2)) (.int .i64 (el l 3)))
  have y := hz0.set l
  have y0 := y.c0
  have y1 := y.c1
  have y2 := y.c2
  have y3 := y.c3
  have zl := hz0.lt
  have zl1 := hz1.lt
  unfold stL stV
  replace hx0 := Lib.hid hx0
  replace hx1 := Lib.hid hx1
  replace hg := Lib.hid hg
  replace hsrc := Lib.hid hsrc
  replace hvl := Lib.hid hvl
  replace hmin := Lib.hid hmin
  replace hsz3 := Lib.hid hsz3
  replace hvc := Lib.hid hvc
  replace hrow := Lib.hid hrow
  replace hzb := Lib.hid hzb
  replace hb2 := Lib.hid hb2
  replace hY := Lib.hid hY
  replace hZ := Lib.hid hZ
  replace y := Lib.hid y
  have a0 := hz0.c0
  have a1 := hz0.c1
  have a2 := hz0.c2
  have a3 := hz0.c3
  have b0 := hz1.c0
  have b1 := hz1.c1
  have b2 := hz1.c2
  have b3 := hz1.c3
  have f0 := hz0.fz 0
  have f1 := hz0.fz 1
  have f2 := hz0.fz 2
  have f3 := hz0.fz 3
  replace hz0 := Lib.hid hz0
  replace hz1 := Lib.hid hz1
  go_enter Try.func57, Try.ntmps57
  go_wp2_with (rw [← hY.out]; refine wpList_copy_own rfl (.tmp 4) (.tmp 5) 22 22 rfl 3 Try.underlying22 hsz3.out (w.heap.size + 1) 0 4 4 ⟨b, o, none⟩ l.length c rfl rfl _ 69 hg.out (vals l) hmin.out hsrc.out (by rw [hvl.out]; simpa using h4) hvc.out ?_; rw [← hZ.out])
  exact bodyPost_ret (v := .agg #[.int .i64 (el l 0), .int .i64 (el l 1), .int .i64 (el l 2), .int .i64 (el l 3)]) (by simp [results, Try.results57, go_sem, y0, y1, y2, y3]) rfl ⟨rfl, hfin.out⟩

set_option maxRecDepth 100000 in
set_option maxHeartbeats 2000000 in
theorem levels_any (n : Nat) (l : List Int) (w : World) (hl : l.length = n) (h2 : 2 ≤ n) (h4 : n ≤ 4) :
    Calls Try.prog 59 #[stL l, .int .i64 n] w (NewRow w l) := by
  have hb0 := ba1 w (.cells #[.int .i64 (el l 0), .int .i64 (el l 1), .int .i64 (el l 2), .int .i64 (el l 3)] 69)
  have hx := Bx4.new w l
  have cl := Clone_row (c := 4) (hx.row (by omega)) (Nat.le_refl _) (by omega)
  unfold NewRow at cl ⊢
  rw [hl] at cl ⊢
  unfold stL stV
  replace hl := Lib.hid hl
  replace hx := Lib.hid hx
  replace hb0 := Lib.hid hb0
  replace cl := Lib.hid cl
  rcases (show n = 2 ∨ n = 3 ∨ n = 4 by omega) with rfl | rfl | rfl
  all_goals
    go_enter Try.func59, Try.ntmps59
    go_wp2_with fail
    refine cl.out.mono ?_
    rintro e w1 ⟨A, c, rfl, hb1, hr⟩
    have hend := Lib.hid (bel_trans hb0.out hb1)
    replace hr := Lib.hid hr
    clear hb1
    go_wp2
    go_ret
    exact ⟨A, c, rfl, hend.out, hr.out⟩
end Go.Proofs.Ytgonibieeimdoaa
