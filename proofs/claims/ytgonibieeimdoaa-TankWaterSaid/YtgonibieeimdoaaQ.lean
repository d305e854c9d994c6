/-
  asked, After and Does of the specification.
-/
import Derived.Test.YtgonibieeimdoaaP
namespace Go.Proofs.Ytgonibieeimdoaa
open Go.RowKit Go.Deep M
set_option linter.unusedVariables false
set_option linter.unusedSimpArgs false

set_option maxRecDepth 100000 in
set_option maxHeartbeats 2000000 in
theorem asked_ref (B : Nat) (A A' : Option Addr) (c c' : Nat) (t l : List Int) (w : World) (h : Row w B A t) (h' : Row w B A' l) :
    Calls Try.prog 60 #[.slice A t.length c, .slice A' l.length c'] w fun e w' => e = .returned (.int .i64 (err1 t l)) ∧ ∃ n, w' = w.drewN n := by
  unfold err1
  have hV := Valid_ref B A c t w h
  have hL := AreLevels_ref B A A' c c' t l w h h'
  generalize validB t = p at *
  generalize lvlB t l = q at *
  replace hV := Lib.hid hV
  replace hL := Lib.hid hL
  cases p with
  | false =>
    go_enter Try.func60, Try.ntmps60
    go_wp2_with fail
    refine hV.out.mono ?_
    rintro e w1 ⟨rfl, rfl⟩
    go_wp2
    go_ret
    exact ⟨rfl, 0, rfl⟩
  | true =>
    go_enter Try.func60, Try.ntmps60
    go_wp2_with fail
    refine hV.out.mono ?_
    rintro e w1 ⟨rfl, rfl⟩
    go_wp2_with fail
    refine hL.out.mono ?_
    rintro e w2 ⟨rfl, hd⟩
    replace hd := Lib.hid hd
    cases q with
    | true =>
      go_wp2
      go_ret
      exact ⟨rfl, hd.out⟩
    | false =>
      go_wp2
      go_ret
      exact ⟨rfl, hd.out⟩

set_option maxRecDepth 100000 in
set_option maxHeartbeats 4000000 in
theorem After_ref (B : Nat) (A A' A'' : Option Addr) (c c' c'' : Nat) (t l : List Int) (D : List Dd) (w : World) (h : Row w B A t) (h' : Row w B A' l) (h'' : Dls w B A'' D) (hB : B ≤ w.heap.size) :
    Calls Try.prog 25 #[.slice A t.length c, .slice A' l.length c', .slice A'' D.length c''] w (AftP (aftR t l D) w) := by
  have h63 := h.1
  have h63' := h'.1
  have h63'' := h''.1
  have c60 := (asked_ref B A A' c c' t l w h h').mono fun e w' (hh : e = .returned (.int .i64 (err1 t l)) ∧ ∃ n, w' = w.drewN n) => show e = .returned (.int .i64 (err1 t l)) ∧ Below w.heap.size w w' from ⟨hh.1, by obtain ⟨n, rfl⟩ := hh.2; exact below_drewN (Below.refl _ _) n⟩
  have hcs := err1_cases t l
  have hg2 := @err2_good t l D
  have hb2 := @err2_bad t l D
  have hz := @err2_zero t l D
  have hbad : ¬ err2 t l D = 0 → aftR t l D = ([], err2 t l D) := fun h => by unfold aftR; rw [if_neg h]
  have hgood : err2 t l D = 0 → aftR t l D = (afL t l D, 0) := fun h => by unfold aftR; rw [if_pos h]
  obtain ⟨er, her⟩ : ∃ er, er = err1 t l := ⟨_, rfl⟩
  rw [← her] at c60 hcs hg2 hb2
  replace her := Lib.hid her
  replace c60 := Lib.hid c60
  unfold AftP
  by_cases h0 : er = 0
  · subst h0
    have hg := hg2 rfl
    clear hg2 hb2 hcs
    have hlt := (err1_zero her.out.symm).2.1
    obtain ⟨n, hn⟩ : ∃ n, n = t.length := ⟨_, rfl⟩
    have c61 := fun X (hX : Below w.heap.size w X) => areDeeds_ref B A A'' c c'' n D X (h''.below (hX.mono hB)) (Nat.le_trans hB hX.size) (by rw [hn]; exact h63)
    have hds := @ds_of n D
    rw [← hn] at hg
    by_cases hq : dsB n D = true
    · rw [if_pos hq] at hg
      obtain ⟨hv, hl, hD⟩ := hz hg
      have hR := hgood hg
      rw [hR]
      clear hz hbad hgood hds
      simp only []
      have h2 := hv.1.1
      have h4 := hv.1.2
      have hok := Lib.hid (fun k (hk : k ≤ D.length) => afN_ok hl hD k hk)
      have hln := Lib.hid (fun k => afN_len t l D k)
      have hdd := Lib.hid (fun i (hi : i < D.length) => hD.2 i hi)
      have hsc := Lib.hid (fun k => show doL t (afN t l D k) (dd D k) = afN t l D (k + 1) from rfl)
      have hz0 := Lib.hid (show afN t l D 0 = l from rfl)
      have hll := Lib.hid (fun k => (hln.out k).trans (hlt.trans hn.symm))
      have c62 := fun k (hk : k < D.length) X (hX : Below w.heap.size w X) A1 c1 (h1 : Row X X.heap.size A1 (afN t l D k)) => done_ref X.heap.size A A1 c c1 t (afN t l D k) (dd D k) X ((h.below (hX.mono hB)).more (Nat.le_trans hB hX.size)) h1 (Nat.le_refl _) hv (hok.out k (by omega)) (hdd.out k hk)
      have c62' := Lib.hid (fun k (hk : k < D.length) X (hX : Below w.heap.size w X) A1 c1 (h1 : Row X X.heap.size A1 (afN t l D k)) => show Calls Try.prog 62 #[.slice A n c, .slice A1 n c1, .agg #[.int .i64 (dd D k).d, .int .i64 (dd D k).f, .int .i64 (dd D k).t]] X fun e w' => ∃ A2 c2, e = .returned (.slice A2 n c2) ∧ Below X.heap.size X w' ∧ Row w' w'.heap.size A2 (afN t l D (k + 1)) from by
        have := c62 k hk X hX A1 c1 h1
        unfold NewRow ddV at this
        rw [hll.out, hsc.out, hll.out, ← hn] at this
        exact this)
      clear c62
      obtain ⟨m, hm⟩ : ∃ m, m = D.length := ⟨_, rfl⟩
      have hfin : afL t l D = afN t l D m := by rw [hm]; rfl
      obtain ⟨lf, hlf⟩ : ∃ lf, lf = afN t l D m := ⟨_, rfl⟩
      have hfl : lf.length = n := by rw [hlf, hll.out]
      rw [hfin, ← hlf, hfl]
      rw [← hn] at h63 h2 h4 c60 ⊢
      have hln' := hlt
      rw [← hn] at hln'
      obtain ⟨i3, ji, jz0, jz1, jz2⟩ := info_parts info3
      replace ji := Lib.hid ji
      replace jz0 := Lib.hid jz0
      replace jz1 := Lib.hid jz1
      replace jz2 := Lib.hid jz2
      obtain ⟨bl, ol, rfl, hbl, hcl⟩ := h'.2 (by omega)
      rw [hln'] at h63' c60 ⊢
      have hnews := Lib.hid (fun X (hX : Below w.heap.size w X) => show ∀ j u, (vals l)[j]? = some u → (X.alloc (.cells #[] 3)).cell? ((⟨bl, ol, none⟩ : Addr).add j) = some u from fun j u hu => by
        obtain ⟨hj, rfl⟩ := news_get hu
        have hb0 : Below w.heap.size w (X.alloc (.cells #[] 3)) := bel_trans hX (ba1 X _)
        rw [add_pl, hb0.cell (by show bl < w.heap.size; omega)]
        exact hcl j hj)
      have hvl := Lib.hid (show (vals l).length = n * 1 by rw [vals_len, hln', Nat.mul_one])
      have hvs := Lib.hid (show vals l = [] ++ vals l from rfl)
      rw [← hm] at h63'' c61 ⊢
      have hq' := hq
      replace c61 := Lib.hid (fun X (hX : Below w.heap.size w X) => show Calls Try.prog 61 #[.slice A n c, .slice A'' m c''] X fun e w' => e = .returned (.bool true) ∧ Below X.heap.size X w' from by
        have := c61 X hX
        rw [hq'] at this
        exact this)
      replace hn := Lib.hid hn
      replace hm := Lib.hid hm
      replace hlf := Lib.hid hlf
      replace hv := Lib.hid hv
      replace hl := Lib.hid hl
      replace hD := Lib.hid hD
      replace hlt := Lib.hid hlt
      replace hln' := Lib.hid hln'
      replace hfin := Lib.hid hfin
      replace hfl := Lib.hid hfl
      replace hR := Lib.hid hR
      replace hg := Lib.hid hg
      replace hq := Lib.hid hq
      replace hq' := Lib.hid hq'
      replace c60 := Lib.hid c60.out
      replace h := Lib.hid h
      replace h' := Lib.hid h'
      replace h'' := Lib.hid h''
      replace hcl := Lib.hid hcl
      go_enter Try.func25, Try.ntmps25
      go_wp2_with fail
      refine c60.out.mono ?_
      rintro e X1 ⟨rfl, hb1⟩
      have k61 := Lib.hid (c61.out X1 hb1)
      go_wp2_with fail
      refine k61.out.mono ?_
      rintro e X2 ⟨rfl, hb2⟩
      have hX2 := bel_trans hb1 hb2
      have hnw := Lib.hid (hnews.out X2 hX2)
      have ho := Lib.hid (empty_own X2 3)
      have hX2s := hX2.size
      replace hX2 := Lib.hid hX2
      clear hb1 hb2 k61
      go_wp2_with (at_builtin
                   refine wpList_append_own _ rfl (.tmp 25) (.tmp 26) 22 rfl X2.heap.size 3 i3 (.int .i64 0) 1 8 Try.underlying22 ji.out jz0.out jz1.out jz2.out rfl (by decide) _ _ _ rfl ho.out ⟨bl, ol, none⟩ n c' (vals l) rfl hvl.out hnw.out (fun u hu => by obtain ⟨_, _, rfl⟩ := List.mem_map.1 hu; rfl) (by unfold maxLen; omega) (by omega) (by simp) ?_
                   intro v' w1 hown' hgrow _
                   have hbb := below_grown hgrow (B := X2.heap.size) (by simp) (fun k e => by cases e; exact Nat.le_refl _)
                   have hY := Lib.hid (bel_trans hX2.out ((ba1 X2 (.cells #[] 3)).trans hbb))
                   have hown2 : w1.ownsRow X2.heap.size 3 1 v' l.length (vals l) := by rw [hln'.out]; simpa using hown'
                   obtain ⟨A1, c1, rfl, hr1⟩ := own_row hown2 (by rw [hln'.out]; omega)
                   rw [hln'.out] at hown2
                   rw [hln'.out]
                   replace hown2 := Lib.hid hown2
                   replace hr1 := Lib.hid hr1
                   clear hown' hgrow hbb)
      go_loopw [9, 10] (fun v i X => ∃ k : Nat, k ≤ m ∧ i = .int .i64 (k : Nat) ∧ Below w.heap.size w X ∧ ∃ A1 c1, v = .slice A1 n c1 ∧ Row X X.heap.size A1 (afN t l D k)) (fun _ i _ => m - (intOf i).toNat)
      case atStart => exact ⟨0, by omega, rfl, hY.out, _, _, rfl, by rw [hz0.out]; exact hr1.out⟩
      case round =>
        clear hY hr1 hown2
        obtain ⟨k, hk, rfl, hX, A1, c1, rfl, hr1⟩ := hrel
        by_cases hlk : k < m
        · obtain ⟨b, o, rfl, hb, d0, d1, d2⟩ := (h''.out.below (hX.mono hB)).at_ k (hm.out ▸ hlk)
          have k62 := c62'.out k (hm.out ▸ hlk) wr hX A1 c1 hr1
          generalize dd D k = x at *
          replace hX := Lib.hid hX
          replace hr1 := Lib.hid hr1
          replace k62 := Lib.hid k62
          go_wp2_with fail
          refine k62.out.mono ?_
          rintro e X3 ⟨A2, c2, rfl, hb4, hr2⟩
          have hend := Lib.hid (bel_trans hX.out hb4)
          replace hr2 := Lib.hid hr2
          clear hb4
          go_wp2
          go_roundw
          case rel => exact ⟨k + 1, by omega, by go_num, hend.out, A2, c2, rfl, hr2.out⟩
          case measure => simp [intOf]; omega
        · have hk' : k = m := by omega
          subst hk'
          rw [← hlf.out] at hr1
          replace hX := Lib.hid hX
          replace hr1 := Lib.hid hr1
          go_wp2
          exact bodyPost_ret (v := .tuple #[.slice A1 n c1, .int .i64 0]) (by simp [results, Try.results25, go_sem]) rfl ⟨A1, c1, rfl, hX.out, hr1.out⟩
    · rw [if_neg hq] at hg
      have hR := hbad (by rw [hg]; omega)
      rw [hR, hg]
      clear hz hbad hgood hds
      simp only []
      have hqf : dsB n D = false := by simpa using hq
      replace c61 := Lib.hid (fun X (hX : Below w.heap.size w X) => show Calls Try.prog 61 #[.slice A n c, .slice A'' D.length c''] X fun e w' => e = .returned (.bool false) ∧ Below X.heap.size X w' from by
        have := c61 X hX
        rw [hqf] at this
        exact this)
      rw [← hn] at h63 c60 ⊢
      replace hn := Lib.hid hn
      replace hlt := Lib.hid hlt
      replace hR := Lib.hid hR
      replace hg := Lib.hid hg
      replace hq := Lib.hid hq
      replace hqf := Lib.hid hqf
      replace c60 := Lib.hid c60.out
      go_enter Try.func25, Try.ntmps25
      go_wp2_with fail
      refine c60.out.mono ?_
      rintro e X1 ⟨rfl, hb1⟩
      have k61 := Lib.hid (c61.out X1 hb1)
      go_wp2_with fail
      refine k61.out.mono ?_
      rintro e X2 ⟨rfl, hb2⟩
      have hend := Lib.hid (bel_trans hb1 hb2)
      clear hb1 hb2 k61
      go_wp2
      exact bodyPost_ret (v := .tuple #[.slice none 0 0, .int .i64 2]) (by simp [results, Try.results25, go_sem]) rfl ⟨none, 0, rfl, hend.out, row_nil _ _ _⟩
  · have he := hb2 h0
    have hR := hbad (by rw [he]; exact h0)
    rw [hR, he]
    clear hz hbad hgood hg2 hb2
    replace hR := Lib.hid hR
    replace he := Lib.hid he
    replace hcs := Lib.hid hcs
    simp only []
    go_enter Try.func25, Try.ntmps25
    go_wp2_with fail
    refine c60.out.mono ?_
    rintro e X1 ⟨rfl, hb1⟩
    replace hb1 := Lib.hid hb1
    go_wp2
    exact bodyPost_ret (v := .tuple #[.slice none 0 0, .int .i64 er]) (by simp [results, Try.results25, go_sem]) rfl ⟨none, 0, rfl, hb1.out, row_nil _ _ _⟩

set_option maxRecDepth 100000 in
set_option maxHeartbeats 2000000 in
theorem Does_ref (A A' : Option Addr) (c c' : Nat) (t l : List Int) (x : Dd) (w : World) (h : Row w w.heap.size A t) (h' : Row w w.heap.size A' l) :
    Calls Try.prog 20 #[.slice A t.length c, .slice A' l.length c', .agg #[.int .i64 x.d, .int .i64 x.f, .int .i64 x.t]] w (AftP (aftR t l [x]) w) := by
  have h63 := h.1
  have h63' := h'.1
  have hb0 := ba1 w (.cells #[.int .i64 x.d, .int .i64 x.f, .int .i64 x.t] 24)
  have hbx := Bx3.new w x
  have d0 := hbx.c0
  have d1 := hbx.c1
  have d2 := hbx.c2
  have hb1 := ba1 (w.alloc (.cells #[.int .i64 x.d, .int .i64 x.f, .int .i64 x.t] 24)) (.cells #[.int .i64 x.d, .int .i64 x.f, .int .i64 x.t] 24)
  have hd := dls_one (w.alloc (.cells #[.int .i64 x.d, .int .i64 x.f, .int .i64 x.t] 24)) x
  rw [show (w.alloc (.cells #[.int .i64 x.d, .int .i64 x.f, .int .i64 x.t] 24)).heap.size = w.heap.size + 1 by simp] at hd
  have hb := bel_trans hb0 hb1
  obtain ⟨Y, hY⟩ : ∃ Y, Y = (w.alloc (.cells #[.int .i64 x.d, .int .i64 x.f, .int .i64 x.t] 24)).alloc (.cells #[.int .i64 x.d, .int .i64 x.f, .int .i64 x.t] 24) := ⟨_, rfl⟩
  have hsz : Y.heap.size = w.heap.size + 1 + 1 := by rw [hY]; simp
  rw [← hY] at hd hb
  have c24 := After_ref (w.heap.size + 1 + 1) A A' (some ⟨w.heap.size + 1, 0, none⟩) c c' 1 t l [x] Y ((h.below hb).more (by omega)) ((h'.below hb).more (by omega)) hd (by omega)
  unfold AftP at c24 ⊢
  rw [show [x].length = 1 from rfl] at c24
  generalize aftR t l [x] = r at *
  obtain ⟨rl, re⟩ := r
  simp only [] at c24 ⊢
  replace c24 := Lib.hid c24
  replace hY := Lib.hid hY
  replace hd := Lib.hid hd
  replace hb := Lib.hid hb
  replace hb0 := Lib.hid hb0
  replace hb1 := Lib.hid hb1
  replace hbx := Lib.hid hbx
  replace hsz := Lib.hid hsz
  go_enter Try.func20, Try.ntmps20
  go_wp2_with fail
  rw [← hY.out]
  refine c24.out.mono ?_
  rintro e X1 ⟨A1, c1, rfl, hb2, hr⟩
  have hend := Lib.hid (bel_trans hb.out hb2)
  replace hr := Lib.hid hr
  clear hb2
  go_wp2
  exact bodyPost_ret (v := .tuple #[.slice A1 rl.length c1, .int .i64 re]) (by simp [results, Try.results20, go_sem]) rfl ⟨A1, c1, rfl, hend.out, hr.out⟩
end Go.Proofs.Ytgonibieeimdoaa
