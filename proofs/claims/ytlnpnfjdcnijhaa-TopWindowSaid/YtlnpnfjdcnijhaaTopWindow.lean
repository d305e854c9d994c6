/-
  For any rounds and any hour, the law TopWindow returns true: rounds meet, or two of them never do, never both; and windows that are open at one hour of a period each are open together just when their rounds meet.
  Conditions: none.
-/
import Derived.Test.YtlnpnfjdcnijhaaBz
import Derived.Test.YtlnpnfjdcnijhaaI
namespace Go.Proofs.Ytlnpnfjdcnijhaa.lawTopWindow
open Go.Joins Go.ChangeShapes Go.WideShapes Go.ChangeAt Go.RowKit Go.Deep Go.Proofs.Ytlnpnfjdcnijhaa M
set_option linter.unusedVariables false
set_option linter.unusedSimpArgs false

theorem number_is {X : World} {A : Option Addr} {D : List Wc} {n : Nat} {a b r : Int} (c : Nat) (h : Wds X X.heap.size A D) (hn : n = D.length) (hq : numR D = (a, b, r)) : Calls Try.prog 46 #[.slice A n c] X fun e Y => e = .returned (.tuple #[.int .i64 a, .int .i64 b, .int .i64 r]) ∧ Below X.heap.size X Y := by
  subst hn
  have := Number_any X.heap.size A c D X h (Nat.le_refl _)
  rw [hq] at this; exact this
theorem first_is {X : World} {A : Option Addr} {D : List Wc} {n : Nat} {hour a r : Int} (c : Nat) (h : Wds X X.heap.size A D) (hn : n = D.length) (hq : firR D hour = (a, r)) : Calls Try.prog 44 #[.slice A n c, .int .i64 hour] X fun e Y => e = .returned (.tuple #[.int .i64 a, .int .i64 r]) ∧ Below X.heap.size X Y := by
  subst hn
  have := First_any X.heap.size A c D hour X h (Nat.le_refl _)
  rw [hq] at this; exact this
theorem top_h {X : World} {n : Nat} (h : X.heap.size + 1 + 1 = n) : X.heap.size + 1 + 1 = n := h

set_option maxRecDepth 100000 in
set_option maxHeartbeats 2000000 in
/-- The ways out at once: too many rounds, rounds that are not valid. -/
theorem out (A : Option Addr) (c : Nat) (l : List Rd) (hour : Nat) (w : World) (h : Rds w w.heap.size A l) (ho : 40 < l.length ∨ (¬ 40 < l.length ∧ validR l = false)) :
    Calls Try.prog 17 #[.slice A l.length c, .int .u32 hour] w fun e w' => e = .returned (.bool true) ∧ Below w.heap.size w w' := by
  have hL := Long_any A c l.length w h.1
  rcases ho with hl | ⟨hl, hv⟩
  · rw [decide_eq_true hl] at hL
    replace hL := Lib.hid hL
    have hl := Lib.hid hl
    go_enter Try.func17, Try.ntmps17
    go_wp2_with fail
    refine hL.out.mono ?_
    rintro e w' ⟨rfl, rfl⟩
    go_wp2_with fail
    refine (awake_any _).mono ?_
    rintro e w' ⟨rfl, hb⟩
    go_wp2
    go_ret
    exact ⟨rfl, hb⟩
  · rw [decide_eq_false hl] at hL
    have c61 := AreRounds_ref w.heap.size A c l w h (Nat.le_refl _)
    rw [hv] at c61
    replace hL := Lib.hid hL
    have hl := Lib.hid hl
    replace c61 := Lib.hid c61
    replace hv := Lib.hid hv
    go_enter Try.func17, Try.ntmps17
    go_wp2_with fail
    refine hL.out.mono ?_
    rintro e w' ⟨rfl, rfl⟩
    go_wp2_with fail
    refine c61.out.mono ?_
    rintro e w1 ⟨rfl, hb1⟩
    go_wp2_with fail
    refine (awake_any _).mono ?_
    rintro e w2 ⟨rfl, hb2⟩
    go_wp2
    go_ret
    exact ⟨rfl, bel_trans hb1 hb2⟩

set_option maxRecDepth 100000 in
set_option maxHeartbeats 8000000 in
/-- Two of the rounds never meet. -/
theorem none_ (A : Option Addr) (c : Nat) (l : List Rd) (hour : Nat) (w : World) (h : Rds w w.heap.size A l) (hh9 : hour ≤ 4294967295) (hl : ¬ 40 < l.length) (hv : validR l = true) (hm : meetN l l.length = none) :
    Calls Try.prog 17 #[.slice A l.length c, .int .u32 hour] w fun e w' => e = .returned (.bool true) ∧ Below w.heap.size w w' := by
  have hL := Long_any A c l.length w h.1
  rw [decide_eq_false hl] at hL
  have hvr := validR_iff.1 hv
  have c49 : ∀ W, Below w.heap.size w W → _ := fun W (hb : Below w.heap.size w W) => (Meet_any w.heap.size A c l W (h.below hb) hb.size).mono fun e w' (hh : e = .returned (M3 (meetR l)) ∧ Below W.heap.size W w') => And.intro hh.1 (bel_trans hb hh.2)
  have c61 : ∀ W, Below w.heap.size w W → Calls Try.prog 61 #[.slice A l.length c] W fun e w' => e = .returned (.bool true) ∧ Below w.heap.size w w' := fun W hb =>
    (AreRounds_ref w.heap.size A c l W (h.below hb) hb.size).mono fun e w' ⟨he, hb'⟩ => ⟨by rw [he, hv], bel_trans hb hb'⟩
  replace c61 := c61 w (Below.refl _ _)
  rw [meetR_none hv (Nat.le_refl _) hm] at c49
  have c51 : ∀ W, Below w.heap.size w W → Calls Try.prog 51 #[.slice A l.length c] W fun e w' => ∃ r, NevP l r ∧ e = .returned (M3 r) ∧ Below w.heap.size w w' := fun W hb =>
    (Never_any w.heap.size A c l W (h.below hb) hb.size).mono fun e w' ⟨r, hr, he, hb'⟩ => ⟨r, hr, he, bel_trans hb hb'⟩
  have c54 : ∀ (i k : Nat), i < k → k < l.length → nvB l i k = true → ∀ W, Below w.heap.size w W → Calls Try.prog 54 #[.slice A l.length c, .int .i64 (i : Nat), .int .i64 (k : Nat)] W fun e w' => e = .returned (.tuple #[.bool true, .int .i64 0]) ∧ Below w.heap.size w w' := fun i k hik hk hnv W hb =>
    (IsNever_ref w.heap.size A c l (i : Nat) (k : Nat) W (h.below hb) hb.size).mono fun e w' ⟨he, hb'⟩ => ⟨by
      rw [he]
      have : isnR l (i : Int) (k : Int) = (true, 0) := by
        unfold isnR
        rw [hv, if_pos rfl, if_pos ⟨by omega, by omega, by omega⟩, Int.toNat_natCast, Int.toNat_natCast, hnv]
      rw [this], bel_trans hb hb'⟩
  have hnn : ∀ r, NevP l r → _ := fun r (hr : NevP l r) => never_none hv hm hr
  unfold M3 at c49
  simp only [] at c49
  have h63 := h.1
  have hn6 := hvr.1
  obtain ⟨i24, ji, jz0, jz1, jz2⟩ := info_parts info24
  replace ji := Lib.hid ji
  replace jz0 := Lib.hid jz0
  replace jz1 := Lib.hid jz1
  replace jz2 := Lib.hid jz2
  obtain ⟨fr, hfr⟩ : ∃ fr : Nat, fr = hour % 900000000 := ⟨_, rfl⟩
  have hmod : ((hour : Nat) : Int) % 900000000 = (fr : Int) := by omega
  have hmodt : ((hour : Nat) : Int).tmod 900000000 = (fr : Int) := by rw [Int.tmod_eq_emod_of_nonneg (by omega)]; exact hmod
  have fr9 := Lib.hid (show fr ≤ 1000000000 by omega)
  have fr9' : fr ≤ 900000000 := by omega
  have w0 : IntKind.i64.wrap (hour : Int) = (hour : Int) := IntWalk.i64_in _ (by omega)
  clear hfr
  obtain ⟨n, hn⟩ : ∃ n, n = l.length := ⟨_, rfl⟩
  rw [← hn] at h63 hL c61 c49 c51 c54 hnn hn6 ⊢
  replace hn := Lib.hid hn
  replace hL := Lib.hid hL
  replace hl := Lib.hid hl
  replace c49 := Lib.hid c49
  replace c61 := Lib.hid c61
  replace hv := Lib.hid hv
  replace hvr := Lib.hid hvr
  replace hm := Lib.hid hm
  replace h := Lib.hid h
  replace c51 := Lib.hid c51
  replace c54 := Lib.hid c54
  replace hnn := Lib.hid hnn
  go_enter Try.func17, Try.ntmps17
  go_wp2_with fail
  refine hL.out.mono ?_
  rintro e w' ⟨rfl, rfl⟩
  go_wp2_with fail
  refine c61.out.mono ?_
  rintro e w1 ⟨rfl, hb1⟩
  have K := Lib.hid (c49.out w1 hb1)
  go_wp2_with fail
  refine K.out.mono ?_
  rintro e w2 ⟨rfl, hb2⟩
  clear K
  have K := Lib.hid (c51.out w2 hb2)
  go_wp2_with fail
  refine K.out.mono ?_
  rintro e w3 ⟨r, hr, rfl, hb3⟩
  clear K
  obtain ⟨i, k, ⟨hik, hk⟩, hnv, rfl⟩ := hnn.out _ hr
  unfold M3
  have K := Lib.hid (c54.out i k hik hk hnv w3 hb3)
  replace hr := Lib.hid hr
  replace hnv := Lib.hid hnv
  go_wp2_with fail
  refine K.out.mono ?_
  rintro e XL ⟨rfl, hbel⟩
  clear K
  clear hb1 hb2 hb3 hik hk
  have hT0 := Lib.hid (tpW_zero w XL l hbel)
  clear hbel
  go_wp2
  go_loopw [15, 108] (fun v i X => ∃ (k : Nat) (D : List Wc), k ≤ n ∧ i = .int .i64 (k : Nat) ∧ TpW w l k v D X ∧ ∀ j, j < k → (rd l j).e ≤ 60) (fun _ i _ => n - (intOf i).toNat)
  case atStart => exact ⟨0, [], Nat.zero_le _, rfl, hT0.out, fun j hj => absurd hj (Nat.not_lt_zero _)⟩
  case round =>
    clear hT0
    obtain ⟨k, D, hk, rfl, hT, h60⟩ := hrel
    by_cases hlt : k < n
    · have hq := h.out.below hT.below
      obtain ⟨b, o, rfl, hbB, e0, e1⟩ := hq.at_ k (hn.out ▸ hlt)
      obtain ⟨a, ha⟩ : ∃ a, a = (rd l k).a := ⟨_, rfl⟩
      obtain ⟨ev, he⟩ : ∃ e, e = (rd l k).e := ⟨_, rfl⟩
      rw [← ha] at e0
      rw [← he] at e1
      have hb1 := ba1 wr (.cells #[.int .i64 a, .int .i64 ev] 68)
      have hx : Bx2 _ _ _ := Bx2.new wr ⟨a, ev⟩
      have z0 := hx.c0
      have z1 := hx.c1
      simp only [] at z0 z1
      by_cases hbig : 60 < ev
      · have hbel := bel_trans hT.below hb1
        replace hT := Lib.hid hT
        replace hx := Lib.hid hx
        replace hq := Lib.hid hq
        replace ha := Lib.hid ha
        replace he := Lib.hid he
        replace h60 := Lib.hid h60
        replace hb1 := Lib.hid hb1
        go_wp2_with fail
        refine (awake_any _).mono ?_
        rintro e XA ⟨rfl, hbA⟩
        replace hbel := bel_trans hbel hbA
        go_wp2
        go_ret
        exact ⟨rfl, hbel⟩
      · have hT1 := hT.up hb1
        have hT2 := hT1.up (ba1 (wr.alloc (.cells #[.int .i64 a, .int .i64 ev] 68)) (.cells #[.int .i64 a] 3))
        have hT3 := hT2.up (ba1 ((wr.alloc (.cells #[.int .i64 a, .int .i64 ev] 68)).alloc (.cells #[.int .i64 a] 3)) (.cells #[.int .i64 ev, .slice (some ⟨wr.heap.size + 1, 0, none⟩) 1 1] 24))
        have hgb : (((wr.alloc (.cells #[.int .i64 a, .int .i64 ev] 68)).alloc (.cells #[.int .i64 a] 3)).alloc (.cells #[.int .i64 ev, .slice (some ⟨wr.heap.size + 1, 0, none⟩) 1 1] 24)).heap[wr.heap.size + 1]? = some (.cells #[.int .i64 (rd l k).a] 3 (0, 0)) := by
          rw [← ha]
          have e1 := heap_alloc_new (wr.alloc (.cells #[.int .i64 a, .int .i64 ev] 68)) (.cells #[.int .i64 a] 3)
          have e2 : (wr.alloc (.cells #[.int .i64 a, .int .i64 ev] 68)).heap.size = wr.heap.size + 1 := by simp
          rw [e2] at e1
          exact ((ba1 ((wr.alloc (.cells #[.int .i64 a, .int .i64 ev] 68)).alloc (.cells #[.int .i64 a] 3)) (.cells #[.int .i64 ev, .slice (some ⟨wr.heap.size + 1, 0, none⟩) 1 1] 24)).block _ (blk_lt e1)).trans e1
        have hnews := wcc_news ((wr.alloc (.cells #[.int .i64 a, .int .i64 ev] 68)).alloc (.cells #[.int .i64 a] 3)) ev (wr.heap.size + 1) a
        rw [show ((wr.alloc (.cells #[.int .i64 a, .int .i64 ev] 68)).alloc (.cells #[.int .i64 a] 3)).heap.size = wr.heap.size + 1 + 1 by simp] at hnews
        have hgw : w.heap.size ≤ wr.heap.size + 1 := by have := hT.below.size; omega
        have hap := fun (v' : Value) (Y : World) (ho : Y.ownsRow w.heap.size 24 2 v' (k + 1) (wvals D ++ wcc ⟨⟨ev, [a]⟩, some ⟨wr.heap.size + 1, 0, none⟩, 1⟩)) hg => hT3.app (v' := v') hgw hgb (by rw [← he, ← ha]; exact ho) hg
        have h61 := Lib.hid (fun (j : Nat) (hj : j < k + 1) => show (rd l j).e ≤ 60 by
          rcases Nat.lt_succ_iff_lt_or_eq.1 hj with h1 | rfl
          · exact h60 j h1
          · rw [← he]; omega)
        have hsz : w.heap.size ≤ wr.heap.size + 1 + 1 + 1 := by omega
        clear hT1 hT2 hgb
        replace hT := Lib.hid hT
        replace hT3 := Lib.hid hT3
        replace hx := Lib.hid hx
        replace hq := Lib.hid hq
        replace ha := Lib.hid ha
        replace he := Lib.hid he
        replace h60 := Lib.hid h60
        replace hb1 := Lib.hid hb1
        replace hnews := Lib.hid hnews
        replace hap := Lib.hid hap
        go_wp2_with (at_builtin
                     refine wpList_append_own _ rfl (.tmp 116) (.tmp 123) 45 rfl w.heap.size 24 i24 (.agg #[.int .i64 0, .slice none 0 0]) 2 32 Try.underlying45 ji.out jz0.out jz1.out jz2.out rfl (by decide) _ _ _ rfl hT3.out.own ⟨wr.heap.size + 1 + 1, 0, none⟩ 1 1 (wcc ⟨⟨ev, [a]⟩, some ⟨wr.heap.size + 1, 0, none⟩, 1⟩) rfl rfl hnews.out (fun u hu => wcc_cell u hu) (by unfold maxLen; omega) (by omega) (by simp; omega) ?_
                     intro v' w2 hown' hgrow _
                     have hX3 := Lib.hid (hap.out v' w2 hown' hgrow))
        go_roundw
        case rel => first | exact ⟨k + 1, _, by omega, by go_num, hX3.out, h61.out⟩ | exact ⟨k + 1, by omega, by go_num, ⟨_, hX3.out⟩, h61.out⟩ | (refine ⟨_, _, _, _, ?_, rfl, rfl, rfl, rfl⟩; exact ⟨k + 1, by omega, by go_num, ⟨_, hX3.out⟩, h61.out⟩)
        case measure => simp [intOf]; omega
    · have hk' : k = n := by omega
      subst hk'
      obtain ⟨Aw, cw, rfl, L⟩ := hT.wds (by omega)
      have hbel := hT.below
      have hlen := hT.len
      have his := hT.is_
      have hfn := fun h4 => firnum_of (from' := fr) (by rw [← hn.out]; exact his) (hlen.trans hn.out) hvr.out (by rw [← hn.out]; exact h4) (by rw [← hn.out]; exact h60) fr9.out
      obtain ⟨nD, hnD⟩ : ∃ nD, nD = D.length := ⟨_, rfl⟩
      rw [← hnD] at hlen ⊢
      subst hlen
      replace hT := Lib.hid hT
      replace his := Lib.hid his
      replace h60 := Lib.hid h60
      replace hnD := Lib.hid hnD
      by_cases h4 : nD ≤ 4
      · have hfn := hfn h4
        rcases hfn with ⟨f2, f3⟩ | ⟨A', M', hm', _⟩ | ⟨_, hF, p, p1, hN⟩
        · obtain ⟨⟨F1, F2⟩, hF⟩ : ∃ R, firR D (fr : Nat) = R := ⟨_, rfl⟩
          obtain ⟨⟨N1, N2, N3⟩, hN⟩ : ∃ R, numR D = R := ⟨_, rfl⟩
          rw [hF] at f2
          rw [hN] at f3
          simp only [] at f2 f3
          subst f2 f3
          replace hF := Lib.hid hF
          replace hN := Lib.hid hN
          have K := Lib.hid (first_is cw L hnD.out hF.out)
          go_wp2_with fail
          refine K.out.mono ?_
          rintro e X1 ⟨rfl, hb1⟩
          clear K
          replace L := L.upp hb1
          replace hbel := bel_trans hbel hb1
          have K := Lib.hid (number_is cw L hnD.out hN.out)
          go_wp2_with fail
          refine K.out.mono ?_
          rintro e X2 ⟨rfl, hb2⟩
          clear K
          replace hbel := bel_trans hbel hb2
          go_wp2_with fail
          refine (awake_any _).mono ?_
          rintro e XA ⟨rfl, hbA⟩
          replace hbel := bel_trans hbel hbA
          go_wp2
          go_ret
          exact ⟨rfl, hbel⟩
        · exfalso; rw [hm.out] at hm'; cases hm'
        · have hp0 : (0 : Int) < (p : Int) := by omega
          replace hF := Lib.hid hF
          replace hN := Lib.hid hN
          have K := Lib.hid (first_is cw L hnD.out hF.out)
          go_wp2_with fail
          refine K.out.mono ?_
          rintro e X1 ⟨rfl, hb1⟩
          clear K
          replace L := L.upp hb1
          replace hbel := bel_trans hbel hb1
          have K := Lib.hid (number_is cw L hnD.out hN.out)
          go_wp2_with fail
          refine K.out.mono ?_
          rintro e X2 ⟨rfl, hb2⟩
          clear K
          replace hbel := bel_trans hbel hb2
          go_wp2_with fail
          refine (awake_any _).mono ?_
          rintro e XA ⟨rfl, hbA⟩
          replace hbel := bel_trans hbel hbA
          go_wp2
          go_ret
          exact ⟨rfl, hbel⟩
      · clear hfn
        go_wp2_with fail
        refine (awake_any _).mono ?_
        rintro e XA ⟨rfl, hbA⟩
        replace hbel := bel_trans hbel hbA
        go_wp2
        go_ret
        exact ⟨rfl, hbel⟩

set_option maxRecDepth 100000 in
set_option maxHeartbeats 8000000 in
/-- The rounds meet. -/
theorem some_ (A : Option Addr) (c : Nat) (l : List Rd) (hour : Nat) (w : World) (h : Rds w w.heap.size A l) (hh9 : hour ≤ 4294967295) (hl : ¬ 40 < l.length) (hv : validR l = true) (P M : Nat) (hm : meetN l l.length = some (P, M)) :
    Calls Try.prog 17 #[.slice A l.length c, .int .u32 hour] w fun e w' => e = .returned (.bool true) ∧ Below w.heap.size w w' := by
  have hL := Long_any A c l.length w h.1
  rw [decide_eq_false hl] at hL
  have hvr := validR_iff.1 hv
  have c49 : ∀ W, Below w.heap.size w W → _ := fun W (hb : Below w.heap.size w W) => (Meet_any w.heap.size A c l W (h.below hb) hb.size).mono fun e w' (hh : e = .returned (M3 (meetR l)) ∧ Below W.heap.size W w') => And.intro hh.1 (bel_trans hb hh.2)
  have c61 : ∀ W, Below w.heap.size w W → Calls Try.prog 61 #[.slice A l.length c] W fun e w' => e = .returned (.bool true) ∧ Below w.heap.size w w' := fun W hb =>
    (AreRounds_ref w.heap.size A c l W (h.below hb) hb.size).mono fun e w' ⟨he, hb'⟩ => ⟨by rw [he, hv], bel_trans hb hb'⟩
  replace c61 := c61 w (Below.refl _ _)
  rw [meetR_some hv hm] at c49
  obtain ⟨hmet, hin⟩ := (meetN_spec hvr l.length (Nat.le_refl _)).1 P M hm
  have c51 : ∀ W, Below w.heap.size w W → Calls Try.prog 51 #[.slice A l.length c] W fun e w' => e = .returned (M3 (0, 0, 5)) ∧ Below w.heap.size w w' := fun W hb =>
    (Never_any w.heap.size A c l W (h.below hb) hb.size).mono fun e w' ⟨r, hr, he, hb'⟩ => by
      have := never_some hv hm hr
      subst this
      exact ⟨he, bel_trans hb hb'⟩
  obtain ⟨top, htop⟩ : ∃ top : Nat, top = 1000000000000000000 := ⟨_, rfl⟩
  have hMt : M ≤ top := by rw [htop]; exact hmet.top
  have ht9 : 8 * top ≤ 9223372036854775807 := by omega
  have ht8 : 1000000000 ≤ top := by omega
  have hPM := hmet.lt
  have c55 : ∀ W, Below w.heap.size w W → Calls Try.prog 55 #[.slice A l.length c, .int .i64 (P : Nat)] W fun e w' => e = .returned (.tuple #[.bool true, .int .i64 0]) ∧ Below w.heap.size w w' := fun W hb =>
    (Hits_any w.heap.size A c l (P : Nat) W (h.below hb) hb.size (by omega)).mono fun e w' ⟨he, hb'⟩ => ⟨by rw [he, hits_yes hv hm P (Nat.mod_eq_of_lt hPM)], bel_trans hb hb'⟩
  unfold M3 at c49 c51
  simp only [] at c49 c51
  have h63 := h.1
  have hn6 := hvr.1
  obtain ⟨i24, ji, jz0, jz1, jz2⟩ := info_parts info24
  replace ji := Lib.hid ji
  replace jz0 := Lib.hid jz0
  replace jz1 := Lib.hid jz1
  replace jz2 := Lib.hid jz2
  obtain ⟨fr, hfr⟩ : ∃ fr : Nat, fr = hour % 900000000 := ⟨_, rfl⟩
  have hmod : ((hour : Nat) : Int) % 900000000 = (fr : Int) := by omega
  have hmodt : ((hour : Nat) : Int).tmod 900000000 = (fr : Int) := by rw [Int.tmod_eq_emod_of_nonneg (by omega)]; exact hmod
  have fr9 := Lib.hid (show fr ≤ 1000000000 by omega)
  have fr9' : fr ≤ 900000000 := by omega
  have w0 : IntKind.i64.wrap (hour : Int) = (hour : Int) := IntWalk.i64_in _ (by omega)
  clear hfr
  obtain ⟨n, hn⟩ : ∃ n, n = l.length := ⟨_, rfl⟩
  rw [← hn] at h63 hL c61 c49 c51 c55 hn6 ⊢
  replace hn := Lib.hid hn
  replace hL := Lib.hid hL
  replace hl := Lib.hid hl
  replace c49 := Lib.hid c49
  replace c61 := Lib.hid c61
  replace hv := Lib.hid hv
  replace hvr := Lib.hid hvr
  replace hm := Lib.hid hm
  replace h := Lib.hid h
  replace c51 := Lib.hid c51
  replace c55 := Lib.hid c55
  replace hmet := Lib.hid hmet
  replace hin := Lib.hid hin
  replace htop := Lib.hid htop
  have P0 : ¬ ((P : Int) < 0) := by omega
  have M1 : ¬ ((M : Int) < 1) := by omega
  have PM : ¬ ((M : Int) ≤ (P : Int)) := by omega
  obtain ⟨dd', hdd⟩ : ∃ d : Int, d = (P : Int) - fr := ⟨_, rfl⟩
  have r1b := Int.lt_tmod_of_pos dd' (show (0 : Int) < (M : Int) by omega)
  have r1c := Int.tmod_lt_of_pos dd' (show (0 : Int) < (M : Int) by omega)
  obtain ⟨r1, hr1⟩ : ∃ r, dd'.tmod (M : Int) = r := ⟨_, rfl⟩
  rw [hr1] at r1b r1c
  obtain ⟨s1, hs1⟩ : ∃ s : Int, s = r1 + M := ⟨_, rfl⟩
  have r2b := Int.lt_tmod_of_pos s1 (show (0 : Int) < (M : Int) by omega)
  have r2c := Int.tmod_lt_of_pos s1 (show (0 : Int) < (M : Int) by omega)
  obtain ⟨r2, hr2⟩ : ∃ r, s1.tmod (M : Int) = r := ⟨_, rfl⟩
  rw [hr2] at r2b r2c
  obtain ⟨nx', hnx⟩ : ∃ s : Int, s = (fr : Int) + r2 := ⟨_, rfl⟩
  have v1 : IntKind.i64.wrap ((P : Int) - (fr : Int)) = dd' := by rw [hdd]; exact IntWalk.i64_in _ (by omega)
  have v2 : IntKind.i64.wrap (r1 + (M : Int)) = s1 := by rw [hs1]; exact IntWalk.i64_in _ (by omega)
  have v3 : IntKind.i64.wrap ((fr : Int) + r2) = nx' := by rw [hnx]; exact IntWalk.i64_in _ (by omega)
  have v4 : ((((P : Int) - fr).tmod M + M).tmod M) = r2 := by rw [← hdd, hr1, ← hs1, hr2]
  have v5 : (fr : Int) + r2 = nx' := hnx.symm
  have v6 := Lib.hid (show (fr : Int) + ((((P : Int) - fr).tmod M + M).tmod M) = nx' by rw [v4, v5])
  have v7 : (P : Int) - (fr : Int) = dd' := hdd.symm
  have v8 : r1 + (M : Int) = s1 := hs1.symm
  clear v4
  have x1 : IntKind.i64.wrap dd' = dd' := IntWalk.i64_in _ (by omega)
  have x2 : IntKind.i64.wrap r1 = r1 := IntWalk.i64_in _ (by omega)
  have x3 : IntKind.i64.wrap s1 = s1 := IntWalk.i64_in _ (by omega)
  have x4 : IntKind.i64.wrap r2 = r2 := IntWalk.i64_in _ (by omega)
  have x5 : IntKind.i64.wrap nx' = nx' := IntWalk.i64_in _ (by omega)
  have hMi : ¬ ((M : Int) = 0) := by omega
  have hMn : ¬ (M = 0) := by omega
  have hM1 : (1 : Int) ≤ (M : Int) := by omega
  replace hdd := Lib.hid hdd
  replace hs1 := Lib.hid hs1
  replace hnx := Lib.hid hnx
  replace r1b := Lib.hid r1b
  replace r1c := Lib.hid r1c
  replace r2b := Lib.hid r2b
  replace r2c := Lib.hid r2c
  go_enter Try.func17, Try.ntmps17
  go_wp2_with fail
  refine hL.out.mono ?_
  rintro e w' ⟨rfl, rfl⟩
  go_wp2_with fail
  refine c61.out.mono ?_
  rintro e w1 ⟨rfl, hb1⟩
  have K := Lib.hid (c49.out w1 hb1)
  go_wp2_with fail
  refine K.out.mono ?_
  rintro e w2 ⟨rfl, hb2⟩
  clear K
  have K := Lib.hid (c51.out w2 hb2)
  go_wp2_with fail
  refine K.out.mono ?_
  rintro e w3 ⟨rfl, hb3⟩
  clear K
  have K := Lib.hid (c55.out w3 hb3)
  go_wp2_with fail
  refine K.out.mono ?_
  rintro e XL ⟨rfl, hbel⟩
  clear K
  clear hb1 hb2 hb3
  have hT0 := Lib.hid (tpW_zero w XL l hbel)
  clear hbel
  go_wp2
  go_loopw [15, 108] (fun v i X => ∃ (k : Nat) (D : List Wc), k ≤ n ∧ i = .int .i64 (k : Nat) ∧ TpW w l k v D X ∧ ∀ j, j < k → (rd l j).e ≤ 60) (fun _ i _ => n - (intOf i).toNat)
  case atStart => exact ⟨0, [], Nat.zero_le _, rfl, hT0.out, fun j hj => absurd hj (Nat.not_lt_zero _)⟩
  case round =>
    clear hT0
    obtain ⟨k, D, hk, rfl, hT, h60⟩ := hrel
    by_cases hlt : k < n
    · have hq := h.out.below hT.below
      obtain ⟨b, o, rfl, hbB, e0, e1⟩ := hq.at_ k (hn.out ▸ hlt)
      obtain ⟨a, ha⟩ : ∃ a, a = (rd l k).a := ⟨_, rfl⟩
      obtain ⟨ev, he⟩ : ∃ e, e = (rd l k).e := ⟨_, rfl⟩
      rw [← ha] at e0
      rw [← he] at e1
      have hb1 := ba1 wr (.cells #[.int .i64 a, .int .i64 ev] 68)
      have hx : Bx2 _ _ _ := Bx2.new wr ⟨a, ev⟩
      have z0 := hx.c0
      have z1 := hx.c1
      simp only [] at z0 z1
      by_cases hbig : 60 < ev
      · have hbel := bel_trans hT.below hb1
        replace hT := Lib.hid hT
        replace hx := Lib.hid hx
        replace hq := Lib.hid hq
        replace ha := Lib.hid ha
        replace he := Lib.hid he
        replace h60 := Lib.hid h60
        replace hb1 := Lib.hid hb1
        go_wp2_with fail
        refine (awake_any _).mono ?_
        rintro e XA ⟨rfl, hbA⟩
        replace hbel := bel_trans hbel hbA
        go_wp2
        go_ret
        exact ⟨rfl, hbel⟩
      · have hT1 := hT.up hb1
        have hT2 := hT1.up (ba1 (wr.alloc (.cells #[.int .i64 a, .int .i64 ev] 68)) (.cells #[.int .i64 a] 3))
        have hT3 := hT2.up (ba1 ((wr.alloc (.cells #[.int .i64 a, .int .i64 ev] 68)).alloc (.cells #[.int .i64 a] 3)) (.cells #[.int .i64 ev, .slice (some ⟨wr.heap.size + 1, 0, none⟩) 1 1] 24))
        have hgb : (((wr.alloc (.cells #[.int .i64 a, .int .i64 ev] 68)).alloc (.cells #[.int .i64 a] 3)).alloc (.cells #[.int .i64 ev, .slice (some ⟨wr.heap.size + 1, 0, none⟩) 1 1] 24)).heap[wr.heap.size + 1]? = some (.cells #[.int .i64 (rd l k).a] 3 (0, 0)) := by
          rw [← ha]
          have e1 := heap_alloc_new (wr.alloc (.cells #[.int .i64 a, .int .i64 ev] 68)) (.cells #[.int .i64 a] 3)
          have e2 : (wr.alloc (.cells #[.int .i64 a, .int .i64 ev] 68)).heap.size = wr.heap.size + 1 := by simp
          rw [e2] at e1
          exact ((ba1 ((wr.alloc (.cells #[.int .i64 a, .int .i64 ev] 68)).alloc (.cells #[.int .i64 a] 3)) (.cells #[.int .i64 ev, .slice (some ⟨wr.heap.size + 1, 0, none⟩) 1 1] 24)).block _ (blk_lt e1)).trans e1
        have hnews := wcc_news ((wr.alloc (.cells #[.int .i64 a, .int .i64 ev] 68)).alloc (.cells #[.int .i64 a] 3)) ev (wr.heap.size + 1) a
        rw [show ((wr.alloc (.cells #[.int .i64 a, .int .i64 ev] 68)).alloc (.cells #[.int .i64 a] 3)).heap.size = wr.heap.size + 1 + 1 by simp] at hnews
        have hgw : w.heap.size ≤ wr.heap.size + 1 := by have := hT.below.size; omega
        have hap := fun (v' : Value) (Y : World) (ho : Y.ownsRow w.heap.size 24 2 v' (k + 1) (wvals D ++ wcc ⟨⟨ev, [a]⟩, some ⟨wr.heap.size + 1, 0, none⟩, 1⟩)) hg => hT3.app (v' := v') hgw hgb (by rw [← he, ← ha]; exact ho) hg
        have h61 := Lib.hid (fun (j : Nat) (hj : j < k + 1) => show (rd l j).e ≤ 60 by
          rcases Nat.lt_succ_iff_lt_or_eq.1 hj with h1 | rfl
          · exact h60 j h1
          · rw [← he]; omega)
        have hsz : w.heap.size ≤ wr.heap.size + 1 + 1 + 1 := by omega
        clear hT1 hT2 hgb
        replace hT := Lib.hid hT
        replace hT3 := Lib.hid hT3
        replace hx := Lib.hid hx
        replace hq := Lib.hid hq
        replace ha := Lib.hid ha
        replace he := Lib.hid he
        replace h60 := Lib.hid h60
        replace hb1 := Lib.hid hb1
        replace hnews := Lib.hid hnews
        replace hap := Lib.hid hap
        go_wp2_with (at_builtin
                     refine wpList_append_own _ rfl (.tmp 116) (.tmp 123) 45 rfl w.heap.size 24 i24 (.agg #[.int .i64 0, .slice none 0 0]) 2 32 Try.underlying45 ji.out jz0.out jz1.out jz2.out rfl (by decide) _ _ _ rfl hT3.out.own ⟨wr.heap.size + 1 + 1, 0, none⟩ 1 1 (wcc ⟨⟨ev, [a]⟩, some ⟨wr.heap.size + 1, 0, none⟩, 1⟩) rfl rfl hnews.out (fun u hu => wcc_cell u hu) (by unfold maxLen; omega) (by omega) (by simp; omega) ?_
                     intro v' w2 hown' hgrow _
                     have hX3 := Lib.hid (hap.out v' w2 hown' hgrow))
        go_roundw
        case rel => first | exact ⟨k + 1, _, by omega, by go_num, hX3.out, h61.out⟩ | exact ⟨k + 1, by omega, by go_num, ⟨_, hX3.out⟩, h61.out⟩ | (refine ⟨_, _, _, _, ?_, rfl, rfl, rfl, rfl⟩; exact ⟨k + 1, by omega, by go_num, ⟨_, hX3.out⟩, h61.out⟩)
        case measure => simp [intOf]; omega
    · have hk' : k = n := by omega
      subst hk'
      obtain ⟨Aw, cw, rfl, L⟩ := hT.wds (by omega)
      have hbel := hT.below
      have hlen := hT.len
      have his := hT.is_
      have hfn := fun h4 => firnum_of (from' := fr) (by rw [← hn.out]; exact his) (hlen.trans hn.out) hvr.out (by rw [← hn.out]; exact h4) (by rw [← hn.out]; exact h60) fr9.out
      obtain ⟨nD, hnD⟩ : ∃ nD, nD = D.length := ⟨_, rfl⟩
      rw [← hnD] at hlen ⊢
      subst hlen
      replace hT := Lib.hid hT
      replace his := Lib.hid his
      replace h60 := Lib.hid h60
      replace hnD := Lib.hid hnD
      by_cases h4 : nD ≤ 4
      · have hfn := hfn h4
        rcases hfn with ⟨f2, f3⟩ | ⟨A', M', hm', _, hF, hN⟩ | ⟨hm', _⟩
        · obtain ⟨⟨F1, F2⟩, hF⟩ : ∃ R, firR D (fr : Nat) = R := ⟨_, rfl⟩
          obtain ⟨⟨N1, N2, N3⟩, hN⟩ : ∃ R, numR D = R := ⟨_, rfl⟩
          rw [hF] at f2
          rw [hN] at f3
          simp only [] at f2 f3
          subst f2 f3
          replace hF := Lib.hid hF
          replace hN := Lib.hid hN
          have K := Lib.hid (first_is cw L hnD.out hF.out)
          go_wp2_with fail
          refine K.out.mono ?_
          rintro e X1 ⟨rfl, hb1⟩
          clear K
          replace L := L.upp hb1
          replace hbel := bel_trans hbel hb1
          have K := Lib.hid (number_is cw L hnD.out hN.out)
          go_wp2_with fail
          refine K.out.mono ?_
          rintro e X2 ⟨rfl, hb2⟩
          clear K
          replace hbel := bel_trans hbel hb2
          go_wp2_with fail
          refine (awake_any _).mono ?_
          rintro e XA ⟨rfl, hbA⟩
          replace hbel := bel_trans hbel hbA
          go_wp2
          go_ret
          exact ⟨rfl, hbel⟩
        · rw [hm.out] at hm'
          injection hm' with hm'
          injection hm' with h1 h2
          subst h1 h2
          rw [v6.out] at hF
          replace hF := Lib.hid hF
          replace hN := Lib.hid hN
          have K := Lib.hid (first_is cw L hnD.out hF.out)
          go_wp2_with fail
          refine K.out.mono ?_
          rintro e X1 ⟨rfl, hb1⟩
          clear K
          replace L := L.upp hb1
          replace hbel := bel_trans hbel hb1
          have K := Lib.hid (number_is cw L hnD.out hN.out)
          go_wp2_with fail
          refine K.out.mono ?_
          rintro e X2 ⟨rfl, hb2⟩
          clear K
          replace hbel := bel_trans hbel hb2
          go_wp2_with fail
          refine (awake_any _).mono ?_
          rintro e XA ⟨rfl, hbA⟩
          replace hbel := bel_trans hbel hbA
          go_wp2
          go_ret
          exact ⟨rfl, hbel⟩
        · exfalso; rw [hm.out] at hm'; cases hm'
      · clear hfn
        go_wp2_with fail
        refine (awake_any _).mono ?_
        rintro e XA ⟨rfl, hbA⟩
        replace hbel := bel_trans hbel hbA
        go_wp2
        go_ret
        exact ⟨rfl, hbel⟩

theorem walk (A : Option Addr) (c : Nat) (l : List Rd) (hour : Int) (w : World) (h : Rds w w.heap.size A l) (hh : 0 ≤ hour ∧ hour ≤ 4294967295) :
    Calls Try.prog 17 #[.slice A l.length c, .int .u32 hour] w fun e w' => e = .returned (.bool true) ∧ Below w.heap.size w w' := by
  obtain ⟨h0, rfl⟩ := Int.eq_ofNat_of_zero_le hh.1
  by_cases hl : 40 < l.length
  · exact out A c l h0 w h (.inl hl)
  · cases hv : validR l with
    | false => exact out A c l h0 w h (.inr ⟨hl, hv⟩)
    | true =>
      cases hm : meetN l l.length with
      | none => exact none_ A c l h0 w h (by omega) hl hv hm
      | some s => obtain ⟨P, M⟩ := s; exact some_ A c l h0 w h (by omega) hl hv P M hm

/-! ### the row's step -/
set_option maxRecDepth 100000 in
theorem lifted (os : Os) (started : os.Started) (H : Type) (enc : TypeId × Value → H) :
    ReturnsInHanded {} Try.checked os 17 .any (Rows.topWindowSpec.pre6 enc Try.prog Try.f17 Rows.topWindowRow.domain false) (Rows.topWindowSpec.post enc Try.prog Try.f17 false true false false) := by
  refine returnsInHanded_of_change (C := Try.checked) own started (by kernel_rfl) Try.func17
    (ChangeSpec.witness6 (enc := enc) (C := Try.checked) false ⟨#[], #[.slice none 0 0, .int .u32 0], []⟩ 8 (by kernel_rfl) (by kernel_rfl) (by kernel_rfl) (by kernel_rfl)) ?_
  intro W base args ds gs before hval0 hW hcnd _
  have hval : ∀ (j : Nat) t v, Try.f17.params[j]? = some t → args[j]? = some v → Value.okWide Try.prog W .any base t v := hval0
  have hW' := hW
  obtain ⟨p, q, hA0, hV, rfl, hfz, hnd⟩ := hW
  have hA : DataW.TrodAll enc Try.prog W 0 (fun _ => true) true Try.f17.params.toList args.toList ds p := hA0
  rw [Try.params17] at hA hval
  obtain ⟨v0, vs0, d0, ds0, p0, q0, hargs, rfl, rfl, h0, r0⟩ := trodAll_cons hA
  obtain ⟨v1, vs1, d1, ds1, p1, q1, rfl, rfl, rfl, h1, r1⟩ := trodAll_cons r0
  obtain ⟨rfl, rfl, rfl⟩ := trodAll_nil r1
  obtain rfl : args = #[v0, v1] := by cases args; simp_all
  obtain ⟨rfl, rfl⟩ := trodVars_none hV
  have k0 := h0
  have lt0 : ∀ x ∈ p0, x.block < W.heap.size := by obtain ⟨m, hm⟩ := k0; exact DataW.trod_lt m _ _ _ hm
  obtain ⟨a0, len0, cap0, T0, rfl, rfl, w0⟩ : ∃ A len cap D, v0 = .slice A len cap ∧ D.length = len ∧ Rds W W.heap.size A D := by
    obtain ⟨s0, s1, s2, rfl⟩ := okWide_slice Try.underlying50 (hval 0 50 v0 rfl rfl)
    obtain ⟨fuel, hf⟩ := h0
    exact rds_of (by simpa [Value.cells] using hf)
  obtain ⟨a1, rfl, rfl, rfl, w1⟩ := open_int Try.underlying56 (hval 1 56 v1 rfl rfl) h1
  clear hA0 hval0
  refine (walk a0 cap0 T0 a1 W w0 (u32_range w1)).mono fun e W' ⟨he, bel⟩ => ?_
  subst he
  exact ⟨_, rfl, _, _, _, [], _, [], hW', trodAll_mk1 (shut_bool Try.underlying4 _), (trodAll_cons_mk (Below.trod laidOut (by kernel_rfl) (of_decide_eq_true (by kernel_rfl)) k0 bel lt0) (trodAll_cons_mk (shut_int Try.underlying56 w1) trodAll_mk0)), rfl, bel.frame _, fun h => by cases h⟩

theorem over : Rows.topWindowRow.holds Try.pinned (OpenSpec.ofChange Rows.topWindowSpec) :=
  OpenClaim.holds_of_wide 17 Try.f17 rfl rfl rfl rfl rfl rfl rfl ⟨rfl, rfl, rfl, rfl, rfl⟩ rfl rfl rfl rfl rfl (by kernel_rfl) Try.func17 (by kernel_rfl)
    (of_decide_eq_true (by kernel_rfl)) (by unfold Func.isWrapper; first | (rw [if_pos (by decide +kernel)]; kernel_rfl) | (rw [if_neg (by decide +kernel)]; exact ⟨rfl, rfl⟩))
    (fun os started H enc _ => lifted os started H enc)

/-- The statement. -/
theorem proved : Rows.TopWindowSaid := over
end Go.Proofs.Ytlnpnfjdcnijhaa.lawTopWindow
