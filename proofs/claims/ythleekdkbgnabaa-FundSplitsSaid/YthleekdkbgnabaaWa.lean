/-
  slices.Clone, a greater claim, a claimant checked: the program's functions; the difference of two ratios: the specification's.
-/
import Derived.Test.YthleekdkbgnabaaMathE
import Derived.Test.YthleekdkbgnabaaS
namespace Go.Proofs.Ythleekdkbgnabaa
open Go.RowKit Go.Deep M
set_option linter.unusedVariables false
set_option linter.unusedSimpArgs false

/-- A block as a list. -/
theorem row_bl {X : World} {g n : Nat} {f : Nat → Int} {l' : List Int} (h : BlI X g n f) (hn : l'.length = n) (h8 : n ≤ 1000) (he : ∀ i, i < n → el l' i = f i) : Row X X.heap.size (some ⟨g, 0, none⟩) l' :=
  ⟨by omega, fun _ => ⟨g, 0, rfl, h.lt, fun i hi => by rw [Nat.zero_add, h.cell (by omega), he i (by omega)]⟩⟩

set_option maxHeartbeats 2000000 in
set_option maxRecDepth 100000 in
theorem Clone_any (B : Nat) (A : Option Addr) (c : Nat) (l : List Int) (w : World) (h : Row w B A l) (hB : B ≤ w.heap.size) (hl : 1 ≤ l.length ∧ l.length ≤ 1000) :
    Calls Try.prog 103 #[.slice A l.length c] w fun e w' => ∃ g cap, e = .returned (.slice (some ⟨g, 0, none⟩) l.length cap) ∧ w.heap.size ≤ g ∧ Below w.heap.size w w' ∧ BlI w' g l.length (el l) := by
  obtain ⟨i3, ji, jz0, jz1, jz2⟩ := info_parts info3
  replace ji := Lib.hid ji
  replace jz0 := Lib.hid jz0
  replace jz1 := Lib.hid jz1
  replace jz2 := Lib.hid jz2
  obtain ⟨b, o, rfl, _⟩ := h.at_ 0 (by omega)
  have hnil := fun w => Lib.run_eql_slice_nil (P := Try.prog) w 65 3 (some ⟨b, o, none⟩) l.length c 0 0 Try.underlying65
  have ho := empty_own w 3
  have hb0 : Below w.heap.size w (w.alloc (.cells #[] 3)) := (Below.refl _ _).alloc (Nat.le_refl _) _
  have hnews : ∀ j u, (vals l)[j]? = some u → (w.alloc (.cells #[] 3)).cell? ((⟨b, o, none⟩ : Addr).add j) = some u := fun j u hu => by
    obtain ⟨hj, rfl⟩ := news_get hu
    obtain ⟨b', o', e, hb, hc⟩ := (h.below (hb0.mono hB)).at_ j hj
    cases e
    rw [add_pl]; exact hc
  have hbk := fun X v (hX : World.ownsRow X w.heap.size 3 1 v l.length (vals l)) => own_blk hX (by omega)
  replace hbk := Lib.hid hbk
  replace hnews := Lib.hid hnews
  replace ho := Lib.hid ho
  replace h := Lib.hid h
  obtain ⟨hl1, hl2⟩ := hl
  go_enter Try.func103, Try.ntmps103
  go_wp2_with (at_builtin; refine wpList_append_own _ rfl (.tmp 5) (.tmp 6) 65 rfl w.heap.size 3 i3 (.int .i64 0) 1 8 Try.underlying65 ji.out jz0.out jz1.out jz2.out rfl (by decide) _ _ _ rfl ho.out ⟨b, o, none⟩ l.length c (vals l) rfl (by rw [vals_len, Nat.mul_one]) hnews.out (fun u hu => by obtain ⟨_, _, rfl⟩ := List.mem_map.1 hu; rfl) (by unfold maxLen; omega) (by omega) (by simp) ?_; intro v' w1 hown' hgrow _)
  have hbb := below_grown hgrow (B := w.heap.size) (by simp) (fun k e => by cases e; exact Nat.le_refl _)
  have hown2 : w1.ownsRow w.heap.size 3 1 v' l.length (vals l) := by simpa using hown'
  obtain ⟨g, cap, rfl, hcap, hg, hbl⟩ := hbk.out w1 v' hown2
  clear hown' hgrow hown2
  have hf1 := Lib.hid (hb0.trans hbb)
  replace hbb := Lib.hid hbb
  replace hbl := Lib.hid hbl
  go_wp2
  go_ret
  exact ⟨g, cap, rfl, hg, hf1.out, hbl.out⟩

set_option maxHeartbeats 2000000 in
set_option maxRecDepth 100000 in
theorem greater_any (B : Nat) (A : Option Addr) (c : Nat) (l : List Int) (j : Nat) (w : World) (h : Row w B A l) (hB : B ≤ w.heap.size) (hl : l.length ≤ 1000) (hj : j < l.length) (hx : okC (el l j)) :
    Calls Try.prog 77 #[.slice A l.length c, .int .i64 j] w fun e w' => ∃ g cap, e = .returned (.slice (some ⟨g, 0, none⟩) (incL l j).length cap) ∧ Below w.heap.size w w' ∧ Row w' w'.heap.size (some ⟨g, 0, none⟩) (incL l j) := by
  have kc := Clone_any B A c l w h hB (by omega)
  rw [incL_len]
  have hfin := fun X g (hX : BlI X g l.length (fun i => if i = j then el l j + 1 else el l i)) => row_bl hX (incL_len l j) hl (fun i hi => incL_at l j i hi)
  generalize l.length = n at *
  unfold okC at hx
  have w1 : IntKind.i64.wrap (el l j + 1) = el l j + 1 := IntWalk.i64_in _ (by omega)
  have hjn : (j : Int) < (n : Int) := by omega
  replace kc := Lib.hid kc
  replace hfin := Lib.hid hfin
  replace h := Lib.hid h
  go_enter Try.func77, Try.ntmps77
  go_wp2_with fail
  refine kc.out.mono ?_
  rintro _ X ⟨g, cap, rfl, hg, hb, hbl⟩
  have c0 := hbl.cell hj
  have f0 := hbl.fz j
  have l0 := hbl.lt
  have hs := hbl.set hj (el l j + 1)
  have hr := Lib.hid (hfin.out _ g hs)
  have hb2 := Lib.hid (hb.setCell (p := ⟨g, j, none⟩) hg (.int .i64 (el l j + 1)))
  replace hs := Lib.hid hs
  replace hb := Lib.hid hb
  replace hbl := Lib.hid hbl
  go_wp2
  go_ret
  exact ⟨g, cap, rfl, hb2.out, hr.out⟩

set_option maxRecDepth 100000 in
set_option maxHeartbeats 2000000 in
theorem cClaim_ok (B : Nat) (A : Option Addr) (c : Nat) (l : List Int) (e : Int) (w : World) (h : Row w B A l) (hk : okE l e) (k j : Nat) (hk1 : k < 4) (hj : j < l.length) :
    Calls Try.prog 76 #[.slice A l.length c, .int .i64 e, .int .i64 (k + 1 : Nat), .int .i64 j] w fun r w' => r = .returned (.tuple #[.slice A l.length c, fnV (109 + k), .int .i64 0]) ∧ Below w.heap.size w w' := by
  have k1 := cRule_ok B A c l e w h hk k hk1
  have h63 := h.1
  generalize l.length = n at *
  obtain ⟨q, hq⟩ : ∃ q : Int, q = (k + 1 : Nat) := ⟨_, rfl⟩
  rw [← hq] at k1 ⊢
  replace hq := Lib.hid hq
  unfold fnV at *
  have hjn : (j : Int) < (n : Int) := by omega
  replace k1 := Lib.hid k1
  replace h := Lib.hid h
  replace hk := Lib.hid hk
  go_enter Try.func76, Try.ntmps76
  go_wp2_with fail
  refine k1.out.mono ?_
  rintro _ X ⟨rfl, hb⟩
  replace hb := Lib.hid hb
  go_wp2
  exact bodyPost_ret (by simp [results, Try.results76, go_sem]) rfl ⟨rfl, hb.out⟩
set_option maxRecDepth 100000 in
set_option maxHeartbeats 2000000 in
theorem cClaim_bad (B : Nat) (A : Option Addr) (c : Nat) (l : List Int) (e q j : Int) (w : World) (h : Row w B A l) (hk : ¬ okT l e q j) :
    Calls Try.prog 76 #[.slice A l.length c, .int .i64 e, .int .i64 q, .int .i64 j] w fun r w' => r = .returned (.tuple #[.slice none 0 0, .nilFunc, .int .i64 (errT l e q j)]) ∧ Below w.heap.size w w' := by
  have h63 := h.1
  rcases errT_bad hk with ⟨hb, he⟩ | ⟨hs, hj, he⟩
  · rw [he]
    have k1 := cRule_bad B A c l e q w h hb
    have hne := errS_ne hb
    generalize l.length = n at *
    generalize errS l e q = E at *
    have hn : (E != 0) = true := by simp; omega
    replace k1 := Lib.hid k1
    replace h := Lib.hid h
    replace hk := Lib.hid hk
    replace hb := Lib.hid hb
    replace he := Lib.hid he
    replace hne := Lib.hid hne
    go_enter Try.func76, Try.ntmps76
    go_wp2_with fail
    refine k1.out.mono ?_
    rintro _ X ⟨rfl, hbX⟩
    replace hbX := Lib.hid hbX
    go_wp2
    exact bodyPost_ret (by simp [results, Try.results76, go_sem]) rfl ⟨rfl, hbX.out⟩
  · rw [he]
    obtain ⟨k, hk4, rfl⟩ := okS_nat hs
    have k1 := cRule_ok B A c l e w h hs.1 k hk4
    generalize l.length = n at *
    obtain ⟨q, hq⟩ : ∃ q : Int, q = (k + 1 : Nat) := ⟨_, rfl⟩
    rw [← hq] at k1 ⊢
    replace hq := Lib.hid hq
    unfold fnV at *
    replace k1 := Lib.hid k1
    replace h := Lib.hid h
    replace hk := Lib.hid hk
    replace hs := Lib.hid hs
    replace he := Lib.hid he
    rcases hj with hj | ⟨hj, hj2⟩
    all_goals
      go_enter Try.func76, Try.ntmps76
      go_wp2_with fail
      refine k1.out.mono ?_
      rintro _ X ⟨rfl, hbX⟩
      replace hbX := Lib.hid hbX
      go_wp2
      exact bodyPost_ret (by simp [results, Try.results76, go_sem]) rfl ⟨rfl, hbX.out⟩

/-- Every rule, told by its number. -/
theorem rule_any (B : Nat) (A : Option Addr) (c : Nat) (l : List Int) (e : Int) (w : World) (h : Row w B A l) (hB : B ≤ w.heap.size) (hk : okE l e) (k : Nat) (hk1 : k < 4) :
    Calls Try.prog (109 + k) #[.slice A l.length c, .int .i64 e] w fun r w' => ∃ g, r = .returned (.slice (some ⟨g, 0, none⟩) l.length l.length) ∧ AwW w l.length g (shR l e (k + 1 : Nat)) w' := by
  rcases (show k = 0 ∨ k = 1 ∨ k = 2 ∨ k = 3 by omega) with rfl | rfl | rfl | rfl
  · rw [shR1]; exact inProp_any B A c l e w h hB hk
  · rw [shR2]; exact eqAw_any B A c l e w h hB hk
  · rw [shR3]; exact eqLoss_any B A c l e w h hB hk
  · rw [shR4]; exact old_any B A c l e w h hB hk
theorem sh_small {l : List Int} {e q : Int} (h : okE l e) {i : Nat} (hi : i < l.length) : smallR (shR l e q i) := by
  have := shR_b (q := q) h.1 h.2 hi
  unfold smallR; omega

set_option maxRecDepth 100000 in
set_option maxHeartbeats 1000000 in
theorem minus_ref (a b : Rt) (w : World) (h1 : smallR a) (h2 : smallR b) : Calls Try.prog 79 #[rtV a, rtV b] w fun e w' => e = .returned (rtV (miR a b)) ∧ Below w.heap.size w w' := by
  have hT0 := Two.new w a b
  obtain ⟨⟨a1, a2⟩, a3, a4⟩ := h1
  obtain ⟨⟨b1, b2⟩, b3, b4⟩ := h2
  have p1 := prod_b (a := a.n) (b := b.d) (x := 100000000) (y := 100000000) (by omega) (by omega) (by omega)
  have p2 := prod_b (a := b.n) (b := a.d) (x := 100000000) (y := 100000000) (by omega) (by omega) (by omega)
  have p3 := prod_b (a := a.d) (b := b.d) (x := 100000000) (y := 100000000) (by omega) (by omega) (by omega)
  have p4 : 1 ≤ a.d * b.d := by
    have := Int.mul_le_mul_of_nonneg_left (show (1 : Int) ≤ b.d by omega) (show (0 : Int) ≤ a.d by omega)
    omega
  obtain ⟨u, hu⟩ : ∃ u, u = a.n * b.d := ⟨_, rfl⟩
  obtain ⟨v, hv⟩ : ∃ u, u = b.n * a.d := ⟨_, rfl⟩
  obtain ⟨z, hz⟩ : ∃ u, u = a.d * b.d := ⟨_, rfl⟩
  have kr := fun X => Ratio_ref (u - v) z X (by omega) (by omega)
  have hres : miR a b = mk (u - v) z := by unfold miR; rw [hu, hv, hz]
  rw [hres]
  rw [← hu] at p1
  rw [← hv] at p2
  rw [← hz] at p3 p4
  have w1 : IntKind.i64.wrap (a.n * b.d) = u := by rw [← hu]; exact IntWalk.i64_in _ (by omega)
  have w2 : IntKind.i64.wrap (b.n * a.d) = v := by rw [← hv]; exact IntWalk.i64_in _ (by omega)
  have w3 : IntKind.i64.wrap (a.d * b.d) = z := by rw [← hz]; exact IntWalk.i64_in _ (by omega)
  obtain ⟨s, hs⟩ : ∃ s, s = u - v := ⟨_, rfl⟩
  rw [← hs] at kr
  have w4 : IntKind.i64.wrap (u - v) = s := by rw [← hs]; exact IntWalk.i64_in _ (by omega)
  obtain ⟨Q, hQ⟩ : ∃ Q, Q = mk (u - v) z := ⟨_, rfl⟩
  rw [← hs] at hQ
  rw [show mk (u - v) z = Q by rw [hQ, hs]]
  rw [← hQ] at kr
  unfold rtV at *
  obtain ⟨Y0, hY0⟩ : ∃ Y, Y = (w.alloc (.cells #[.int .i64 a.n, .int .i64 a.d] 37)).alloc (.cells #[.int .i64 b.n, .int .i64 b.d] 37) := ⟨_, rfl⟩
  rw [← hY0] at hT0
  have hs0 : Y0.heap.size = w.heap.size + 2 := by rw [hY0]; simp
  have hr := Bxr.new Y0 0 0
  have hT := hT0.up (ba1 Y0 (.cells #[.int .i64 0, .int .i64 0] 37))
  obtain ⟨Y, hY⟩ : ∃ Y, Y = Y0.alloc (.cells #[.int .i64 0, .int .i64 0] 37) := ⟨_, rfl⟩
  rw [← hY] at hr hT
  rw [hs0] at hr
  rw [hY0] at hY
  have c0 := hT.a.c0
  have c1 := hT.a.c1
  have c2 := hT.b.c0
  have c3 := hT.b.c1
  have hYY := Lib.hid hY
  rw [hY] at c0 c1 c2 c3
  have k1 := Lib.hid (kr Y)
  clear kr hY hY0 hT0
  replace hs0 := Lib.hid hs0
  have hTT := Lib.hid hT
  have hrr := Lib.hid hr
  clear hT hr
  replace hu := Lib.hid hu
  replace hv := Lib.hid hv
  replace hz := Lib.hid hz
  replace hs := Lib.hid hs
  replace hQ := Lib.hid hQ
  replace hres := Lib.hid hres
  go_enter Try.func79, Try.ntmps79
  go_wp2_with fail
  rw [← hYY.out]
  refine k1.out.mono ?_
  rintro _ X ⟨rfl, hb⟩
  have hT := hTT.out.up hb
  have hr := hrr.out.up hb
  have r0 := hr.c0
  have r1 := hr.c1
  have f0 := hr.fz 0
  have f1 := hr.fz 1
  have hr2 := hr.set Q.n Q.d
  have d0 := hr2.c0
  have d1 := hr2.c1
  have hend := Lib.hid (set2_below hT.below (show w.heap.size ≤ w.heap.size + 2 by omega) (.int .i64 Q.n) (.int .i64 Q.d))
  replace hT := Lib.hid hT
  replace hr := Lib.hid hr
  replace hr2 := Lib.hid hr2
  replace hb := Lib.hid hb
  go_wp2
  exact bodyPost_ret (v := .agg #[.int .i64 Q.n, .int .i64 Q.d]) (by simp [results, Try.results79, go_sem, d0, d1]) rfl ⟨rfl, hend.out⟩
end Go.Proofs.Ythleekdkbgnabaa
