/-
  By how much less a claimant gets than the two in its place: the specification's function.
-/
import Derived.Test.YthleekdkbgnabaaXc
import Derived.Test.YthleekdkbgnabaaT
import Derived.Deep.DeepCutAuto
namespace Go.Proofs.Ythleekdkbgnabaa
open Go.RowKit Go.Deep M
set_option linter.unusedVariables false
set_option linter.unusedSimpArgs false

theorem mi_b {a b : Rt} (h1 : wideR a) (h2 : smlR b) : (-1000000000000000000 ≤ (miR a b).n ∧ (miR a b).n ≤ 1000000000000000000) ∧ 1 ≤ (miR a b).d ∧ (miR a b).d ≤ 1000000000000000000 := by
  obtain ⟨⟨a1, a2⟩, a3, a4⟩ := h1
  obtain ⟨⟨b1, b2⟩, b3, b4⟩ := h2
  have p1 := prod_b (a := a.n) (b := b.d) (x := 1000000000000) (y := 10000) (by omega) (by omega) (by omega)
  have p2 := prod_b (a := b.n) (b := a.d) (x := 10000000) (y := 100000000) (by omega) (by omega) (by omega)
  have p3 := prod_b (a := a.d) (b := b.d) (x := 100000000) (y := 10000) (by omega) (by omega) (by omega)
  have p4 := pos_mul a3 b3
  have r1 := mk_nb (n := a.n * b.d - b.n * a.d) (B := 1000000000000000000) p4 (by omega)
  have r2 := mk_pos (n := a.n * b.d - b.n * a.d) p4
  have r3 := mk_dle (n := a.n * b.d - b.n * a.d) p4
  unfold miR
  exact ⟨r1, r2, by omega⟩

set_option maxRecDepth 100000 in
set_option maxHeartbeats 8000000 in
theorem SplitR_b (B b o c : Nat) (l : List Int) (e a : Int) (w : World) (h : Row w B (some ⟨b, o, none⟩) l) (hB : B ≤ w.heap.size) (hk : okE l e) (k j : Nat) (hk1 : k < 4) (hj : j < l.length) (ha : 0 ≤ a ∧ a ≤ el l j) (h8 : l.length ≠ 8) (hcap : l.length ≤ c) (hc9 : c ≤ 9223372036854775807) (hcj : ¬ c = j + 1) :
    Calls Try.prog 44 #[.slice (some ⟨b, o, none⟩) l.length c, .int .i64 e, .int .i64 (k + 1 : Nat), .int .i64 j, .int .i64 a] w fun r w' => r = .returned (.tuple #[rtV (miR (plR (shR (splL l j a) e (k + 1 : Nat) j) (shR (splL l j a) e (k + 1 : Nat) (j + 1))) (shR l e (k + 1 : Nat) j)), .int .i64 0]) ∧ Below w.heap.size w w' := by
  obtain ⟨i3, ji, jz0, jz1, jz2⟩ := info_parts info3
  replace ji := Lib.hid ji
  replace jz0 := Lib.hid jz0
  replace jz1 := Lib.hid jz1
  replace jz2 := Lib.hid jz2
  have h63 := h.1
  have hn := val_len hk.1
  have hxj := hk.1.2 j hj
  have hk' := spl_ok hk hj ha h8
  have hll := splL_len l j a hj
  have hr0 := Bxr.new w 0 0
  have hb0 := ba1 w (.cells #[.int .i64 0, .int .i64 0] 37)
  have hrow := fun X (hX : Below w.heap.size w X) => h.below (hX.mono hB)
  have hBB := fun X (hX : Below w.heap.size w X) => Nat.le_trans hB hX.size
  obtain ⟨Y, hY⟩ : ∃ Y, Y = w.alloc (.cells #[.int .i64 0, .int .i64 0] 37) := ⟨_, rfl⟩
  rw [← hY] at hr0 hb0
  have hoS : okS l e (k + 1 : Nat) := ⟨hk, by omega, by omega⟩
  have k1 := ruled_any B (some ⟨b, o, none⟩) c l e (k + 1 : Nat) Y (hrow Y hb0)
  rw [errS_ok hoS] at k1
  have kw := within_any 0 (j : Int) ((l.length : Int) - 1) Y
  rw [decide_eq_true (by omega)] at kw
  have kv := within_any 0 a (el l j) Y
  rw [decide_eq_true ha] at kv
  have hat := fun X (hX : Below w.heap.size w X) => (hrow X hX).at_ j hj
  have k3 := fun X g cap (hX : Row X X.heap.size (some ⟨g, 0, none⟩) (splL l j a)) => share_ref X.heap.size (some ⟨g, 0, none⟩) cap (splL l j a) e X hX (Nat.le_refl _) hk' k hk1
  have k4 := fun X (hX : Below w.heap.size w X) => share_ref B (some ⟨b, o, none⟩) c l e X (hrow X hX) (hBB X hX) hk k hk1
  have sm1 := sh_sml (q := (k + 1 : Nat)) hk' (show j < (splL l j a).length by omega)
  have sm2 := sh_sml (q := (k + 1 : Nat)) hk' (show j + 1 < (splL l j a).length by omega)
  have sm3 := sh_sml (q := (k + 1 : Nat)) hk hj
  have hsame := split_same sm1.2.1 sm2.2.1 sm3.2.1
  have k5 := fun X => minus_ref_wide (shR l e (k + 1 : Nat) j) (shR (splL l j a) e (k + 1 : Nat) j) X (sml_wide sm3) sm1
  have k6 := fun X => minus_ref_wide (miR (shR l e (k + 1 : Nat) j) (shR (splL l j a) e (k + 1 : Nat) j)) (shR (splL l j a) e (k + 1 : Nat) (j + 1)) X (pl_wide sm3 sm1).2 sm2
  have hbd : (-1000000000000000000 ≤ (miR (miR (shR l e (k + 1 : Nat) j) (shR (splL l j a) e (k + 1 : Nat) j)) (shR (splL l j a) e (k + 1 : Nat) (j + 1))).n ∧ (miR (miR (shR l e (k + 1 : Nat) j) (shR (splL l j a) e (k + 1 : Nat) j)) (shR (splL l j a) e (k + 1 : Nat) (j + 1))).n ≤ 1000000000000000000) ∧ 1 ≤ (miR (miR (shR l e (k + 1 : Nat) j) (shR (splL l j a) e (k + 1 : Nat) j)) (shR (splL l j a) e (k + 1 : Nat) (j + 1))).d ∧ (miR (miR (shR l e (k + 1 : Nat) j) (shR (splL l j a) e (k + 1 : Nat) j)) (shR (splL l j a) e (k + 1 : Nat) (j + 1))).d ≤ 1000000000000000000 := mi_b (pl_wide sm3 sm1).2 sm2
  have k7 := fun X => Ratio_ref (-(miR (miR (shR l e (k + 1 : Nat) j) (shR (splL l j a) e (k + 1 : Nat) j)) (shR (splL l j a) e (k + 1 : Nat) (j + 1))).n) (miR (miR (shR l e (k + 1 : Nat) j) (shR (splL l j a) e (k + 1 : Nat) j)) (shR (splL l j a) e (k + 1 : Nat) (j + 1))).d X (by omega) (by omega)
  rw [hsame] at k7
  rw [hll] at k3
  unfold ShP at k3 k4
  have hnA : ∀ X, Below w.heap.size w X → ∀ i u, (vals (l.take j))[i]? = some u → X.cell? ((⟨b, o, none⟩ : Addr).add i) = some u := fun X hX i u hu => by
    obtain ⟨hi, rfl⟩ := news_get hu
    have hi' : i < j := by simp at hi; omega
    obtain ⟨b', o', e, _, hc⟩ := (hrow X hX).at_ i (by omega)
    cases e
    rw [add_pl, show el (l.take j) i = el l i by rw [el_eq _ _ hi, el_eq l i (by omega)]; simp]; exact hc
  have hnC : ∀ X, Below w.heap.size w X → ∀ i u, (vals (l.drop (j + 1)))[i]? = some u → X.cell? ((⟨b, o + (j + 1), none⟩ : Addr).add i) = some u := fun X hX i u hu => by
    obtain ⟨hi, rfl⟩ := news_get hu
    have hi' : i < l.length - (j + 1) := by simpa using hi
    obtain ⟨b', o', e, _, hc⟩ := (hrow X hX).at_ (j + 1 + i) (by omega)
    cases e
    rw [add_pl, show el (l.drop (j + 1)) i = el l (j + 1 + i) by rw [el_eq _ _ hi, el_eq l (j + 1 + i) (by omega)]; simp, show o + (j + 1) + i = o + (j + 1 + i) by omega]; exact hc
  have hlA : (vals (l.take j)).length = j * 1 := by rw [vals_len]; simp; omega
  have hlC : (vals (l.drop (j + 1))).length = (l.length - (j + 1)) * 1 := by rw [vals_len]; simp
  have hv1 : ∀ (t : List Int), ∀ u ∈ vals t, u.oneCell' = true := fun t u hu => by obtain ⟨_, _, rfl⟩ := List.mem_map.1 hu; rfl
  have hspl : vals (l.take j) ++ [.int .i64 a, .int .i64 (el l j - a)] ++ vals (l.drop (j + 1)) = vals (splL l j a) := by unfold splL; rw [vals_app, vals_app]; rfl
  have hbk : ∀ X base v, World.ownsRow X base 3 1 v (l.length + 1) (vals (splL l j a)) → ∃ g cap, v = .slice (some ⟨g, 0, none⟩) (l.length + 1) cap ∧ base ≤ g ∧ Row X X.heap.size (some ⟨g, 0, none⟩) (splL l j a) := fun X base v hX => by
    rw [← hll] at hX
    obtain ⟨g, cap, rfl, _, hg, hbl⟩ := own_blk hX (by omega)
    exact ⟨g, cap, by rw [hll], hg, by omega, fun _ => ⟨g, 0, rfl, hbl.lt, fun i hi => by rw [Nat.zero_add, hbl.cell hi]⟩⟩
  obtain ⟨R1, hR1⟩ : ∃ R, R = miR (shR l e (k + 1 : Nat) j) (shR (splL l j a) e (k + 1 : Nat) j) := ⟨_, rfl⟩
  rw [← hR1] at k5 k6 hbd k7
  replace hR1 := Lib.hid hR1
  generalize miR R1 (shR (splL l j a) e (k + 1 : Nat) (j + 1)) = R2 at *
  generalize miR (plR (shR (splL l j a) e (k + 1 : Nat) j) (shR (splL l j a) e (k + 1 : Nat) (j + 1))) (shR l e (k + 1 : Nat) j) = Q at *
  generalize shR (splL l j a) e (k + 1 : Nat) = F' at *
  generalize shR l e (k + 1 : Nat) = F at *
  generalize splL l j a = L at *
  obtain ⟨x, hx⟩ : ∃ x, x = el l j := ⟨_, rfl⟩
  rw [← hx] at hxj ha hat kv hspl
  unfold okC at hxj
  have hvB : ∀ X : World, ∀ i u, [Value.int .i64 a, Value.int .i64 (x - a)][i]? = some u → (X.alloc (.cells #[.int .i64 a, .int .i64 (x - a)] 3)).cell? ((⟨X.heap.size, 0, none⟩ : Addr).add i) = some u := fun X => World.news_of_block (w := X.alloc (.cells #[.int .i64 a, .int .i64 (x - a)] 3)) (World.alloc_heap_new X (.cells #[.int .i64 a, .int .i64 (x - a)] 3))
  have hv2 : ∀ u ∈ [Value.int .i64 a, Value.int .i64 (x - a)], u.oneCell' = true := fun u hu => by
    rcases List.mem_cons.1 hu with rfl | hu
    · rfl
    · cases List.mem_singleton.1 hu; rfl
  have wx : IntKind.i64.wrap (x - a) = x - a := IntWalk.i64_in _ (by omega)
  generalize hnl : l.length = n at *
  obtain ⟨jj, hjj⟩ : ∃ jj, jj = j + 1 := ⟨_, rfl⟩
  rw [← hjj] at hnC hlC hspl hcj k6 sm2
  obtain ⟨m, hm⟩ : ∃ m, m = n + 1 := ⟨_, rfl⟩
  rw [← hm] at hll hbk k3
  have hjm : j < m := by omega
  have hjjm : jj < m := by omega
  have wj : IntKind.i64.wrap ((j : Int) + 1) = (jj : Int) := by rw [hjj]; exact IntWalk.i64_in _ (by omega)
  have wn1 : IntKind.i64.wrap (-R2.n) = -R2.n := IntWalk.i64_in _ (by omega)
  have i1 : (j : Int) < (n : Int) := by omega
  have i2 : (j : Int) < (m : Int) := by omega
  have i3' : (jj : Int) < (m : Int) := by omega
  have i4 : (jj : Int) ≤ (n : Int) := by omega
  have i5 : jj ≤ n := by omega
  have i6 : (j : Int) ≤ (c : Int) := by omega
  have i7 : j ≤ c := by omega
  have i8 : jj ≤ c := by omega
  have i9 : ¬ c = 0 := by omega
  have i10 : ((n : Int) == 8) = false := by simp; omega
  have hmn : j + 2 + (n - jj) = m := by omega
  have hcj2 : ¬ jj = c := fun hh => hcj hh.symm
  unfold rtV at *
  obtain ⟨S, hS⟩ : ∃ S, S = F j := ⟨_, rfl⟩
  obtain ⟨P1, hP1⟩ : ∃ S, S = F' j := ⟨_, rfl⟩
  obtain ⟨P2, hP2⟩ : ∃ S, S = F' jj := ⟨_, rfl⟩
  rw [← hS, ← hP1] at k5
  rw [← hP2] at k6
  have hc2 : ∀ X Z g2, AwW Z n g2 F X → X.cell? ⟨g2, j * 2, none⟩ = some (.int .i64 S.n) ∧ X.cell? ⟨g2, j * 2 + 1, none⟩ = some (.int .i64 S.d) := fun X Z g2 hW => by
    rw [hS]; exact ⟨hW.blk.c0 hj, hW.blk.c1 hj⟩
  -- what stays: the box of the answer, and the awards of the split claims
  obtain ⟨U, hU⟩ : ∃ U : Nat → World → Prop, ∀ gm X, U gm X ↔ (Below w.heap.size w X ∧ Bxr X w.heap.size 0 0 ∧ BlR X gm m F') := ⟨fun gm X => Below w.heap.size w X ∧ Bxr X w.heap.size 0 0 ∧ BlR X gm m F', fun _ _ => Iff.rfl⟩
  have uup : ∀ gm X Y, U gm X → Below X.heap.size X Y → U gm Y := fun gm X Y h hb => by
    obtain ⟨a1, a2, a3⟩ := (hU gm X).1 h
    exact (hU gm Y).2 ⟨bel_trans a1 hb, a2.up hb, a3.up hb⟩
  have ucell : ∀ gm X, U gm X → (X.cell? ⟨gm, j * 2, none⟩ = some (.int .i64 P1.n) ∧ X.cell? ⟨gm, j * 2 + 1, none⟩ = some (.int .i64 P1.d)) ∧ X.cell? ⟨gm, jj * 2, none⟩ = some (.int .i64 P2.n) ∧ X.cell? ⟨gm, jj * 2 + 1, none⟩ = some (.int .i64 P2.d) := fun gm X h => by
    obtain ⟨_, _, a3⟩ := (hU gm X).1 h
    rw [hP1, hP2]
    exact ⟨⟨a3.c0 hjm, a3.c1 hjm⟩, a3.c0 hjjm, a3.c1 hjjm⟩
  have uk4 : ∀ gm X, U gm X → _ := fun gm X h => k4 X ((hU gm X).1 h).1
  -- a box of the part, and the rest
  obtain ⟨G, hG⟩ : ∃ G : Nat → Nat → Rt → World → Prop, ∀ gm b' r X, G gm b' r X ↔ (U gm X ∧ Bxr X b' r.n r.d ∧ w.heap.size < b' ∧ gm < b') := ⟨fun gm b' r X => U gm X ∧ Bxr X b' r.n r.d ∧ w.heap.size < b' ∧ gm < b', fun _ _ _ _ => Iff.rfl⟩
  have gset : ∀ gm b' r X r', G gm b' r X → G gm b' r' ((X.setCell ⟨b', 0, none⟩ (.int .i64 r'.n)).setCell ⟨b', 1, none⟩ (.int .i64 r'.d)) := fun gm b' r X r' h => by
    obtain ⟨u, x1, x2, x3⟩ := (hG gm b' r X).1 h
    obtain ⟨a1, a2, a3⟩ := (hU gm X).1 u
    exact (hG gm b' r' _).2 ⟨(hU gm _).2 ⟨set2_below a1 (by omega) _ _, a2.to (set2_far (by omega) _ _), a3.to (set2_far (by omega) _ _)⟩, x1.set _ _, x2, x3⟩
  have gup : ∀ gm b' r X Y, G gm b' r X → Below X.heap.size X Y → G gm b' r Y := fun gm b' r X Y h hb => by
    obtain ⟨u, x1, x2, x3⟩ := (hG gm b' r X).1 h
    exact (hG gm b' r Y).2 ⟨uup gm X Y u hb, x1.up hb, x2, x3⟩
  have gnew : ∀ gm X (r : Rt), U gm X → G gm X.heap.size r (X.alloc (.cells #[.int .i64 r.n, .int .i64 r.d] 37)) := fun gm X r h => by
    obtain ⟨a1, a2, a3⟩ := (hU gm X).1 h
    exact (hG gm _ r _).2 ⟨uup gm X _ h (ba1 X _), Bxr.new X _ _, a2.lt, a3.lt⟩
  have gcell : ∀ gm b' r X, G gm b' r X → (X.cell? ⟨b', 0, none⟩ = some (.int .i64 r.n) ∧ X.cell? ⟨b', 1, none⟩ = some (.int .i64 r.d)) ∧ (X.frozen? ⟨b', 0, none⟩ = false ∧ X.frozen? ⟨b', 1, none⟩ = false) ∧ b' < X.heap.size := fun gm b' r X h => by
    obtain ⟨u, x1, x2, x3⟩ := (hG gm b' r X).1 h
    exact ⟨⟨x1.c0, x1.c1⟩, ⟨x1.fz 0, x1.fz 1⟩, x1.lt⟩
  have gu : ∀ gm b' r X, G gm b' r X → U gm X := fun gm b' r X h => ((hG gm b' r X).1 h).1
  have ubox : ∀ gm X, U gm X → Bxr X w.heap.size 0 0 ∧ Below w.heap.size w X := fun gm X h => ⟨((hU gm X).1 h).2.1, ((hU gm X).1 h).1⟩
  have ustart : ∀ X Z gm, Below w.heap.size w Z → Bxr Z w.heap.size 0 0 → AwW Z m gm F' X → U gm X := fun X Z gm hZ hb hW => (hU gm X).2 ⟨bel_trans hZ hW.below, hb.up hW.below, hW.blk⟩
  obtain ⟨q, hq⟩ : ∃ q : Int, q = (k + 1 : Nat) := ⟨_, rfl⟩
  rw [← hq] at k1 k3 uk4 ⊢
  clear k4 hBB sm1 sm2 sm3 hU hG
  replace hS := Lib.hid hS
  replace hP1 := Lib.hid hP1
  replace hP2 := Lib.hid hP2
  replace hq := Lib.hid hq
  replace hm := Lib.hid hm
  replace hjj := Lib.hid hjj
  replace hnl := Lib.hid hnl
  replace hx := Lib.hid hx
  replace hrow := Lib.hid hrow
  replace hat := Lib.hid hat
  replace h := Lib.hid h
  replace hk := Lib.hid hk
  replace hk' := Lib.hid hk'
  replace hoS := Lib.hid hoS
  replace hll := Lib.hid hll
  replace hY := Lib.hid hY
  replace hr0 := Lib.hid hr0
  replace hb0 := Lib.hid hb0
  replace k1 := Lib.hid k1
  replace kw := Lib.hid kw
  replace kv := Lib.hid kv
  replace k3 := Lib.hid k3
  replace k5 := Lib.hid k5
  replace k6 := Lib.hid k6
  replace k7 := Lib.hid k7
  replace hsame := Lib.hid hsame
  replace hnA := Lib.hid hnA
  replace hnC := Lib.hid hnC
  replace hlA := Lib.hid hlA
  replace hlC := Lib.hid hlC
  replace hv1 := Lib.hid hv1
  replace hv2 := Lib.hid hv2
  replace hvB := Lib.hid hvB
  replace hspl := Lib.hid hspl
  replace hbk := Lib.hid hbk
  replace hc2 := Lib.hid hc2
  replace uup := Lib.hid uup
  replace ucell := Lib.hid ucell
  replace uk4 := Lib.hid uk4
  replace gset := Lib.hid gset
  replace gup := Lib.hid gup
  replace gnew := Lib.hid gnew
  replace gcell := Lib.hid gcell
  replace gu := Lib.hid gu
  replace ubox := Lib.hid ubox
  replace ustart := Lib.hid ustart
  replace hmn := Lib.hid hmn
  replace hbd := Lib.hid hbd
  obtain ⟨hn1, hn8⟩ := hn
  obtain ⟨ha1, ha2⟩ := ha
  have hzz := Lib.hid (show ([] : List Value) = [] from rfl)
  go_enter Try.func44, Try.ntmps44
  go_wp2_with fail
  rw [← hY.out]
  refine k1.out.mono ?_
  rintro _ X ⟨rfl, rfl⟩
  go_wp2_with fail
  refine kw.out.mono ?_
  rintro _ X1 ⟨rfl, rfl⟩
  obtain ⟨b', o', he', hbA, a0⟩ := hat.out X1 hb0.out
  cases he'
  go_wp2_with fail
  refine kv.out.mono ?_
  rintro _ X2 ⟨rfl, rfl⟩
  have ho := empty_own X2 3
  have hbe : Below w.heap.size w (X2.alloc (.cells #[] 3)) := bel_trans hb0.out (ba1 X2 _)
  have hnw := Lib.hid (hnA.out _ hbe)
  have hbe1 := ba1 X2 (.cells #[] 3)
  replace ho := Lib.hid ho
  replace hbe := Lib.hid hbe
  replace hbe1 := Lib.hid hbe1
  go_wp2_with (at_builtin; first
    | (have hgo := hS2.out
       refine wpList_append_own _ rfl (.tmp 62) (.tmp 66) 22 rfl X2.heap.size 3 i3 (.int .i64 0) 1 8 Try.underlying22 ji.out jz0.out jz1.out jz2.out rfl (by decide) _ _ _ rfl hgo.2 ⟨b, o + jj, none⟩ (n - jj) (c - jj) (vals (l.drop jj)) rfl hlC.out hn2.out (hv1.out _) (by unfold maxLen; omega) (by omega) hgo.1.size ?_
       intro v3 z3 hown3 hgrow3 _
       have hb3 : Below X2.heap.size X2 z3 := hgo.1.trans (below_grown hgrow3 hgo.1.size fun x hx => (hgo.2.lt x hx).1)
       have ho3 : z3.ownsRow X2.heap.size 3 1 v3 m (vals L) := (by rw [← hspl.out]; have := hown3; rw [hmn.out] at this; exact this)
       obtain ⟨g, cap, rfl, hg, hrl⟩ := hbk.out z3 _ v3 ho3
       have hS3 := Lib.hid (And.intro hb3 hrl)
       clear hown3 hgrow3 ho3 hb3 hrl hgo)
    | (have hgo := hS1.out
       have ho2 := own_up hgo.2 (ba1 z1 (.cells #[.int .i64 a, .int .i64 (x - a)] 3))
       have hb2 : Below X2.heap.size X2 (z1.alloc (.cells #[.int .i64 a, .int .i64 (x - a)] 3)) := bel_trans hgo.1 (ba1 z1 _)
       refine wpList_append_own _ rfl (.tmp 52) (.tmp 60) 22 rfl X2.heap.size 3 i3 (.int .i64 0) 1 8 Try.underlying22 ji.out jz0.out jz1.out jz2.out rfl (by decide) _ _ _ rfl ho2 ⟨z1.heap.size, 0, none⟩ 2 2 [.int .i64 a, .int .i64 (x - a)] rfl rfl (hvB.out z1) hv2.out (by unfold maxLen; omega) (by omega) hb2.size ?_
       intro v2 z2 hown2 hgrow2 _
       have hS2 := Lib.hid (And.intro (show Below X2.heap.size X2 z2 from hb2.trans (below_grown hgrow2 hb2.size fun x hx => (ho2.lt x hx).1)) hown2)
       have hn2 := Lib.hid (hnC.out z2 (bel_trans hb0.out hS2.out.1))
       clear hown2 hgrow2 ho2 hb2 hgo)
    | (refine wpList_append_own _ rfl (.tmp 47) (.tmp 50) 22 rfl X2.heap.size 3 i3 (.int .i64 0) 1 8 Try.underlying22 ji.out jz0.out jz1.out jz2.out rfl (by decide) _ _ _ rfl ho.out ⟨b, o, none⟩ j c (vals (l.take j)) rfl hlA.out hnw.out (hv1.out _) (by unfold maxLen; omega) (by omega) (by simp) ?_
       intro v1 z1 hown1 hgrow1 _
       have hS1 := Lib.hid (And.intro (show Below X2.heap.size X2 z1 from hbe1.out.trans (below_grown hgrow1 (B := X2.heap.size) (by simp) (fun k e => by cases e; exact Nat.le_refl _))) (show z1.ownsRow X2.heap.size 3 1 v1 j (vals (l.take j)) from (by simpa using hown1)))
       obtain ⟨b9, o9, he9, _, a1⟩ := hat.out z1 (bel_trans hb0.out hS1.out.1)
       cases he9
       clear hown1 hgrow1))
  have hZ := bel_trans hb0.out hS3.out.1
  have hxz := hr0.out.up hS3.out.1
  have kk3 := Lib.hid (k3.out z3 g cap hS3.out.2)
  replace hZ := Lib.hid hZ
  replace hxz := Lib.hid hxz
  refine kk3.out.mono ?_
  rintro _ X4 ⟨gm, cpm, rfl, hW4⟩
  have hU4 := ustart.out X4 z3 gm hZ.out hxz.out hW4
  clear kk3 hS3 hS2 hS1 hn2 a1 a0 hW4
  have uD : U gm X4.drew := uup.out gm X4 X4.drew hU4 (below_drewN (Below.refl _ _) 1)
  have uA : U gm (X4.alloc (.cells #[.int .i64 0, .int .i64 0] 37)).drew := uup.out gm X4 _ hU4 (below_drewN (ba1 X4 _) 1)
  have tA : G gm X4.heap.size ⟨0, 0⟩ (X4.alloc (.cells #[.int .i64 0, .int .i64 0] 37)).drew := gup.out gm _ _ _ _ (gnew.out gm X4 ⟨0, 0⟩ hU4) (below_drewN (Below.refl _ _) 1)
  have kkD := Lib.hid (uk4.out gm _ uD)
  have kkA := Lib.hid (uk4.out gm _ uA)
  obtain ⟨⟨mD0, mD1⟩, mD2, mD3⟩ := ucell.out gm _ uD
  obtain ⟨⟨mA0, mA1⟩, mA2, mA3⟩ := ucell.out gm _ uA
  replace uD := Lib.hid uD
  replace uA := Lib.hid uA
  replace tA := Lib.hid tA
  replace hU4 := Lib.hid hU4
  go_upto_region 12 with fail
  go_cut [15] from 72 to 83 (fun p wx => ∃ b' : Nat, p = .pointer (some ⟨b', 0, none⟩) ∧ G gm b' R1 wx)
  case first =>
    go_region_with (first
      | (go_at_call 54; first
          | (with_reducible refine kkD.out.mono ?_; rintro e X5 ⟨g2, cp2, rfl, hW5⟩; have u5 := uup.out gm _ X5 uD.out hW5.below; obtain ⟨r0, r1⟩ := hc2.out X5 _ g2 hW5; obtain ⟨r2, r3⟩ := hc2.out _ _ g2 (hW5.up (ba1 X5 (.cells #[.int .i64 0, .int .i64 0] 37))); obtain ⟨⟨m0, m1⟩, m2, m3⟩ := ucell.out gm _ u5; obtain ⟨⟨n0, n1⟩, n2, n3⟩ := ucell.out gm _ (uup.out gm _ _ u5 (ba1 X5 (.cells #[.int .i64 0, .int .i64 0] 37))); replace u5 := Lib.hid u5; replace hW5 := Lib.hid hW5)
          | (with_reducible refine kkA.out.mono ?_; rintro e X5 ⟨g2, cp2, rfl, hW5⟩; have u5 := uup.out gm _ X5 uA.out hW5.below; have tb := Lib.hid (gup.out gm _ _ _ X5 tA.out hW5.below); obtain ⟨r0, r1⟩ := hc2.out X5 _ g2 hW5; obtain ⟨⟨m0, m1⟩, m2, m3⟩ := ucell.out gm _ u5; replace u5 := Lib.hid u5; replace hW5 := Lib.hid hW5))
      | (go_at_call 79; first
          | (with_reducible refine (k5.out X5).mono ?_; rintro e X6 ⟨rfl, hb6⟩; have u6 := uup.out gm _ X6 u5.out hb6; first
              | (have t6 := gup.out gm _ _ _ X6 tb.out hb6; obtain ⟨⟨y0, y1⟩, ⟨y2, y3⟩, y4⟩ := gcell.out gm _ _ _ t6; have fin := Lib.hid (gset.out gm _ _ _ R1 t6); replace t6 := Lib.hid t6; replace u6 := Lib.hid u6; replace hb6 := Lib.hid hb6)
              | (have t6 := gnew.out gm X6 ⟨0, 0⟩ u6; obtain ⟨⟨y0, y1⟩, ⟨y2, y3⟩, y4⟩ := gcell.out gm _ _ _ t6; have fin := Lib.hid (gset.out gm _ _ _ R1 t6); have fin2 := Lib.hid (gnew.out gm X6 R1 u6); replace t6 := Lib.hid t6; replace u6 := Lib.hid u6; replace hb6 := Lib.hid hb6))
          | (with_reducible refine (k5.out (X5.alloc (.cells #[.int .i64 0, .int .i64 0] 37))).mono ?_; rintro e X6 ⟨rfl, hb6⟩; have t6 := gup.out gm _ _ _ X6 (gnew.out gm X5 ⟨0, 0⟩ u5.out) hb6; obtain ⟨⟨y0, y1⟩, ⟨y2, y3⟩, y4⟩ := gcell.out gm _ _ _ t6; have fin := Lib.hid (gset.out gm _ _ _ R1 t6); replace t6 := Lib.hid t6; replace hb6 := Lib.hid hb6)))
    all_goals (go_wp2_with fail)
    all_goals go_meet
    all_goals (first | exact ⟨_, rfl, fin.out⟩ | exact ⟨_, rfl, fin2.out⟩)
  case rest =>
  obtain ⟨b', rfl, hg1⟩ := hcut
  have gD : G gm b' R1 wc.drew := gup.out gm b' R1 wc wc.drew hg1 (below_drewN (Below.refl _ _) 1)
  obtain ⟨⟨y0, y1⟩, ⟨y2, y3⟩, y4⟩ := gcell.out gm _ _ _ gD
  obtain ⟨⟨m0, m1⟩, m2, m3⟩ := ucell.out gm _ (gu.out gm _ _ _ gD)
  clear kkD kkA mD0 mD1 mD2 mD3 mA0 mA1 mA2 mA3
  replace gD := Lib.hid gD
  replace hg1 := Lib.hid hg1
  go_wp2
  go_region_with (go_at_call 79; refine (k6.out _).mono ?_; rintro e X7 ⟨rfl, hb7⟩; have g7 := gup.out gm b' R1 _ X7 gD.out hb7; obtain ⟨⟨z0, z1⟩, ⟨z2, z3⟩, z4⟩ := gcell.out gm _ _ _ g7; have g8 := gset.out gm _ _ _ R2 g7; obtain ⟨⟨v0, v1⟩, ⟨v2, v3⟩, v4⟩ := gcell.out gm _ _ _ g8; replace g8 := Lib.hid g8; replace g7 := Lib.hid g7; replace hb7 := Lib.hid hb7)
  all_goals
    go_wp2_with fail
    refine (k7.out _).mono ?_
    rintro e X8 ⟨rfl, hb8⟩
    obtain ⟨hx8, hw8⟩ := ubox.out gm X8 (gu.out gm _ _ _ (gup.out gm _ _ _ X8 g8.out hb8))
    have q0 := hx8.c0
    have q1 := hx8.c1
    have q2 := hx8.fz 0
    have q3 := hx8.fz 1
    have q4 := hx8.lt
    have y := hx8.set Q.n Q.d
    have u0 := y.c0
    have u1 := y.c1
    have hend := Lib.hid (set2_below hw8 (Nat.le_refl _) (.int .i64 Q.n) (.int .i64 Q.d))
    replace y := Lib.hid y
    replace hx8 := Lib.hid hx8
    replace hb8 := Lib.hid hb8
    replace hw8 := Lib.hid hw8
    go_wp2
    exact bodyPost_ret (v := .tuple #[.agg #[.int .i64 Q.n, .int .i64 Q.d], .int .i64 0]) (by simp [results, Try.results44, go_sem, u0, u1]) rfl ⟨rfl, hend.out⟩
end Go.Proofs.Ythleekdkbgnabaa
