/-
  For any jobs, beach and number, the law ShoreMore returns true: jobs left out at the end of a beach never make the least harm greater, nor the bound.
  Conditions: none.
-/
import Derived.Test.YtgjgpcpghglnnaaMn
import Derived.Test.YtgjgpcpghglnnaaMi
namespace Go.Proofs.Ytgjgpcpghglnnaa.lawShoreMore
open Go.Joins Go.ChangeShapes Go.WideShapes Go.ChangeAt Go.RowKit Go.Deep Go.Proofs.Ytgjgpcpghglnnaa M
set_option linter.unusedVariables false
set_option linter.unusedSimpArgs false

set_option maxRecDepth 100000 in
set_option maxHeartbeats 4000000 in
theorem out (A : Option Addr) (c : Nat) (D : List Bc) (x y : Int) (w : World) (h : Bcs w w.heap.size A D) (hl : LongP D) :
    Calls Try.prog 9 #[.slice A D.length c, .int .u8 x, .int .u8 y] w fun e w' => e = .returned (.bool true) ∧ Below w.heap.size w w' := by
  have hL := Long_any w.heap.size A c D w h true (fun _ => hl) (fun hh => by cases hh)
  replace hL := Lib.hid hL
  replace hl := Lib.hid hl
  generalize D.length = n at *
  replace h := Lib.hid h
  go_enter Try.func9, Try.ntmps9
  go_wp2_with fail
  refine hL.out.mono ?_
  rintro e X ⟨rfl, rfl⟩
  go_wp2_with fail
  refine (Sane_any _).mono ?_
  rintro e X2 ⟨rfl, hb⟩
  go_wp2
  go_ret
  exact ⟨rfl, hb⟩
set_option maxRecDepth 100000 in
set_option maxHeartbeats 4000000 in
theorem outb (A : Option Addr) (c : Nat) (D : List Bc) (x y : Int) (w : World) (h : Bcs w w.heap.size A D) (hl : ¬ LongP D) (hv : valB (bl D) = false) :
    Calls Try.prog 9 #[.slice A D.length c, .int .u8 x, .int .u8 y] w fun e w' => e = .returned (.bool true) ∧ Below w.heap.size w w' := by
  have hL := Long_any w.heap.size A c D w h false (fun hh => by cases hh) (fun _ => hl)
  have c19 := Valid_ref w.heap.size A c D w h (Nat.le_refl _) (LongP.no hl)
  rw [hv] at c19
  replace c19 := Lib.hid c19
  replace hv := Lib.hid hv
  replace hL := Lib.hid hL
  replace hl := Lib.hid hl
  generalize D.length = n at *
  replace h := Lib.hid h
  go_enter Try.func9, Try.ntmps9
  go_wp2_with fail
  refine hL.out.mono ?_
  rintro e X ⟨rfl, rfl⟩
  go_wp2_with fail
  refine c19.out.mono ?_
  rintro e X1 ⟨rfl, hX1⟩
  replace hX1 := Lib.hid hX1
  go_wp2_with fail
  refine (Sane_any _).mono ?_
  rintro e X2 ⟨rfl, hb⟩
  have hend := Lib.hid (bel_trans hX1.out hb)
  clear hb
  go_wp2
  go_ret
  exact ⟨rfl, hend.out⟩

set_option maxRecDepth 100000 in
set_option maxHeartbeats 16000000 in
theorem good (A : Option Addr) (c : Nat) (D : List Bc) (x y : Nat) (w : World) (h : Bcs w w.heap.size A D) (hl : ¬ LongP D) (hv : valB (bl D) = true) (hx : x ≤ 255) (hy : y ≤ 255) :
    Calls Try.prog 9 #[.slice A D.length c, .int .u8 (x : Nat), .int .u8 (y : Nat)] w fun e w' => e = .returned (.bool true) ∧ Below w.heap.size w w' := by
  have h63 := h.1
  have hL := Long_any w.heap.size A c D w h false (fun hh => by cases hh) (fun _ => hl)
  have hl100 := LongP.no hl
  have hlen := bl_len D
  have hvv := val_of hv
  have hn6 : 1 ≤ D.length ∧ D.length ≤ 6 := by have := hvv.1; rw [hlen] at this; exact this
  have u := fun X (hX : Below w.heap.size w X) => h.up hX
  have c19 := Valid_ref w.heap.size A c D w h (Nat.le_refl _) hl100
  rw [hv] at c19
  obtain ⟨bi, hbi⟩ : ∃ b, b = x % D.length := ⟨_, rfl⟩
  have hbn : bi < D.length := by rw [hbi]; exact Nat.mod_lt _ (by omega)
  have hbJ : bi < (bl D).length := by rw [hlen]; exact hbn
  obtain ⟨q, hq⟩ : ∃ q, q = y % ((be (bl D) bi).length + 1) := ⟨_, rfl⟩
  have hql : q ≤ (be (bl D) bi).length := by have := Nat.mod_lt y (show (be (bl D) bi).length + 1 > 0 by omega); omega
  have hL12 := Nat.le_trans (be_le hbJ) hvv.2.1
  have hqc := h.2.2 bi hbn
  have hvt := trn_vJ q hbJ hvv
  have hvtB : valB (trn (bl D) bi q) = true := decide_eq_true hvt
  obtain ⟨s, hs⟩ := whole_ex (bl D)
  obtain ⟨t, ht⟩ := whole_ex (trn (bl D) bi q)
  have m1 := least_more hbJ hvv hs ht
  have m2 := bound_more (q := q) hbJ hvv
  obtain ⟨lo, hlo⟩ : ∃ l, l = hm (bl D) (ord (bl D) s) (ord (bl D) s).length := ⟨_, rfl⟩
  obtain ⟨lo2, hlo2⟩ : ∃ l, l = hm (trn (bl D) bi q) (ord (trn (bl D) bi q) t) (ord (trn (bl D) bi q) t).length := ⟨_, rfl⟩
  obtain ⟨bo, hbo⟩ : ∃ l, l = bs (bl D) (fo (bl D) (bl D).length) (fo (bl D) (bl D).length).length := ⟨_, rfl⟩
  obtain ⟨bo2, hbo2⟩ : ∃ l, l = bs (trn (bl D) bi q) (fo (trn (bl D) bi q) (trn (bl D) bi q).length) (fo (trn (bl D) bi q) (trn (bl D) bi q).length).length := ⟨_, rfl⟩
  rw [← hlo, ← hlo2] at m1
  rw [← hbo, ← hbo2] at m2
  have c29 := fun X (hX : Below w.heap.size w X) => Least_good X.heap.size A c D lo X (u X hX) (Nat.le_refl _) hvv (fun t _ => (ord_runs (bl D) t).2) (fun t ht => by rw [hlo, whole_uniq ht hs])
  have c33 := fun X (hX : Below w.heap.size w X) => Bound_any X.heap.size A c D X (u X hX) (Nat.le_refl _) hl100
  have e33 : boR (bl D) = (bo, 0) := by unfold boR; rw [if_pos hv, hbo]
  rw [e33] at c33
  have hl100t : ∀ i, i < (trD D bi q).length → (be (bl (trD D bi q)) i).length ≤ 100 := fun i hi => by
    rw [trD_len] at hi
    rw [trD_bl]
    exact Nat.le_trans (trn_le _ q hbJ i) (hl100 i hi)
  have c29t := fun g cap X (hX : Bcs X X.heap.size (some ⟨g, 0, none⟩) (trD D bi q)) => Least_good X.heap.size (some ⟨g, 0, none⟩) cap (trD D bi q) lo2 X hX (Nat.le_refl _) (by rw [trD_bl]; exact hvt) (fun t _ => by rw [trD_bl]; exact (ord_runs _ t).2) (fun t' ht' => by rw [trD_bl] at ht' ⊢; rw [hlo2, whole_uniq ht' ht])
  have c33t := fun g cap X (hX : Bcs X X.heap.size (some ⟨g, 0, none⟩) (trD D bi q)) => Bound_any X.heap.size (some ⟨g, 0, none⟩) cap (trD D bi q) X hX (Nat.le_refl _) hl100t
  have e33t : boR (bl (trD D bi q)) = (bo2, 0) := by rw [trD_bl]; unfold boR; rw [if_pos hvtB, hbo2]
  rw [e33t] at c33t
  rw [trD_len] at c29t c33t
  have hbt := fun X g (hX : Below w.heap.size w X) hg => bcs_trD (B := w.heap.size) (b := bi) (q := q) (g := g) h (Nat.le_refl _) hX hbn hql hg
  have hat := fun X (hX : Below w.heap.size w X) k (hk : k < D.length) => (h.below hX).at_ k hk
  have hnews : ∀ X, Below w.heap.size w X → ∃ b0 o0, A = some ⟨b0, o0, none⟩ ∧ b0 < w.heap.size ∧ ∀ j v, (lvals D)[j]? = some v → X.cell? ((⟨b0, o0, none⟩ : Addr).add j) = some v := fun X hX => by
    obtain ⟨b0, o0, e, hb0, _⟩ := hat X hX 0 (by omega)
    refine ⟨b0, o0, e, hb0, fun j v hv => ?_⟩
    obtain ⟨hj, rfl⟩ := lvals_get hv
    obtain ⟨b1, o1, e1, _, hc, _⟩ := hat X hX j hj
    rw [e] at e1
    cases e1
    rw [add_pl]; exact hc
  have hjn := (h.at_ bi hbn)
  obtain ⟨i51, ki, kz0, kz1, kz2⟩ := info_parts info51
  replace ki := Lib.hid ki
  replace kz0 := Lib.hid kz0
  replace kz1 := Lib.hid kz1
  replace kz2 := Lib.hid kz2
  have hlv := lvals_len D
  have hob := fun (X : World) base v (ho : X.ownsRow base 51 1 v D.length (lvals D)) => own_blkL ho (by omega)
  have hlv1 := lvals_one D
  obtain ⟨n, hn⟩ : ∃ n, n = D.length := ⟨_, rfl⟩
  rw [← hn] at h63 hn6 hL c19 hbi hbn c29 c33 c29t c33t hbt hat hlv hob ⊢
  obtain ⟨L, hLL⟩ : ∃ L, L = (be (bl D) bi).length := ⟨_, rfl⟩
  rw [← hLL] at hq hql hL12 hqc
  have w1 : (x : Int).tmod (n : Nat) = (bi : Nat) := by rw [hbi, Int.tmod_eq_emod_of_nonneg (by omega), Int.natCast_emod]
  have w2 : (y : Int).tmod ((L : Int) + 1) = (q : Nat) := by rw [hq, Int.tmod_eq_emod_of_nonneg (by omega)]; rfl
  have w3 : IntKind.i64.wrap ((L : Int) + 1) = (L : Int) + 1 := IntWalk.i64_in _ (by omega)
  have w4 : IntKind.i64.wrap (bi : Nat) = (bi : Nat) := IntWalk.i64_in _ (by omega)
  have w5 : IntKind.i64.wrap (q : Nat) = (q : Nat) := IntWalk.i64_in _ (by omega)
  have w6 : ¬ n = 0 := by omega
  have w7 : ¬ (n : Int) = 0 := by omega
  have w8 : ¬ (L : Int) + 1 = 0 := by omega
  have hbni : (bi : Int) < (n : Int) := by omega
  have hx0 : IntKind.i64.wrap (x : Nat) = (x : Nat) := IntWalk.i64_in _ (by omega)
  have hy0 : IntKind.i64.wrap (y : Nat) = (y : Nat) := IntWalk.i64_in _ (by omega)
  have hqli : (q : Int) ≤ (L : Int) := by omega
  obtain ⟨b0, o0, rfl, hb0, hnw⟩ := hnews w (Below.refl _ _)
  replace hn := Lib.hid hn
  replace hLL := Lib.hid hLL
  replace hq := Lib.hid hq
  replace hbi := Lib.hid hbi
  replace hlo := Lib.hid hlo
  replace hlo2 := Lib.hid hlo2
  replace hbo := Lib.hid hbo
  replace hbo2 := Lib.hid hbo2
  replace e33 := Lib.hid e33
  replace e33t := Lib.hid e33t
  replace hjn := Lib.hid hjn
  clear hnw
  replace hL := Lib.hid hL
  replace hl := Lib.hid hl
  replace hl100 := Lib.hid hl100
  replace hlen := Lib.hid hlen
  replace hvv := Lib.hid hvv
  replace hv := Lib.hid hv
  replace u := Lib.hid u
  replace c19 := Lib.hid c19
  replace hvt := Lib.hid hvt
  replace hvtB := Lib.hid hvtB
  replace hs := Lib.hid hs
  replace ht := Lib.hid ht
  replace c29 := Lib.hid c29
  replace c33 := Lib.hid c33
  replace c29t := Lib.hid c29t
  replace c33t := Lib.hid c33t
  replace hl100t := Lib.hid hl100t
  replace hbt := Lib.hid hbt
  replace hat := Lib.hid hat
  replace hnews := Lib.hid hnews
  replace hlv := Lib.hid hlv
  replace hob := Lib.hid hob
  replace hlv1 := Lib.hid hlv1
  replace hbJ := Lib.hid hbJ
  replace h := Lib.hid h
  go_enter Try.func9, Try.ntmps9
  go_wp2_with fail
  refine hL.out.mono ?_
  rintro e X ⟨rfl, rfl⟩
  go_wp2_with fail
  refine c19.out.mono ?_
  rintro e X1 ⟨rfl, hX1⟩
  obtain ⟨Y, hY⟩ : ∃ Y, Y = X1.alloc (.cells #[] 51) := ⟨_, rfl⟩
  have hY1 : Below X1.heap.size X1 Y := by rw [hY]; exact ba1 _ _
  have hXY := bel_trans hX1 hY1
  have own1 : Y.ownsRow X1.heap.size 51 1 (.slice (some ⟨X1.heap.size, 0, none⟩) 0 0) 0 [] := by rw [hY]; exact empty_ownL X1 51
  obtain ⟨b0', o0', e0, _, news1⟩ := hnews.out Y hXY
  cases e0
  have hYs : X1.heap.size ≤ Y.heap.size := hY1.size
  have hws := hX1.size
  replace own1 := Lib.hid own1
  replace news1 := Lib.hid news1
  replace hX1 := Lib.hid hX1
  replace hXY := Lib.hid hXY
  replace hY1 := Lib.hid hY1
  subst hY
  go_wp2_with (at_builtin
               refine wpList_append_own _ rfl (.tmp 30) (.tmp 31) 22 rfl X1.heap.size 51 i51 (.slice none 0 0) 1 24 Try.underlying22 ki.out kz0.out kz1.out kz2.out rfl (by decide) _ _ _ rfl own1.out ⟨b0, o0, none⟩ n c (lvals D) rfl (by rw [hlv.out, Nat.mul_one]) news1.out hlv1.out (by unfold maxLen; omega) (by omega) hYs ?_
               intro v' X2 hown' hgrow _
               have hbb := below_grown hgrow (B := X1.heap.size) hYs (fun k e => by cases e; exact Nat.le_refl _)
               obtain ⟨g, cap, rfl, hcap, hgb, hblk⟩ := hob.out X2 _ v' (by simpa using hown')
               have hX2 := bel_trans hX1.out (hY1.out.trans hbb)
               have hwg : w.heap.size ≤ g := Nat.le_trans hws hgb
               have f1 := hblk.fz bi
               have c1 := hblk.cell hbn
               have hglt := hblk.lt
               have hset := hblk.set hbn (.slice (bc D bi).A q (bc D bi).c)
               clear hown' hgrow hbb)
  obtain ⟨b1, o1, e1, _, ecell, hjj⟩ := hat.out X2 hX2 bi hbn
  cases e1
  have hLs := hjj.2
  rw [← hLL.out] at ecell hLs
  have hbt2 := hbt.out
  have hqcb : q ≤ (bc D bi).c := by omega
  obtain ⟨Ab, hAb⟩ : ∃ A, A = (bc D bi).A := ⟨_, rfl⟩
  obtain ⟨cb, hcb⟩ : ∃ c, c = (bc D bi).c := ⟨_, rfl⟩
  have hfin : ∀ X, Below w.heap.size w X → BlL X g n (fun i => if i = bi then .slice (bc D bi).A q (bc D bi).c else .slice (bc D i).A (be (bl D) i).length (bc D i).c) → Bcs X X.heap.size (some ⟨g, 0, none⟩) (trD D bi q) := fun X hX hb => hbt2 X g hX hb
  rw [← hAb, ← hcb] at ecell hset c1 hfin
  rw [← hAb] at hLs
  rw [← hcb] at hqc hqcb
  have hqci : (q : Int) ≤ (cb : Int) := by omega
  have hbg : ¬ b0 = g := by omega
  have hgb' : ¬ g = b0 := by omega
  have hset9 : Below w.heap.size w ((X2.setCell ⟨g, bi, none⟩ (.slice Ab q cb)).drew) ∧ BlL ((X2.setCell ⟨g, bi, none⟩ (.slice Ab q cb)).drew) g n (fun i => if i = bi then .slice Ab q cb else .slice (bc D i).A (be (bl D) i).length (bc D i).c) := ⟨below_drewN (hX2.setCell hwg _) 1, hset.to rfl⟩
  have hbs9 := hfin _ hset9.1 hset9.2
  have hXf := hset9.1
  replace hbt2 := Lib.hid hbt2
  replace hfin := Lib.hid hfin
  replace hset9 := Lib.hid hset9
  replace hbs9 := Lib.hid hbs9
  replace hXf := Lib.hid hXf
  replace hset := Lib.hid hset
  replace hblk := Lib.hid hblk
  replace hX2 := Lib.hid hX2
  replace hjj := Lib.hid hjj
  replace hAb := Lib.hid hAb
  replace hcb := Lib.hid hcb
  cases Ab with
  | none =>
    have hL0 : L = 0 := by
      rcases Nat.eq_zero_or_pos L with h0 | h0
      · exact h0
      · obtain ⟨b, o, e, _⟩ := hLs h0; cases e
    have hq0 : q = 0 := by omega
    subst hL0
    subst hq0
    replace hLs := Lib.hid hLs
    go_wp2_with fail
    go_region
    all_goals
      generalize (X2.setCell ⟨g, bi, none⟩ (.slice none 0 cb)).drew = Z at hXf hbs9 ⊢
      clear hset hset9 hfin hbt2
      have k29 := Lib.hid (c29.out Z hXf.out)
      go_wp2_with fail
      refine k29.out.mono ?_
      rintro e X3 ⟨rfl, hc⟩
      have hX3 := bel_trans hXf.out hc
      have hb3 := hbs9.out.up hc
      have k29t := Lib.hid (c29t.out g cap X3 hb3)
      replace hX3 := Lib.hid hX3
      replace hb3 := Lib.hid hb3
      clear hc k29
      go_wp2_with fail
      refine k29t.out.mono ?_
      rintro e X4 ⟨rfl, hc⟩
      have hX4 := bel_trans hX3.out hc
      have hb4 := hb3.out.up hc
      have k33 := Lib.hid (c33.out X4 hX4)
      replace hX4 := Lib.hid hX4
      replace hb4 := Lib.hid hb4
      clear hc k29t
      go_wp2_with fail
      refine k33.out.mono ?_
      rintro e X5 ⟨rfl, hc⟩
      have hX5 := bel_trans hX4.out hc
      have hb5 := hb4.out.up hc
      have k33t := Lib.hid (c33t.out g cap X5 hb5)
      replace hX5 := Lib.hid hX5
      replace hb5 := Lib.hid hb5
      clear hc k33
      go_wp2_with fail
      refine k33t.out.mono ?_
      rintro e X6 ⟨rfl, hc⟩
      have hX6 := Lib.hid (bel_trans hX5.out hc)
      clear hc k33t
      go_wp2_with fail
      refine (Sane_any _).mono ?_
      rintro e X7 ⟨rfl, hc⟩
      have hend := Lib.hid (bel_trans hX6.out hc)
      clear hc
      go_wp2
      go_ret
      exact ⟨rfl, hend.out⟩
  | some ad =>
    replace hLs := Lib.hid hLs
    go_wp2_with fail
    go_region
    all_goals
      generalize (X2.setCell ⟨g, bi, none⟩ (.slice (some ad) q cb)).drew = Z at hXf hbs9 ⊢
      clear hset hset9 hfin hbt2
      have k29 := Lib.hid (c29.out Z hXf.out)
      go_wp2_with fail
      refine k29.out.mono ?_
      rintro e X3 ⟨rfl, hc⟩
      have hX3 := bel_trans hXf.out hc
      have hb3 := hbs9.out.up hc
      have k29t := Lib.hid (c29t.out g cap X3 hb3)
      replace hX3 := Lib.hid hX3
      replace hb3 := Lib.hid hb3
      clear hc k29
      go_wp2_with fail
      refine k29t.out.mono ?_
      rintro e X4 ⟨rfl, hc⟩
      have hX4 := bel_trans hX3.out hc
      have hb4 := hb3.out.up hc
      have k33 := Lib.hid (c33.out X4 hX4)
      replace hX4 := Lib.hid hX4
      replace hb4 := Lib.hid hb4
      clear hc k29t
      go_wp2_with fail
      refine k33.out.mono ?_
      rintro e X5 ⟨rfl, hc⟩
      have hX5 := bel_trans hX4.out hc
      have hb5 := hb4.out.up hc
      have k33t := Lib.hid (c33t.out g cap X5 hb5)
      replace hX5 := Lib.hid hX5
      replace hb5 := Lib.hid hb5
      clear hc k33
      go_wp2_with fail
      refine k33t.out.mono ?_
      rintro e X6 ⟨rfl, hc⟩
      have hX6 := Lib.hid (bel_trans hX5.out hc)
      clear hc k33t
      go_wp2_with fail
      refine (Sane_any _).mono ?_
      rintro e X7 ⟨rfl, hc⟩
      have hend := Lib.hid (bel_trans hX6.out hc)
      clear hc
      go_wp2
      go_ret
      exact ⟨rfl, hend.out⟩
theorem walk (A : Option Addr) (c : Nat) (D : List Bc) (x y : Int) (w : World) (h : Bcs w w.heap.size A D) (hx : 0 ≤ x ∧ x ≤ 255) (hy : 0 ≤ y ∧ y ≤ 255) :
    Calls Try.prog 9 #[.slice A D.length c, .int .u8 x, .int .u8 y] w fun e w' => e = .returned (.bool true) ∧ Below w.heap.size w w' := by
  by_cases hl : LongP D
  · exact out A c D x y w h hl
  · cases hv : valB (bl D) with
    | false => exact outb A c D x y w h hl hv
    | true =>
      obtain ⟨x', rfl⟩ := Int.eq_ofNat_of_zero_le hx.1
      obtain ⟨y', rfl⟩ := Int.eq_ofNat_of_zero_le hy.1
      exact good A c D x' y' w h hl hv (by omega) (by omega)

/-! ### the row's step -/
set_option maxRecDepth 100000 in
theorem lifted (os : Os) (started : os.Started) (H : Type) (enc : TypeId × Value → H) :
    ReturnsInHanded {} Try.checked os 9 .any (Rows.shoreMoreSpec.pre6 enc Try.prog Try.f9 Rows.shoreMoreRow.domain false) (Rows.shoreMoreSpec.post enc Try.prog Try.f9 false true false false) := by
  refine returnsInHanded_of_change (C := Try.checked) own started (by kernel_rfl) Try.func9
    (ChangeSpec.witness6 (enc := enc) (C := Try.checked) false ⟨#[], #[.slice none 0 0, .int .u8 0, .int .u8 0], []⟩ 8 (by kernel_rfl) (by kernel_rfl) (by kernel_rfl) (by kernel_rfl)) ?_
  intro W base args ds gs before hval0 hW hcnd _
  have hval : ∀ (j : Nat) t v, Try.f9.params[j]? = some t → args[j]? = some v → Value.okWide Try.prog W .any base t v := hval0
  have hW' := hW
  obtain ⟨p, q, hA0, hV, rfl, hfz, hnd⟩ := hW
  have hA : DataW.TrodAll enc Try.prog W 0 (fun _ => true) true Try.f9.params.toList args.toList ds p := hA0
  rw [Try.params9] at hA hval
  obtain ⟨v0, vs0, d0, ds0, p0, q0, hargs, rfl, rfl, h0, r0⟩ := trodAll_cons hA
  obtain ⟨v1, vs1, d1, ds1, p1, q1, rfl, rfl, rfl, h1, r1⟩ := trodAll_cons r0
  obtain ⟨v2, vs2, d2, ds2, p2, q2, rfl, rfl, rfl, h2, r2⟩ := trodAll_cons r1
  obtain ⟨rfl, rfl, rfl⟩ := trodAll_nil r2
  obtain rfl : args = #[v0, v1, v2] := by cases args; simp_all
  obtain ⟨rfl, rfl⟩ := trodVars_none hV
  have k0 := h0
  have lt0 : ∀ x ∈ p0, x.block < W.heap.size := by obtain ⟨m, hm⟩ := k0; exact DataW.trod_lt m _ _ _ hm
  obtain ⟨a0, len0, cap0, T0, rfl, rfl, w0⟩ : ∃ A len cap D, v0 = .slice A len cap ∧ D.length = len ∧ Bcs W W.heap.size A D := by
    obtain ⟨s0, s1, s2, rfl⟩ := okWide_slice Try.underlying22 (hval 0 22 v0 rfl rfl)
    obtain ⟨fuel, hf⟩ := h0
    exact bcs_of (by simpa [Value.cells] using hf)
  obtain ⟨a1, rfl, rfl, rfl, w1⟩ := open_int Try.underlying5 (hval 1 5 v1 rfl rfl) h1
  obtain ⟨a2, rfl, rfl, rfl, w2⟩ := open_int Try.underlying5 (hval 2 5 v2 rfl rfl) h2
  clear hA0 hval0
  refine (walk a0 cap0 T0 a1 a2 W w0 (u8_range w1) (u8_range w2)).mono fun e W' ⟨he, bel⟩ => ?_
  subst he
  exact ⟨_, rfl, _, _, _, [], _, [], hW', trodAll_mk1 (shut_bool Try.underlying4 _), (trodAll_cons_mk (Below.trod laidOut (by kernel_rfl) (of_decide_eq_true (by kernel_rfl)) k0 bel lt0) (trodAll_cons_mk (shut_int Try.underlying5 w1) (trodAll_cons_mk (shut_int Try.underlying5 w2) trodAll_mk0))), rfl, bel.frame _, fun h => by cases h⟩

theorem over : Rows.shoreMoreRow.holds Try.pinned (OpenSpec.ofChange Rows.shoreMoreSpec) :=
  OpenClaim.holds_of_wide 9 Try.f9 rfl rfl rfl rfl rfl rfl rfl ⟨rfl, rfl, rfl, rfl, rfl⟩ rfl rfl rfl rfl rfl (by kernel_rfl) Try.func9 (by kernel_rfl)
    (of_decide_eq_true (by kernel_rfl)) (by unfold Func.isWrapper; first | (rw [if_pos (by decide +kernel)]; kernel_rfl) | (rw [if_neg (by decide +kernel)]; exact ⟨rfl, rfl⟩))
    (fun os started H enc _ => lifted os started H enc)

/-- The statement. -/
theorem proved : Rows.ShoreMoreSaid := over
end Go.Proofs.Ytgjgpcpghglnnaa.lawShoreMore
