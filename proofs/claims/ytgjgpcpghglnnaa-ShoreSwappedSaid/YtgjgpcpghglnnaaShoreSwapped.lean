/-
  For any jobs, list and place, the law ShoreSwapped returns true: an exchange undoes itself, makes the harm greater by what the two jobs tell, and never makes the best order better.
  Conditions: none.
-/
import Derived.Test.YtgjgpcpghglnnaaMi
namespace Go.Proofs.Ytgjgpcpghglnnaa.lawShoreSwapped
open Go.Joins Go.ChangeShapes Go.WideShapes Go.ChangeAt Go.RowKit Go.Deep Go.Proofs.Ytgjgpcpghglnnaa M
set_option linter.unusedVariables false
set_option linter.unusedSimpArgs false

theorem below_drew {B : Nat} {a w : World} (h : Below B a w) : Below B a w.drew := below_drewN h 1
theorem same_eq (l : List Int) (B1 B2 : Option Addr) (c1 c2 : Nat) (X : World) (h1 : Row X X.heap.size B1 l) (h2 : Row X X.heap.size B2 l) :
    Calls Try.prog 26 #[.slice B1 l.length c1, .slice B2 l.length c2] X fun e w' => e = .returned (.bool true) ∧ Below X.heap.size X w' := by
  have q := SameInts_any X.heap.size B1 B2 c1 c2 l l X h1 h2 (Nat.le_refl _)
  rw [decide_eq_true rfl] at q
  exact q
set_option maxRecDepth 100000 in
set_option maxHeartbeats 4000000 in
theorem out (A Ao : Option Addr) (c co : Nat) (D : List Bc) (o : List Int) (z : Int) (w : World) (h : Bcs w w.heap.size A D) (ho : Row w w.heap.size Ao o) (hl : LongP D) :
    Calls Try.prog 10 #[.slice A D.length c, .slice Ao o.length co, .int .i64 z] w fun e w' => e = .returned (.bool true) ∧ Below w.heap.size w w' := by
  have hL := Long_any w.heap.size A c D w h true (fun _ => hl) (fun hh => by cases hh)
  have h63 := ho.1
  replace hL := Lib.hid hL
  replace hl := Lib.hid hl
  generalize D.length = n at *
  generalize o.length = m at *
  replace h := Lib.hid h
  replace ho := Lib.hid ho
  go_enter Try.func10, Try.ntmps10
  go_wp2_with fail
  refine hL.out.mono ?_
  rintro e X ⟨rfl, rfl⟩
  go_wp2_with fail
  refine (Sane_any _).mono ?_
  rintro e X2 ⟨rfl, hb⟩
  go_wp2
  go_ret
  exact ⟨rfl, hb⟩
set_option maxRecDepth 100000 in
set_option maxHeartbeats 4000000 in
theorem out2 (A Ao : Option Addr) (c co : Nat) (D : List Bc) (o : List Int) (z : Int) (w : World) (h : Bcs w w.heap.size A D) (ho : Row w w.heap.size Ao o) (hl : ¬ LongP D) (h200 : 200 < o.length) :
    Calls Try.prog 10 #[.slice A D.length c, .slice Ao o.length co, .int .i64 z] w fun e w' => e = .returned (.bool true) ∧ Below w.heap.size w w' := by
  have hL := Long_any w.heap.size A c D w h false (fun hh => by cases hh) (fun _ => hl)
  have h63 := ho.1
  replace hL := Lib.hid hL
  replace hl := Lib.hid hl
  generalize D.length = n at *
  generalize o.length = m at *
  replace h := Lib.hid h
  replace ho := Lib.hid ho
  go_enter Try.func10, Try.ntmps10
  go_wp2_with fail
  refine hL.out.mono ?_
  rintro e X ⟨rfl, rfl⟩
  go_wp2_with fail
  refine (Sane_any _).mono ?_
  rintro e X2 ⟨rfl, hb⟩
  go_wp2
  go_ret
  exact ⟨rfl, hb⟩

set_option maxRecDepth 100000 in
set_option maxHeartbeats 8000000 in
theorem bad (A Ao : Option Addr) (c co : Nat) (D : List Bc) (o : List Int) (z : Int) (w : World) (h : Bcs w w.heap.size A D) (ho : Row w w.heap.size Ao o) (hl : ¬ LongP D) (h200 : ¬ 200 < o.length) (hz : -9223372036854775808 ≤ z ∧ z ≤ 9223372036854775807) (he : ¬ swE (bl D) o z = 0) :
    Calls Try.prog 10 #[.slice A D.length c, .slice Ao o.length co, .int .i64 z] w fun e w' => e = .returned (.bool true) ∧ Below w.heap.size w w' := by
  have h63 := h.1
  have hL := Long_any w.heap.size A c D w h false (fun hh => by cases hh) (fun _ => hl)
  have hl100 := LongP.no hl
  have c39 := Swap_any w.heap.size A Ao c co D o z w h ho (Nat.le_refl _) hl100 hz
  rw [swR_err he] at c39
  unfold SwP at c39
  simp only [List.length_nil] at c39
  obtain ⟨E, hE⟩ : ∃ E, E = swE (bl D) o z := ⟨_, rfl⟩
  rw [← hE] at c39 he
  have hEb : (E != 0) = true := by simpa using he
  replace hE := Lib.hid hE
  replace he := Lib.hid he
  generalize D.length = n at *
  generalize o.length = m at *
  replace hL := Lib.hid hL
  replace hl := Lib.hid hl
  replace hl100 := Lib.hid hl100
  replace c39 := Lib.hid c39
  replace h := Lib.hid h
  replace ho := Lib.hid ho
  go_enter Try.func10, Try.ntmps10
  go_wp2_with fail
  refine hL.out.mono ?_
  rintro e X ⟨rfl, rfl⟩
  go_wp2_with fail
  refine c39.out.mono ?_
  rintro e X1 ⟨A1, c1, rfl, hX1, -⟩
  replace hX1 := Lib.hid hX1
  go_wp2_with fail
  refine (Sane_any _).mono ?_
  rintro e X2 ⟨rfl, hb⟩
  have hend := Lib.hid (bel_trans hX1.out hb)
  clear hb
  go_wp2
  go_ret
  exact ⟨rfl, hend.out⟩

/-- What the best order, with two neighbours exchanged, is: not better. -/
theorem best_swap {J : List (List Jb)} {o : List Int} {a s : Nat} (he : errO J o = 0) (ha : a + 1 < o.length) (hW : Whole J s) :
    ((swR J (ord J s) (a : Nat)).2.2 = 5) ∨ ((swR J (ord J s) (a : Nat)).2.2 = 0 ∧ 0 ≤ (swR J (ord J s) (a : Nat)).2.1) := by
  obtain ⟨hv, hor⟩ := errO_ok he
  obtain ⟨h1, _, _, _, _⟩ := ord_spec hv hor
  obtain ⟨b1, b2⟩ := best_ord hv hW
  have heb : errO J (ord J s) = 0 := by unfold errO; rw [if_pos (show valB J = true from decide_eq_true hv), if_pos b1]
  have hab : a + 1 < (ord J s).length := by omega
  unfold swR
  rw [if_pos heb, if_pos ⟨by omega, by omega⟩, Int.toNat_natCast]
  by_cases hne : el (ord J s) a = el (ord J s) (a + 1)
  · rw [if_pos hne]; exact .inl rfl
  · rw [if_neg hne]
    refine .inr ⟨rfl, ?_⟩
    obtain ⟨_, ho2⟩ := errO_ok (swp_err heb hab)
    have := least_all hv hW ho2
    rw [swp_len] at this
    show 0 ≤ hm J (swp (ord J s) a) (ord J s).length - hm J (ord J s) (ord J s).length
    omega
set_option maxRecDepth 100000 in
set_option maxHeartbeats 16000000 in
theorem good (A Ao : Option Addr) (c co : Nat) (D : List Bc) (o : List Int) (a : Nat) (w : World) (h : Bcs w w.heap.size A D) (ho : Row w w.heap.size Ao o) (hl : ¬ LongP D) (h200 : ¬ 200 < o.length) (he : errO (bl D) o = 0) (ha : a + 1 < o.length) (hne : ¬ el o a = el o (a + 1)) :
    Calls Try.prog 10 #[.slice A D.length c, .slice Ao o.length co, .int .i64 (a : Nat)] w fun e w' => e = .returned (.bool true) ∧ Below w.heap.size w w' := by
  have h63 := h.1
  have hL := Long_any w.heap.size A c D w h false (fun hh => by cases hh) (fun _ => hl)
  have hl100 := LongP.no hl
  have hlen := bl_len D
  have u := fun X (hX : Below w.heap.size w X) => (h.below hX)
  have uo := fun X (hX : Below w.heap.size w X) => ho.up hX
  obtain ⟨hv, hor⟩ := errO_ok he
  have hvB : valB (bl D) = true := decide_eq_true hv
  obtain ⟨-, h12, hin, hcn, hru⟩ := ord_spec hv hor
  have he2 := swp_err he ha
  obtain ⟨hv2, hor2⟩ := errO_ok he2
  obtain ⟨-, -, -, -, hru2⟩ := ord_spec hv hor2
  have hn6 : D.length ≤ 6 := by have := hv.1.2; rw [hlen] at this; exact this
  have hz : -9223372036854775808 ≤ ((a : Nat) : Int) ∧ ((a : Nat) : Int) ≤ 9223372036854775807 := by omega
  have c39 := fun X (hX : Below w.heap.size w X) Al cl l (hr : Row X X.heap.size Al l) => Swap_any X.heap.size A Al c cl D l (a : Nat) X ((u X hX).more hX.size) hr (Nat.le_refl _) hl100 hz
  have c17 := fun X (hX : Below w.heap.size w X) => IsOrder_ref X.heap.size A Ao c co D o X ((u X hX).more hX.size) (uo X hX) (Nat.le_refl _) hl100
  have c20 := fun X (hX : Below w.heap.size w X) => Harm_any X.heap.size A Ao c co D o X ((u X hX).more hX.size) (uo X hX) (Nat.le_refl _) hl100
  have c20' := fun X (hX : Below w.heap.size w X) Al cl (hr : Row X X.heap.size Al (swp o a)) => Harm_any X.heap.size A Al c cl D (swp o a) X ((u X hX).more hX.size) hr (Nat.le_refl _) hl100
  have c27 := fun X (hX : Below w.heap.size w X) => Best_good X.heap.size A c D X ((u X hX).more hX.size) (Nat.le_refl _) hl100 hvB
  have hbs := fun s (hs : Whole (bl D) s) => best_swap he ha hs
  have hisR : isR (bl D) o = (true, 0) := by unfold isR; rw [if_pos hvB, hor]
  have hhaR : haR (bl D) o = (hm (bl D) o o.length, 0) := by unfold haR; rw [if_pos he]
  have hhaR2 : haR (bl D) (swp o a) = (hm (bl D) (swp o a) (swp o a).length, 0) := by unfold haR; rw [if_pos he2]
  have hsl := swp_len o a
  have hsw1 : swR (bl D) o (a : Nat) = (swp o a, dlt (bl D) o a, 0) := by
    unfold swR
    rw [if_pos he, if_pos ⟨by omega, by omega⟩, Int.toNat_natCast, if_neg hne, swp_dlt ha hne]
  have hsw2 : swR (bl D) (swp o a) (a : Nat) = (o, - dlt (bl D) o a, 0) := by
    unfold swR
    rw [if_pos he2, if_pos ⟨by omega, by rw [hsl]; omega⟩, Int.toNat_natCast, if_neg (by rw [swp_i ha, swp_k ha]; exact fun e => hne e.symm), swp_swp ha, hsl]
    have := swp_dlt (J := bl D) ha hne
    have e : hm (bl D) o o.length - hm (bl D) (swp o a) o.length = - dlt (bl D) o a := by omega
    rw [e]
  have hb1 := hm_b hv hru (by omega) o.length (Nat.le_refl _)
  have hb2 := hm_b hv hru2 (by omega) (swp o a).length (Nat.le_refl _)
  have hdl := swp_dlt (J := bl D) ha hne
  have hat := fun X (hX : Below w.heap.size w X) k (hk : k < D.length) => (h.below hX).at_ k hk
  have hoa := fun X (hX : Below w.heap.size w X) k (hk : k < o.length) => (ho.below hX).at_ k hk
  have hcs := fun b k => cnt_succ o b k
  have hcl := fun b k => cnt_le o b k
  have hmk := fun X => run_mkI X D.length (by omega)
  have hJn : ∀ k, k < o.length → ∃ bn q : Nat, el o k = (bn : Nat) ∧ bn < D.length ∧ cnt o (bn : Nat) k = q ∧ q < (be (bl D) bn).length ∧ jbAt (bl D) o k = jb (be (bl D) bn) q := fun k hk => by
    obtain ⟨⟨r1, r2⟩, r3⟩ := hru k hk
    obtain ⟨bn, hbn⟩ := Int.eq_ofNat_of_zero_le r1
    rw [hlen] at r2
    refine ⟨bn, cnt o (bn : Nat) k, hbn, by rw [hbn] at r2; exact r2, rfl, ?_, ?_⟩
    · rw [hbn] at r3; exact r3
    · unfold jbAt; rw [hbn]; rfl
  have hjo := fun i (hi : i < o.length) => at_ok hv hru hi
  have hst : cnt o (el o a) (a + 1) = cnt o (el o a) a + 1 := by rw [cnt_succ, if_pos rfl]
  have hst2 : cnt o (el o (a + 1)) (a + 1) = cnt o (el o (a + 1)) a := by rw [cnt_succ, if_neg hne]; rfl
  rw [hsl] at hb2 hhaR2
  obtain ⟨H1, hH1⟩ : ∃ H, H = hm (bl D) o o.length := ⟨_, rfl⟩
  obtain ⟨H2, hH2⟩ : ∃ H, H = hm (bl D) (swp o a) o.length := ⟨_, rfl⟩
  rw [← hH1] at hb1 hdl hhaR
  rw [← hH2] at hb2 hdl hhaR2
  obtain ⟨N, hN⟩ : ∃ N, N = dlt (bl D) o a := ⟨_, rfl⟩
  rw [← hN] at hdl hsw1 hsw2
  have k39 := c39 w (Below.refl _ _) Ao co o ho
  rw [hsw1] at k39
  have c39b := fun X (hX : Below w.heap.size w X) Al cl (hr : Row X X.heap.size Al (swp o a)) => by
    have q := c39 X hX Al cl _ hr
    rw [hsw2] at q
    exact q
  have c39c := fun s X (hX : Below w.heap.size w X) Al cl (hr : Row X X.heap.size Al (ord (bl D) s)) => c39 X hX Al cl _ hr
  simp only [hisR, hhaR] at c17 c20
  simp only [hhaR2] at c20'
  unfold SwP at k39 c39b c39c
  unfold BsP at c27
  simp only [] at k39 c39b
  rw [hsl] at k39 c39b c20'
  obtain ⟨l1, hl1⟩ : ∃ l, l = swp o a := ⟨_, rfl⟩
  rw [← hl1] at k39 c39b c20'
  have hHH : (0 ≤ H1 ∧ H1 ≤ 200000000) ∧ 0 ≤ H2 ∧ H2 ≤ 200000000 := by omega
  have hsame := fun (B1 B2 : Option Addr) (c1 c2 : Nat) (X : World) h1 h2 => same_eq o B1 B2 c1 c2 X h1 h2
  clear hb1 hb2 c39
  generalize D.length = n at *
  obtain ⟨m, hm'⟩ : ∃ m, m = o.length := ⟨_, rfl⟩
  rw [← hm'] at h200 ha h12 c17 c20 c20' k39 c39b hoa hJn hjo hsame ⊢
  have hN1 : IntKind.i64.wrap (-N) = -N := IntWalk.i64_in _ (by omega)
  have hN2 : IntKind.i64.wrap (H1 + N) = H2 := by rw [IntWalk.i64_in _ (by omega)]; omega
  have hN3 : H1 + N = H2 := by omega
  have hN9 : -200000000 ≤ N ∧ N ≤ 200000000 := by omega
  have t1 : (H2 != H2) = false := by simp
  have t2 : (-N != -N) = false := by simp
  have t3 : (N != N) = false := by simp
  have ham : (a : Int) + 1 < (m : Int) := by omega
  have ha0 : ¬ (a : Int) < 0 := by omega
  have haw : IntKind.i64.wrap ((a : Int) + 1) = (a : Int) + 1 := IntWalk.i64_in _ (by omega)
  replace hdl := Lib.hid hdl
  replace hN3 := Lib.hid hN3
  replace hm' := Lib.hid hm'
  replace hH1 := Lib.hid hH1
  replace hH2 := Lib.hid hH2
  replace hN := Lib.hid hN
  replace hl1 := Lib.hid hl1
  replace hL := Lib.hid hL
  replace hl := Lib.hid hl
  replace hl100 := Lib.hid hl100
  replace hlen := Lib.hid hlen
  replace u := Lib.hid u
  replace uo := Lib.hid uo
  replace hv := Lib.hid hv
  replace hor := Lib.hid hor
  replace hvB := Lib.hid hvB
  replace hin := Lib.hid hin
  replace hcn := Lib.hid hcn
  replace hru := Lib.hid hru
  replace he := Lib.hid he
  replace he2 := Lib.hid he2
  replace hv2 := Lib.hid hv2
  replace hor2 := Lib.hid hor2
  replace hru2 := Lib.hid hru2
  replace k39 := Lib.hid k39
  replace c39b := Lib.hid c39b
  replace c39c := Lib.hid c39c
  replace c17 := Lib.hid c17
  replace c20 := Lib.hid c20
  replace c20' := Lib.hid c20'
  replace c27 := Lib.hid c27
  replace hbs := Lib.hid hbs
  replace hisR := Lib.hid hisR
  replace hhaR := Lib.hid hhaR
  replace hhaR2 := Lib.hid hhaR2
  replace hsl := Lib.hid hsl
  replace hsw1 := Lib.hid hsw1
  replace hsw2 := Lib.hid hsw2
  replace hat := Lib.hid hat
  replace hoa := Lib.hid hoa
  replace hcs := Lib.hid hcs
  replace hcl := Lib.hid hcl
  replace hmk := Lib.hid hmk
  replace hJn := Lib.hid hJn
  replace hjo := Lib.hid hjo
  replace hst := Lib.hid hst
  replace hst2 := Lib.hid hst2
  replace hsame := Lib.hid hsame
  replace hne := Lib.hid hne
  replace h := Lib.hid h
  replace ho := Lib.hid ho
  go_enter Try.func10, Try.ntmps10
  go_wp2_with fail
  refine hL.out.mono ?_
  rintro e X ⟨rfl, rfl⟩
  go_wp2_with fail
  refine k39.out.mono ?_
  rintro e X1 ⟨A1, c1, rfl, hX1, w1⟩
  have k17 := Lib.hid (c17.out X1 hX1)
  have w1' : Row X1 X1.heap.size A1 l1 := w1
  replace hX1 := Lib.hid hX1
  replace w1' := Lib.hid w1'
  clear w1 k39
  go_wp2_with fail
  refine k17.out.mono ?_
  rintro e X2 ⟨rfl, hc⟩
  have hX2 := bel_trans hX1.out hc
  have w2 := w1'.out.up hc
  have k39 := Lib.hid (c39b.out X2 hX2 A1 c1 w2)
  replace hX2 := Lib.hid hX2
  replace w2 := Lib.hid w2
  clear hc k17
  go_wp2_with fail
  refine k39.out.mono ?_
  rintro e X3 ⟨A3, c3, rfl, hc, w3⟩
  have hX3 := bel_trans hX2.out hc
  have v3 := w2.out.up hc
  have w3' : Row X3 X3.heap.size A3 o := w3
  have k20 := Lib.hid (c20.out X3 hX3)
  replace hX3 := Lib.hid hX3
  replace v3 := Lib.hid v3
  replace w3' := Lib.hid w3'
  clear hc k39 w3
  go_wp2_with fail
  refine k20.out.mono ?_
  rintro e X4 ⟨rfl, hc⟩
  have hX4 := bel_trans hX3.out hc
  have v4 := v3.out.up hc
  have w4 := Lib.hid (w3'.out.up hc)
  have k20 := Lib.hid (c20'.out X4 hX4 A1 c1 v4)
  replace hX4 := Lib.hid hX4
  replace v4 := Lib.hid v4
  clear hc
  go_wp2_with fail
  refine k20.out.mono ?_
  rintro e X5 ⟨rfl, hc⟩
  have hX5 := bel_trans hX4.out hc
  have w5 := w4.out.up hc
  have k26 := Lib.hid (hsame.out A3 Ao c3 co X5 w5 (uo.out X5 hX5))
  replace hX5 := Lib.hid hX5
  clear hc
  go_wp2_with fail
  refine k26.out.mono ?_
  rintro e X6 ⟨rfl, hc⟩
  have hX6 := bel_trans hX5.out hc
  have hm1 := hmk.out X6
  have hb7 := bel_trans hX6 (mkI_below X6 n)
  have hbl := mkI_blk X6 n
  obtain ⟨Y, hY⟩ : ∃ Y, Y = mkI X6 n := ⟨_, rfl⟩
  rw [← hY] at hm1 hb7 hbl
  have hgw := hX6.size
  obtain ⟨g, hg⟩ : ∃ g, g = X6.heap.size := ⟨_, rfl⟩
  rw [← hg] at hm1 hbl hgw
  have hbl0 : BlI Y g n (fun b => (cnt o (b : Nat) 0 : Nat)) := hbl
  replace hX6 := Lib.hid hX6
  replace hb7 := Lib.hid hb7
  replace hbl0 := Lib.hid hbl0
  replace hY := Lib.hid hY
  replace hg := Lib.hid hg
  clear hc hbl k26
  go_wp2
  go_loopw [20] (fun i X => ∃ k : Nat, k ≤ a ∧ i = .int .i64 (k : Nat) ∧ Below w.heap.size w X ∧ BlI X g n (fun b => (cnt o (b : Nat) k : Nat))) (fun i _ => a - (intOf i).toNat)
  case atStart => exact ⟨0, by omega, rfl, hb7.out, hbl0.out⟩
  case round =>
    clear hb7 hbl0 hm1
    obtain ⟨k, hk, rfl, hX, hB⟩ := hrel
    by_cases hlk : k < a
    · obtain ⟨bn, q, x1, x2, x3, x4, x5⟩ := hJn.out k (by omega)
      obtain ⟨b, o1, rfl, _, u0⟩ := hoa.out wr hX k (by omega)
      rw [x1] at u0
      have nx0 := hB.cell x2
      try simp only [] at nx0
      rw [x3] at nx0
      have fz := hB.fz bn
      have gl := hB.lt
      have hq12 : q ≤ 200 := by have := hcl.out (bn : Nat) k; omega
      have hkm : (k : Int) < (m : Int) := by omega
      have hbn : (bn : Int) < (n : Int) := by omega
      have hqw : IntKind.i64.wrap ((q : Int) + 1) = (q : Int) + 1 := IntWalk.i64_in _ (by omega)
      have hB2 := Lib.hid ((hB.set x2 ((q : Int) + 1)).congr (f' := fun b => ((cnt o (b : Nat) (k + 1) : Nat) : Int)) fun i hi => by
        rw [hcs.out, x1]
        by_cases e : i = bn
        · subst e; rw [if_pos rfl, if_pos rfl, x3]; rfl
        · rw [if_neg e, if_neg (by omega)]; rfl)
      have hX2 := Lib.hid (hX.setCell (show w.heap.size ≤ (⟨g, bn, none⟩ : Addr).block from (show w.heap.size ≤ g by omega)) (.int .i64 ((q : Int) + 1)))
      replace x1 := Lib.hid x1
      replace x3 := Lib.hid x3
      replace x5 := Lib.hid x5
      replace hX := Lib.hid hX
      replace hB := Lib.hid hB
      go_wp2
      go_roundw
      case rel => exact ⟨k + 1, by omega, by go_num, hX2.out, hB2.out⟩
      case measure => simp [intOf]; omega
    · have hk' : a = k := by omega
      subst hk'
      obtain ⟨b1, q1, x1, x2, x3, x4, x5⟩ := hJn.out a (by omega)
      obtain ⟨b2, q2, y1, y2, y3, y4, y5⟩ := hJn.out (a + 1) ha
      obtain ⟨b, o1, rfl, hbl0, u0⟩ := hoa.out wr hX a (by omega)
      obtain ⟨b', o', hA2, _, u1⟩ := hoa.out wr hX (a + 1) ha
      injection hA2 with hA2
      injection hA2 with e1 e2 _
      subst e1
      subst e2
      have hs2 := hst2.out
      rw [y1] at u1 hs2
      rw [x1] at u0
      obtain ⟨bb, ob, rfl, hbl1, e1, j1⟩ := hat.out wr hX b1 x2
      obtain ⟨bb', ob', hA3, _, e2, j2⟩ := hat.out wr hX b2 y2
      injection hA3 with hA3
      injection hA3 with f1 f2 _
      subst f1
      subst f2
      obtain ⟨p1, r1, hp1, hbl2, d10, d11⟩ := j1.at_ q1 x4
      obtain ⟨p2, r2, hp2, hbl3, d20, d21⟩ := j2.at_ q2 y4
      rw [hp1] at e1
      rw [hp2] at e2
      have n1 := hB.cell x2
      have n2 := hB.cell y2
      try simp only [] at n1 n2
      rw [x3] at n1
      rw [← hs2, y3] at n2
      have gl := hB.lt
      have hws := hX.size
      have hj1 := hjo.out a (by omega)
      have hj2 := hjo.out (a + 1) ha
      have hNd : N = (jbAt (bl D) o a).m * (jbAt (bl D) o (a + 1)).h - (jbAt (bl D) o (a + 1)).m * (jbAt (bl D) o a).h := by rw [hN.out]; rfl
      rw [x5] at hj1 hNd
      rw [y5] at hj2 hNd
      generalize (bc D b1).c = ck1 at *
      generalize (bc D b2).c = ck2 at *
      obtain ⟨L1, hL1⟩ : ∃ L, L = (be (bl D) b1).length := ⟨_, rfl⟩
      obtain ⟨L2, hL2⟩ : ∃ L, L = (be (bl D) b2).length := ⟨_, rfl⟩
      rw [← hL1] at e1 x4
      rw [← hL2] at e2 y4
      obtain ⟨x, hx⟩ : ∃ x, x = jb (be (bl D) b1) q1 := ⟨_, rfl⟩
      obtain ⟨y, hy⟩ : ∃ x, x = jb (be (bl D) b2) q2 := ⟨_, rfl⟩
      rw [← hx] at d10 d11 hj1 hNd
      rw [← hy] at d20 d21 hj2 hNd
      have hb1i : (b1 : Int) < (n : Int) := by omega
      have hb2i : (b2 : Int) < (n : Int) := by omega
      have hq1i : (q1 : Int) < (L1 : Int) := by omega
      have hq2i : (q2 : Int) < (L2 : Int) := by omega
      have hai0 : 0 ≤ (a : Int) + 1 := by omega
      have hai1 : ((a : Int) + 1).toNat = a + 1 := by omega
      have ham2 : (a : Int) < (m : Int) := by omega
      obtain ⟨⟨z1, z2⟩, z3, z4⟩ := hj1
      obtain ⟨⟨z5, z6⟩, z7, z8⟩ := hj2
      obtain ⟨xh, xm⟩ := x
      obtain ⟨yh, ym⟩ := y
      simp only [] at d10 d11 d20 d21 hNd z1 z2 z3 z4 z5 z6 z7 z8
      obtain ⟨P1, hP1⟩ : ∃ P, P = xm * yh := ⟨_, rfl⟩
      obtain ⟨P2, hP2⟩ : ∃ P, P = ym * xh := ⟨_, rfl⟩
      have pb1 : 0 ≤ P1 ∧ P1 ≤ 100 * 100 := by rw [hP1]; exact ⟨Int.mul_nonneg z3 (by omega), Int.mul_le_mul z4 z6 (by omega) (by omega)⟩
      have pb2 : 0 ≤ P2 ∧ P2 ≤ 100 * 100 := by rw [hP2]; exact ⟨Int.mul_nonneg z7 (by omega), Int.mul_le_mul z8 z2 (by omega) (by omega)⟩
      rw [← hP1, ← hP2] at hNd
      have m1 : xm * yh = P1 := hP1.symm
      have m2 : ym * xh = P2 := hP2.symm
      have m3 : P1 - P2 = N := hNd.symm
      have m4 : IntKind.i64.wrap (xm * yh) = P1 := by rw [m1]; exact IntWalk.i64_in _ (by omega)
      have m5 : IntKind.i64.wrap (ym * xh) = P2 := by rw [m2]; exact IntWalk.i64_in _ (by omega)
      have m6 : IntKind.i64.wrap (P1 - P2) = N := by rw [m3]; exact IntWalk.i64_in _ (by omega)
      have i1 : b < wr.heap.size := by omega
      have i2 : bb < wr.heap.size := by omega
      have i3 : p1 < wr.heap.size := by omega
      have i4 : p2 < wr.heap.size := by omega
      replace hP1 := Lib.hid hP1
      replace hP2 := Lib.hid hP2
      replace hNd := Lib.hid hNd
      replace hL1 := Lib.hid hL1
      replace hL2 := Lib.hid hL2
      replace hx := Lib.hid hx
      replace hy := Lib.hid hy
      replace x1 := Lib.hid x1
      replace x3 := Lib.hid x3
      replace x5 := Lib.hid x5
      replace y1 := Lib.hid y1
      replace y3 := Lib.hid y3
      replace y5 := Lib.hid y5
      replace hp1 := Lib.hid hp1
      replace hp2 := Lib.hid hp2
      replace j1 := Lib.hid j1
      replace j2 := Lib.hid j2
      replace hs2 := Lib.hid hs2
      replace hX := Lib.hid hX
      replace hB := Lib.hid hB
      go_wp2_with fail
      have kp : ∀ X, Below wr.heap.size wr X → (fun X => X.cell? ⟨b, o1 + a, none⟩ = some (.int .i64 (b1 : Nat)) ∧ X.cell? ⟨b, o1 + (a + 1), none⟩ = some (.int .i64 (b2 : Nat)) ∧ X.cell? ⟨bb, ob + b1, none⟩ = some (.slice (some ⟨p1, r1, none⟩) L1 ck1) ∧ X.cell? ⟨bb, ob + b2, none⟩ = some (.slice (some ⟨p2, r2, none⟩) L2 ck2) ∧ X.cell? ⟨g, b1, none⟩ = some (.int .i64 (q1 : Nat)) ∧ X.cell? ⟨g, b2, none⟩ = some (.int .i64 (q2 : Nat)) ∧ X.cell? ⟨p1, r1 + q1 * 2, none⟩ = some (.int .i64 xh) ∧ X.cell? ⟨p1, r1 + q1 * 2 + 1, none⟩ = some (.int .i64 xm) ∧ X.cell? ⟨p2, r2 + q2 * 2, none⟩ = some (.int .i64 yh) ∧ X.cell? ⟨p2, r2 + q2 * 2 + 1, none⟩ = some (.int .i64 ym)) X := fun X hX => ⟨(hX.cell (p := ⟨b, o1 + a, none⟩) i1).trans u0, (hX.cell (p := ⟨b, o1 + (a + 1), none⟩) i1).trans u1, (hX.cell (p := ⟨bb, ob + b1, none⟩) i2).trans e1, (hX.cell (p := ⟨bb, ob + b2, none⟩) i2).trans e2, (hX.cell (p := ⟨g, b1, none⟩) gl).trans n1, (hX.cell (p := ⟨g, b2, none⟩) gl).trans n2, (hX.cell (p := ⟨p1, r1 + q1 * 2, none⟩) i3).trans d10, (hX.cell (p := ⟨p1, r1 + q1 * 2 + 1, none⟩) i3).trans d11, (hX.cell (p := ⟨p2, r2 + q2 * 2, none⟩) i4).trans d20, (hX.cell (p := ⟨p2, r2 + q2 * 2 + 1, none⟩) i4).trans d21⟩
      replace kp := Lib.hid kp
      go_region_held3 (fun X => X.cell? ⟨b, o1 + a, none⟩ = some (.int .i64 (b1 : Nat)) ∧ X.cell? ⟨b, o1 + (a + 1), none⟩ = some (.int .i64 (b2 : Nat)) ∧ X.cell? ⟨bb, ob + b1, none⟩ = some (.slice (some ⟨p1, r1, none⟩) L1 ck1) ∧ X.cell? ⟨bb, ob + b2, none⟩ = some (.slice (some ⟨p2, r2, none⟩) L2 ck2) ∧ X.cell? ⟨g, b1, none⟩ = some (.int .i64 (q1 : Nat)) ∧ X.cell? ⟨g, b2, none⟩ = some (.int .i64 (q2 : Nat)) ∧ X.cell? ⟨p1, r1 + q1 * 2, none⟩ = some (.int .i64 xh) ∧ X.cell? ⟨p1, r1 + q1 * 2 + 1, none⟩ = some (.int .i64 xm) ∧ X.cell? ⟨p2, r2 + q2 * 2, none⟩ = some (.int .i64 yh) ∧ X.cell? ⟨p2, r2 + q2 * 2 + 1, none⟩ = some (.int .i64 ym)) ((refine kp.out _ ?_; repeat (first | exact Below.refl _ _ | refine below_drew ?_ | refine Below.alloc ?_ (by simp) _ | refine Below.setCell ?_ (by simp) _))) (fail)
      clear u0 u1 e1 e2 n1 n2 d10 d11 d20 d21 kp i1 i2 i3 i4
      all_goals
        go_wp2_with fail
        refine (c27.out _ (bel_trans hX.out ?hb)).mono ?_
        case hb => repeat (first | exact Below.refl _ _ | refine below_drew ?_ | refine Below.alloc ?_ (by simp) _ | refine Below.setCell ?_ (by simp) _)
        rintro e X8 ⟨s, Ab, cb, rfl, hW, hc, hrow⟩
        have hX8 : Below w.heap.size w X8 := bel_trans (bel_trans hX.out (by repeat (first | exact Below.refl _ _ | refine below_drew ?_ | refine Below.alloc ?_ (by simp) _ | refine Below.setCell ?_ (by simp) _))) hc
        have hbb := hbs.out s hW
        have k39 := c39c.out s X8 hX8 Ab cb hrow
        obtain ⟨⟨rs, kk, e9⟩, hR⟩ : ∃ r, r = swR (bl D) (ord (bl D) s) (a : Nat) := ⟨_, rfl⟩
        rw [← hR] at hbb k39
        simp only [] at hbb k39
        replace hR := Lib.hid hR
        replace hW := Lib.hid hW
        replace hrow := Lib.hid hrow
        replace hX8 := Lib.hid hX8
        replace k39 := Lib.hid k39
        clear hc
        go_wp2_with fail
        refine k39.out.mono ?_
        rintro e X9 ⟨A9, c9, rfl, hc, -⟩
        have hX9 := Lib.hid (bel_trans hX8.out hc)
        clear hc k39
        rcases hbb with rfl | ⟨rfl, hk0⟩
        all_goals
          go_wp2_with fail
          refine (Sane_any _).mono ?_
          rintro e X10 ⟨rfl, hc⟩
          have hend := Lib.hid (bel_trans hX9.out hc)
          clear hc
          go_wp2
          go_ret
          exact ⟨rfl, hend.out⟩
theorem walk (A : Option Addr) (c : Nat) (D : List Bc) (Ao : Option Addr) (co : Nat) (o : List Int) (z : Int) (w : World) (h : Bcs w w.heap.size A D) (ho : Row w w.heap.size Ao o) (hz : -9223372036854775808 ≤ z ∧ z ≤ 9223372036854775807) :
    Calls Try.prog 10 #[.slice A D.length c, .slice Ao o.length co, .int .i64 z] w fun e w' => e = .returned (.bool true) ∧ Below w.heap.size w w' := by
  by_cases hl : LongP D
  · exact out A Ao c co D o z w h ho hl
  · by_cases h2 : 200 < o.length
    · exact out2 A Ao c co D o z w h ho hl h2
    · by_cases he : swE (bl D) o z = 0
      · obtain ⟨he1, a, rfl, ha, hne, _⟩ := swE_ok he
        exact good A Ao c co D o a w h ho hl h2 he1 ha hne
      · exact bad A Ao c co D o z w h ho hl h2 hz he

/-! ### the row's step -/
set_option maxRecDepth 100000 in
theorem lifted (os : Os) (started : os.Started) (H : Type) (enc : TypeId × Value → H) :
    ReturnsInHanded {} Try.checked os 10 .any (Rows.shoreSwappedSpec.pre6 enc Try.prog Try.f10 Rows.shoreSwappedRow.domain false) (Rows.shoreSwappedSpec.post enc Try.prog Try.f10 false true false false) := by
  refine returnsInHanded_of_change (C := Try.checked) own started (by kernel_rfl) Try.func10
    (ChangeSpec.witness6 (enc := enc) (C := Try.checked) false ⟨#[], #[.slice none 0 0, .slice none 0 0, .int .i64 0], []⟩ 8 (by kernel_rfl) (by kernel_rfl) (by kernel_rfl) (by kernel_rfl)) ?_
  intro W base args ds gs before hval0 hW hcnd _
  have hval : ∀ (j : Nat) t v, Try.f10.params[j]? = some t → args[j]? = some v → Value.okWide Try.prog W .any base t v := hval0
  have hW' := hW
  obtain ⟨p, q, hA0, hV, rfl, hfz, hnd⟩ := hW
  have hA : DataW.TrodAll enc Try.prog W 0 (fun _ => true) true Try.f10.params.toList args.toList ds p := hA0
  rw [Try.params10] at hA hval
  obtain ⟨v0, vs0, d0, ds0, p0, q0, hargs, rfl, rfl, h0, r0⟩ := trodAll_cons hA
  obtain ⟨v1, vs1, d1, ds1, p1, q1, rfl, rfl, rfl, h1, r1⟩ := trodAll_cons r0
  obtain ⟨v2, vs2, d2, ds2, p2, q2, rfl, rfl, rfl, h2, r2⟩ := trodAll_cons r1
  obtain ⟨rfl, rfl, rfl⟩ := trodAll_nil r2
  obtain rfl : args = #[v0, v1, v2] := by cases args; simp_all
  obtain ⟨rfl, rfl⟩ := trodVars_none hV
  have k0 := h0
  have lt0 : ∀ x ∈ p0, x.block < W.heap.size := by obtain ⟨m, hm⟩ := k0; exact DataW.trod_lt m _ _ _ hm
  obtain ⟨a0, len0, cap0, T0, rfl, rfl, w0⟩ : ∃ A len cap D, v0 = .slice A len cap ∧ D.length = len ∧ Bcs W W.heap.size A D := by
    obtain ⟨s0, s1, s2, rfl⟩ := okWide_slice Try.underlying22 (hval 0 22 v0 rfl rfl)
    obtain ⟨fuel, hf⟩ := h0
    exact bcs_of (by simpa [Value.cells] using hf)
  have k1 := h1
  have lt1 : ∀ x ∈ p1, x.block < W.heap.size := by obtain ⟨m, hm⟩ := k1; exact DataW.trod_lt m _ _ _ hm
  obtain ⟨a1, len1, cap1, T1, rfl, rfl, w1⟩ : ∃ A len cap D, v1 = .slice A len cap ∧ D.length = len ∧ Row W W.heap.size A D := by
    obtain ⟨s0, s1, s2, rfl⟩ := okWide_slice Try.underlying23 (hval 1 23 v1 rfl rfl)
    obtain ⟨fuel, hf⟩ := h1
    exact row_of (by simpa [Value.cells] using hf)
  obtain ⟨a2, rfl, rfl, rfl, w2⟩ := open_int Try.underlying3 (hval 2 3 v2 rfl rfl) h2
  clear hA0 hval0
  refine (walk a0 cap0 T0 a1 cap1 T1 a2 W w0 w1 (i64_range w2)).mono fun e W' ⟨he, bel⟩ => ?_
  subst he
  exact ⟨_, rfl, _, _, _, [], _, [], hW', trodAll_mk1 (shut_bool Try.underlying4 _), (trodAll_cons_mk (Below.trod laidOut (by kernel_rfl) (of_decide_eq_true (by kernel_rfl)) k0 bel lt0) (trodAll_cons_mk (Below.trod laidOut (by kernel_rfl) (of_decide_eq_true (by kernel_rfl)) k1 bel lt1) (trodAll_cons_mk (shut_int Try.underlying3 w2) trodAll_mk0))), rfl, bel.frame _, fun h => by cases h⟩

theorem over : Rows.shoreSwappedRow.holds Try.pinned (OpenSpec.ofChange Rows.shoreSwappedSpec) :=
  OpenClaim.holds_of_wide 10 Try.f10 rfl rfl rfl rfl rfl rfl rfl ⟨rfl, rfl, rfl, rfl, rfl⟩ rfl rfl rfl rfl rfl (by kernel_rfl) Try.func10 (by kernel_rfl)
    (of_decide_eq_true (by kernel_rfl)) (by unfold Func.isWrapper; first | (rw [if_pos (by decide +kernel)]; kernel_rfl) | (rw [if_neg (by decide +kernel)]; exact ⟨rfl, rfl⟩))
    (fun os started H enc _ => lifted os started H enc)

/-- The statement. -/
theorem proved : Rows.ShoreSwappedSaid := over
end Go.Proofs.Ytgjgpcpghglnnaa.lawShoreSwapped
