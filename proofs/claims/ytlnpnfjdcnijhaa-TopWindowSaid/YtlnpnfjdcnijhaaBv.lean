/-
  Windows that came in; how many there are together; the law's own functions of lists of windows.
-/
import Derived.Test.YtlnpnfjdcnijhaaBu
namespace Go.Proofs.Ytlnpnfjdcnijhaa
open Go.Joins Go.ChangeShapes Go.WideShapes Go.ChangeAt Go.RowKit Go.Deep M
set_option linter.unusedVariables false
set_option linter.unusedSimpArgs false

theorem cells22 : Try.prog.cellsOf 22 = 1 := by kernel_rfl
theorem choose_fun {n : Nat} {P : Nat → Wc → Prop} (h : ∀ i, i < n → ∃ z, P i z) : ∃ f : Nat → Wc, ∀ i, i < n → P i (f i) :=
  ⟨fun i => if hi : i < n then Classical.choose (h i hi) else wc0, fun i hi => by
    simp only [dif_pos hi]; exact Classical.choose_spec (h i hi)⟩
def mkW (f : Nat → Wc) (n : Nat) : List Wc := (List.range n).map f
theorem mkW_len (f : Nat → Wc) (n : Nat) : (mkW f n).length = n := by simp [mkW]
theorem mkW_at (f : Nat → Wc) (n i : Nat) (h : i < n) : wc (mkW f n) i = f i := by simp [wc, mkW, List.getD, h]
section
variable {H : Type} {enc : TypeId × Value → H} {W : World} {fuel : Nat} {v : Value} {x : DataW H × List MemPlace}
set_option maxRecDepth 100000 in
/-- WINDOWS THAT CAME IN. -/
theorem wds_of (hf : DataW.trod enc Try.prog W 0 (fun _ => true) true fuel 45 [v] = some x) : ∃ A len cap D, v = .slice A len cap ∧ D.length = len ∧ Wds W W.heap.size A D := by
  rcases open_slice Try.underlying45 hf with ⟨hcs, hx⟩ | ⟨a, len, cap, m, n, D, Pl, hcs, _, hl, hm, hmm, hx, hi⟩
  · obtain rfl : v = .slice none 0 0 := by simpa using hcs
    exact ⟨none, 0, 0, [], rfl, rfl, wds_nil _ _ _⟩
  · obtain rfl : v = .slice (some a) len cap := by simpa using hcs
    have hm' : m = cap := by simpa using hmm
    subst hm'
    have hc : ∀ i, i < len → ∃ z : Wc, W.cell? (a.add (i * 2)) = some (.int .i64 z.x.p) ∧ W.cell? (a.add (i * 2 + 1)) = some (.slice z.A z.x.hs.length z.c) ∧ Row W W.heap.size z.A z.x.hs := fun i hil => by
      obtain ⟨cs', hc, ht⟩ := hi i (by omega)
      rw [cells24] at hc
      obtain ⟨_, hcl, hat⟩ := World.cells?_some hc
      obtain ⟨y0, y1, n', hx', hlen, h0, h1⟩ := trod_struct2 Try.underlying24 ht
      have a0 := hat 0 (by omega)
      have a1 := hat 1 (by omega)
      rw [Go.Deep.add_add] at a0 a1
      match cs', hcl with
      | [c0, c1], _ =>
        obtain ⟨z0, e0, _, _⟩ := DataW.trod_int Try.underlying3 h0
        obtain rfl : c0 = .int .i64 z0 := by simpa [cells3] using e0
        obtain ⟨A, n, c, l, e1, e2, hl⟩ := row_of (show DataW.trod enc Try.prog W 0 (fun _ => true) true _ 22 [c1] = some _ by simpa [cells3, cells22] using h1)
        subst e1
        subst e2
        exact ⟨⟨⟨z0, l⟩, A, c⟩, a0, a1, hl⟩
    unfold maxLen at hm
    obtain ⟨f, hfs⟩ := choose_fun hc
    refine ⟨some a, len, m, mkW f len, rfl, mkW_len _ _, by rw [mkW_len]; omega, fun hn => ?_⟩
    rw [mkW_len] at hn
    obtain ⟨hz, _, _⟩ := hfs 0 hn
    obtain ⟨b, o, rfl, hb, hadd⟩ := addr_plain (by simpa using hz)
    refine ⟨b, o, rfl, hb, fun i hil => ?_⟩
    rw [mkW_len] at hil
    obtain ⟨q0, q1, q2⟩ := hfs i hil
    rw [mkW_at _ _ _ hil]
    rw [hadd] at q0 q1
    exact ⟨q0, q1, q2⟩
end

set_option maxRecDepth 100000 in
set_option maxHeartbeats 4000000 in
theorem Number_any (B : Nat) (A : Option Addr) (c : Nat) (D : List Wc) (w : World) (h : Wds w B A D) (hB : B ≤ w.heap.size) :
    Calls Try.prog 46 #[.slice A D.length c] w fun e w' => e = .returned (.tuple #[.int .i64 (numR D).1, .int .i64 (numR D).2.1, .int .i64 (numR D).2.2]) ∧ Below w.heap.size w w' := by
  have h63 := h.1
  have c85 := together_any B A c D true w h hB
  unfold TogR at c85
  have hcs := togE_cases D true
  have hz := @togE_zero D true
  have hbad : ¬ togE D true = 0 → numR D = (0, 0, togE D true) := fun h => by unfold numR; rw [if_neg h]
  have hgood : togE D true = 0 → numR D = ((((hrsL (fun j => opT D D.length (j : Nat)) (perT D D.length)).length : Nat) : Int), ((perT D D.length : Nat) : Int), 0) := fun h => by unfold numR; rw [if_pos h]
  obtain ⟨er, her⟩ : ∃ er, er = togE D true := ⟨_, rfl⟩
  rw [← her] at hcs hz hbad hgood c85
  obtain ⟨n, hn⟩ : ∃ n, n = D.length := ⟨_, rfl⟩
  rw [← hn] at h63 c85 hz hgood ⊢
  replace hn := Lib.hid hn
  replace her := Lib.hid her
  replace c85 := Lib.hid c85
  by_cases h0 : er = 0
  · obtain ⟨_, _, p1, p2, _⟩ := hz h0
    have hR := hgood h0
    rw [hR]
    clear hz hbad hgood hcs
    subst h0
    simp only []
    generalize perT D n = p at *
    generalize opT D n = f at *
    have hct : ∀ F X, Opn X X.heap.size F f → Calls Try.prog 87 #[.agg #[.int .i64 p, F]] X fun e w' => e = .returned (.int .i64 ((hrsL (fun j => f (j : Nat)) p).length : Nat)) ∧ Below X.heap.size X w' := fun F X hO => count_any p F f X hO (by omega)
    obtain ⟨N, hN⟩ : ∃ N, N = (hrsL (fun j => f (j : Nat)) p).length := ⟨_, rfl⟩
    rw [← hN] at hct ⊢
    replace hN := Lib.hid hN
    replace hR := Lib.hid hR
    replace hct := Lib.hid hct
    go_enter Try.func46, Try.ntmps46
    go_wp2_with fail
    refine c85.out.mono ?_
    rintro e X2 ⟨P, F, rfl, hb2, _, hg⟩
    obtain ⟨rfl, hO⟩ := hg (by simp)
    have hO' := hO
    obtain ⟨g, caps, rfl, _⟩ := hO
    clear hg
    have hb3 := ba1 X2 (.cells #[.int .i64 p, .func (Fn.func g) #[] caps] 74)
    have hbx := BxO.new X2 p (.func (Fn.func g) #[] caps)
    obtain ⟨Y, hY⟩ : ∃ Y, Y = X2.alloc (.cells #[.int .i64 p, .func (Fn.func g) #[] caps] 74) := ⟨_, rfl⟩
    obtain ⟨b5, hb5⟩ : ∃ b, b = X2.heap.size := ⟨_, rfl⟩
    have hOY := hO'.upp hb3
    rw [← hY] at hb3 hbx hOY
    rw [← hb5] at hbx
    have hbd : BxO Y.drew b5 p (.func (Fn.func g) #[] caps) := hbx
    have hOd : Opn Y.drew Y.drew.heap.size (.func (Fn.func g) #[] caps) f := hOY.upp (below_drew (Below.refl _ _))
    have k := hct.out _ _ hOd
    have k0 := hbd.cells
    have hbe : Below w.heap.size w Y := bel_trans hb2 (by rw [← hb5] at hb3; rw [hb5] at hb3; exact hb3)
    replace hY := Lib.hid hY
    replace hb5 := Lib.hid hb5
    replace k := Lib.hid k
    replace hO' := Lib.hid hO'
    replace hOY := Lib.hid hOY
    replace hOd := Lib.hid hOd
    replace hbx := Lib.hid hbx
    replace hbd := Lib.hid hbd
    replace hb2 := Lib.hid hb2
    replace hb3 := Lib.hid hb3
    replace hbe := Lib.hid hbe
    go_wp2_with fail
    rw [← hY.out, ← hb5.out]
    go_region_held3 (fun X => X.cell? ⟨b5, 0, none⟩ = some (.int .i64 p) ∧ X.cell? ⟨b5, 1, none⟩ = some (.func (Fn.func g) #[] caps))
      (first | with_reducible exact k0 | with_reducible exact k1)
      (first | (go_at_call 87; with_reducible refine k.out.mono ?_; rintro e X3 ⟨rfl, hb4⟩; have k1 := (hbd.out.up hb4).cells))
    all_goals
      have hzz := bel_trans (below_drew hbe.out) hb4
      go_wp2
      exact bodyPost_ret (v := .tuple #[.int .i64 (N : Nat), .int .i64 (p : Nat), .int .i64 0]) (by simp [results, Try.results46, go_sem]) rfl ⟨rfl, hzz⟩
  · have hR := hbad h0
    rw [hR]
    clear hz hbad hgood
    replace hR := Lib.hid hR
    replace hcs := Lib.hid hcs
    simp only []
    go_enter Try.func46, Try.ntmps46
    go_wp2_with fail
    refine c85.out.mono ?_
    rintro e X2 ⟨P, F, rfl, hb2, hg, _⟩
    obtain ⟨rfl, rfl⟩ := hg h0
    have hb3 := ba1 X2 (.cells #[.int .i64 0, .nilFunc] 74)
    have hz := bel_trans hb2 hb3
    clear hg
    replace hb2 := Lib.hid hb2
    replace hb3 := Lib.hid hb3
    replace hz := Lib.hid hz
    go_wp2
    exact bodyPost_ret (v := .tuple #[.int .i64 0, .int .i64 0, .int .i64 er]) (by simp [results, Try.results46, go_sem]) rfl ⟨rfl, hz.out⟩

/-- The law's own bound. -/
def Mny (D : List Wc) (k : Nat) : Prop := ∀ i, i < k → (wc D i).x.hs.length ≤ 200
instance (D : List Wc) (k : Nat) : Decidable (Mny D k) := by unfold Mny; infer_instance
def mnyB (D : List Wc) : Bool := !decide (Mny D D.length) || decide (20 < D.length)
set_option maxHeartbeats 2000000 in
theorem many_any (B : Nat) (A : Option Addr) (c : Nat) (D : List Wc) (w : World) (h : Wds w B A D) (hB : B ≤ w.heap.size) :
    Calls Try.prog 43 #[.slice A D.length c] w fun e w' => e = .returned (.bool (mnyB D)) ∧ Below w.heap.size w w' := by
  have h63 := h.1
  have hbig : ∀ k, k < D.length → ¬ (wc D k).x.hs.length ≤ 200 → mnyB D = true := fun k hk hh => by
    unfold mnyB; rw [decide_eq_false (fun hm => hh (hm k hk))]; rfl
  have hall : Mny D D.length → mnyB D = decide (20 < D.length) := fun hm => by unfold mnyB; rw [decide_eq_true hm]; rfl
  have hsucc : ∀ k, Mny D k → (wc D k).x.hs.length ≤ 200 → Mny D (k + 1) := fun k hm h1 j hj => by
    rcases Nat.lt_succ_iff_lt_or_eq.1 hj with h' | rfl
    · exact hm j h'
    · exact h1
  obtain ⟨n, hn⟩ : ∃ n, n = D.length := ⟨_, rfl⟩
  rw [← hn] at h63 hbig hall ⊢
  replace hn := Lib.hid hn
  replace h := Lib.hid h
  replace hbig := Lib.hid hbig
  replace hall := Lib.hid hall
  replace hsucc := Lib.hid hsucc
  go_enter Try.func43, Try.ntmps43
  go_wp2
  go_loopw [7] (fun i X => ∃ k : Nat, k ≤ n ∧ i = .int .i64 (k : Nat) ∧ Mny D k ∧ Below w.heap.size w X) (fun i _ => n - (intOf i).toNat)
  case atStart => exact ⟨0, Nat.zero_le _, rfl, fun i hi => absurd hi (Nat.not_lt_zero _), Below.refl _ _⟩
  case round =>
    obtain ⟨k, hk, rfl, hm, hb⟩ := hrel
    by_cases hlt : k < n
    · obtain ⟨b, o, rfl, hbB, e0, e1, hrow⟩ := (h.out.below (hb.mono hB)).at_ k (hn.out ▸ hlt)
      have hs := hsucc.out k hm
      have hg := hbig.out k hlt
      have hr63 := hrow.1
      have hb1 := fun o => ba hb hb.size o
      generalize (wc D k).x.hs.length = m at *
      generalize (wc D k).x.p = q at *
      generalize (wc D k).A = Ak at *
      generalize (wc D k).c = ck at *
      have hbx := BxW.new wr q Ak m ck
      have f1 := hbx.c1
      have hb2 := Lib.hid (hb1 (.cells #[.int .i64 q, .slice Ak m ck] 24))
      clear hb1 hrow
      replace hbx := Lib.hid hbx
      replace hm := Lib.hid hm
      replace hb := Lib.hid hb
      by_cases hbg : m ≤ 200
      · have hs2 := Lib.hid (hs hbg)
        have hbi : ¬ ((200 : Int) < (m : Int)) := by omega
        clear hs hg
        go_wp2
        go_roundw
        case rel => exact ⟨k + 1, by omega, by go_num, hs2.out, hb2.out⟩
        case measure => simp [intOf]; omega
      · have hg2 := Lib.hid (hg hbg)
        have hbi : (200 : Int) < (m : Int) := by omega
        clear hs hg
        go_wp2
        go_ret
        exact ⟨by rw [hg2.out]; rfl, hb2.out⟩
    · have hk' : k = n := by omega
      have ha := hall.out (hk' ▸ hm)
      subst hk'
      replace hm := Lib.hid hm
      replace hb := Lib.hid hb
      by_cases h20 : 20 < k
      · rw [decide_eq_true h20] at ha
        have hbi : (20 : Int) < (k : Int) := by omega
        replace ha := Lib.hid ha
        go_wp2
        go_ret
        exact ⟨by rw [ha.out]; simp <;> omega, hb.out⟩
      · rw [decide_eq_false h20] at ha
        have hbi : ¬ ((20 : Int) < (k : Int)) := by omega
        replace ha := Lib.hid ha
        go_wp2
        go_ret
        exact ⟨by rw [ha.out]; simp <;> omega, hb.out⟩
end Go.Proofs.Ytlnpnfjdcnijhaa
