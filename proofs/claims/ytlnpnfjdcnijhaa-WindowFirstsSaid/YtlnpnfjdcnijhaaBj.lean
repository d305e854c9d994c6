/-
  The plain window: the specification's function.
-/
import Derived.Test.YtlnpnfjdcnijhaaBi
namespace Go.Proofs.Ytlnpnfjdcnijhaa
open Go.RowKit Go.Deep M
set_option linter.unusedVariables false
set_option linter.unusedSimpArgs false

theorem rem_step (f : Int → Bool) (k n : Nat) : decide (Rem f k (n + 1)) = (decide (Rem f k n) && (f (n : Int) == f ((n % k : Nat) : Int))) := by
  rw [Bool.eq_iff_iff, Bool.and_eq_true, decide_eq_true_iff, decide_eq_true_iff, rem_succ, beq_iff_eq]
/-- The world in which the specification's plain runs. -/
structure PrW (w : World) (p : Nat) (A : Option Addr) (n c g : Nat) (f : Nat → Bool) (X : World) : Prop where
  sw : SwW w p A n c X
  blk : BlB X g p f
theorem PrW.drewN {w X : World} {p : Nat} {A : Option Addr} {n c g : Nat} {f : Nat → Bool} (h : PrW w p A n c g f X) (k : Nat) : PrW w p A n c g f (X.drewN k) := ⟨⟨⟨below_drewN h.sw.on.below k, h.sw.on.box⟩, h.sw.box⟩, h.blk.to rfl⟩

set_option maxRecDepth 100000 in
set_option maxHeartbeats 4000000 in
theorem plain_ref (B : Nat) (A : Option Addr) (c : Nat) (x : Wn) (p : Nat) (w : World) (h : Row w B A x.hs) (hB : B ≤ w.heap.size) (hv : winB x 3600 = true) (hp : x.p = (p : Int)) :
    Calls Try.prog 82 #[wnV p A x.hs.length c] w (NewWn w (plN p (opB x)) (hrsL (fun j => opB x (j : Nat)) (plN p (opB x)))) := by
  obtain ⟨⟨p1, p2⟩, _⟩ := winB_iff.1 hv
  have h63 := h.1
  rw [hp] at p1 p2
  have hp1 : 1 ≤ p := by omega
  have hp4 : p ≤ 4000 := by omega
  clear p1 p2
  have hper := opB_perM hp
  have hW := swW_new w p A x.hs.length c
  have c0 := hW.on.box.c0
  have c1 := hW.on.box.c1
  have c67 := (hours_ref B A c x p _ (h.below (hW.on.below.mono hB)) (Nat.le_trans hB hW.on.below.size) hv hp).mono (R' := fun e w' => ∃ g, e = .returned (.slice (some ⟨g, 0, none⟩) p p) ∧ PrW w p A x.hs.length c g (fun j => opB x (j : Nat)) w') fun e w' ⟨g, he, hb, hbl, _⟩ => ⟨g, he, hW.up hb, hbl.congr fun j hj => (opB_eq (by rw [hp]; exact Int.emod_eq_of_lt (by omega) (by omega))).symm⟩
  obtain ⟨f, hf⟩ : ∃ f, f = opB x := ⟨_, rfl⟩
  rw [← hf] at c67 hper ⊢
  have hyes := fun k => @plN_yes p f k
  have hno := @plN_no p f
  have hser := fun k h1 h2 => @ser_rem p f k hp1 hper h1 h2
  obtain ⟨N, hN⟩ : ∃ N, N = plN p f := ⟨_, rfl⟩
  rw [← hN] at hyes hno ⊢
  have hfin : ∀ (X : World) (g k c : Nat), PrW w p A x.hs.length c g (fun j => f (j : Nat)) X → k ≤ p → True := fun _ _ _ _ _ _ => trivial
  clear hfin
  have hcw : ∀ (X : World) (g k cc : Nat), PrW w p A x.hs.length c g (fun j => f (j : Nat)) X → k ≤ p → Calls Try.prog 77 #[.slice (some ⟨g, 0, none⟩) k cc] X fun e w' => ∃ A5 c5, e = .returned (.agg #[.int .i64 (k : Nat), .slice A5 (hrsL (fun j => f (j : Nat)) k).length c5]) ∧ Below X.heap.size X w' ∧ SwW w p A x.hs.length c w' ∧ Row w' w'.heap.size A5 (hrsL (fun j => f (j : Nat)) k) ∧ ∀ a, A5 = some a → w.heap.size + 1 < a.block := fun X g k cc hX hk => by
    obtain ⟨cs, h1, h2⟩ := hX.blk
    refine (window_ref g k cc (fun j => f (j : Nat)) X ⟨cs, h1, fun i hi => h2 i (by omega)⟩ (by omega)).mono ?_
    rintro e w' ⟨A5, c5, he, hb, hr, hfr⟩
    exact ⟨A5, c5, he, hb, hX.sw.up hb, hr, fun a ha => by have := hfr a ha; have := hX.sw.box.lt; omega⟩
  unfold wnV at *
  replace hW := Lib.hid hW
  replace c67 := Lib.hid c67
  replace hv := Lib.hid hv
  replace hp := Lib.hid hp
  replace hf := Lib.hid hf
  replace hN := Lib.hid hN
  replace hper := Lib.hid hper
  replace hyes := Lib.hid hyes
  replace hno := Lib.hid hno
  replace hser := Lib.hid hser
  replace hcw := Lib.hid hcw
  replace h := Lib.hid h
  go_enter Try.func82, Try.ntmps82
  go_wp2_with fail
  refine c67.out.mono ?_
  rintro e X1 ⟨g, rfl, hX1⟩
  clear c0 c1
  replace hX1 := Lib.hid hX1
  go_wp2
  go_loopw [4] (fun i X => ∃ k m : Nat, 1 ≤ k ∧ k ≤ p ∧ i = .int .i64 (k : Nat) ∧ (∀ j, j < k → serB p f j = false) ∧ X = X1.drewN m) (fun i _ => p - (intOf i).toNat)
  case atStart =>
    refine ⟨1, 0, Nat.le_refl _, hp1, rfl, fun j hj => ?_, rfl⟩
    have hj0 : j = 0 := by omega
    subst hj0
    exact serB_zero p f
  case round =>
    obtain ⟨k, m, hk1, hk, rfl, hj, hw⟩ := hrel
    have hX := hX1.out.drewN m
    rw [← hw] at hX
    have c0 := hX.sw.on.box.c0
    have c1 := hX.sw.on.box.c1
    replace hw := Lib.hid hw
    by_cases hlt : k < p
    · have hk0 : ¬ ((k : Int) = 0) := by omega
      have hkn : ¬ (k = 0) := by omega
      have hki : (1 : Int) ≤ (k : Int) := by omega
      have hmod : ((p : Int)).tmod (k : Int) = ((p % k : Nat) : Int) := rfl
      have hyk := hyes.out k hlt
      have hstep : serB p f k = false → ∀ j, j < k + 1 → serB p f j = false := fun h j hj' => by
        rcases Nat.lt_succ_iff_lt_or_eq.1 hj' with h' | rfl
        · exact hj j h'
        · exact h
      by_cases hm : p % k = 0
      · rw [hm] at hmod
        have hmod' : ((p : Int)).tmod (k : Int) = 0 := hmod
        clear hmod
        have hsr := hser.out k hk1 (Nat.dvd_of_mod_eq_zero hm)
        generalize serB p f k = S at *
        replace hj := Lib.hid hj
        replace hX := Lib.hid hX
        replace hyk := Lib.hid hyk
        replace hstep := Lib.hid hstep
        replace hsr := Lib.hid hsr
        go_wp2
        go_loopw [5, 22] (fun s i X => ∃ n m : Nat, n ≤ p ∧ i = .int .i64 (n : Nat) ∧ s = .bool (decide (Rem f k n)) ∧ X = X1.drewN m) (fun _ i _ => p - (intOf i).toNat)
        case atStart => exact ⟨0, m, Nat.zero_le _, rfl, by rw [decide_eq_true (rem_zero f k)], hw.out⟩
        case round =>
          obtain ⟨n, m2, hn, rfl, rfl, hw2⟩ := hrel
          have hX2 := hX1.out.drewN m2
          rw [← hw2] at hX2
          replace hw2 := Lib.hid hw2
          clear c0 c1
          by_cases hnl : n < p
          · have hs := rem_step f k n
            have hr1 : n % k < k := Nat.mod_lt _ (by omega)
            have e1 := hX2.blk.cell hnl
            have e2 := hX2.blk.cell (show n % k < p by omega)
            have hmn : ((n : Int)).tmod (k : Int) = ((n % k : Nat) : Int) := rfl
            generalize n % k = r at *
            generalize f (n : Int) = b1 at *
            generalize f (r : Int) = b2 at *
            have hrp : r < p := by omega
            replace hX2 := Lib.hid hX2
            cases hq : decide (Rem f k n) with
            | true =>
              rw [hq, Bool.true_and] at hs
              replace hs := Lib.hid hs
              replace hq := Lib.hid hq
              go_wp2_with fail
              go_quiet (fail)
              go_wp2
              go_roundw
              case rel => exact ⟨n + 1, m2 + nq, by omega, by go_num, by rw [hs.out], by rw [hw2.out, World.drewN_drewN]⟩
              case measure => simp [intOf]; omega
            | false =>
              rw [hq, Bool.false_and] at hs
              replace hs := Lib.hid hs
              replace hq := Lib.hid hq
              go_wp2_with fail
              go_quiet (fail)
              go_wp2
              go_roundw
              case rel => exact ⟨n + 1, m2 + nq, by omega, by go_num, by rw [hs.out], by rw [hw2.out, World.drewN_drewN]⟩
              case measure => simp [intOf]; omega
          · have hn' : n = p := by omega
            subst hn'
            have hS := hsr.out
            cases S with
            | true =>
              have hNk := hyk.out rfl hj.out
              have hc := hcw.out wr g k n hX2 (by omega)
              rw [← hS]
              have hll := hrsL_le (fun j => f (j : Nat)) k
              obtain ⟨l, hl⟩ : ∃ l, l = hrsL (fun j => f (j : Nat)) k := ⟨_, rfl⟩
              rw [← hl] at hc hll
              replace hl := Lib.hid hl
              replace hNk := Lib.hid hNk
              replace hS := Lib.hid hS
              replace hX2 := Lib.hid hX2
              replace hc := Lib.hid hc
              go_wp2_with fail
              refine hc.out.mono ?_
              rintro e X5 ⟨A5, c5, rfl, hb5, hX5, hrow, hfr⟩
              obtain ⟨y0, y1, hrw⟩ := res_win (w := w) (p := k) (c := c5) hX5.box hrow (fun a ha => Or.inl (by have := hfr a ha; omega))
              have hz := set2_below hX5.on.below (Nat.le_succ w.heap.size) (.int .i64 (k : Nat)) (.slice A5 l.length c5)
              have z0 := hX5.box.c0
              have z1 := hX5.box.c1
              have z2 := hX5.box.fz 0
              have z3 := hX5.box.fz 1
              have hl5 := hX5.box.lt
              replace hX5 := Lib.hid hX5
              replace hb5 := Lib.hid hb5
              replace hrow := Lib.hid hrow
              replace hfr := Lib.hid hfr
              replace hrw := Lib.hid hrw
              replace hz := Lib.hid hz
              go_wp2
              refine bodyPost_ret (v := .agg #[.int .i64 (k : Nat), .slice A5 l.length c5]) (by simp [results, Try.results82, go_sem, y0, y1]) rfl ?_
              rw [hNk.out, ← hl.out]
              exact ⟨A5, c5, rfl, hz.out, hrw.out, fun a ha => by have := hfr.out a ha; omega⟩
            | false =>
              have hs := Lib.hid (hstep.out rfl)
              rw [← hS]
              replace hS := Lib.hid hS
              replace hX2 := Lib.hid hX2
              go_wp2
              go_roundw
              case rel => exact ⟨k + 1, m2, by omega, by omega, by go_num, hs.out, hw2.out⟩
              case measure => simp [intOf]; omega
      · have hse : serB p f k = false := by unfold serB; rw [decide_eq_false hm]; simp
        have hs := Lib.hid (hstep hse)
        have hmi : ¬ (((p % k : Nat) : Int) = 0) := by omega
        have hmm : p % k < k := Nat.mod_lt _ (by omega)
        generalize p % k = r at *
        replace hj := Lib.hid hj
        replace hX := Lib.hid hX
        clear hyk hstep
        go_wp2
        go_roundw
        case rel => exact ⟨k + 1, m, by omega, by omega, by go_num, hs.out, hw.out⟩
        case measure => simp [intOf]; omega
    · have hk' : k = p := by omega
      subst hk'
      have hNk := hno.out hj
      have hc := hcw.out wr g k k hX (Nat.le_refl _)
      have hll := hrsL_le (fun j => f (j : Nat)) k
      obtain ⟨l, hl⟩ : ∃ l, l = hrsL (fun j => f (j : Nat)) k := ⟨_, rfl⟩
      rw [← hl] at hc hll
      replace hl := Lib.hid hl
      replace hNk := Lib.hid hNk
      replace hX := Lib.hid hX
      replace hc := Lib.hid hc
      replace hj := Lib.hid hj
      go_wp2_with fail
      refine hc.out.mono ?_
      rintro e X5 ⟨A5, c5, rfl, hb5, hX5, hrow, hfr⟩
      obtain ⟨y0, y1, hrw⟩ := res_win (w := w) (p := k) (c := c5) hX5.box hrow (fun a ha => Or.inl (by have := hfr a ha; omega))
      have hz := set2_below hX5.on.below (Nat.le_succ w.heap.size) (.int .i64 (k : Nat)) (.slice A5 l.length c5)
      have z0 := hX5.box.c0
      have z1 := hX5.box.c1
      have z2 := hX5.box.fz 0
      have z3 := hX5.box.fz 1
      have hl5 := hX5.box.lt
      replace hX5 := Lib.hid hX5
      replace hb5 := Lib.hid hb5
      replace hrow := Lib.hid hrow
      replace hfr := Lib.hid hfr
      replace hrw := Lib.hid hrw
      replace hz := Lib.hid hz
      go_wp2
      refine bodyPost_ret (v := .agg #[.int .i64 (k : Nat), .slice A5 l.length c5]) (by simp [results, Try.results82, go_sem, y0, y1]) rfl ?_
      rw [hNk.out, ← hl.out]
      exact ⟨A5, c5, rfl, hz.out, hrw.out, fun a ha => by have := hfr.out a ha; omega⟩
end Go.Proofs.Ytlnpnfjdcnijhaa
