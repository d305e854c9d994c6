/-
  For any windows and numbers, the law WindowTogether returns true: the first hour of windows taken together is open for all, none before it is, and as many hours are found in a period as are counted.
  Conditions: none.
-/
import Derived.Test.YtlnpnfjdcnijhaaBw
namespace Go.Proofs.Ytlnpnfjdcnijhaa.lawWindowTogether
open Go.Joins Go.ChangeShapes Go.WideShapes Go.ChangeAt Go.RowKit Go.Deep Go.Proofs.Ytlnpnfjdcnijhaa M
set_option linter.unusedVariables false
set_option linter.unusedSimpArgs false

theorem many_is {X : World} {A : Option Addr} {D : List Wc} {n : Nat} {q : Bool} (c : Nat) (h : Wds X X.heap.size A D) (hn : n = D.length) (hq : mnyB D = q) : Calls Try.prog 43 #[.slice A n c] X fun e Y => e = .returned (.bool q) ∧ Below X.heap.size X Y := by
  subst hn; subst hq; exact many_any X.heap.size A c D X h (Nat.le_refl _)
theorem number_is {X : World} {A : Option Addr} {D : List Wc} {n : Nat} {a b r : Int} (c : Nat) (h : Wds X X.heap.size A D) (hn : n = D.length) (hq : numR D = (a, b, r)) : Calls Try.prog 46 #[.slice A n c] X fun e Y => e = .returned (.tuple #[.int .i64 a, .int .i64 b, .int .i64 r]) ∧ Below X.heap.size X Y := by
  subst hn
  have := Number_any X.heap.size A c D X h (Nat.le_refl _)
  rw [hq] at this; exact this
theorem first_is {X : World} {A : Option Addr} {D : List Wc} {n : Nat} {hour a r : Int} (c : Nat) (h : Wds X X.heap.size A D) (hn : n = D.length) (hq : firR D hour = (a, r)) : Calls Try.prog 44 #[.slice A n c, .int .i64 hour] X fun e Y => e = .returned (.tuple #[.int .i64 a, .int .i64 r]) ∧ Below X.heap.size X Y := by
  subst hn
  have := First_any X.heap.size A c D hour X h (Nat.le_refl _)
  rw [hq] at this; exact this
theorem every_is {X : World} {A : Option Addr} {D : List Wc} {n : Nat} {hour : Int} {q : Bool} (c : Nat) (h : Wds X X.heap.size A D) (hn : n = D.length) (hv : wnsB D 60 = true) (h0 : 0 ≤ hour) (h9 : hour ≤ 1000000000) (hq : opT D D.length hour = q) : Calls Try.prog 60 #[.slice A n c, .int .i64 hour] X fun e Y => e = .returned (.bool q) ∧ Below X.heap.size X Y := by
  subst hn; subst hq; exact every_any X.heap.size A c D hour X h (Nat.le_refl _) hv h0 h9
theorem fir_good {D : List Wc} {h : Nat} {j : Nat} (hE : togE D true = 0) (h9 : h ≤ 1000000000) (hf : fstO (perT D D.length) (opT D D.length) (h : Nat) = some j) : firR D (h : Nat) = (((h + j : Nat) : Int), 0) := by
  unfold firR
  rw [show hourB (h : Nat) = true from hourB_iff.2 ⟨by omega, by omega⟩, if_pos hE]
  unfold nextO
  rw [hf, Int.natCast_add]
theorem fir_none {D : List Wc} {h : Nat} (hE : togE D true = 0) (h9 : h ≤ 1000000000) (hf : fstO (perT D D.length) (opT D D.length) (h : Nat) = none) : firR D (h : Nat) = (0, 5) := by
  unfold firR
  rw [show hourB (h : Nat) = true from hourB_iff.2 ⟨by omega, by omega⟩, if_pos hE]
  unfold nextO
  rw [hf]
theorem fir_bad {D : List Wc} {h : Nat} (hE : ¬ togE D true = 0) (h9 : h ≤ 1000000000) : firR D (h : Nat) = (0, togE D true) := by
  unfold firR
  rw [show hourB (h : Nat) = true from hourB_iff.2 ⟨by omega, by omega⟩, if_neg hE]

set_option maxRecDepth 100000 in
set_option maxHeartbeats 4000000 in
theorem out0 (A : Option Addr) (c : Nat) (D : List Wc) (hour kk : Nat) (w : World) (h : Wds w w.heap.size A D) (hh9 : hour ≤ 4294967295) (kk9 : kk ≤ 4294967295) (hm : mnyB D = true) :
    Calls Try.prog 15 #[.slice A D.length c, .int .u32 hour, .int .u32 kk] w fun e w' => e = .returned (.bool true) ∧ Below w.heap.size w w' := by
  have h63 := h.1
  have hbel := Below.refl w.heap.size w
  have L := h
  obtain ⟨n, hn⟩ : ∃ n, n = D.length := ⟨_, rfl⟩
  rw [← hn] at h63 ⊢
  obtain ⟨fr, hfr⟩ : ∃ fr : Nat, fr = hour % 900000000 := ⟨_, rfl⟩
  have hmod : ((hour : Nat) : Int) % 900000000 = (fr : Int) := by omega
  have fr9 : fr ≤ 900000000 := by omega
  clear hfr
  replace hn := Lib.hid hn
  replace hm := Lib.hid hm
  go_enter Try.func15, Try.ntmps15
  have K := Lib.hid (many_is c L hn.out hm.out)
  go_wp2_with fail
  refine K.out.mono ?_
  rintro e X1 ⟨rfl, hb1⟩
  clear K
  replace L := L.upp hb1
  replace hbel := bel_trans hbel hb1
  go_wp2_with fail
  refine (awake_any X1).mono ?_
  rintro e X2 ⟨rfl, hb2⟩
  replace hbel := bel_trans hbel hb2
  go_wp2
  go_ret
  exact ⟨rfl, hbel⟩

set_option maxRecDepth 100000 in
set_option maxHeartbeats 4000000 in
theorem out1 (A : Option Addr) (c : Nat) (D : List Wc) (hour kk : Nat) (w : World) (h : Wds w w.heap.size A D) (hh9 : hour ≤ 4294967295) (kk9 : kk ≤ 4294967295) (hm : mnyB D = false) (hE : ¬ togE D true = 0) :
    Calls Try.prog 15 #[.slice A D.length c, .int .u32 hour, .int .u32 kk] w fun e w' => e = .returned (.bool true) ∧ Below w.heap.size w w' := by
  have h63 := h.1
  have hbel := Below.refl w.heap.size w
  have L := h
  obtain ⟨n, hn⟩ : ∃ n, n = D.length := ⟨_, rfl⟩
  rw [← hn] at h63 ⊢
  obtain ⟨fr, hfr⟩ : ∃ fr : Nat, fr = hour % 900000000 := ⟨_, rfl⟩
  have hmod : ((hour : Nat) : Int) % 900000000 = (fr : Int) := by omega
  have fr9 : fr ≤ 900000000 := by omega
  clear hfr
  have hN : numR D = (0, 0, togE D true) := by unfold numR; rw [if_neg hE]
  have hF := fir_bad (h := fr) hE (by omega)
  obtain ⟨E, hEe⟩ : ∃ E, E = togE D true := ⟨_, rfl⟩
  rw [← hEe] at hE hN hF
  have hEE : (E == E) = true := by simp
  replace hEe := Lib.hid hEe
  replace hN := Lib.hid hN
  replace hF := Lib.hid hF
  replace hn := Lib.hid hn
  replace hm := Lib.hid hm
  go_enter Try.func15, Try.ntmps15
  have K := Lib.hid (many_is c L hn.out hm.out)
  go_wp2_with fail
  refine K.out.mono ?_
  rintro e X1 ⟨rfl, hb1⟩
  clear K
  replace L := L.upp hb1
  replace hbel := bel_trans hbel hb1
  have K := Lib.hid (number_is c L hn.out hN.out)
  go_wp2_with fail
  refine K.out.mono ?_
  rintro e X2 ⟨rfl, hb2⟩
  clear K
  replace L := L.upp hb2
  replace hbel := bel_trans hbel hb2
  have K := Lib.hid (first_is c L hn.out hF.out)
  go_wp2_with fail
  refine K.out.mono ?_
  rintro e X3 ⟨rfl, hb3⟩
  clear K
  replace L := L.upp hb3
  replace hbel := bel_trans hbel hb3
  go_wp2_with fail
  refine (awake_any X3).mono ?_
  rintro e X4 ⟨rfl, hb4⟩
  replace hbel := bel_trans hbel hb4
  go_wp2
  go_ret
  exact ⟨rfl, hbel⟩

set_option maxRecDepth 100000 in
set_option maxHeartbeats 4000000 in
theorem out2 (A : Option Addr) (c : Nat) (D : List Wc) (hour kk : Nat) (w : World) (h : Wds w w.heap.size A D) (hh9 : hour ≤ 4294967295) (kk9 : kk ≤ 4294967295) (hm : mnyB D = false) (hE : togE D true = 0) (hf : fstO (perT D D.length) (opT D D.length) ((hour % 900000000 : Nat) : Int) = none) :
    Calls Try.prog 15 #[.slice A D.length c, .int .u32 hour, .int .u32 kk] w fun e w' => e = .returned (.bool true) ∧ Below w.heap.size w w' := by
  have h63 := h.1
  have hbel := Below.refl w.heap.size w
  have L := h
  obtain ⟨n, hn⟩ : ∃ n, n = D.length := ⟨_, rfl⟩
  rw [← hn] at h63 ⊢
  obtain ⟨fr, hfr⟩ : ∃ fr : Nat, fr = hour % 900000000 := ⟨_, rfl⟩
  have hmod : ((hour : Nat) : Int) % 900000000 = (fr : Int) := by omega
  have fr9 : fr ≤ 900000000 := by omega
  rw [← hfr] at hf
  clear hfr
  obtain ⟨hv, hok, p1, p9, hper⟩ := togE_zero hE
  have hN : numR D = ((0 : Int), ((perT D D.length : Nat) : Int), (0 : Int)) := by
    unfold numR; rw [if_pos hE]
    have := none_open p1 hper hf
    unfold cnt at this
    rw [this]; rfl
  have hF := fir_none (h := fr) hE (by omega) hf
  generalize perT D D.length = p at *
  replace hN := Lib.hid hN
  replace hF := Lib.hid hF
  replace hf := Lib.hid hf
  replace hper := Lib.hid hper
  replace hv := Lib.hid hv
  replace hok := Lib.hid hok
  replace hE := Lib.hid hE
  replace hn := Lib.hid hn
  replace hm := Lib.hid hm
  go_enter Try.func15, Try.ntmps15
  have K := Lib.hid (many_is c L hn.out hm.out)
  go_wp2_with fail
  refine K.out.mono ?_
  rintro e X1 ⟨rfl, hb1⟩
  clear K
  replace L := L.upp hb1
  replace hbel := bel_trans hbel hb1
  have K := Lib.hid (number_is c L hn.out hN.out)
  go_wp2_with fail
  refine K.out.mono ?_
  rintro e X2 ⟨rfl, hb2⟩
  clear K
  replace L := L.upp hb2
  replace hbel := bel_trans hbel hb2
  have K := Lib.hid (first_is c L hn.out hF.out)
  go_wp2_with fail
  refine K.out.mono ?_
  rintro e X3 ⟨rfl, hb3⟩
  clear K
  replace L := L.upp hb3
  replace hbel := bel_trans hbel hb3
  go_wp2_with fail
  refine (awake_any X3).mono ?_
  rintro e X4 ⟨rfl, hb4⟩
  replace hbel := bel_trans hbel hb4
  go_wp2
  go_ret
  exact ⟨rfl, hbel⟩

set_option maxRecDepth 100000 in
set_option maxHeartbeats 8000000 in
theorem inn (A : Option Addr) (c : Nat) (D : List Wc) (hour kk : Nat) (w : World) (h : Wds w w.heap.size A D) (hh9 : hour ≤ 4294967295) (kk9 : kk ≤ 4294967295) (j : Nat) (hm : mnyB D = false) (hE : togE D true = 0) (hf : fstO (perT D D.length) (opT D D.length) ((hour % 900000000 : Nat) : Int) = some j) :
    Calls Try.prog 15 #[.slice A D.length c, .int .u32 hour, .int .u32 kk] w fun e w' => e = .returned (.bool true) ∧ Below w.heap.size w w' := by
  have h63 := h.1
  have hbel := Below.refl w.heap.size w
  have L := h
  obtain ⟨n, hn⟩ : ∃ n, n = D.length := ⟨_, rfl⟩
  rw [← hn] at h63 ⊢
  obtain ⟨fr, hfr⟩ : ∃ fr : Nat, fr = hour % 900000000 := ⟨_, rfl⟩
  have hmod : ((hour : Nat) : Int) % 900000000 = (fr : Int) := by omega
  have fr9 : fr ≤ 900000000 := by omega
  rw [← hfr] at hf
  clear hfr
  obtain ⟨hv, hok, p1, p9, hper⟩ := togE_zero hE
  obtain ⟨j1, j2, j3⟩ := fstO_spec hf
  have hc1 := some_open p1 hper hf
  have hN : numR D = (((cnt (opT D D.length) (perT D D.length) : Nat) : Int), ((perT D D.length : Nat) : Int), (0 : Int)) := by unfold numR; rw [if_pos hE]; rfl
  have hF := fir_good (h := fr) hE (by omega) hf
  have hcl := cnt_le (opT D D.length) (perT D D.length)
  have hnext := fun (at_ : Nat) (ha : at_ ≤ perT D D.length) => next_cnt p1 hper hc1 ha
  have hfg := fun (at_ j : Nat) (ha : at_ ≤ perT D D.length) (e : fstO (perT D D.length) (opT D D.length) (at_ : Nat) = some j) => fir_good (h := at_) hE (by omega) e
  have hmn := fun (a : Nat) (ha : a ≤ perT D D.length) => cnt_mono (f := opT D D.length) ha
  have hz := cnt_zero (opT D D.length)
  have q1 : opT D D.length ((fr + j : Nat) : Int) = true := by rw [Int.natCast_add]; exact j2
  have q2 : 0 < j → opT D D.length ((fr + kk % j : Nat) : Int) = false := fun h => by rw [Int.natCast_add]; exact j3 _ (Nat.mod_lt _ h)
  obtain ⟨F1, hF1⟩ : ∃ a, a = fr + j := ⟨_, rfl⟩
  obtain ⟨z, hz2⟩ : ∃ z, z = kk % j := ⟨_, rfl⟩
  obtain ⟨G1, hG1⟩ : ∃ a, a = fr + z := ⟨_, rfl⟩
  rw [← hz2] at q2
  rw [← hG1] at q2
  rw [← hF1] at hF q1
  have hFi : (fr : Int) + (j : Int) = (F1 : Int) := by omega
  have hGi : (fr : Int) + (z : Int) = (G1 : Int) := by omega
  have hsub : (F1 : Int) - (fr : Int) = (j : Int) := by omega
  have hkt : ((kk : Nat) : Int).tmod (j : Int) = (z : Int) := by rw [hz2]; rfl
  have hzj : 0 < j → z < j := fun h => by rw [hz2]; exact Nat.mod_lt _ h
  have F19 : F1 ≤ 901000000 := by omega
  have G19 : 0 < j → G1 ≤ 901000000 := fun h => by have := hzj h; omega
  have F1i : (0 : Int) ≤ (F1 : Int) ∧ (F1 : Int) ≤ 1000000000 := by omega
  have G1i : 0 < j → (0 : Int) ≤ (G1 : Int) ∧ (G1 : Int) ≤ 1000000000 := fun h => by have := G19 h; omega
  have F1c : ¬ ((F1 : Int) < (fr : Int)) := by omega
  obtain ⟨p, hp⟩ : ∃ p, p = perT D D.length := ⟨_, rfl⟩
  obtain ⟨f, hfe⟩ : ∃ f, f = opT D D.length := ⟨_, rfl⟩
  rw [← hp] at j1 p1 p9 hN hcl hnext hfg hmn
  rw [← hfe] at hN hcl hnext hfg hmn hz
  rw [← hp, ← hfe] at hc1
  obtain ⟨C, hC⟩ : ∃ C, C = cnt f p := ⟨_, rfl⟩
  rw [← hC] at hN hcl hc1 hmn hnext
  have F1d : ¬ ((fr : Int) + (p : Int) ≤ (F1 : Int)) := by omega
  have hCp : ¬ ((p : Int) < (C : Int)) := by omega
  have hC1 : ¬ ((C : Int) < 1) := by omega
  have d1 : decide ((C : Int) < 1) = false := decide_eq_false hC1
  have d2 : decide (p < C) = false := decide_eq_false (by omega)
  have d3 : decide (F1 < fr) = false := decide_eq_false (by omega)
  have d4 : decide ((fr : Int) + (p : Int) ≤ (F1 : Int)) = false := decide_eq_false F1d
  have w1 : IntKind.i64.wrap (F1 : Int) = (F1 : Int) := IntWalk.i64_in _ (by omega)
  have w2 : IntKind.i64.wrap (j : Int) = (j : Int) := IntWalk.i64_in _ (by omega)
  have w3 : IntKind.i64.wrap ((fr : Int) + (p : Int)) = (fr : Int) + (p : Int) := IntWalk.i64_in _ (by omega)
  have w4 : IntKind.i64.wrap (kk : Int) = (kk : Int) := IntWalk.i64_in _ (by omega)
  clear hG1 hF1 hz2 j2 j3 fr9
  have hcc : (C == C) = true := by simp
  replace hN := Lib.hid hN
  replace hF := Lib.hid hF
  replace hf := Lib.hid hf
  replace hper := Lib.hid hper
  replace hv := Lib.hid hv
  replace hok := Lib.hid hok
  replace hE := Lib.hid hE
  replace hn := Lib.hid hn
  replace hm := Lib.hid hm
  replace hnext := Lib.hid hnext
  replace hfg := Lib.hid hfg
  replace hmn := Lib.hid hmn
  replace hz := Lib.hid hz
  replace q1 := Lib.hid q1
  replace q2 := Lib.hid q2
  replace hp := Lib.hid hp
  replace hfe := Lib.hid hfe
  replace hC := Lib.hid hC
  replace F19 := Lib.hid F19
  replace G19 := Lib.hid G19
  replace hzj := Lib.hid hzj
  replace F1i := Lib.hid F1i
  replace G1i := Lib.hid G1i
  by_cases j0 : 0 < j
  · have hj1 : ¬ ((j : Int) = 0) := by omega
    have hj2 : (1 : Int) ≤ (j : Int) := by omega
    have hj3 : ¬ (j = 0) := by omega
    have hz3 : z < j := hzj.out j0
    have hgt : (fr : Int) < (F1 : Int) := by omega
    have G9 := G19.out j0
    have w5 : IntKind.i64.wrap (G1 : Int) = (G1 : Int) := IntWalk.i64_in _ (by omega)
    have w6 : IntKind.i64.wrap (z : Int) = (z : Int) := IntWalk.i64_in _ (by omega)
    go_enter Try.func15, Try.ntmps15
    have K := Lib.hid (many_is c L hn.out hm.out)
    go_wp2_with fail
    refine K.out.mono ?_
    rintro e X1 ⟨rfl, hb1⟩
    clear K
    replace L := L.upp hb1
    replace hbel := bel_trans hbel hb1
    have K := Lib.hid (number_is c L hn.out hN.out)
    go_wp2_with fail
    refine K.out.mono ?_
    rintro e X2 ⟨rfl, hb2⟩
    clear K
    replace L := L.upp hb2
    replace hbel := bel_trans hbel hb2
    have K := Lib.hid (first_is c L hn.out hF.out)
    go_wp2_with fail
    refine K.out.mono ?_
    rintro e X3 ⟨rfl, hb3⟩
    clear K
    replace L := L.upp hb3
    replace hbel := bel_trans hbel hb3
    have K := Lib.hid (every_is c L hn.out hv.out F1i.out.1 F1i.out.2 q1.out)
    go_wp2_with fail
    refine K.out.mono ?_
    rintro e X4 ⟨rfl, hb4⟩
    clear K
    replace L := L.upp hb4
    replace hbel := bel_trans hbel hb4
    have K := Lib.hid (every_is c L hn.out hv.out (G1i.out j0).1 (G1i.out j0).2 (q2.out j0))
    go_wp2_with fail
    refine K.out.mono ?_
    rintro e X5 ⟨rfl, hb5⟩
    clear K
    replace L := L.upp hb5
    replace hbel := bel_trans hbel hb5
    by_cases h60 : 60 < C
    · have h60i : (60 : Int) < (C : Int) := by omega
      go_wp2_with fail
      refine (awake_any _).mono ?_
      rintro e X11 ⟨rfl, hb11⟩
      replace hbel := bel_trans hbel hb11
      go_wp2
      go_ret
      exact ⟨rfl, hbel⟩
    · have h60i : ¬ ((60 : Int) < (C : Int)) := by omega
      have L0 := Lib.hid L
      have hb0 := Lib.hid hbel
      clear L hbel
      go_wp2
      go_loopw [13, 14] (fun fo ai X => ∃ at_ : Nat, at_ ≤ p ∧ ai = .int .i64 (at_ : Nat) ∧ fo = .int .i64 (cnt f at_ : Nat) ∧ Wds X X.heap.size A D ∧ Below w.heap.size w X) (fun _ ai _ => p - (intOf ai).toNat)
      case atStart => exact ⟨0, Nat.zero_le _, rfl, by rw [hz.out]; rfl, L0.out, hb0.out⟩
      case round =>
        obtain ⟨at_, hat, rfl, rfl, L, hbel⟩ := hrel
        have hcm := hmn.out at_ hat
        by_cases hlt : at_ < p
        · obtain ⟨i, e1, e2, e3, e4⟩ := hnext.out at_ hat
          have kf := first_is c L hn.out (hfg.out at_ i hat e1)
          obtain ⟨N, hNe⟩ : ∃ N, N = at_ + i := ⟨_, rfl⟩
          obtain ⟨fo, hfo⟩ : ∃ fo, fo = cnt f at_ := ⟨_, rfl⟩
          rw [← hNe] at kf e3 e4
          rw [← hfo] at hcm e3 e4 ⊢
          have hNat : ¬ ((N : Int) < (at_ : Int)) := by omega
          have hfoC : ¬ ((C : Int) < (fo : Int)) := by omega
          have N9 : N ≤ 300000 := by omega
          replace hfo := Lib.hid hfo
          replace e1 := Lib.hid e1
          replace kf := Lib.hid kf
          have hN2 : at_ ≤ N := by omega
          replace hNe := Lib.hid hNe
          by_cases hge : p ≤ N
          · have hCfo := e3 hge
            subst hCfo
            clear e3 e4
            have hgi : (p : Int) ≤ (N : Int) := by omega
            go_wp2_with fail
            refine kf.out.mono ?_
            rintro e X12 ⟨rfl, hb12⟩
            replace hbel := bel_trans hbel hb12
            go_wp2_with fail
            refine (awake_any _).mono ?_
            rintro e X13 ⟨rfl, hb13⟩
            replace hbel := bel_trans hbel hb13
            go_wp2
            go_ret
            exact ⟨rfl, hbel⟩
          · have hs := Lib.hid (e4 (by omega))
            clear e3 e4
            have hgi : ¬ ((p : Int) ≤ (N : Int)) := by omega
            have hfo9 : fo ≤ 100000 := by omega
            go_wp2_with fail
            refine kf.out.mono ?_
            rintro e X12 ⟨rfl, hb12⟩
            have L2 := Lib.hid (L.upp hb12)
            have hbel2 := Lib.hid (bel_trans hbel hb12)
            go_wp2
            go_roundw
            case rel => exact ⟨N + 1, by omega, by go_num, by rw [hs.out]; go_num, L2.out, hbel2.out⟩
            case measure => simp [intOf]; omega
        · have hk' : at_ = p := by omega
          subst hk'
          rw [← hC.out]
          replace L := Lib.hid L
          go_wp2_with fail
          refine (awake_any _).mono ?_
          rintro e X13 ⟨rfl, hb13⟩
          replace hbel := bel_trans hbel hb13
          go_wp2
          go_ret
          exact ⟨rfl, hbel⟩
  · have hgt : ¬ ((fr : Int) < (F1 : Int)) := by omega
    go_enter Try.func15, Try.ntmps15
    have K := Lib.hid (many_is c L hn.out hm.out)
    go_wp2_with fail
    refine K.out.mono ?_
    rintro e X1 ⟨rfl, hb1⟩
    clear K
    replace L := L.upp hb1
    replace hbel := bel_trans hbel hb1
    have K := Lib.hid (number_is c L hn.out hN.out)
    go_wp2_with fail
    refine K.out.mono ?_
    rintro e X2 ⟨rfl, hb2⟩
    clear K
    replace L := L.upp hb2
    replace hbel := bel_trans hbel hb2
    have K := Lib.hid (first_is c L hn.out hF.out)
    go_wp2_with fail
    refine K.out.mono ?_
    rintro e X3 ⟨rfl, hb3⟩
    clear K
    replace L := L.upp hb3
    replace hbel := bel_trans hbel hb3
    have K := Lib.hid (every_is c L hn.out hv.out F1i.out.1 F1i.out.2 q1.out)
    go_wp2_with fail
    refine K.out.mono ?_
    rintro e X4 ⟨rfl, hb4⟩
    clear K
    replace L := L.upp hb4
    replace hbel := bel_trans hbel hb4
    by_cases h60 : 60 < C
    · have h60i : (60 : Int) < (C : Int) := by omega
      go_wp2_with fail
      refine (awake_any _).mono ?_
      rintro e X11 ⟨rfl, hb11⟩
      replace hbel := bel_trans hbel hb11
      go_wp2
      go_ret
      exact ⟨rfl, hbel⟩
    · have h60i : ¬ ((60 : Int) < (C : Int)) := by omega
      have L0 := Lib.hid L
      have hb0 := Lib.hid hbel
      clear L hbel
      go_wp2
      go_loopw [13, 14] (fun fo ai X => ∃ at_ : Nat, at_ ≤ p ∧ ai = .int .i64 (at_ : Nat) ∧ fo = .int .i64 (cnt f at_ : Nat) ∧ Wds X X.heap.size A D ∧ Below w.heap.size w X) (fun _ ai _ => p - (intOf ai).toNat)
      case atStart => exact ⟨0, Nat.zero_le _, rfl, by rw [hz.out]; rfl, L0.out, hb0.out⟩
      case round =>
        obtain ⟨at_, hat, rfl, rfl, L, hbel⟩ := hrel
        have hcm := hmn.out at_ hat
        by_cases hlt : at_ < p
        · obtain ⟨i, e1, e2, e3, e4⟩ := hnext.out at_ hat
          have kf := first_is c L hn.out (hfg.out at_ i hat e1)
          obtain ⟨N, hNe⟩ : ∃ N, N = at_ + i := ⟨_, rfl⟩
          obtain ⟨fo, hfo⟩ : ∃ fo, fo = cnt f at_ := ⟨_, rfl⟩
          rw [← hNe] at kf e3 e4
          rw [← hfo] at hcm e3 e4 ⊢
          have hNat : ¬ ((N : Int) < (at_ : Int)) := by omega
          have hfoC : ¬ ((C : Int) < (fo : Int)) := by omega
          have N9 : N ≤ 300000 := by omega
          replace hfo := Lib.hid hfo
          replace e1 := Lib.hid e1
          replace kf := Lib.hid kf
          have hN2 : at_ ≤ N := by omega
          replace hNe := Lib.hid hNe
          by_cases hge : p ≤ N
          · have hCfo := e3 hge
            subst hCfo
            clear e3 e4
            have hgi : (p : Int) ≤ (N : Int) := by omega
            go_wp2_with fail
            refine kf.out.mono ?_
            rintro e X12 ⟨rfl, hb12⟩
            replace hbel := bel_trans hbel hb12
            go_wp2_with fail
            refine (awake_any _).mono ?_
            rintro e X13 ⟨rfl, hb13⟩
            replace hbel := bel_trans hbel hb13
            go_wp2
            go_ret
            exact ⟨rfl, hbel⟩
          · have hs := Lib.hid (e4 (by omega))
            clear e3 e4
            have hgi : ¬ ((p : Int) ≤ (N : Int)) := by omega
            have hfo9 : fo ≤ 100000 := by omega
            go_wp2_with fail
            refine kf.out.mono ?_
            rintro e X12 ⟨rfl, hb12⟩
            have L2 := Lib.hid (L.upp hb12)
            have hbel2 := Lib.hid (bel_trans hbel hb12)
            go_wp2
            go_roundw
            case rel => exact ⟨N + 1, by omega, by go_num, by rw [hs.out]; go_num, L2.out, hbel2.out⟩
            case measure => simp [intOf]; omega
        · have hk' : at_ = p := by omega
          subst hk'
          rw [← hC.out]
          replace L := Lib.hid L
          go_wp2_with fail
          refine (awake_any _).mono ?_
          rintro e X13 ⟨rfl, hb13⟩
          replace hbel := bel_trans hbel hb13
          go_wp2
          go_ret
          exact ⟨rfl, hbel⟩

theorem walk (A : Option Addr) (c : Nat) (D : List Wc) (hour k : Int) (w : World) (h : Wds w w.heap.size A D) (hh : 0 ≤ hour ∧ hour ≤ 4294967295) (hk : 0 ≤ k ∧ k ≤ 4294967295) :
    Calls Try.prog 15 #[.slice A D.length c, .int .u32 hour, .int .u32 k] w fun e w' => e = .returned (.bool true) ∧ Below w.heap.size w w' := by
  obtain ⟨h0, rfl⟩ := Int.eq_ofNat_of_zero_le hh.1
  obtain ⟨k0, rfl⟩ := Int.eq_ofNat_of_zero_le hk.1
  cases hm : mnyB D with
  | true => exact out0 A c D h0 k0 w h (by omega) (by omega) hm
  | false =>
    by_cases hE : togE D true = 0
    · cases hf : fstO (perT D D.length) (opT D D.length) ((h0 % 900000000 : Nat) : Int) with
      | none => exact out2 A c D h0 k0 w h (by omega) (by omega) hm hE hf
      | some j => exact inn A c D h0 k0 w h (by omega) (by omega) j hm hE hf
    · exact out1 A c D h0 k0 w h (by omega) (by omega) hm hE

/-! ### the row's step -/
set_option maxRecDepth 100000 in
theorem lifted (os : Os) (started : os.Started) (H : Type) (enc : TypeId × Value → H) :
    ReturnsInHanded {} Try.checked os 15 .any (Rows.windowTogetherSpec.pre6 enc Try.prog Try.f15 Rows.windowTogetherRow.domain false) (Rows.windowTogetherSpec.post enc Try.prog Try.f15 false true false false) := by
  refine returnsInHanded_of_change (C := Try.checked) own started (by kernel_rfl) Try.func15
    (ChangeSpec.witness6 (enc := enc) (C := Try.checked) false ⟨#[], #[.slice none 0 0, .int .u32 0, .int .u32 0], []⟩ 8 (by kernel_rfl) (by kernel_rfl) (by kernel_rfl) (by kernel_rfl)) ?_
  intro W base args ds gs before hval0 hW hcnd _
  have hval : ∀ (j : Nat) t v, Try.f15.params[j]? = some t → args[j]? = some v → Value.okWide Try.prog W .any base t v := hval0
  have hW' := hW
  obtain ⟨p, q, hA0, hV, rfl, hfz, hnd⟩ := hW
  have hA : DataW.TrodAll enc Try.prog W 0 (fun _ => true) true Try.f15.params.toList args.toList ds p := hA0
  rw [Try.params15] at hA hval
  obtain ⟨v0, vs0, d0, ds0, p0, q0, hargs, rfl, rfl, h0, r0⟩ := trodAll_cons hA
  obtain ⟨v1, vs1, d1, ds1, p1, q1, rfl, rfl, rfl, h1, r1⟩ := trodAll_cons r0
  obtain ⟨v2, vs2, d2, ds2, p2, q2, rfl, rfl, rfl, h2, r2⟩ := trodAll_cons r1
  obtain ⟨rfl, rfl, rfl⟩ := trodAll_nil r2
  obtain rfl : args = #[v0, v1, v2] := by cases args; simp_all
  obtain ⟨rfl, rfl⟩ := trodVars_none hV
  have k0 := h0
  have lt0 : ∀ x ∈ p0, x.block < W.heap.size := by obtain ⟨m, hm⟩ := k0; exact DataW.trod_lt m _ _ _ hm
  obtain ⟨a0, len0, cap0, T0, rfl, rfl, w0⟩ : ∃ A len cap D, v0 = .slice A len cap ∧ D.length = len ∧ Wds W W.heap.size A D := by
    obtain ⟨s0, s1, s2, rfl⟩ := okWide_slice Try.underlying45 (hval 0 45 v0 rfl rfl)
    obtain ⟨fuel, hf⟩ := h0
    exact wds_of (by simpa [Value.cells] using hf)
  obtain ⟨a1, rfl, rfl, rfl, w1⟩ := open_int Try.underlying56 (hval 1 56 v1 rfl rfl) h1
  obtain ⟨a2, rfl, rfl, rfl, w2⟩ := open_int Try.underlying56 (hval 2 56 v2 rfl rfl) h2
  clear hA0 hval0
  refine (walk a0 cap0 T0 a1 a2 W w0 (u32_range w1) (u32_range w2)).mono fun e W' ⟨he, bel⟩ => ?_
  subst he
  exact ⟨_, rfl, _, _, _, [], _, [], hW', trodAll_mk1 (shut_bool Try.underlying4 _), (trodAll_cons_mk (Below.trod laidOut (by kernel_rfl) (of_decide_eq_true (by kernel_rfl)) k0 bel lt0) (trodAll_cons_mk (shut_int Try.underlying56 w1) (trodAll_cons_mk (shut_int Try.underlying56 w2) trodAll_mk0))), rfl, bel.frame _, fun h => by cases h⟩

theorem over : Rows.windowTogetherRow.holds Try.pinned (OpenSpec.ofChange Rows.windowTogetherSpec) :=
  OpenClaim.holds_of_wide 15 Try.f15 rfl rfl rfl rfl rfl rfl rfl ⟨rfl, rfl, rfl, rfl, rfl⟩ rfl rfl rfl rfl rfl (by kernel_rfl) Try.func15 (by kernel_rfl)
    (of_decide_eq_true (by kernel_rfl)) (by unfold Func.isWrapper; first | (rw [if_pos (by decide +kernel)]; kernel_rfl) | (rw [if_neg (by decide +kernel)]; exact ⟨rfl, rfl⟩))
    (fun os started H enc _ => lifted os started H enc)

/-- The statement. -/
theorem proved : Rows.WindowTogetherSaid := over
end Go.Proofs.Ytlnpnfjdcnijhaa.lawWindowTogether
