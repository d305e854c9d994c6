/-
  For every tide, hour and number, the law TideBeats returns true: the beat divides the round, speeds repeat after beats, and only beats repeat them all.
  Conditions: none.
-/
import Derived.Test.YtmpmlgognkmfgaaAwake
import Derived.Test.YtmpmlgognkmfgaaOpen
import Derived.Test.YtmpmlgognkmfgaaMathD
namespace Go.Proofs.Ytmpmlgognkmfgaa.lawTideBeats
open Go.ChangeShapes Go.WideShapes Go.ChangeAt Go.RowKit Go.Deep Go.Proofs.Ytmpmlgognkmfgaa M
set_option linter.unusedVariables false
set_option linter.unusedSimpArgs false

/-- So far all speeds of a beat are the same some hours later, round the beat. -/
def goes (T : List (List Int)) (d k : Nat) : Bool := decide (∀ j, j < k → spd T (j : Int) = spd T (((j + d) % bt T : Nat) : Int))
theorem goes_zero (T : List (List Int)) (d : Nat) : goes T d 0 = true := decide_eq_true fun j hj => absurd hj (Nat.not_lt_zero _)
theorem goes_no {T : List (List Int)} {d k : Nat} (h : goes T d k = false) : goes T d (k + 1) = false := by
  unfold goes at *
  rw [decide_eq_false_iff_not] at *
  exact fun hh => h fun j hj => hh j (by omega)
theorem goes_yes {T : List (List Int)} {d k : Nat} (h : goes T d k = true) (e : spd T (k : Int) = spd T (((k + d) % bt T : Nat) : Int)) : goes T d (k + 1) = true := by
  unfold goes at *
  rw [decide_eq_true_iff] at *
  intro j hj
  rcases Nat.lt_succ_iff_lt_or_eq.1 hj with h' | rfl
  · exact h j h'
  · exact e
theorem goes_not {T : List (List Int)} {d k : Nat} (e : ¬ spd T (k : Int) = spd T (((k + d) % bt T : Nat) : Int)) : goes T d (k + 1) = false := by
  unfold goes
  rw [decide_eq_false_iff_not]
  exact fun hh => e (hh k (by omega))
theorem goes_end {T : List (List Int)} (hr : 1 ≤ rnd T) (d : Nat) : goes T d (bt T) = decide (d % bt T = 0) := by
  have hb := (bt_spec hr).1
  have e : ∀ k : Nat, spd T (((k + d) % bt T : Nat) : Int) = spd T ((k : Int) + d) := fun k => by
    rw [per_modI (bt_per hr) ((k : Int) + d)]; congr 1
  have key : (∀ j, j < bt T → spd T (j : Int) = spd T (((j + d) % bt T : Nat) : Int)) ↔ d % bt T = 0 := by
    rw [← Nat.dvd_iff_mod_eq_zero, ← per_iff hr]
    constructor
    · intro h t
      have h1 := Int.emod_nonneg t (show (bt T : Int) ≠ 0 by omega)
      have h2 := Int.emod_lt_of_pos t (show (0 : Int) < bt T by omega)
      have h3 := h (t % (bt T : Int)).toNat (by omega)
      rw [e, Int.toNat_of_nonneg h1] at h3
      rw [per_modI (bt_per hr) t, h3, per_modI (bt_per hr) (t + d), per_modI (bt_per hr) (t % (bt T : Int) + d), Int.emod_add_emod]
    · intro h j _
      rw [e, h]
  unfold goes
  by_cases h : d % bt T = 0
  · rw [decide_eq_true h, decide_eq_true (key.2 h)]
  · rw [decide_eq_false h, decide_eq_false (fun g => h (key.1 g))]

def Out (T : List (List Int)) (t : Int) : Prop := wideB T = true ∨ (wideB T = false ∧ validB T = false) ∨ (wideB T = false ∧ validB T = true ∧ hourB t = false)

set_option maxHeartbeats 2000000 in
theorem out (A : Option Addr) (c : Nat) (T : List (List Int)) (t n : Int) (w : World) (h : Mat w w.heap.size A T) (ho : Out T t) :
    Calls Try.prog 8 #[.slice A T.length c, .int .i64 t, .int .u16 n] w fun e w' => e = .returned (.bool true) ∧ Below w.heap.size w w' := by
  rcases ho with hw | ⟨hw, hv⟩ | ⟨hw, hv, ha⟩
  · replace hw := Lib.hid hw
    go_enter Try.func8, Try.ntmps8
    go_wp2_with fail
    refine (wide_any _ A c T w h).mono ?_
    rintro e w' ⟨rfl, rfl⟩
    rw [hw.out]
    go_wp2_with fail
    refine (awake_any _).mono ?_
    rintro e w' ⟨rfl, hb⟩
    go_wp2
    go_ret
    exact ⟨rfl, hb⟩
  · replace hw := Lib.hid hw
    replace hv := Lib.hid hv
    go_enter Try.func8, Try.ntmps8
    go_wp2_with fail
    refine (wide_any _ A c T w h).mono ?_
    rintro e w' ⟨rfl, rfl⟩
    rw [hw.out]
    go_wp2_with fail
    refine (valid_ref _ A c T w h).mono ?_
    rintro e w' ⟨rfl, rfl⟩
    rw [hv.out]
    go_wp2_with fail
    refine (awake_any _).mono ?_
    rintro e w' ⟨rfl, hb⟩
    go_wp2
    go_ret
    exact ⟨rfl, hb⟩
  · replace hw := Lib.hid hw
    replace hv := Lib.hid hv
    replace ha := Lib.hid ha
    go_enter Try.func8, Try.ntmps8
    go_wp2_with fail
    refine (wide_any _ A c T w h).mono ?_
    rintro e w' ⟨rfl, rfl⟩
    rw [hw.out]
    go_wp2_with fail
    refine (valid_ref _ A c T w h).mono ?_
    rintro e w' ⟨rfl, rfl⟩
    rw [hv.out]
    go_wp2_with fail
    refine (isHour_ref _ _).mono ?_
    rintro e w' ⟨rfl, rfl⟩
    rw [ha.out]
    go_wp2_with fail
    refine (awake_any _).mono ?_
    rintro e w' ⟨rfl, hb⟩
    go_wp2
    go_ret
    exact ⟨rfl, hb⟩

set_option maxHeartbeats 2000000 in
set_option maxRecDepth 100000 in
theorem innT (A : Option Addr) (c : Nat) (T : List (List Int)) (t : Int) (n : Nat) (w : World) (h : Mat w w.heap.size A T) (hn : n ≤ 65535) (hw : wideB T = false) (hv : validB T = true) (ha : hourB t = true) (hl : hourB (t + (bt T : Int) * ((n : Int) % 10)) = true) :
    Calls Try.prog 8 #[.slice A T.length c, .int .i64 t, .int .u16 n] w fun e w' => e = .returned (.bool true) ∧ Below w.heap.size w w' := by
  have hV := val_of hv
  obtain ⟨t1, t2⟩ := of_hourB ha
  obtain ⟨r1, r2⟩ := rnd_bound hV
  obtain ⟨b1, b2, _, _⟩ := bt_spec r1
  have hdv := bt_dvd r1
  have hper := bt_per r1
  have cB : ∀ W, Below w.heap.size w W → Calls Try.prog 27 #[.slice A T.length c] W fun e w' => e = .returned (.tuple #[.int .i64 (bt T), .int .i64 0]) ∧ Below w.heap.size w w' := fun W hb =>
    (Beat_any w.heap.size A c T W (h.below hb) hb.size).mono fun e w' ⟨he, hb'⟩ => ⟨by rw [he]; unfold beatR; rw [hv]; rfl, hb.trans (hb'.mono hb.size)⟩
  have cR : ∀ W, Below w.heap.size w W → Calls Try.prog 23 #[.slice A T.length c] W fun e w' => e = .returned (.tuple #[.int .i64 (rnd T), .int .i64 0]) ∧ Below w.heap.size w w' := fun W hb =>
    (Round_any w.heap.size A c T W (h.below hb)).mono fun e w' ⟨he, hb'⟩ => ⟨by rw [he]; unfold roundR; rw [hv]; rfl, hb.trans (hb'.mono hb.size)⟩
  have cO : ∀ W, Below w.heap.size w W → Calls Try.prog 29 #[.slice A T.length c] W (NewRowE W (spdL T (bt T), 0)) := fun W hb => by
    have := Once_any w.heap.size A c T W (h.below hb) hb.size
    rwa [show onceR T = (spdL T (bt T), 0) by unfold onceR; rw [hv]; rfl] at this
  have cS : ∀ W, Below w.heap.size w W → Calls Try.prog 17 #[.slice A T.length c, .int .i64 t] W fun e w' => e = .returned (.tuple #[.int .i64 (spd T t), .int .i64 0]) ∧ Below W.heap.size W w' := fun W hb =>
    (Speed_any w.heap.size A c T t W (h.below hb) hb.size).mono fun e w' ⟨he, hb'⟩ => ⟨by rw [he]; unfold speedR; rw [hv, ha]; rfl, hb'⟩
  have ecast : (bt T : Int) * ((n : Int) % 10) = ((bt T * (n % 10) : Nat) : Int) := by rw [Int.natCast_mul]; simp
  have m10 : bt T * (n % 10) ≤ 20736 * 9 := Nat.mul_le_mul (by omega) (by omega)
  have cL : ∀ W, Below w.heap.size w W → Calls Try.prog 17 #[.slice A T.length c, .int .i64 (t + (bt T : Int) * ((n : Int) % 10))] W fun e w' => e = .returned (.tuple #[.int .i64 (spd T t), .int .i64 0]) ∧ Below W.heap.size W w' := fun W hb =>
    (Speed_any w.heap.size A c T _ W (h.below hb) hb.size).mono fun e w' ⟨he, hb'⟩ => ⟨by
      rw [he]; unfold speedR; rw [hv, hl]
      rw [ecast, per_mul hper]; rfl, hb'⟩
  have p0 : 0 ≤ (bt T : Int) * ((n : Int) % 10) := by rw [ecast]; omega
  have p1 : (bt T : Int) * ((n : Int) % 10) ≤ 186624 := by rw [ecast]; omega
  clear ecast m10
  have hrb : ((rnd T : Int) % (bt T : Int) != 0) = false := by
    have := Nat.mod_eq_zero_of_dvd hdv
    simp; omega
  obtain ⟨d1, d2⟩ := tmod_small t (bt T) b1
  obtain ⟨e1, e2⟩ := hour_range t (bt T) b1
  have hix := modulo_eq t (bt T)
  have hspt : Hid (spd T t = spd T (((t % (bt T : Int)).toNat : Nat) : Int)) := by
    show _ = _
    rw [Int.toNat_of_nonneg e1]; exact per_modI hper t
  have hnr : 1 + n % rnd T ≤ 20736 := by have := Nat.mod_lt n (show rnd T > 0 by omega); omega
  have hnrc : (n : Int) % (rnd T : Int) = ((n % rnd T : Nat) : Int) := by simp
  have hend := Lib.hid (goes_end r1 (1 + n % rnd T))
  have hz0 := Lib.hid (goes_zero T (1 + n % rnd T))
  have hb00 : ¬ bt T = 0 := by omega
  have hr00 : ¬ rnd T = 0 := by omega
  clear hV hdv hper
  replace cB := Lib.hid cB
  replace cR := Lib.hid cR
  replace cO := Lib.hid cO
  replace cS := Lib.hid cS
  replace cL := Lib.hid cL
  replace hw := Lib.hid hw
  replace hv := Lib.hid hv
  replace ha := Lib.hid ha
  replace hl := Lib.hid hl
  replace hix := Lib.hid hix
  replace hnrc := Lib.hid hnrc
  go_enter Try.func8, Try.ntmps8
  go_wp2_with fail
  refine (wide_any _ A c T w h).mono ?_
  rintro e w' ⟨rfl, rfl⟩
  rw [hw.out]
  go_wp2_with fail
  refine (valid_ref _ A c T w h).mono ?_
  rintro e w' ⟨rfl, rfl⟩
  rw [hv.out]
  go_wp2_with fail
  refine (isHour_ref _ _).mono ?_
  rintro e w' ⟨rfl, rfl⟩
  rw [ha.out]
  go_wp2_with fail
  refine (cB.out _ (Below.refl _ _)).mono ?_
  rintro e w1 ⟨rfl, hb1⟩
  go_wp2_with fail
  refine (cR.out _ hb1).mono ?_
  rintro e w2 ⟨rfl, hb2⟩
  go_wp2_with fail
  refine (cO.out _ hb2).mono ?_
  rintro e w3 ⟨A3, k3, rfl, hb23, hm3⟩
  dsimp only at hm3
  rw [spdL_len]
  have hb3 := hb2.trans (hb23.mono hb2.size)
  obtain ⟨_, hm3⟩ := hm3
  rw [spdL_len] at hm3
  obtain ⟨g, o, rfl, hg, hcells⟩ := hm3 b1
  clear hm3
  have hcell : ∀ k, k < bt T → w3.cell? ⟨g, o + k, none⟩ = some (.int .i64 (spd T (k : Int))) := fun k hk => by rw [hcells k hk, spdL_el _ _ _ hk]
  clear hcells
  replace hcell := Lib.hid hcell
  go_wp2_with fail
  refine (cS.out _ hb3).mono ?_
  rintro e w4 ⟨rfl, hb34⟩
  have hb4 := hb3.trans (hb34.mono hb3.size)
  go_wp2_with fail
  refine (isHour_ref _ _).mono ?_
  rintro e w' ⟨rfl, rfl⟩
  rw [hl.out]
  go_wp2_with fail
  refine (cL.out _ hb4).mono ?_
  rintro e w5 ⟨rfl, hb45⟩
  have hb5 := hb4.trans (hb45.mono hb4.size)
  have hb35 := hb34.trans (hb45.mono hb34.size)
  have hc5 : ∀ k, k < bt T → w5.cell? ⟨g, o + k, none⟩ = some (.int .i64 (spd T (k : Int))) := fun k hk => by rw [hb35.cell (p := ⟨g, o + k, none⟩) hg]; exact hcell.out k hk
  have c0 : w5.cell? ⟨g, o + (t % (bt T : Int)).toNat, none⟩ = some (.int .i64 (spd T t)) := by rw [hspt.out]; exact hc5 _ (idx_lt t _ b1)
  replace hc5 := Lib.hid hc5
  have c0' : w5.cell? ⟨g, o + ((t.tmod (bt T : Int) + (bt T : Int)) % (bt T : Int)).toNat, none⟩ = some (.int .i64 (spd T t)) := by rw [hix.out]; exact c0
  have x1 : 0 ≤ t.tmod (bt T : Int) + (bt T : Int) := by omega
  have x2 : 0 ≤ (t.tmod (bt T : Int) + (bt T : Int)) % (bt T : Int) := by rw [hix.out]; exact e1
  have x3 : (t.tmod (bt T : Int) + (bt T : Int)) % (bt T : Int) < (bt T : Int) := by rw [hix.out]; exact e2
  have q1 : 0 ≤ (n : Int) % (rnd T : Int) := by rw [hnrc.out]; omega
  have q2 : (n : Int) % (rnd T : Int) ≤ 20735 := by rw [hnrc.out]; omega
  have hix2 : t.tmod (bt T : Int) % (bt T : Int) = t % (bt T : Int) := by have := hix.out; rwa [Int.add_emod_right] at this
  have c0'' : w5.cell? ⟨g, o + (t.tmod (bt T : Int) % (bt T : Int)).toNat, none⟩ = some (.int .i64 (spd T t)) := by rw [hix2]; exact c0
  have y2 : 0 ≤ t.tmod (bt T : Int) % (bt T : Int) := by rw [hix2]; exact e1
  have y3 : t.tmod (bt T : Int) % (bt T : Int) < (bt T : Int) := by rw [hix2]; exact e2
  clear hcell hb34 hb35 hb4 hb3 hb2 hb1 hb23 c0 hix2
  go_wp2
  have hdc : (1 + (n : Int) % (rnd T : Int)) = ((1 + n % rnd T : Nat) : Int) := by simp
  rw [hdc]
  clear hdc c0' c0'' x1 x2 x3 y2 y3 q1 q2 p0 p1 d1 d2 e1 e2 hrb
  generalize 1 + n % rnd T = d at *
  go_loopw [18, 128] (fun s i wr => ∃ k : Nat, k ≤ bt T ∧ i = .int .i64 k ∧ s = .bool (goes T d k) ∧ ∃ m, wr = w5.drewN m) (fun _ i _ => bt T - (intOf i).toNat)
  case atStart => exact ⟨0, Nat.zero_le _, rfl, by rw [hz0.out], 0, rfl⟩
  case round =>
    obtain ⟨k, hk, rfl, rfl, m', rfl⟩ := hrel
    have hrp : 1 ≤ (bt T : Int) := by omega
    by_cases hkt : k < bt T
    · cases hg : goes T d k with
      | true =>
        have c1 := hc5.out k hkt
        have hzl : (k + d) % bt T < bt T := Nat.mod_lt _ (by omega)
        have c2 := hc5.out _ hzl
        have hzv : ((k : Int) + (d : Int)).tmod (bt T : Int) = (((k + d) % bt T : Nat) : Int) := by
          rw [Int.tmod_eq_emod_of_nonneg (by omega), Int.natCast_emod, Int.natCast_add]
        by_cases he : spd T (k : Int) = spd T (((k + d) % bt T : Nat) : Int)
        · have hs := Lib.hid (goes_yes hg he)
          rw [← he] at c2
          generalize (k + d) % bt T = z at c2 hzl hzv
          generalize spd T (k : Int) = x at c1 c2
          clear hg he
          go_wp2
          go_quiet (fail)
          go_wp2
          go_roundw
          case rel => exact ⟨k + 1, by omega, by go_num, by rw [hs.out], _, rfl⟩
          case measure => simp [intOf]; omega
        · have hs := Lib.hid (goes_not he)
          generalize (k + d) % bt T = z at c2 hzl hzv he
          have ht : (spd T (k : Int) == spd T (z : Int)) = false := by simpa using he
          generalize spd T (k : Int) = x at c1 ht
          generalize spd T (z : Int) = y at c2 ht
          clear hg he
          go_wp2
          go_quiet (fail)
          go_wp2
          go_roundw
          case rel => exact ⟨k + 1, by omega, by go_num, by rw [hs.out], _, rfl⟩
          case measure => simp [intOf]; omega
      | false =>
        have hs := Lib.hid (goes_no hg)
        clear hg
        go_wp2
        go_quiet (fail)
        go_wp2
        go_roundw
        case rel => exact ⟨k + 1, by omega, by go_num, by rw [hs.out], _, rfl⟩
        case measure => simp [intOf]; omega
    · have hk' : k = bt T := by omega
      subst hk'
      rw [hend.out]
      by_cases hdz : d % bt T = 0
      · rw [decide_eq_true hdz]
        have hte : ((d : Int) % (bt T : Int) == 0) = true := by simp; omega
        clear hdz
        go_wp2_with fail
        refine (awake_any _).mono ?_
        rintro e w9 ⟨rfl, hb9⟩
        have hbz := (below_drewN hb5 m').trans (hb9.mono (by simpa using hb5.size))
        go_wp2
        go_ret
        exact ⟨rfl, hbz⟩
      · rw [decide_eq_false hdz]
        have hte : ((d : Int) % (bt T : Int) == 0) = false := by simp; omega
        clear hdz
        go_wp2_with fail
        refine (awake_any _).mono ?_
        rintro e w9 ⟨rfl, hb9⟩
        have hbz := (below_drewN hb5 m').trans (hb9.mono (by simpa using hb5.size))
        go_wp2
        go_ret
        exact ⟨rfl, hbz⟩

set_option maxHeartbeats 2000000 in
set_option maxRecDepth 100000 in
theorem innF (A : Option Addr) (c : Nat) (T : List (List Int)) (t : Int) (n : Nat) (w : World) (h : Mat w w.heap.size A T) (hn : n ≤ 65535) (hw : wideB T = false) (hv : validB T = true) (ha : hourB t = true) (hl : hourB (t + (bt T : Int) * ((n : Int) % 10)) = false) :
    Calls Try.prog 8 #[.slice A T.length c, .int .i64 t, .int .u16 n] w fun e w' => e = .returned (.bool true) ∧ Below w.heap.size w w' := by
  have hV := val_of hv
  obtain ⟨t1, t2⟩ := of_hourB ha
  obtain ⟨r1, r2⟩ := rnd_bound hV
  obtain ⟨b1, b2, _, _⟩ := bt_spec r1
  have hdv := bt_dvd r1
  have hper := bt_per r1
  have cB : ∀ W, Below w.heap.size w W → Calls Try.prog 27 #[.slice A T.length c] W fun e w' => e = .returned (.tuple #[.int .i64 (bt T), .int .i64 0]) ∧ Below w.heap.size w w' := fun W hb =>
    (Beat_any w.heap.size A c T W (h.below hb) hb.size).mono fun e w' ⟨he, hb'⟩ => ⟨by rw [he]; unfold beatR; rw [hv]; rfl, hb.trans (hb'.mono hb.size)⟩
  have cR : ∀ W, Below w.heap.size w W → Calls Try.prog 23 #[.slice A T.length c] W fun e w' => e = .returned (.tuple #[.int .i64 (rnd T), .int .i64 0]) ∧ Below w.heap.size w w' := fun W hb =>
    (Round_any w.heap.size A c T W (h.below hb)).mono fun e w' ⟨he, hb'⟩ => ⟨by rw [he]; unfold roundR; rw [hv]; rfl, hb.trans (hb'.mono hb.size)⟩
  have cO : ∀ W, Below w.heap.size w W → Calls Try.prog 29 #[.slice A T.length c] W (NewRowE W (spdL T (bt T), 0)) := fun W hb => by
    have := Once_any w.heap.size A c T W (h.below hb) hb.size
    rwa [show onceR T = (spdL T (bt T), 0) by unfold onceR; rw [hv]; rfl] at this
  have cS : ∀ W, Below w.heap.size w W → Calls Try.prog 17 #[.slice A T.length c, .int .i64 t] W fun e w' => e = .returned (.tuple #[.int .i64 (spd T t), .int .i64 0]) ∧ Below W.heap.size W w' := fun W hb =>
    (Speed_any w.heap.size A c T t W (h.below hb) hb.size).mono fun e w' ⟨he, hb'⟩ => ⟨by rw [he]; unfold speedR; rw [hv, ha]; rfl, hb'⟩
  have ecast : (bt T : Int) * ((n : Int) % 10) = ((bt T * (n % 10) : Nat) : Int) := by rw [Int.natCast_mul]; simp
  have m10 : bt T * (n % 10) ≤ 20736 * 9 := Nat.mul_le_mul (by omega) (by omega)
  have p0 : 0 ≤ (bt T : Int) * ((n : Int) % 10) := by rw [ecast]; omega
  have p1 : (bt T : Int) * ((n : Int) % 10) ≤ 186624 := by rw [ecast]; omega
  clear ecast m10
  have hrb : ((rnd T : Int) % (bt T : Int) != 0) = false := by
    have := Nat.mod_eq_zero_of_dvd hdv
    simp; omega
  obtain ⟨d1, d2⟩ := tmod_small t (bt T) b1
  obtain ⟨e1, e2⟩ := hour_range t (bt T) b1
  have hix := modulo_eq t (bt T)
  have hspt : Hid (spd T t = spd T (((t % (bt T : Int)).toNat : Nat) : Int)) := by
    show _ = _
    rw [Int.toNat_of_nonneg e1]; exact per_modI hper t
  have hnr : 1 + n % rnd T ≤ 20736 := by have := Nat.mod_lt n (show rnd T > 0 by omega); omega
  have hnrc : (n : Int) % (rnd T : Int) = ((n % rnd T : Nat) : Int) := by simp
  have hend := Lib.hid (goes_end r1 (1 + n % rnd T))
  have hz0 := Lib.hid (goes_zero T (1 + n % rnd T))
  have hb00 : ¬ bt T = 0 := by omega
  have hr00 : ¬ rnd T = 0 := by omega
  clear hV hdv hper
  replace cB := Lib.hid cB
  replace cR := Lib.hid cR
  replace cO := Lib.hid cO
  replace cS := Lib.hid cS
  replace hw := Lib.hid hw
  replace hv := Lib.hid hv
  replace ha := Lib.hid ha
  replace hl := Lib.hid hl
  replace hix := Lib.hid hix
  replace hnrc := Lib.hid hnrc
  go_enter Try.func8, Try.ntmps8
  go_wp2_with fail
  refine (wide_any _ A c T w h).mono ?_
  rintro e w' ⟨rfl, rfl⟩
  rw [hw.out]
  go_wp2_with fail
  refine (valid_ref _ A c T w h).mono ?_
  rintro e w' ⟨rfl, rfl⟩
  rw [hv.out]
  go_wp2_with fail
  refine (isHour_ref _ _).mono ?_
  rintro e w' ⟨rfl, rfl⟩
  rw [ha.out]
  go_wp2_with fail
  refine (cB.out _ (Below.refl _ _)).mono ?_
  rintro e w1 ⟨rfl, hb1⟩
  go_wp2_with fail
  refine (cR.out _ hb1).mono ?_
  rintro e w2 ⟨rfl, hb2⟩
  go_wp2_with fail
  refine (cO.out _ hb2).mono ?_
  rintro e w3 ⟨A3, k3, rfl, hb23, hm3⟩
  dsimp only at hm3
  rw [spdL_len]
  have hb3 := hb2.trans (hb23.mono hb2.size)
  obtain ⟨_, hm3⟩ := hm3
  rw [spdL_len] at hm3
  obtain ⟨g, o, rfl, hg, hcells⟩ := hm3 b1
  clear hm3
  have hcell : ∀ k, k < bt T → w3.cell? ⟨g, o + k, none⟩ = some (.int .i64 (spd T (k : Int))) := fun k hk => by rw [hcells k hk, spdL_el _ _ _ hk]
  clear hcells
  replace hcell := Lib.hid hcell
  go_wp2_with fail
  refine (cS.out _ hb3).mono ?_
  rintro e w4 ⟨rfl, hb34⟩
  have hb4 := hb3.trans (hb34.mono hb3.size)
  go_wp2_with fail
  refine (isHour_ref _ _).mono ?_
  rintro e w' ⟨rfl, rfl⟩
  rw [hl.out]
  obtain ⟨w5, hw5⟩ : ∃ w5, w5 = w4 := ⟨_, rfl⟩
  subst hw5
  have hb5 := hb4
  have hb35 := hb34
  have hc5 : ∀ k, k < bt T → w5.cell? ⟨g, o + k, none⟩ = some (.int .i64 (spd T (k : Int))) := fun k hk => by rw [hb35.cell (p := ⟨g, o + k, none⟩) hg]; exact hcell.out k hk
  have c0 : w5.cell? ⟨g, o + (t % (bt T : Int)).toNat, none⟩ = some (.int .i64 (spd T t)) := by rw [hspt.out]; exact hc5 _ (idx_lt t _ b1)
  replace hc5 := Lib.hid hc5
  have c0' : w5.cell? ⟨g, o + ((t.tmod (bt T : Int) + (bt T : Int)) % (bt T : Int)).toNat, none⟩ = some (.int .i64 (spd T t)) := by rw [hix.out]; exact c0
  have x1 : 0 ≤ t.tmod (bt T : Int) + (bt T : Int) := by omega
  have x2 : 0 ≤ (t.tmod (bt T : Int) + (bt T : Int)) % (bt T : Int) := by rw [hix.out]; exact e1
  have x3 : (t.tmod (bt T : Int) + (bt T : Int)) % (bt T : Int) < (bt T : Int) := by rw [hix.out]; exact e2
  have q1 : 0 ≤ (n : Int) % (rnd T : Int) := by rw [hnrc.out]; omega
  have q2 : (n : Int) % (rnd T : Int) ≤ 20735 := by rw [hnrc.out]; omega
  have hix2 : t.tmod (bt T : Int) % (bt T : Int) = t % (bt T : Int) := by have := hix.out; rwa [Int.add_emod_right] at this
  have c0'' : w5.cell? ⟨g, o + (t.tmod (bt T : Int) % (bt T : Int)).toNat, none⟩ = some (.int .i64 (spd T t)) := by rw [hix2]; exact c0
  have y2 : 0 ≤ t.tmod (bt T : Int) % (bt T : Int) := by rw [hix2]; exact e1
  have y3 : t.tmod (bt T : Int) % (bt T : Int) < (bt T : Int) := by rw [hix2]; exact e2
  clear hcell hb34 hb35 hb4 hb3 hb2 hb1 hb23 c0 hix2
  go_wp2
  have hdc : (1 + (n : Int) % (rnd T : Int)) = ((1 + n % rnd T : Nat) : Int) := by simp
  rw [hdc]
  clear hdc c0' c0'' x1 x2 x3 y2 y3 q1 q2 p0 p1 d1 d2 e1 e2 hrb
  generalize 1 + n % rnd T = d at *
  go_loopw [18, 128] (fun s i wr => ∃ k : Nat, k ≤ bt T ∧ i = .int .i64 k ∧ s = .bool (goes T d k) ∧ ∃ m, wr = w5.drewN m) (fun _ i _ => bt T - (intOf i).toNat)
  case atStart => exact ⟨0, Nat.zero_le _, rfl, by rw [hz0.out], 0, rfl⟩
  case round =>
    obtain ⟨k, hk, rfl, rfl, m', rfl⟩ := hrel
    have hrp : 1 ≤ (bt T : Int) := by omega
    by_cases hkt : k < bt T
    · cases hg : goes T d k with
      | true =>
        have c1 := hc5.out k hkt
        have hzl : (k + d) % bt T < bt T := Nat.mod_lt _ (by omega)
        have c2 := hc5.out _ hzl
        have hzv : ((k : Int) + (d : Int)).tmod (bt T : Int) = (((k + d) % bt T : Nat) : Int) := by
          rw [Int.tmod_eq_emod_of_nonneg (by omega), Int.natCast_emod, Int.natCast_add]
        by_cases he : spd T (k : Int) = spd T (((k + d) % bt T : Nat) : Int)
        · have hs := Lib.hid (goes_yes hg he)
          rw [← he] at c2
          generalize (k + d) % bt T = z at c2 hzl hzv
          generalize spd T (k : Int) = x at c1 c2
          clear hg he
          go_wp2
          go_quiet (fail)
          go_wp2
          go_roundw
          case rel => exact ⟨k + 1, by omega, by go_num, by rw [hs.out], _, rfl⟩
          case measure => simp [intOf]; omega
        · have hs := Lib.hid (goes_not he)
          generalize (k + d) % bt T = z at c2 hzl hzv he
          have ht : (spd T (k : Int) == spd T (z : Int)) = false := by simpa using he
          generalize spd T (k : Int) = x at c1 ht
          generalize spd T (z : Int) = y at c2 ht
          clear hg he
          go_wp2
          go_quiet (fail)
          go_wp2
          go_roundw
          case rel => exact ⟨k + 1, by omega, by go_num, by rw [hs.out], _, rfl⟩
          case measure => simp [intOf]; omega
      | false =>
        have hs := Lib.hid (goes_no hg)
        clear hg
        go_wp2
        go_quiet (fail)
        go_wp2
        go_roundw
        case rel => exact ⟨k + 1, by omega, by go_num, by rw [hs.out], _, rfl⟩
        case measure => simp [intOf]; omega
    · have hk' : k = bt T := by omega
      subst hk'
      rw [hend.out]
      by_cases hdz : d % bt T = 0
      · rw [decide_eq_true hdz]
        have hte : ((d : Int) % (bt T : Int) == 0) = true := by simp; omega
        clear hdz
        go_wp2_with fail
        refine (awake_any _).mono ?_
        rintro e w9 ⟨rfl, hb9⟩
        have hbz := (below_drewN hb5 m').trans (hb9.mono (by simpa using hb5.size))
        go_wp2
        go_ret
        exact ⟨rfl, hbz⟩
      · rw [decide_eq_false hdz]
        have hte : ((d : Int) % (bt T : Int) == 0) = false := by simp; omega
        clear hdz
        go_wp2_with fail
        refine (awake_any _).mono ?_
        rintro e w9 ⟨rfl, hb9⟩
        have hbz := (below_drewN hb5 m').trans (hb9.mono (by simpa using hb5.size))
        go_wp2
        go_ret
        exact ⟨rfl, hbz⟩

theorem walk (A : Option Addr) (c : Nat) (T : List (List Int)) (t n : Int) (w : World) (h : Mat w w.heap.size A T) (ht : -9223372036854775808 ≤ t ∧ t ≤ 9223372036854775807) (hn : 0 ≤ n ∧ n ≤ 65535) :
    Calls Try.prog 8 #[.slice A T.length c, .int .i64 t, .int .u16 n] w fun e w' => e = .returned (.bool true) ∧ Below w.heap.size w w' := by
  cases hw : wideB T with
  | true => exact out A c T t n w h (.inl hw)
  | false =>
    cases hv : validB T with
    | false => exact out A c T t n w h (.inr (.inl ⟨hw, hv⟩))
    | true =>
      cases ha : hourB t with
      | false => exact out A c T t n w h (.inr (.inr ⟨hw, hv, ha⟩))
      | true =>
        obtain ⟨n', rfl⟩ := Int.eq_ofNat_of_zero_le hn.1
        cases hl : hourB (t + (bt T : Int) * ((n' : Int) % 10)) with
        | true => exact innT A c T t n' w h (by omega) hw hv ha hl
        | false => exact innF A c T t n' w h (by omega) hw hv ha hl

/-! ### the row's step -/
set_option maxRecDepth 100000 in
theorem lifted (os : Os) (started : os.Started) (H : Type) (enc : TypeId × Value → H) :
    ReturnsInHanded {} Try.checked os 8 .any (Rows.tideBeatsSpec.pre6 enc Try.prog Try.f8 Rows.tideBeatsRow.domain false) (Rows.tideBeatsSpec.post enc Try.prog Try.f8 false true false false) := by
  refine returnsInHanded_of_change (C := Try.checked) own started (by kernel_rfl) Try.func8
    (ChangeSpec.witness6 (enc := enc) (C := Try.checked) false ⟨#[], #[.slice none 0 0, .int .i64 0, .int .u16 0], []⟩ 8 (by kernel_rfl) (by kernel_rfl) (by kernel_rfl) (by kernel_rfl)) ?_
  intro W base args ds gs before hval0 hW hcnd _
  have hval : ∀ (j : Nat) t v, Try.f8.params[j]? = some t → args[j]? = some v → Value.okWide Try.prog W .any base t v := hval0
  have hW' := hW
  obtain ⟨p, q, hA0, hV, rfl, hfz, hnd⟩ := hW
  have hA : DataW.TrodAll enc Try.prog W 0 (fun _ => true) true Try.f8.params.toList args.toList ds p := hA0
  rw [Try.params8] at hA hval
  obtain ⟨v0, vs0, d0, ds0, p0, q0, hargs, rfl, rfl, h0, r0⟩ := trodAll_cons hA
  obtain ⟨v1, vs1, d1, ds1, p1, q1, rfl, rfl, rfl, h1, r1⟩ := trodAll_cons r0
  obtain ⟨v2, vs2, d2, ds2, p2, q2, rfl, rfl, rfl, h2, r2⟩ := trodAll_cons r1
  obtain ⟨rfl, rfl, rfl⟩ := trodAll_nil r2
  obtain rfl : args = #[v0, v1, v2] := by cases args; simp_all
  obtain ⟨rfl, rfl⟩ := trodVars_none hV
  obtain ⟨a0, len0, cap0, rfl⟩ := okWide_slice Try.underlying22 (hval 0 22 v0 rfl rfl)
  have k0 := h0
  have lt0 : ∀ x ∈ p0, x.block < W.heap.size := by obtain ⟨m, hm⟩ := k0; exact DataW.trod_lt m _ _ _ hm
  obtain ⟨T0, rfl, w0⟩ : ∃ T : List (List Int), T.length = len0 ∧ Mat W W.heap.size a0 T := by
    obtain ⟨fuel, hf⟩ := h0
    exact mat_of hf
  obtain ⟨a1, rfl, rfl, rfl, w1⟩ := open_int Try.underlying3 (hval 1 3 v1 rfl rfl) h1
  obtain ⟨a2, rfl, rfl, rfl, w2⟩ := open_int Try.underlying46 (hval 2 46 v2 rfl rfl) h2
  clear hA0 hval0
  refine (walk a0 cap0 T0 a1 a2 W w0 (i64_range w1) (u16_range w2)).mono fun e W' ⟨he, bel⟩ => ?_
  subst he
  exact ⟨_, rfl, _, _, _, [], _, [], hW', trodAll_mk1 (shut_bool Try.underlying4 _), (trodAll_cons_mk (Below.trod laidOut (by kernel_rfl) (of_decide_eq_true (by kernel_rfl)) k0 bel lt0) (trodAll_cons_mk (shut_int Try.underlying3 w1) (trodAll_cons_mk (shut_int Try.underlying46 w2) trodAll_mk0))), rfl, bel.frame _, fun h => by cases h⟩

theorem over : Rows.tideBeatsRow.holds Try.pinned (OpenSpec.ofChange Rows.tideBeatsSpec) :=
  OpenClaim.holds_of_wide 8 Try.f8 rfl rfl rfl rfl rfl rfl rfl ⟨rfl, rfl, rfl, rfl, rfl⟩ rfl rfl rfl rfl rfl (by kernel_rfl) Try.func8 (by kernel_rfl)
    (of_decide_eq_true (by kernel_rfl)) (by unfold Func.isWrapper; first | (rw [if_pos (by decide +kernel)]; kernel_rfl) | (rw [if_neg (by decide +kernel)]; exact ⟨rfl, rfl⟩))
    (fun os started H enc _ => lifted os started H enc)

/-- The statement. -/
theorem proved : Rows.TideBeatsSaid := over
end Go.Proofs.Ytmpmlgognkmfgaa.lawTideBeats
