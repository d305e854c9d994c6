/-
  The contract of the specification's beat.
-/
import Derived.Test.YtmpmlgognkmfgaaBeat
namespace Go.Proofs.Ytmpmlgognkmfgaa
open Go.RowKit Go.Deep M
set_option linter.unusedVariables false
set_option linter.unusedSimpArgs false

/-- So far all speeds are the same b hours later. -/
def goesB (T : List (List Int)) (b k : Nat) : Bool := decide (∀ j, j < k → spd T (j : Int) = spd T (((j + b) % rnd T : Nat) : Int))
theorem goes_zero (T : List (List Int)) (b : Nat) : goesB T b 0 = true := decide_eq_true fun j hj => absurd hj (Nat.not_lt_zero _)
theorem goes_no {T : List (List Int)} {b k : Nat} (h : goesB T b k = false) : goesB T b (k + 1) = false := by
  unfold goesB at *
  rw [decide_eq_false_iff_not] at *
  exact fun hh => h fun j hj => hh j (by omega)
theorem goes_yes {T : List (List Int)} {b k : Nat} (h : goesB T b k = true) (e : spd T (k : Int) = spd T (((k + b) % rnd T : Nat) : Int)) : goesB T b (k + 1) = true := by
  unfold goesB at *
  rw [decide_eq_true_iff] at *
  intro j hj
  rcases Nat.lt_succ_iff_lt_or_eq.1 hj with h' | rfl
  · exact h j h'
  · exact e
theorem goes_not {T : List (List Int)} {b k : Nat} (e : ¬ spd T (k : Int) = spd T (((k + b) % rnd T : Nat) : Int)) : goesB T b (k + 1) = false := by
  unfold goesB
  rw [decide_eq_false_iff_not]
  exact fun hh => e (hh k (by omega))
theorem goes_end {T : List (List Int)} {b : Nat} (hd : b ∣ rnd T) : goesB T b (rnd T) = pbB T b := by
  unfold goesB pbB
  by_cases h : PB T b
  · rw [decide_eq_true h, decide_eq_true ((rounds_pb hd).2 h)]
  · rw [decide_eq_false h, decide_eq_false (fun g => h ((rounds_pb hd).1 g))]

set_option maxHeartbeats 1500000 in
theorem beat_ref (B : Nat) (A : Option Addr) (c : Nat) (T : List (List Int)) (w : World) (h : Mat w B A T) (hB : B ≤ w.heap.size) (hv : Val T) :
    Calls Try.prog 66 #[.slice A T.length c] w fun e w' => e = .returned (.int .i64 (bt T)) ∧ Below w.heap.size w w' := by
  obtain ⟨r1, r2⟩ := rnd_bound hv
  go_enter Try.func66, Try.ntmps66
  go_wp2_with fail
  refine (round_ref B A c T w h hv).mono ?_
  rintro e w' ⟨rfl, rfl⟩
  go_wp2_with fail
  refine (speeds_ref B A c T (rnd T) w h hB hv (by omega)).mono ?_
  rintro e w1 ⟨A1, rfl, hb01, hr1⟩
  rw [spdL_len]
  obtain ⟨_, g, cs, rfl, hlo, hh, hri⟩ := hr1
  have hcell : ∀ k, k < rnd T → w1.cell? ⟨g, k, none⟩ = some (.int .i64 (spd T (k : Int))) := fun k hk => by
    have := hri k (by rw [spdL_len]; exact hk)
    rw [spdL_el _ _ _ hk] at this
    simp [World.cell?, hh, this]
  replace hcell := Lib.hid hcell
  clear hri hh
  go_wp2
  go_loopw [5] (fun i wr => ∃ b : Nat, 1 ≤ b ∧ b ≤ rnd T ∧ i = .int .i64 b ∧ (∀ j, 1 ≤ j → j < b → pbB T j = false) ∧ ∃ n, wr = w1.drewN n) (fun i _ => rnd T - (intOf i).toNat)
  case atStart => exact ⟨1, Nat.le_refl _, r1, rfl, fun j h1 h2 => by omega, 0, rfl⟩
  case round =>
    obtain ⟨b, hb1, hb2, rfl, hno, n, rfl⟩ := hrel
    replace hno := Lib.hid hno
    by_cases hlt : b < rnd T
    · have hp : 1 ≤ (b : Int) := by omega
      have hb0 : ¬ b = 0 := by omega
      by_cases hd : b ∣ rnd T
      · have hm := Nat.mod_eq_zero_of_dvd hd
        have hte : ((rnd T : Int) % (b : Int) != 0) = false := by simp; omega
        have hend := Lib.hid (goes_end hd)
        clear hd hm
        go_wp2
        have hz0 := Lib.hid (goes_zero T b)
        go_loopw [6, 23] (fun s i wr => ∃ k : Nat, k ≤ rnd T ∧ i = .int .i64 k ∧ s = .bool (goesB T b k) ∧ ∃ n, wr = w1.drewN n) (fun _ i _ => rnd T - (intOf i).toNat)
        case atStart => exact ⟨0, Nat.zero_le _, rfl, by rw [hz0.out], n, rfl⟩
        case round =>
          obtain ⟨k, hk, rfl, rfl, n', rfl⟩ := hrel
          clear hte
          by_cases hkt : k < rnd T
          · have hr0 : ¬ rnd T = 0 := by omega
            have hrp : 1 ≤ (rnd T : Int) := by omega
            cases hg : goesB T b k with
            | true =>
              have c1 := hcell.out k hkt
              have hzl : (k + b) % rnd T < rnd T := Nat.mod_lt _ (by omega)
              have c2 := hcell.out _ hzl
              have hzv : ((k : Int) + (b : Int)).tmod (rnd T : Int) = (((k + b) % rnd T : Nat) : Int) := by
                rw [Int.tmod_eq_emod_of_nonneg (by omega), Int.natCast_emod, Int.natCast_add]
              by_cases he : spd T (k : Int) = spd T (((k + b) % rnd T : Nat) : Int)
              · have hs := Lib.hid (goes_yes hg he)
                rw [← he] at c2
                generalize (k + b) % rnd T = z at c2 hzl hzv
                generalize spd T (k : Int) = x at c1 c2
                clear hg he
                go_wp2
                go_quiet (fail)
                go_wp2
                go_roundw
                case rel => exact ⟨k + 1, by omega, by go_num, by rw [hs.out], _, rfl⟩
                case measure => simp [intOf]; omega
              · have hs := Lib.hid (goes_not he)
                generalize (k + b) % rnd T = z at c2 hzl hzv he
                have ht : (spd T (k : Int) == spd T (z : Int)) = false := by simpa using he
                generalize spd T (k : Int) = x at c1 ht
                generalize spd T (z : Int) = y at c2 ht
                clear hg he
                go_wp2
                go_quiet (fail)
                go_wp2
                go_roundw
                case rel => exact ⟨k + 1, by omega, by go_num, by rw [hs.out], _, rfl⟩
                case measure => simp [intOf]; omega
            | false =>
              have hs := Lib.hid (goes_no hg)
              clear hg
              go_wp2
              go_quiet (fail)
              go_wp2
              go_roundw
              case rel => exact ⟨k + 1, by omega, by go_num, by rw [hs.out], _, rfl⟩
              case measure => simp [intOf]; omega
          · have hk' : k = rnd T := by omega
            subst hk'
            cases hpb : pbB T b with
            | true =>
              have hres := Lib.hid (bt_is r1 hb1 hno.out hpb)
              rw [hend.out, hpb]
              clear hpb
              go_wp2
              go_ret
              exact ⟨ret_int (by rw [hres.out]), below_drewN hb01 _⟩
            | false =>
              rw [hend.out, hpb]
              replace hpb := Lib.hid hpb
              go_wp2
              go_roundw
              case rel => exact ⟨b + 1, by omega, by omega, by go_num, fun j h1 h2 => by
                rcases Nat.lt_succ_iff_lt_or_eq.1 h2 with h3 | rfl
                · exact hno.out j h1 h3
                · exact hpb.out, _, rfl⟩
              case measure => simp [intOf]; omega
      · have hpb : pbB T b = false := decide_eq_false (fun hp => hd hp.1)
        replace hpb := Lib.hid hpb
        have hm1 : ¬ rnd T % b = 0 := fun h => hd (Nat.dvd_of_mod_eq_zero h)
        have hte : ((rnd T : Int) % (b : Int) != 0) = true := by simp; omega
        clear hd hm1
        go_wp2
        go_roundw
        case rel => exact ⟨b + 1, by omega, by omega, by go_num, fun j h1 h2 => by
          rcases Nat.lt_succ_iff_lt_or_eq.1 h2 with h3 | rfl
          · exact hno.out j h1 h3
          · exact hpb.out, _, rfl⟩
        case measure => simp [intOf]; omega
    · have hb' : b = rnd T := by omega
      subst hb'
      have hres := Lib.hid (bt_end r1 hno.out)
      go_wp2
      go_ret
      exact ⟨ret_int (by rw [hres.out]), below_drewN hb01 n⟩

end Go.Proofs.Ytmpmlgognkmfgaa
