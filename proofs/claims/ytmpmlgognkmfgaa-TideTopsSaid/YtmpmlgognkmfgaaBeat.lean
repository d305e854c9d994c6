/-
  The contracts of the functions on beats: speeds of a number of hours, the beat, what is in a beat.
-/
import Derived.Test.YtmpmlgognkmfgaaMathC
import Derived.Test.YtmpmlgognkmfgaaSame
namespace Go.Proofs.Ytmpmlgognkmfgaa
open Go.RowKit Go.Deep M
set_option linter.unusedVariables false
set_option linter.unusedSimpArgs false

set_option maxHeartbeats 1000000 in
theorem equalInts (B : Nat) (A A' : Option Addr) (c c' : Nat) (l m : List Int) (w : World) (h : Row w B A l) (h' : Row w B A' m) :
    Calls Try.prog 82 #[.slice A l.length c, .slice A' m.length c'] w fun e w' => e = .returned (.bool (decide (l = m))) ∧ ∃ n, w' = w.drewN n := by
  have h63 := h.1
  have h63' := h'.1
  by_cases hl : l.length = m.length
  · have hd := Lib.hid hl
    have hne : ((l.length : Int) != (m.length : Int)) = false := by simp; omega
    clear hl
    go_enter Try.func82, Try.ntmps82
    go_wp2
    go_loopw [13] (fun i wr => ∃ k : Nat, k ≤ l.length ∧ i = .int .i64 k ∧ (∀ j, j < k → el l j = el m j) ∧ ∃ n, wr = w.drewN n) (fun i _ => l.length - (intOf i).toNat)
    case atStart => exact ⟨0, Nat.zero_le _, rfl, fun j hj => absurd hj (Nat.not_lt_zero _), 0, rfl⟩
    case round =>
      obtain ⟨k, hk, rfl, hall, n, rfl⟩ := hrel
      replace hall := Lib.hid hall
      by_cases hlt : k < l.length
      · have hlt' : k < m.length := by have := hd.out; omega
        obtain ⟨b, o, rfl, hb, hc⟩ := h.at_ k hlt
        obtain ⟨b', o', rfl, hb', hc'⟩ := h'.at_ k hlt'
        by_cases he : el l k = el m k
        · have heq := Lib.hid he
          have ht : (el l k != el m k) = false := by simp [he]
          clear he
          go_wp2
          go_quiet (fail)
          go_wp2
          go_roundw
          case rel => exact ⟨k + 1, by omega, by go_num, fun j hj => by
            rcases Nat.lt_succ_iff_lt_or_eq.1 hj with h1 | rfl
            · exact hall.out j h1
            · exact heq.out, _, rfl⟩
          case measure => simp [intOf]; omega
        · have hne2 := Lib.hid (show decide (l = m) = false from decide_eq_false (fun h => he (by rw [h])))
          have ht : (el l k != el m k) = true := by simpa using he
          clear he
          go_wp2
          go_quiet (fail)
          go_wp2
          go_ret
          exact ⟨ret_bool hne2.out.symm, n + nq, by simp⟩
      · have hk' : k = l.length := by omega
        subst hk'
        have heq := Lib.hid (show decide (l = m) = true from decide_eq_true (ints_ext hd.out hall.out))
        go_wp2
        go_ret
        exact ⟨ret_bool heq.out.symm, n, rfl⟩
  · have hne2 := Lib.hid (show decide (l = m) = false from decide_eq_false (fun h => hl (by rw [h])))
    have hne : ((l.length : Int) != (m.length : Int)) = true := by simp; omega
    clear hl
    go_enter Try.func82, Try.ntmps82
    go_wp2
    go_ret
    exact ⟨ret_bool hne2.out.symm, 0, rfl⟩

/-- The speeds of the first n hours. -/
def spdL (T : List (List Int)) (n : Nat) : List Int := mk (fun k => spd T (k : Int)) n
theorem spdL_len (T : List (List Int)) (n : Nat) : (spdL T n).length = n := mk_len _ _
theorem spdL_el (T : List (List Int)) (n k : Nat) (h : k < n) : el (spdL T n) k = spd T (k : Int) := mk_el _ _ _ h

set_option maxHeartbeats 2000000 in
theorem speeds_ref (B : Nat) (A : Option Addr) (c : Nat) (T : List (List Int)) (n : Nat) (w : World) (h : Mat w B A T) (hB : B ≤ w.heap.size) (hv : Val T) (hn : n ≤ 1000000) :
    Calls Try.prog 69 #[.slice A T.length c, .int .i64 n] w (NewRowC w (spdL T n)) := by
  have hmk := run_make_row' (P := Try.prog) 31 3 (.int .i64 0) 8 Try.underlying31 info3 rfl .i64 .i64 n (by omega) (by omega)
  go_enter Try.func69, Try.ntmps69
  go_wp2
  go_loopw [11] (fun i wr => ∃ k : Nat, k ≤ n ∧ i = .int .i64 k ∧ Below w.heap.size w wr ∧ w.heap.size < wr.heap.size ∧ wr.rowIs w.heap.size 3 n (fun i => if i < k then .int .i64 (spd T (i : Int)) else .int .i64 0)) (fun i _ => n - (intOf i).toNat)
  case atStart => exact ⟨0, Nat.zero_le _, rfl, (Below.refl _ _).alloc (Nat.le_refl _) _, by simp, mk_start (fun i => spd T (i : Int)) w n⟩
  case round =>
    obtain ⟨k, hk, rfl, hb, hz, hr⟩ := hrel
    clear hmk
    by_cases hlt : k < n
    · go_wp2_with fail
      refine (speed_ref B A c T k wr (h.below (hb.mono hB)) hv (by omega)).mono ?_
      rintro e w1 ⟨rfl, rfl⟩
      have g1 : wr.cell? ⟨w.heap.size, k, none⟩ = some (.int .i64 0) := by rw [hr.cell hlt]; simp
      have g2 := hr.frozen k
      have hr2 := mk_step (F := fun i => spd T (i : Int)) hr
      have hb2 := hb.setCell (p := ⟨w.heap.size, k, none⟩) (Nat.le_refl _) (.int .i64 (spd T (k : Int)))
      clear hr hb
      go_wp2
      go_roundw
      case rel => exact ⟨k + 1, by omega, by go_num, hb2, by simpa [World.setCell] using hz, hr2⟩
      case measure => simp [intOf]; omega
    · have hk' : k = n := by omega
      subst hk'
      have hend := mk_end hr (by omega) w.heap.size (Nat.le_refl _)
      go_wp2
      go_ret
      exact ⟨some ⟨w.heap.size, 0, none⟩, by rw [spdL_len]; rfl, hb, hend⟩

theorem enter51 (args : Array Value) (w : World) : (callFunc 51 args).run Try.prog w = .ok (.enter 51 args) w := enter_of Try.func51 (by kernel_rfl) rfl args w

/-- 'made(n, w.speed)'. -/
theorem madeSpeeds (B : Nat) (A : Option Addr) (c : Nat) (T : List (List Int)) (n : Nat) (w : World) (h : Mat w B A T) (hB : B ≤ w.heap.size) (hv : Val T) (hn : n ≤ 1000000) :
    Calls Try.prog 90 #[.int .i64 n, .func (Fn.func 51) #[.slice A T.length c] #[]] w (NewRowC w (spdL T n)) :=
  madeM 51 (.slice A T.length c) n (fun k => spd T (k : Int)) w hn enter51 (fun k hk W hb => by
    refine (speed_any B A c T k W (h.below (hb.mono hB)) hv (by omega)).mono ?_
    rintro e w' ⟨rfl, rfl⟩
    exact ⟨rfl, Below.refl _ _⟩)

theorem Row.cutL {w : World} {B g o : Nat} {l : List Int} (h : Row w B (some ⟨g, o, none⟩) l) (b : Nat) (hb : b ≤ l.length) : Row w B (some ⟨g, o + b, none⟩) (l.drop b) := by
  refine ⟨by rw [List.length_drop]; have := h.1; omega, fun hpos => ?_⟩
  rw [List.length_drop] at hpos
  obtain ⟨g', o', e, hb', hc⟩ := h.2 (by omega)
  simp only [Option.some.injEq, Addr.mk.injEq] at e
  obtain ⟨rfl, rfl, _⟩ := e
  refine ⟨g, o + b, rfl, hb', fun i hi => ?_⟩
  rw [List.length_drop] at hi
  rw [Nat.add_assoc, hc (b + i) (by omega)]
  congr 2
  unfold el
  simp [List.getD]
theorem Row.cutR {w : World} {B g o : Nat} {l : List Int} (h : Row w B (some ⟨g, o, none⟩) l) (n : Nat) (hb : n ≤ l.length) : Row w B (some ⟨g, o, none⟩) (l.take n) := by
  refine ⟨by rw [List.length_take]; have := h.1; omega, fun hpos => ?_⟩
  rw [List.length_take] at hpos
  obtain ⟨g', o', e, hb', hc⟩ := h.2 (by omega)
  simp only [Option.some.injEq, Addr.mk.injEq] at e
  obtain ⟨rfl, rfl, _⟩ := e
  refine ⟨g, o, rfl, hb', fun i hi => ?_⟩
  rw [List.length_take] at hi
  rw [hc i (by omega)]
  congr 2
  unfold el
  simp [List.getD, List.getElem?_take, show i < n by omega]
theorem cut_eq {T : List (List Int)} {b : Nat} (hr : 1 ≤ rnd T) (hb : 1 ≤ b) (hlt : b < rnd T) (hd : b ∣ rnd T) : decide ((spdL T (rnd T)).drop b = (spdL T (rnd T)).take (rnd T - b)) = pbB T b := by
  unfold pbB
  have key : (spdL T (rnd T)).drop b = (spdL T (rnd T)).take (rnd T - b) ↔ PB T b := by
    rw [← parts_pb hb hd]
    constructor
    · intro h k hk
      have h1 : el ((spdL T (rnd T)).drop b) k = el ((spdL T (rnd T)).take (rnd T - b)) k := by rw [h]
      have e1 : el ((spdL T (rnd T)).drop b) k = el (spdL T (rnd T)) (b + k) := by unfold el; simp [List.getD]
      have e2 : el ((spdL T (rnd T)).take (rnd T - b)) k = el (spdL T (rnd T)) k := by unfold el; simp [List.getD, List.getElem?_take, hk]
      rw [e1, e2, spdL_el _ _ _ (by omega), spdL_el _ _ _ (by omega)] at h1
      exact h1
    · intro h
      refine ints_ext (by simp [spdL_len]) (fun k hk => ?_)
      simp only [List.length_drop, spdL_len] at hk
      have e1 : el ((spdL T (rnd T)).drop b) k = el (spdL T (rnd T)) (b + k) := by unfold el; simp [List.getD]
      have e2 : el ((spdL T (rnd T)).take (rnd T - b)) k = el (spdL T (rnd T)) k := by unfold el; simp [List.getD, List.getElem?_take, hk]
      rw [e1, e2, spdL_el _ _ _ (by omega), spdL_el _ _ _ (by omega)]
      exact h k hk
  by_cases h : PB T b
  · rw [decide_eq_true h, decide_eq_true (key.2 h)]
  · rw [decide_eq_false h, decide_eq_false (fun g => h (key.1 g))]

set_option maxHeartbeats 1000000 in
theorem beat_any (B : Nat) (A : Option Addr) (c : Nat) (T : List (List Int)) (w : World) (h : Mat w B A T) (hB : B ≤ w.heap.size) (hv : Val T) :
    Calls Try.prog 65 #[.slice A T.length c] w fun e w' => e = .returned (.int .i64 (bt T)) ∧ Below w.heap.size w w' := by
  obtain ⟨r1, r2⟩ := rnd_bound hv
  go_enter Try.func65, Try.ntmps65
  go_wp2_with fail
  refine (round_any B A c T w h hv).mono ?_
  rintro e w' ⟨rfl, m, rfl⟩
  go_wp2_with fail
  refine (madeSpeeds B A c T (rnd T) (w.drewN m) (h.drewN m) hB hv (by omega)).mono ?_
  rintro e w1 ⟨A1, rfl, hb1, hr1⟩
  have hb01 : Below w.heap.size w w1 := (below_drewN (Below.refl _ _) m).trans hb1
  rw [spdL_len]
  have hrow := hr1.row
  obtain ⟨_, g, cs, rfl, hlo, _⟩ := hr1
  clear hb1
  go_wp2
  go_loopw [4] (fun i wr => ∃ b : Nat, 1 ≤ b ∧ b ≤ rnd T ∧ i = .int .i64 b ∧ (∀ j, 1 ≤ j → j < b → pbB T j = false) ∧ ∃ n, wr = w1.drewN n) (fun i _ => rnd T - (intOf i).toNat)
  case atStart => exact ⟨1, Nat.le_refl _, r1, rfl, fun j h1 h2 => by omega, 0, rfl⟩
  case round =>
    obtain ⟨b, hb1, hb2, rfl, hno, n, rfl⟩ := hrel
    replace hno := Lib.hid hno
    by_cases hlt : b < rnd T
    · have hp : 1 ≤ (b : Int) := by omega
      have hb0 : ¬ b = 0 := by omega
      have hmodn : (rnd T : Int).tmod (b : Int) = ((rnd T % b : Nat) : Int) := by
        rw [Int.tmod_eq_emod_of_nonneg (by omega), ← Int.natCast_emod]
      by_cases hd : b ∣ rnd T
      · have hmod0 : (rnd T : Int).tmod (b : Int) = 0 := by rw [hmodn, Nat.mod_eq_zero_of_dvd hd]; rfl
        have hcut : ∀ W, Below w1.heap.size w1 W → Calls Try.prog 82 #[.slice (some ⟨g, b, none⟩) (rnd T - b) (rnd T - b), .slice (some ⟨g, 0, none⟩) (rnd T - b) (rnd T)] W fun e w' => e = .returned (.bool (pbB T b)) ∧ ∃ m, w' = W.drewN m := fun W hbW => by
          have h1 := (hrow.below hbW).cutL b (by rw [spdL_len]; omega)
          have h2 := (hrow.below hbW).cutR (rnd T - b) (by rw [spdL_len]; omega)
          have h3 := equalInts _ _ _ (rnd T - b) (rnd T) _ _ W h1 h2
          rw [cut_eq r1 hb1 hlt hd, List.length_drop, List.length_take, spdL_len, Nat.min_eq_left (by omega), Nat.zero_add] at h3
          exact h3
        clear hmodn
        cases hpb : pbB T b with
        | true =>
          rw [hpb] at hcut
          replace hcut := Lib.hid hcut
          have hres := Lib.hid (bt_is r1 hb1 hno.out hpb)
          clear hpb hd
          go_wp2
          go_quiet ((go_at_call 82; (with_reducible exact quiet_add (hcut.out _ (below_drewN (Below.refl _ _) _)))))
          go_wp2
          go_ret
          exact ⟨ret_int (by rw [hres.out]), below_drewN (below_drewN hb01 n) _⟩
        | false =>
          rw [hpb] at hcut
          replace hcut := Lib.hid hcut
          replace hpb := Lib.hid hpb
          clear hd
          go_wp2
          go_quiet ((go_at_call 82; (with_reducible exact quiet_add (hcut.out _ (below_drewN (Below.refl _ _) _)))))
          go_wp2
          go_roundw
          case rel => exact ⟨b + 1, by omega, by omega, by go_num, fun j h1 h2 => by
            rcases Nat.lt_succ_iff_lt_or_eq.1 h2 with h3 | rfl
            · exact hno.out j h1 h3
            · exact hpb.out, _, rfl⟩
          case measure => simp [intOf]; omega
      · have hpb : pbB T b = false := decide_eq_false (fun hp => hd hp.1)
        replace hpb := Lib.hid hpb
        have hm1 : ¬ rnd T % b = 0 := fun h => hd (Nat.dvd_of_mod_eq_zero h)
        have hte : (((rnd T % b : Nat) : Int) == 0) = false := by simp; omega
        generalize rnd T % b = z at hmodn hte
        clear hd hm1
        go_wp2
        go_quiet (fail)
        go_wp2
        go_roundw
        case rel => exact ⟨b + 1, by omega, by omega, by go_num, fun j h1 h2 => by
          rcases Nat.lt_succ_iff_lt_or_eq.1 h2 with h3 | rfl
          · exact hno.out j h1 h3
          · exact hpb.out, _, rfl⟩
        case measure => simp [intOf]; omega
    · have hb' : b = rnd T := by omega
      subst hb'
      have hres := Lib.hid (bt_end r1 hno.out)
      go_wp2
      go_ret
      exact ⟨ret_int (by rw [hres.out]), below_drewN hb01 n⟩

theorem once_any (B : Nat) (A : Option Addr) (c : Nat) (T : List (List Int)) (w : World) (h : Mat w B A T) (hB : B ≤ w.heap.size) (hv : Val T) :
    Calls Try.prog 68 #[.slice A T.length c] w (NewRow w (spdL T (bt T))) := by
  obtain ⟨r1, r2⟩ := rnd_bound hv
  obtain ⟨b1, b2, _, _⟩ := bt_spec r1
  go_enter Try.func68, Try.ntmps68
  go_wp2_with fail
  refine (beat_any B A c T w h hB hv).mono ?_
  rintro e w1 ⟨rfl, hb1⟩
  go_wp2_with fail
  refine (madeSpeeds B A c T (bt T) w1 (h.below (hb1.mono hB)) (by have := hb1.size; omega) hv (by omega)).mono ?_
  rintro e w2 ⟨A2, rfl, hb2, hr2⟩
  have hb02 := hb1.trans (hb2.mono hb1.size)
  have hr02 := hr2.more hb1.size
  go_wp2
  go_ret
  exact ⟨A2, _, rfl, hb02, hr02⟩

end Go.Proofs.Ytmpmlgognkmfgaa
