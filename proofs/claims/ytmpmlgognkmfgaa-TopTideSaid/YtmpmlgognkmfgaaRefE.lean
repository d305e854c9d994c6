/-
  The contracts of the specification's functions that make tides: Shifted, Back.
-/
import Derived.Test.YtmpmlgognkmfgaaTideF
import Derived.Deep.AppendLies
import Derived.Maps.AppendAt
namespace Go.Proofs.Ytmpmlgognkmfgaa
open Go.RowKit Go.Deep M
set_option linter.unusedVariables false
set_option linter.unusedSimpArgs false

/-- The tide under way in a slice that grows: k of its rows are there. -/
def Own (w wr : World) (v : Value) (k : Nat) (F : Nat → List Int) : Prop :=
  ∃ G : Nat → Option Addr × Nat, wr.ownsRow w.heap.size 31 1 v k ((List.range k).map fun i => Value.slice (G i).1 (F i).length (G i).2) ∧ ∀ i, i < k → BRow wr w.heap.size (G i).1 (F i)
theorem own_start (w wr : World) (F : Nat → List Int) : Own w wr (.slice none 0 0) 0 F := ⟨fun _ => (none, 0), World.ownsRow_nil wr _ 31 1, fun i hi => absurd hi (Nat.not_lt_zero _)⟩
theorem grown_of_below {a w : World} (h : Below a.heap.size a w) (row : Option Nat) : a.grownBy w row := ⟨h.os, h.tape, h.output, h.size, fun i hi _ => h.block i hi⟩
theorem own_below {w wr w1 : World} {v : Value} {k : Nat} {F : Nat → List Int} (h : Own w wr v k F) (hb : Below wr.heap.size wr w1) : Own w w1 v k F := by
  obtain ⟨G, h1, h2⟩ := h
  refine ⟨G, h1.kept (grown_of_below hb none) ?_, fun i hi => (h2 i hi).below hb (Nat.le_refl _)⟩
  cases v.ownBlock with
  | none => exact .inl rfl
  | some k => exact .inr (by simp)
theorem BRow.grown {w w' : World} {lo : Nat} {A : Option Addr} {l : List Int} (h : BRow w lo A l) {base : Nat} {v : Value} {n : Nat} {xs : List Value} (hown : w.ownsRow base 31 1 v n xs) (hg : w.grownBy w' v.ownBlock) : BRow w' lo A l := by
  obtain ⟨h1, b, cs, rfl, h2, h3, h4⟩ := h
  refine ⟨h1, b, cs, rfl, h2, (hg.block b (blk_lt h3) ?_).trans h3, h4⟩
  rcases hown.2 with ⟨rfl, _⟩ | ⟨g, cap, cur, rfl, _, hh, _⟩
  · simp [Value.ownBlock]
  · intro he
    have : b = g := by simpa [Value.ownBlock] using he
    subst this
    rw [hh] at h3
    simp at h3
theorem own_step {w w1 w' : World} {v v' : Value} {k : Nat} {F : Nat → List Int} {A : Option Addr} {c : Nat} {G : Nat → Option Addr × Nat}
    (h1 : w1.ownsRow w.heap.size 31 1 v k ((List.range k).map fun i => Value.slice (G i).1 (F i).length (G i).2)) (h2 : ∀ i, i < k → BRow w1 w.heap.size (G i).1 (F i)) (hr : BRow w1 w.heap.size A (F k))
    (hs : w'.ownsRow w.heap.size 31 1 v' (k + 1) (((List.range k).map fun i => Value.slice (G i).1 (F i).length (G i).2) ++ [Value.slice A (F k).length c])) (hg : w1.grownBy w' v.ownBlock) : Own w w' v' (k + 1) F := by
  refine ⟨fun i => if i = k then (A, c) else G i, ?_, fun i hi => ?_⟩
  · rw [List.range_succ, List.map_append]
    simp only [List.map_cons, List.map_nil, if_true]
    rw [List.map_congr_left (g := fun i => Value.slice (G i).1 (F i).length (G i).2) (fun i hi => by
      have : i < k := List.mem_range.1 hi
      simp only [if_neg (show ¬ i = k by omega)])]
    exact hs
  · by_cases e : i = k
    · subst e
      simp only [if_true]
      exact hr.grown h1 hg
    · simp only [if_neg e]
      exact (h2 i (by omega)).grown h1 hg
theorem own_val {w wr : World} {v : Value} {k : Nat} {F : Nat → List Int} (h : Own w wr v k F) : ∃ A c, v = .slice A k c := by
  obtain ⟨G, h1, _⟩ := h
  rcases h1.2 with ⟨rfl, rfl⟩ | ⟨g, cap, cur, rfl, _⟩
  · exact ⟨_, _, rfl⟩
  · exact ⟨_, _, rfl⟩
theorem own_end {w wr : World} {A : Option Addr} {n c : Nat} {F : Nat → List Int} (h : Own w wr (.slice A n c) n F) (hn : n ≤ 9223372036854775807) : Mat wr wr.heap.size A (mkT F n) := by
  obtain ⟨G, h1, h2⟩ := h
  refine ⟨by rw [mkT_len]; exact hn, fun hpos => ?_⟩
  rw [mkT_len] at hpos
  rcases h1.2 with ⟨_, rfl⟩ | ⟨g, cap, cur, hv, hge, hh, hcap, hmax, hsz, htake⟩
  · exact absurd hpos (Nat.lt_irrefl _)
  · simp only [Value.slice.injEq] at hv
    obtain ⟨rfl, _, rfl⟩ := hv
    have hlt : g < wr.heap.size := by
      rcases Nat.lt_or_ge g wr.heap.size with h | h
      · exact h
      · rw [Array.getElem?_eq_none h] at hh; cases hh
    refine ⟨g, 0, rfl, hlt, fun i hi => ?_⟩
    rw [mkT_len] at hi
    rw [mkT_row F n i hi]
    refine ⟨(G i).1, (G i).2, ?_, (h2 i hi).row⟩
    rw [Nat.zero_add, h1.cellAt i (by omega)]
    simp [hi]

/-- A new list of integers is laid. -/
theorem own_bounds (k : Nat) (h : k ≤ 100) : k + 1 ≤ maxLen ∧ (k + 1) * 24 ≤ 140737488355328 := by unfold maxLen; omega

set_option maxHeartbeats 4000000 in
theorem Shifted_ok (B : Nat) (A : Option Addr) (c : Nat) (T : List (List Int)) (by_ : Int) (w : World) (h : Mat w B A T) (hB : B ≤ w.heap.size) (hv : validB T = true) (ha : hourB by_ = true) :
    Calls Try.prog 39 #[.slice A T.length c, .int .i64 by_] w fun e w' => ∃ A' c', e = .returned (.tuple #[.slice A' T.length c', .int .i64 0]) ∧ Below w.heap.size w w' ∧ Mat w' w'.heap.size A' (shT by_ T) := by
  have hV := val_of hv
  have h4 := hV.1.2
  obtain ⟨t1, t2⟩ := of_hourB ha
  obtain ⟨i0, hi, hz0, hz1, hz2⟩ := info_parts info31
  replace hv := Lib.hid hv
  replace ha := Lib.hid ha
  have hi := Lib.hid hi
  have hz0 := Lib.hid hz0
  have hz1 := Lib.hid hz1
  have hz2 := Lib.hid hz2
  go_enter Try.func39, Try.ntmps39
  go_wp2_with fail
  refine (valid_ref B _ _ _ _ h).mono ?_
  rintro e w' ⟨rfl, rfl⟩
  rw [hv.out]
  go_wp2_with fail
  refine (isHour_ref _ _).mono ?_
  rintro e w' ⟨rfl, rfl⟩
  rw [ha.out]
  go_wp2_with fail
  go_loopw [6, 19] (fun v i wr => ∃ k : Nat, k ≤ T.length ∧ i = .int .i64 k ∧ Below w.heap.size w wr ∧ Own w wr v k (fun k => shRow by_ (row T k))) (fun _ i _ => T.length - (intOf i).toNat)
  case atStart => exact ⟨0, Nat.zero_le _, rfl, Below.refl _ _, own_start _ _ _⟩
  case round =>
    obtain ⟨k, hk, rfl, hb, hown⟩ := hrel
    by_cases hlt : k < T.length
    · obtain ⟨b, o, Ai, ci, rfl, hb0, hc, hr⟩ := (h.below (hb.mono hB)).at_ k hlt
      obtain ⟨l1, l2⟩ := row_len hV k hlt
      have hml := Lib.hid (mild_of hV k hlt)
      have hmk := run_make_row' (P := Try.prog) 31 3 (.int .i64 0) 8 Try.underlying31 info3 rfl .i64 .i64 (row T k).length (by omega) (by omega)
      obtain ⟨wo, hwo⟩ : ∃ wo : World, wo = wr := ⟨_, rfl⟩
      subst hwo
      go_wp2
      go_loopw [28] (fun i wi => ∃ j : Nat, j ≤ (row T k).length ∧ i = .int .i64 j ∧ Below wo.heap.size wo wi ∧ wi.heap.size = wo.heap.size + 1 ∧ wi.rowIs wo.heap.size 3 (row T k).length (fun i => if i < j then .int .i64 (M.at_ (row T k) ((i : Int) + by_)) else .int .i64 0)) (fun i _ => (row T k).length - (intOf i).toNat)
      case atStart => exact ⟨0, Nat.zero_le _, rfl, (Below.refl _ _).alloc (Nat.le_refl _) _, by simp, mk_start (fun i => M.at_ (row T k) ((i : Int) + by_)) wo _⟩
      case round =>
        obtain ⟨j, hj, rfl, hbi, hzi, hri⟩ := hrel
        clear hmk
        by_cases hjt : j < (row T k).length
        · obtain ⟨b', o', rfl, hb', hc'⟩ := (hr.below (hbi.mono (by have := hb.size; omega))).at_hour ((j : Int) + by_) l1
          obtain ⟨m1, m2⟩ := hour_range ((j : Int) + by_) (row T k).length l1
          have g1 : wr.cell? ⟨wo.heap.size, j, none⟩ = some (.int .i64 0) := by rw [hri.cell hjt]; simp
          have g2 := hri.frozen j
          have hr2 := mk_step (F := fun i => M.at_ (row T k) ((i : Int) + by_)) hri
          have hb2 := hbi.setCell (p := ⟨wo.heap.size, j, none⟩) (Nat.le_refl _) (.int .i64 (M.at_ (row T k) ((j : Int) + by_)))
          have hbt : -4000000000000000000 ≤ (j : Int) + by_ ∧ (j : Int) + by_ ≤ 4000000000000000000 := by omega
          have hzi' := Lib.hid hzi
          clear hri hbi hzi
          go_wp2_with (go_at_call 79; refine (modulo_ref _ _ _ hbt l1 (by omega)).mono ?_; rintro e w' ⟨rfl, rfl⟩)
          go_roundw
          case rel => exact ⟨j + 1, by omega, by go_num, hb2, by simpa [World.setCell] using hzi'.out, hr2⟩
          case measure => simp [intOf]; omega
        · have hj' : j = (row T k).length := by omega
          subst hj'
          have hnew := mk_end hri (by omega) w.heap.size hb.size
          have hownx := own_below hown hbi
          have hbx : Below w.heap.size w wr := hb.trans (hbi.mono hb.size)
          clear hown hri hbi hzi hr hc hb
          obtain ⟨G, hG1, hG2⟩ := hownx
          obtain ⟨g3, g4⟩ := own_bounds k (by omega)
          have hal : Below wr.heap.size wr (wr.alloc (.cells #[.slice (some ⟨wo.heap.size, 0, none⟩) (row T k).length (row T k).length] 31)) := (Below.refl _ _).alloc (Nat.le_refl _) _
          have hG1' := hG1.alloc (.cells #[.slice (some ⟨wo.heap.size, 0, none⟩) (row T k).length (row T k).length] 31)
          have hG2' := Lib.hid (fun i hi => (hG2 i hi).below hal (Nat.le_refl _))
          have hnew' := hnew.below hal (Nat.le_refl _)
          have hbx' := hbx.trans (hal.mono hbx.size)
          have hlen : (shRow by_ (row T k)).length = (row T k).length := mk_len _ _
          replace hlen := Lib.hid hlen
          clear hG1 hG2 hnew hbx hal
          go_wp2_with (at_builtin; refine wpList_append_own _ rfl (.tmp 44) (.tmp 46) 22 rfl w.heap.size 31 i0 (.slice none 0 0) 1 24 Try.underlying22 hi.out hz0.out hz1.out hz2.out rfl (by decide) _ _ _ rfl hG1' ⟨wr.heap.size, 0, none⟩ 1 1 [.slice (some ⟨wo.heap.size, 0, none⟩) (row T k).length (row T k).length] rfl rfl ?c1 ?c2 ?c3 ?c4 ?c5 ?_)
          case c2 => rfl
          case c5 => simpa using hbx'.size
          intro v' w1 hown' hgrow hnil
          have hst := own_step (F := fun k => shRow by_ (row T k)) (c := (row T k).length) hG1' hG2'.out hnew' (by rw [hlen.out]; exact hown') hgrow
          have hb1 : Below w.heap.size w w1 := hbx'.grown hgrow hbx'.size (fun g hg => (hG1'.lt g hg).1)
          clear hG1' hG2' hnew' hown' hgrow hbx' hnil
          go_wp2
          go_roundw
          case rel => exact ⟨k + 1, by omega, by go_num, hb1, hst⟩
          case measure => simp [intOf]; omega
    · have hk' : k = T.length := by omega
      subst hk'
      obtain ⟨A', c', rfl⟩ := own_val hown
      have hend := own_end hown (by omega)
      go_wp2
      go_ret2
      exact ⟨A', c', rfl, hb, hend⟩

set_option maxHeartbeats 4000000 in
theorem Back_ok (B : Nat) (A : Option Addr) (c : Nat) (T : List (List Int)) (w : World) (h : Mat w B A T) (hB : B ≤ w.heap.size) (hv : validB T = true) :
    Calls Try.prog 42 #[.slice A T.length c] w fun e w' => ∃ A' c', e = .returned (.tuple #[.slice A' T.length c', .int .i64 0]) ∧ Below w.heap.size w w' ∧ Mat w' w'.heap.size A' (bkT T) := by
  have hV := val_of hv
  have h4 := hV.1.2
  obtain ⟨i0, hi, hz0, hz1, hz2⟩ := info_parts info31
  replace hv := Lib.hid hv
  have hi := Lib.hid hi
  have hz0 := Lib.hid hz0
  have hz1 := Lib.hid hz1
  have hz2 := Lib.hid hz2
  go_enter Try.func42, Try.ntmps42
  go_wp2_with fail
  refine (valid_ref B _ _ _ _ h).mono ?_
  rintro e w' ⟨rfl, rfl⟩
  rw [hv.out]
  go_wp2_with fail
  go_loopw [4, 14] (fun v i wr => ∃ k : Nat, k ≤ T.length ∧ i = .int .i64 k ∧ Below w.heap.size w wr ∧ Own w wr v k (fun k => bkRow (row T k))) (fun _ i _ => T.length - (intOf i).toNat)
  case atStart => exact ⟨0, Nat.zero_le _, rfl, Below.refl _ _, own_start _ _ _⟩
  case round =>
    obtain ⟨k, hk, rfl, hb, hown⟩ := hrel
    by_cases hlt : k < T.length
    · obtain ⟨b, o, Ai, ci, rfl, hb0, hc, hr⟩ := (h.below (hb.mono hB)).at_ k hlt
      obtain ⟨l1, l2⟩ := row_len hV k hlt
      have hml := Lib.hid (mild_of hV k hlt)
      have hmk := run_make_row' (P := Try.prog) 31 3 (.int .i64 0) 8 Try.underlying31 info3 rfl .i64 .i64 (row T k).length (by omega) (by omega)
      obtain ⟨wo, hwo⟩ : ∃ wo : World, wo = wr := ⟨_, rfl⟩
      subst hwo
      go_wp2
      go_loopw [23] (fun i wi => ∃ j : Nat, j ≤ (row T k).length ∧ i = .int .i64 j ∧ Below wo.heap.size wo wi ∧ wi.heap.size = wo.heap.size + 1 ∧ wi.rowIs wo.heap.size 3 (row T k).length (fun i => if i < j then .int .i64 (- M.at_ (row T k) (-(i : Int))) else .int .i64 0)) (fun i _ => (row T k).length - (intOf i).toNat)
      case atStart => exact ⟨0, Nat.zero_le _, rfl, (Below.refl _ _).alloc (Nat.le_refl _) _, by simp, mk_start (fun i => - M.at_ (row T k) (-(i : Int))) wo _⟩
      case round =>
        obtain ⟨j, hj, rfl, hbi, hzi, hri⟩ := hrel
        clear hmk
        by_cases hjt : j < (row T k).length
        · obtain ⟨b', o', rfl, hb', hc'⟩ := (hr.below (hbi.mono (by have := hb.size; omega))).at_hour (-(j : Int)) l1
          obtain ⟨m1, m2⟩ := hour_range (-(j : Int)) (row T k).length l1
          have g1 : wr.cell? ⟨wo.heap.size, j, none⟩ = some (.int .i64 0) := by rw [hri.cell hjt]; simp
          have g2 := hri.frozen j
          have hr2 := mk_step (F := fun i => - M.at_ (row T k) (-(i : Int))) hri
          have hb2 := hbi.setCell (p := ⟨wo.heap.size, j, none⟩) (Nat.le_refl _) (.int .i64 (- M.at_ (row T k) (-(j : Int))))
          have hbt : -4000000000000000000 ≤ -(j : Int) ∧ -(j : Int) ≤ 4000000000000000000 := by omega
          obtain ⟨a1, a2⟩ := at_bound hV k hlt (-(j : Int))
          have hzi' := Lib.hid hzi
          clear hri hbi hzi
          go_wp2_with (go_at_call 79; refine (modulo_ref _ _ _ hbt l1 (by omega)).mono ?_; rintro e w' ⟨rfl, rfl⟩)
          go_roundw
          case rel => exact ⟨j + 1, by omega, by go_num, hb2, by simpa [World.setCell] using hzi'.out, hr2⟩
          case measure => simp [intOf]; omega
        · have hj' : j = (row T k).length := by omega
          subst hj'
          have hnew := mk_end hri (by omega) w.heap.size hb.size
          have hownx := own_below hown hbi
          have hbx : Below w.heap.size w wr := hb.trans (hbi.mono hb.size)
          clear hown hri hbi hzi hr hc hb
          obtain ⟨G, hG1, hG2⟩ := hownx
          obtain ⟨g3, g4⟩ := own_bounds k (by omega)
          have hal : Below wr.heap.size wr (wr.alloc (.cells #[.slice (some ⟨wo.heap.size, 0, none⟩) (row T k).length (row T k).length] 31)) := (Below.refl _ _).alloc (Nat.le_refl _) _
          have hG1' := hG1.alloc (.cells #[.slice (some ⟨wo.heap.size, 0, none⟩) (row T k).length (row T k).length] 31)
          have hG2' := Lib.hid (fun i hi => (hG2 i hi).below hal (Nat.le_refl _))
          have hnew' := hnew.below hal (Nat.le_refl _)
          have hbx' := hbx.trans (hal.mono hbx.size)
          have hlen : (bkRow (row T k)).length = (row T k).length := mk_len _ _
          replace hlen := Lib.hid hlen
          clear hG1 hG2 hnew hbx hal
          go_wp2_with (at_builtin; refine wpList_append_own _ rfl (.tmp 39) (.tmp 41) 22 rfl w.heap.size 31 i0 (.slice none 0 0) 1 24 Try.underlying22 hi.out hz0.out hz1.out hz2.out rfl (by decide) _ _ _ rfl hG1' ⟨wr.heap.size, 0, none⟩ 1 1 [.slice (some ⟨wo.heap.size, 0, none⟩) (row T k).length (row T k).length] rfl rfl ?c1 ?c2 ?c3 ?c4 ?c5 ?_)
          case c2 => rfl
          case c5 => simpa using hbx'.size
          intro v' w1 hown' hgrow hnil
          have hst := own_step (F := fun k => bkRow (row T k)) (c := (row T k).length) hG1' hG2'.out hnew' (by rw [hlen.out]; exact hown') hgrow
          have hb1 : Below w.heap.size w w1 := hbx'.grown hgrow hbx'.size (fun g hg => (hG1'.lt g hg).1)
          clear hG1' hG2' hnew' hown' hgrow hbx' hnil
          go_wp2
          go_roundw
          case rel => exact ⟨k + 1, by omega, by go_num, hb1, hst⟩
          case measure => simp [intOf]; omega
    · have hk' : k = T.length := by omega
      subst hk'
      obtain ⟨A', c', rfl⟩ := own_val hown
      have hend := own_end hown (by omega)
      go_wp2
      go_ret2
      exact ⟨A', c', rfl, hb, hend⟩


set_option maxHeartbeats 1000000 in
theorem Shifted_ref (B : Nat) (A : Option Addr) (c : Nat) (T : List (List Int)) (by_ : Int) (w : World) (h : Mat w B A T) (hB : B ≤ w.heap.size) :
    Calls Try.prog 39 #[.slice A T.length c, .int .i64 by_] w (NewMatE w (shiftR T by_)) := by
  cases hv : validB T with
  | false =>
    have hr := Lib.hid (newMat_none w 10 (p := shiftR T by_) (by unfold shiftR; rw [hv]; rfl))
    replace hv := Lib.hid hv
    go_enter Try.func39, Try.ntmps39
    go_wp2_with fail
    refine (valid_ref B _ _ _ _ h).mono ?_
    rintro e w' ⟨rfl, rfl⟩
    rw [hv.out]
    go_wp2
    go_ret2
    exact hr.out
  | true =>
    cases ha : hourB by_ with
    | false =>
      have hr := Lib.hid (newMat_none w 2 (p := shiftR T by_) (by unfold shiftR; rw [hv, ha]; rfl))
      replace hv := Lib.hid hv
      replace ha := Lib.hid ha
      go_enter Try.func39, Try.ntmps39
      go_wp2_with fail
      refine (valid_ref B _ _ _ _ h).mono ?_
      rintro e w' ⟨rfl, rfl⟩
      rw [hv.out]
      go_wp2_with fail
      refine (isHour_ref _ _).mono ?_
      rintro e w' ⟨rfl, rfl⟩
      rw [ha.out]
      go_wp2
      go_ret2
      exact hr.out
    | true =>
      refine (Shifted_ok B A c T by_ w h hB hv ha).mono ?_
      rintro e w' ⟨A', c', rfl, hb, hrow⟩
      have : shiftR T by_ = (shT by_ T, 0) := by unfold shiftR; rw [hv, ha]; rfl
      exact ⟨A', c', by rw [this]; unfold shT; rw [mkT_len], hb, by rw [this]; exact hrow⟩

set_option maxHeartbeats 1000000 in
theorem Back_ref (B : Nat) (A : Option Addr) (c : Nat) (T : List (List Int)) (w : World) (h : Mat w B A T) (hB : B ≤ w.heap.size) :
    Calls Try.prog 42 #[.slice A T.length c] w (NewMatE w (backR T)) := by
  cases hv : validB T with
  | false =>
    have hr := Lib.hid (newMat_none w 10 (p := backR T) (by unfold backR; rw [hv]; rfl))
    replace hv := Lib.hid hv
    go_enter Try.func42, Try.ntmps42
    go_wp2_with fail
    refine (valid_ref B _ _ _ _ h).mono ?_
    rintro e w' ⟨rfl, rfl⟩
    rw [hv.out]
    go_wp2
    go_ret2
    exact hr.out
  | true =>
    refine (Back_ok B A c T w h hB hv).mono ?_
    rintro e w' ⟨A', c', rfl, hb, hrow⟩
    have : backR T = (bkT T, 0) := by unfold backR; rw [hv]; rfl
    exact ⟨A', c', by rw [this]; unfold bkT; rw [mkT_len], hb, by rw [this]; exact hrow⟩

end Go.Proofs.Ytmpmlgognkmfgaa
