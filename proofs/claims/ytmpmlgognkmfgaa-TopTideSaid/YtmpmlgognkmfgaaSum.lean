/-
  The contracts of Sum, of the program and of the specification.
-/
import Derived.Test.YtmpmlgognkmfgaaRefE
namespace Go.Proofs.Ytmpmlgognkmfgaa
open Go.RowKit Go.Deep M
set_option linter.unusedVariables false
set_option linter.unusedSimpArgs false

def sumR (T U : List (List Int)) : List (List Int) × Int := if validB T && validB U then (if 4 < T.length + U.length then ([], 4) else (T ++ U, 0)) else ([], 10)

/-- The values of a tide's rows. -/
def vals (F : Nat → List Int) (G : Nat → Option Addr × Nat) (n : Nat) : List Value := (List.range n).map fun i => Value.slice (G i).1 (F i).length (G i).2
theorem vals_len (F : Nat → List Int) (G : Nat → Option Addr × Nat) (n : Nat) : (vals F G n).length = n := by simp [vals]
theorem vals_get {F : Nat → List Int} {G : Nat → Option Addr × Nat} {n j : Nat} {u : Value} (h : (vals F G n)[j]? = some u) : j < n ∧ u = .slice (G j).1 (F j).length (G j).2 := by
  have hj : j < n := by
    have := (List.getElem?_eq_some_iff.1 h).1
    rwa [vals_len] at this
  refine ⟨hj, ?_⟩
  simp [vals, hj] at h
  exact h.symm

theorem own_of_laid {w w' : World} {n : Nat} {F : Nat → List Int} (h : Laid w w' n n F) (hn : n ≤ 1000000) : Own w w' (.slice (some ⟨w.heap.size, 0, none⟩) n n) n F := by
  obtain ⟨G, ⟨c, h1, h2, h3⟩, h4⟩ := h
  refine ⟨G, ⟨by simp, .inr ⟨w.heap.size, n, c, rfl, Nat.le_refl _, h1, Nat.le_refl _, by unfold maxLen; omega, by omega, ?_⟩⟩, fun i hi => (h4 i hi).more (by omega)⟩
  apply List.ext_getElem?
  intro i
  by_cases hi : i < n
  · have := h3 i hi
    simp [List.getElem?_take, hi]
    rw [this]; simp [hi]
  · simp [List.getElem?_take, hi]
theorem own_app {w w2 w' : World} {v v' : Value} {n m : Nat} {F F2 : Nat → List Int} {G G2 : Nat → Option Addr × Nat}
    (h1 : w2.ownsRow w.heap.size 31 1 v n (vals F G n)) (h2 : ∀ i, i < n → BRow w2 w.heap.size (G i).1 (F i)) (h3 : ∀ i, i < m → BRow w2 w.heap.size (G2 i).1 (F2 i))
    (hs : w'.ownsRow w.heap.size 31 1 v' (n + m) (vals F G n ++ vals F2 G2 m)) (hg : w2.grownBy w' v.ownBlock) :
    Own w w' v' (n + m) (fun i => if i < n then F i else F2 (i - n)) := by
  refine ⟨fun i => if i < n then G i else G2 (i - n), ?_, fun i hi => ?_⟩
  · have e : ((List.range (n + m)).map fun i => Value.slice (if i < n then G i else G2 (i - n)).1 (if i < n then F i else F2 (i - n)).length (if i < n then G i else G2 (i - n)).2) = vals F G n ++ vals F2 G2 m := by
      unfold vals
      rw [List.range_add, List.map_append, List.map_map]
      congr 1
      · exact List.map_congr_left fun i hi => by
          have : i < n := List.mem_range.1 hi
          simp only [if_pos this]
      · exact List.map_congr_left fun i hi => by
          simp only [Function.comp_apply, if_neg (show ¬ n + i < n by omega), Nat.add_sub_cancel_left]
    rw [e]; exact hs
  · by_cases e : i < n
    · simp only [if_pos e]; exact (h2 i e).grown h1 hg
    · simp only [if_neg e]; exact (h3 (i - n) (by omega)).grown h1 hg
theorem sum_rows (T U : List (List Int)) : mkT (fun i => if i < T.length then row T i else row U (i - T.length)) (T.length + U.length) = T ++ U := by
  apply List.ext_getElem (by rw [mkT_len, List.length_append])
  intro i h1 h2
  rw [mkT_len] at h1
  have h3 := mkT_row (fun i => if i < T.length then row T i else row U (i - T.length)) (T.length + U.length) i h1
  rw [row_eq _ _ (by rw [mkT_len]; exact h1)] at h3
  rw [h3]
  by_cases e : i < T.length
  · simp only [if_pos e]; rw [row_eq T i e, List.getElem_append_left e]
  · simp only [if_neg e]; rw [row_eq U _ (by omega), List.getElem_append_right (by omega)]

theorem sum_end {w w' : World} {A : Option Addr} {c : Nat} {T U : List (List Int)} (h : Own w w' (.slice A (T.length + U.length) c) (T.length + U.length) (fun i => if i < T.length then row T i else row U (i - T.length))) (hn : T.length + U.length ≤ 4) :
    Mat w' w'.heap.size A (T ++ U) := by
  have := own_end h (by omega)
  rwa [sum_rows] at this

set_option maxHeartbeats 1000000 in
theorem Sum_ok (B : Nat) (A A' : Option Addr) (c c' : Nat) (T U : List (List Int)) (w : World) (h : Mat w B A T) (h' : Mat w B A' U) (hB : B ≤ w.heap.size) (hv : validB T = true) (hu : validB U = true) (h4 : T.length + U.length ≤ 4) :
    Calls Try.prog 43 #[.slice A T.length c, .slice A' U.length c'] w fun e w' => ∃ A2 c2, e = .returned (.tuple #[.slice A2 (T ++ U).length c2, .int .i64 0]) ∧ Below w.heap.size w w' ∧ Mat w' w'.heap.size A2 (T ++ U) := by
  have hVT := val_of hv
  have hVU := val_of hu
  have hU1 := hVU.1.1
  obtain ⟨i0, hi, hz0, hz1, hz2⟩ := info_parts info31
  replace hi := Lib.hid hi
  replace hz0 := Lib.hid hz0
  replace hz1 := Lib.hid hz1
  replace hz2 := Lib.hid hz2
  replace hv := Lib.hid hv
  replace hu := Lib.hid hu
  go_enter Try.func43, Try.ntmps43
  go_wp2_with fail
  refine (valid_any B _ _ _ _ h).mono ?_
  rintro e w' ⟨rfl, rfl⟩
  rw [hv.out]
  go_wp2_with fail
  refine (valid_any B _ _ _ _ h').mono ?_
  rintro e w' ⟨rfl, rfl⟩
  rw [hu.out]
  go_wp2_with fail
  refine (copied_any B A c T w h hB hVT).mono ?_
  rintro e w1 ⟨rfl, hb1, hz1', hl1, hn1⟩
  go_wp2_with fail
  refine (copied_any B A' c' U w1 (h'.below (hb1.mono hB)) (by have := hb1.size; omega) hVU).mono ?_
  rintro e w2 ⟨rfl, hb2, hz2', hl2, hn2⟩
  have hb02 := hb1.trans (hb2.mono hb1.size)
  obtain ⟨G, hG1, hG2⟩ := own_below (own_of_laid hl1 hn1) hb2
  obtain ⟨G', hr', hG2'⟩ := hl2
  have hcells := Lib.hid (fun j (hj : j < U.length) => hr'.cell hj)
  have hG2'' := Lib.hid (fun i hi => (hG2' i hi).more (show w.heap.size ≤ w1.heap.size + 1 by omega))
  replace hG2 := Lib.hid hG2
  have g3 : T.length + U.length ≤ maxLen := by unfold maxLen; omega
  have g4 : (T.length + U.length) * 24 ≤ 140737488355328 := by omega
  have hvl := vals_len (row U) G' U.length
  replace hvl := Lib.hid hvl
  clear hl1 hr' hG2' hb1 hb2
  change w2.ownsRow w.heap.size 31 1 (.slice (some ⟨w.heap.size, 0, none⟩) T.length T.length) T.length (vals (row T) G T.length) at hG1
  go_wp2_with (at_builtin; refine wpList_append_own _ rfl (.tmp 21) (.tmp 23) 22 rfl w.heap.size 31 i0 (.slice none 0 0) 1 24 Try.underlying22 hi.out hz0.out hz1.out hz2.out rfl (by decide) _ _ _ rfl hG1 ⟨w1.heap.size, 0, none⟩ U.length U.length (vals (row U) G' U.length) rfl (by rw [hvl.out, Nat.mul_one]) ?c1 ?c2 g3 g4 hb02.size ?_)
  case c1 =>
    intro j u hu2
    obtain ⟨hj, rfl⟩ := vals_get hu2
    have := hcells.out j hj
    rw [if_pos hj] at this
    by_cases hj0 : j = 0
    · subst hj0; simpa [Addr.add] using this
    · simpa [Addr.add, hj0] using this
  case c2 =>
    intro u hu2
    obtain ⟨j, hj⟩ := List.mem_iff_getElem?.1 hu2
    obtain ⟨_, rfl⟩ := vals_get hj
    rfl
  intro v' w3 hown' hgrow hnil
  have hst := own_app hG1 hG2.out hG2''.out hown' hgrow
  have hb3 : Below w.heap.size w w3 := hb02.grown hgrow hb02.size (fun g hg => (hG1.lt g hg).1)
  clear hG1 hG2 hG2'' hown' hgrow hnil hb02 hcells
  obtain ⟨A2, c2, rfl⟩ := own_val hst
  have hend := sum_end hst h4
  go_wp2
  go_ret2
  exact ⟨A2, c2, by rw [List.length_append]; rfl, hb3, hend⟩

/-- What stands where no tide is made. -/
theorem Sum_any (B : Nat) (A A' : Option Addr) (c c' : Nat) (T U : List (List Int)) (w : World) (h : Mat w B A T) (h' : Mat w B A' U) (hB : B ≤ w.heap.size) :
    Calls Try.prog 43 #[.slice A T.length c, .slice A' U.length c'] w (NewMatE w (sumR T U)) := by
  have h63 := h.1
  have h63' := h'.1
  cases hv : validB T with
  | false =>
    have hr := Lib.hid (newMat_none w 10 (p := sumR T U) (by unfold sumR; rw [hv]; rfl))
    replace hv := Lib.hid hv
    go_enter Try.func43, Try.ntmps43
    go_wp2_with fail
    refine (valid_any B _ _ _ _ h).mono ?_
    rintro e w' ⟨rfl, rfl⟩
    rw [hv.out]
    go_wp2
    go_ret2
    exact hr.out
  | true =>
    cases hu : validB U with
    | false =>
      have hr := Lib.hid (newMat_none w 10 (p := sumR T U) (by unfold sumR; rw [hv, hu]; rfl))
      replace hv := Lib.hid hv
      replace hu := Lib.hid hu
      go_enter Try.func43, Try.ntmps43
      go_wp2_with fail
      refine (valid_any B _ _ _ _ h).mono ?_
      rintro e w' ⟨rfl, rfl⟩
      rw [hv.out]
      go_wp2_with fail
      refine (valid_any B _ _ _ _ h').mono ?_
      rintro e w' ⟨rfl, rfl⟩
      rw [hu.out]
      go_wp2
      go_ret2
      exact hr.out
    | true =>
      have h4 := (val_of hv).1.2
      have h4' := (val_of hu).1.2
      by_cases hlen : 4 < T.length + U.length
      · have hr := Lib.hid (newMat_none w 4 (p := sumR T U) (by unfold sumR; rw [hv, hu, if_pos hlen]; rfl))
        replace hv := Lib.hid hv
        replace hu := Lib.hid hu
        go_enter Try.func43, Try.ntmps43
        go_wp2_with fail
        refine (valid_any B _ _ _ _ h).mono ?_
        rintro e w' ⟨rfl, rfl⟩
        rw [hv.out]
        go_wp2_with fail
        refine (valid_any B _ _ _ _ h').mono ?_
        rintro e w' ⟨rfl, rfl⟩
        rw [hu.out]
        go_wp2
        go_ret2
        exact hr.out
      · refine (Sum_ok B A A' c c' T U w h h' hB hv hu (by omega)).mono ?_
        rintro e w' ⟨A2, c2, rfl, hb, hrow⟩
        have : sumR T U = (T ++ U, 0) := by unfold sumR; rw [hv, hu, if_neg hlen]; rfl
        exact ⟨A2, c2, by rw [this], hb, by rw [this]; exact hrow⟩

end Go.Proofs.Ytmpmlgognkmfgaa
