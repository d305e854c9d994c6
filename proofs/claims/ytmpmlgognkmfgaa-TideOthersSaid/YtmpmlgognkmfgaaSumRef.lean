/-
  The contract of the specification's Sum.
-/
import Derived.Test.YtmpmlgognkmfgaaSum
namespace Go.Proofs.Ytmpmlgognkmfgaa
open Go.RowKit Go.Deep M
set_option linter.unusedVariables false
set_option linter.unusedSimpArgs false

theorem add_pl (b o j : Nat) : (⟨b, o, none⟩ : Addr).add j = ⟨b, o + j, none⟩ := by unfold Addr.add; split <;> simp_all
theorem brow_own {w1 : World} {lo : Nat} {v1 : Value} {l : List Int} (h : w1.ownsRow lo 3 1 v1 l.length (l.map (Value.int .i64))) (hl : 1 ≤ l.length) (hm : l.length ≤ 9223372036854775807) :
    ∃ g cap, v1 = .slice (some ⟨g, 0, none⟩) l.length cap ∧ BRow w1 lo (some ⟨g, 0, none⟩) l := by
  rcases h.2 with ⟨_, h0⟩ | ⟨g, cap, cur, hv, hge, hh, hcap, hmax, hsz, htake⟩
  · omega
  · refine ⟨g, cap, hv, hm, g, cur, rfl, hge, hh, fun i hi => ?_⟩
    have h1 : (cur.toList.take (l.length * 1))[i]? = (l.map (Value.int .i64))[i]? := by rw [htake]
    rw [Nat.mul_one, List.getElem?_take, if_pos hi] at h1
    rw [Array.getElem?_toList] at h1
    rw [h1]
    simp [hi, el_eq l i hi]
theorem news_get {l : List Int} {j : Nat} {u : Value} (h : (l.map (Value.int .i64))[j]? = some u) : j < l.length ∧ u = .int .i64 (el l j) := by
  have hj : j < l.length := by
    have := (List.getElem?_eq_some_iff.1 h).1
    rwa [List.length_map] at this
  refine ⟨hj, ?_⟩
  simp [hj] at h
  rw [el_eq l j hj]; exact h.symm
theorem empty_own (w : World) (t : TypeId) : (w.alloc (.cells #[] t)).ownsRow w.heap.size t 1 (.slice (some ⟨w.heap.size, 0, none⟩) 0 0) 0 [] :=
  ⟨rfl, .inr ⟨w.heap.size, 0, #[], rfl, Nat.le_refl _, heap_alloc_new w _, Nat.le_refl _, by unfold maxLen; omega, rfl, rfl⟩⟩
def sumF (T U : List (List Int)) (i : Nat) : List Int := if i < T.length then row T i else row U (i - T.length)
theorem sumF_T {T U : List (List Int)} {k : Nat} (h : k < T.length) : sumF T U k = row T k := if_pos h
theorem sumF_U (T U : List (List Int)) (k : Nat) : sumF T U (T.length + k) = row U k := by unfold sumF; rw [if_neg (by omega)]; congr 1; omega
theorem sumF_end {w w' : World} {A : Option Addr} {c : Nat} {T U : List (List Int)} (h : Own w w' (.slice A (T.length + U.length) c) (T.length + U.length) (sumF T U)) (hn : T.length + U.length ≤ 4) :
    Mat w' w'.heap.size A (T ++ U) := sum_end h hn

set_option maxHeartbeats 4000000 in
theorem SumRef_ok (B : Nat) (A A' : Option Addr) (c c' : Nat) (T U : List (List Int)) (w : World) (h : Mat w B A T) (h' : Mat w B A' U) (hB : B ≤ w.heap.size) (hv : validB T = true) (hu : validB U = true) (h4 : T.length + U.length ≤ 4) :
    Calls Try.prog 44 #[.slice A T.length c, .slice A' U.length c'] w fun e w' => ∃ A2 c2, e = .returned (.tuple #[.slice A2 (T ++ U).length c2, .int .i64 0]) ∧ Below w.heap.size w w' ∧ Mat w' w'.heap.size A2 (T ++ U) := by
  have hVT := val_of hv
  have hVU := val_of hu
  obtain ⟨i0, hi, hz0, hz1, hz2⟩ := info_parts info31
  obtain ⟨i3, ji, jz0, jz1, jz2⟩ := info_parts info3
  replace hi := Lib.hid hi
  replace hz0 := Lib.hid hz0
  replace hz1 := Lib.hid hz1
  replace hz2 := Lib.hid hz2
  replace ji := Lib.hid ji
  replace jz0 := Lib.hid jz0
  replace jz1 := Lib.hid jz1
  replace jz2 := Lib.hid jz2
  replace hv := Lib.hid hv
  replace hu := Lib.hid hu
  go_enter Try.func44, Try.ntmps44
  go_wp2_with fail
  refine (valid_ref B _ _ _ _ h).mono ?_
  rintro e w' ⟨rfl, rfl⟩
  rw [hv.out]
  go_wp2_with fail
  refine (valid_ref B _ _ _ _ h').mono ?_
  rintro e w' ⟨rfl, rfl⟩
  rw [hu.out]
  go_wp2_with fail
  go_loopw [6, 27] (fun v i wr => ∃ k : Nat, k ≤ T.length ∧ i = .int .i64 k ∧ Below w.heap.size w wr ∧ Own w wr v k (sumF T U)) (fun _ i _ => T.length - (intOf i).toNat)
  case atStart => exact ⟨0, Nat.zero_le _, rfl, Below.refl _ _, own_start _ _ _⟩
  case round =>
    obtain ⟨k, hk, rfl, hb, hown⟩ := hrel
    by_cases hlt : k < T.length
    · have hFk := Lib.hid (sumF_T (U := U) hlt)
      obtain ⟨b, o, Ai, ci, rfl, hb0, hc, hr⟩ := (h.below (hb.mono hB)).at_ k hlt
      obtain ⟨l1, l2⟩ := row_len hVT k hlt
      obtain ⟨b', o', rfl, hb', hcs⟩ := hr.2 l1
      obtain ⟨wo, hwo⟩ : ∃ wo : World, wo = wr := ⟨_, rfl⟩
      subst hwo
      have he0 := empty_own wo 3
      have hlm : ((row T k).map (Value.int .i64)).length = (row T k).length := List.length_map _
      replace hlm := Lib.hid hlm
      have hbo : b' < wo.heap.size := by have := hb.size; omega
      have hcs' := Lib.hid (fun j (hj : j < (row T k).length) => show (wo.alloc (.cells #[] 3)).cell? ⟨b', o' + j, none⟩ = some (.int .i64 (el (row T k) j)) by rw [World.cell?_alloc_lt _ _ _ hbo]; exact hcs j hj)
      have f3 : 0 + (row T k).length ≤ maxLen := by unfold maxLen; omega
      have f4 : (0 + (row T k).length) * 8 ≤ 140737488355328 := by omega
      clear hcs
      go_wp2_with (at_builtin; refine wpList_append_own _ rfl (.tmp 32) (.tmp 33) 31 rfl wo.heap.size 3 i3 (.int .i64 0) 1 8 Try.underlying31 ji.out jz0.out jz1.out jz2.out rfl (by decide) _ _ _ rfl he0 ⟨b', o', none⟩ (row T k).length ci ((row T k).map (Value.int .i64)) rfl (by rw [hlm.out, Nat.mul_one]) ?c1 (ints_oneCell _ _) f3 f4 ?c5 ?_)
      case c1 =>
        intro j u hu2
        obtain ⟨hj, rfl⟩ := news_get hu2
        have := hcs'.out j hj
        rw [add_pl]; exact this
      case c5 => simp
      intro v1 w1 hown1 hgrow1 hnil1
      obtain ⟨g, cap, rfl, hnew⟩ := brow_own hown1 l1 (by omega)
      have hbw : Below wo.heap.size wo w1 := ((Below.refl _ _).alloc (Nat.le_refl _) _).grown hgrow1 (by simp) (fun q hq => by simp [Value.ownBlock] at hq; omega)
      have hb1 : Below w.heap.size w w1 := hb.trans (hbw.mono hb.size)
      have hown2 := own_below hown hbw
      replace hnew := hnew.more hb.size
      clear hown hown1 hgrow1 hnil1 hbw hb hc hr he0 hcs' f3 f4
      obtain ⟨G, hG1, hG2⟩ := hown2
      obtain ⟨g3, g4⟩ := own_bounds k (by omega)
      have hal : Below w1.heap.size w1 (w1.alloc (.cells #[.slice (some ⟨g, 0, none⟩) (row T k).length cap] 31)) := (Below.refl _ _).alloc (Nat.le_refl _) _
      have hG1' := hG1.alloc (.cells #[.slice (some ⟨g, 0, none⟩) (row T k).length cap] 31)
      have hG2' := Lib.hid (fun i hi => (hG2 i hi).below hal (Nat.le_refl _))
      have hnew' := hnew.below hal (Nat.le_refl _)
      have hbx' := hb1.trans (hal.mono hb1.size)
      clear hG1 hG2 hnew hb1 hal
      go_wp2_with (at_builtin; refine wpList_append_own _ rfl (.tmp 31) (.tmp 35) 22 rfl w.heap.size 31 i0 (.slice none 0 0) 1 24 Try.underlying22 hi.out hz0.out hz1.out hz2.out rfl (by decide) _ _ _ rfl hG1' ⟨w1.heap.size, 0, none⟩ 1 1 [.slice (some ⟨g, 0, none⟩) (row T k).length cap] rfl rfl ?d1 ?d2 g3 g4 hbx'.size ?_)
      case d1 =>
        intro j u hu2
        have hj0 : j = 0 := by
          rcases j with _ | j
          · rfl
          · simp at hu2
        subst hj0
        simp at hu2
        subst hu2
        simp [Addr.add, go_sem]
      case d2 => intro u hu2; simp at hu2; subst hu2; rfl
      intro v' w3 hown' hgrow hnil
      have hnew2 : BRow (w1.alloc (.cells #[.slice (some ⟨g, 0, none⟩) (row T k).length cap] 31)) w.heap.size (some ⟨g, 0, none⟩) (sumF T U k) := by rw [hFk.out]; exact hnew'
      have hst := own_step (F := sumF T U) (c := cap) hG1' hG2'.out hnew2 (by rw [hFk.out]; exact hown') hgrow
      have hb3 : Below w.heap.size w w3 := hbx'.grown hgrow hbx'.size (fun g hg => (hG1'.lt g hg).1)
      clear hG1' hG2' hnew' hnew2 hown' hgrow hbx' hnil
      go_wp2
      go_roundw
      case rel => exact ⟨k + 1, by omega, by go_num, hb3, hst⟩
      case measure => simp [intOf]; omega
    · have hk' : k = T.length := by omega
      subst hk'
      go_wp2_with fail
      go_loopw [6, 40] (fun v i wr => ∃ k : Nat, k ≤ U.length ∧ i = .int .i64 k ∧ Below w.heap.size w wr ∧ Own w wr v (T.length + k) (sumF T U)) (fun _ i _ => U.length - (intOf i).toNat)
      case atStart => exact ⟨0, Nat.zero_le _, rfl, hb, hown⟩
      case round =>
        clear hb hown
        obtain ⟨k, hk, rfl, hb, hown⟩ := hrel
        by_cases hlt : k < U.length
        · have hFk := Lib.hid (sumF_U T U k)
          obtain ⟨b, o, Ai, ci, rfl, hb0, hc, hr⟩ := (h'.below (hb.mono hB)).at_ k hlt
          obtain ⟨l1, l2⟩ := row_len hVU k hlt
          obtain ⟨b', o', rfl, hb', hcs⟩ := hr.2 l1
          obtain ⟨wo, hwo⟩ : ∃ wo : World, wo = wr := ⟨_, rfl⟩
          subst hwo
          have he0 := empty_own wo 3
          have hlm : ((row U k).map (Value.int .i64)).length = (row U k).length := List.length_map _
          replace hlm := Lib.hid hlm
          have hbo : b' < wo.heap.size := by have := hb.size; omega
          have hcs' := Lib.hid (fun j (hj : j < (row U k).length) => show (wo.alloc (.cells #[] 3)).cell? ⟨b', o' + j, none⟩ = some (.int .i64 (el (row U k) j)) by rw [World.cell?_alloc_lt _ _ _ hbo]; exact hcs j hj)
          have f3 : 0 + (row U k).length ≤ maxLen := by unfold maxLen; omega
          have f4 : (0 + (row U k).length) * 8 ≤ 140737488355328 := by omega
          clear hcs
          go_wp2_with (at_builtin; refine wpList_append_own _ rfl (.tmp 45) (.tmp 46) 31 rfl wo.heap.size 3 i3 (.int .i64 0) 1 8 Try.underlying31 ji.out jz0.out jz1.out jz2.out rfl (by decide) _ _ _ rfl he0 ⟨b', o', none⟩ (row U k).length ci ((row U k).map (Value.int .i64)) rfl (by rw [hlm.out, Nat.mul_one]) ?c1 (ints_oneCell _ _) f3 f4 ?c5 ?_)
          case c1 =>
            intro j u hu2
            obtain ⟨hj, rfl⟩ := news_get hu2
            have := hcs'.out j hj
            rw [add_pl]; exact this
          case c5 => simp
          intro v1 w1 hown1 hgrow1 hnil1
          obtain ⟨g, cap, rfl, hnew⟩ := brow_own hown1 l1 (by omega)
          have hbw : Below wo.heap.size wo w1 := ((Below.refl _ _).alloc (Nat.le_refl _) _).grown hgrow1 (by simp) (fun q hq => by simp [Value.ownBlock] at hq; omega)
          have hb1 : Below w.heap.size w w1 := hb.trans (hbw.mono hb.size)
          have hown2 := own_below hown hbw
          replace hnew := hnew.more hb.size
          clear hown hown1 hgrow1 hnil1 hbw hb hc hr he0 hcs' f3 f4
          obtain ⟨G, hG1, hG2⟩ := hown2
          obtain ⟨g3, g4⟩ := own_bounds (T.length + k) (by omega)
          have hal : Below w1.heap.size w1 (w1.alloc (.cells #[.slice (some ⟨g, 0, none⟩) (row U k).length cap] 31)) := (Below.refl _ _).alloc (Nat.le_refl _) _
          have hG1' := hG1.alloc (.cells #[.slice (some ⟨g, 0, none⟩) (row U k).length cap] 31)
          have hG2' := Lib.hid (fun i hi => (hG2 i hi).below hal (Nat.le_refl _))
          have hnew' := hnew.below hal (Nat.le_refl _)
          have hbx' := hb1.trans (hal.mono hb1.size)
          clear hG1 hG2 hnew hb1 hal
          go_wp2_with (at_builtin; refine wpList_append_own _ rfl (.tmp 44) (.tmp 48) 22 rfl w.heap.size 31 i0 (.slice none 0 0) 1 24 Try.underlying22 hi.out hz0.out hz1.out hz2.out rfl (by decide) _ _ _ rfl hG1' ⟨w1.heap.size, 0, none⟩ 1 1 [.slice (some ⟨g, 0, none⟩) (row U k).length cap] rfl rfl ?d1 ?d2 g3 g4 hbx'.size ?_)
          case d1 =>
            intro j u hu2
            have hj0 : j = 0 := by
              rcases j with _ | j
              · rfl
              · simp at hu2
            subst hj0
            simp at hu2
            subst hu2
            simp [Addr.add, go_sem]
          case d2 => intro u hu2; simp at hu2; subst hu2; rfl
          intro v' w3 hown' hgrow hnil
          have hnew2 : BRow (w1.alloc (.cells #[.slice (some ⟨g, 0, none⟩) (row U k).length cap] 31)) w.heap.size (some ⟨g, 0, none⟩) (sumF T U (T.length + k)) := by rw [hFk.out]; exact hnew'
          have hst := own_step (F := sumF T U) (c := cap) hG1' hG2'.out hnew2 (by rw [hFk.out]; exact hown') hgrow
          have hb3 : Below w.heap.size w w3 := hbx'.grown hgrow hbx'.size (fun g hg => (hG1'.lt g hg).1)
          clear hG1' hG2' hnew' hnew2 hown' hgrow hbx' hnil
          go_wp2
          go_roundw
          case rel => exact ⟨k + 1, by omega, by go_num, hb3, hst⟩
          case measure => simp [intOf]; omega
        · have hk' : k = U.length := by omega
          subst hk'
          obtain ⟨A2, c2, rfl⟩ := own_val hown
          have hend := sumF_end hown h4
          go_wp2
          go_ret2
          exact ⟨A2, c2, by rw [List.length_append]; rfl, hb, hend⟩

theorem Sum_ref (B : Nat) (A A' : Option Addr) (c c' : Nat) (T U : List (List Int)) (w : World) (h : Mat w B A T) (h' : Mat w B A' U) (hB : B ≤ w.heap.size) :
    Calls Try.prog 44 #[.slice A T.length c, .slice A' U.length c'] w (NewMatE w (sumR T U)) := by
  have h63 := h.1
  have h63' := h'.1
  cases hv : validB T with
  | false =>
    have hr := Lib.hid (newMat_none w 10 (p := sumR T U) (by unfold sumR; rw [hv]; rfl))
    replace hv := Lib.hid hv
    go_enter Try.func44, Try.ntmps44
    go_wp2_with fail
    refine (valid_ref B _ _ _ _ h).mono ?_
    rintro e w' ⟨rfl, rfl⟩
    rw [hv.out]
    go_wp2
    go_ret2
    exact hr.out
  | true =>
    cases hu : validB U with
    | false =>
      have hr := Lib.hid (newMat_none w 10 (p := sumR T U) (by unfold sumR; rw [hv, hu]; rfl))
      replace hv := Lib.hid hv
      replace hu := Lib.hid hu
      go_enter Try.func44, Try.ntmps44
      go_wp2_with fail
      refine (valid_ref B _ _ _ _ h).mono ?_
      rintro e w' ⟨rfl, rfl⟩
      rw [hv.out]
      go_wp2_with fail
      refine (valid_ref B _ _ _ _ h').mono ?_
      rintro e w' ⟨rfl, rfl⟩
      rw [hu.out]
      go_wp2
      go_ret2
      exact hr.out
    | true =>
      have h4 := (val_of hv).1.2
      have h4' := (val_of hu).1.2
      by_cases hlen : 4 < T.length + U.length
      · have hr := Lib.hid (newMat_none w 4 (p := sumR T U) (by unfold sumR; rw [hv, hu, if_pos hlen]; rfl))
        replace hv := Lib.hid hv
        replace hu := Lib.hid hu
        go_enter Try.func44, Try.ntmps44
        go_wp2_with fail
        refine (valid_ref B _ _ _ _ h).mono ?_
        rintro e w' ⟨rfl, rfl⟩
        rw [hv.out]
        go_wp2_with fail
        refine (valid_ref B _ _ _ _ h').mono ?_
        rintro e w' ⟨rfl, rfl⟩
        rw [hu.out]
        go_wp2
        go_ret2
        exact hr.out
      · refine (SumRef_ok B A A' c c' T U w h h' hB hv hu (by omega)).mono ?_
        rintro e w' ⟨A2, c2, rfl, hb, hrow⟩
        have : sumR T U = (T ++ U, 0) := by unfold sumR; rw [hv, hu, if_neg hlen]; rfl
        exact ⟨A2, c2, by rw [this], hb, by rw [this]; exact hrow⟩

end Go.Proofs.Ytmpmlgognkmfgaa
