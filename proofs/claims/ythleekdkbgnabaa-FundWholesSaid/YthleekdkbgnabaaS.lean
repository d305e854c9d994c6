/-
  Awards by a rule: the specification's functions; are two lists of ratios the same.
-/
import Derived.Test.YthleekdkbgnabaaR
import Derived.Test.YthleekdkbgnabaaD
namespace Go.Proofs.Ythleekdkbgnabaa
open Go.RowKit Go.Deep M
set_option linter.unusedVariables false
set_option linter.unusedSimpArgs false
attribute [local go_sem high] run_eql2 run_neq2

theorem e2_self (x : Rt) : (!(Go.Proofs.Ythleekdkbgnabaa.e2 x.n x.d x.n x.d)) = false := by simp [Go.Proofs.Ythleekdkbgnabaa.e2]
set_option maxRecDepth 100000 in
set_option maxHeartbeats 4000000 in
theorem same_true (A A' : Option Addr) (N c c' : Nat) (f : Nat → Rt) (w : World) (h : RtF w A N f) (h' : RtF w A' N f) (hN : N ≤ 1000) :
    Calls Try.prog 25 #[.slice A N c, .slice A' N c'] w fun r w' => r = .returned (.bool true) ∧ Below w.heap.size w w' := by
  have hc : ∀ (j k : Nat), k < N → ∃ g g', A = some ⟨g, 0, none⟩ ∧ A' = some ⟨g', 0, none⟩ ∧ (w.drewN j).cell? ⟨g, k * 2, none⟩ = some (.int .i64 (f k).n) ∧ (w.drewN j).cell? ⟨g, k * 2 + 1, none⟩ = some (.int .i64 (f k).d) ∧ (w.drewN j).cell? ⟨g', k * 2, none⟩ = some (.int .i64 (f k).n) ∧ (w.drewN j).cell? ⟨g', k * 2 + 1, none⟩ = some (.int .i64 (f k).d) := fun j k hk => by
    obtain ⟨g, e, hg⟩ := h (by omega)
    obtain ⟨g', e', hg'⟩ := h' (by omega)
    exact ⟨g, g', e, e', hg.c0 hk, hg.c1 hk, hg'.c0 hk, hg'.c1 hk⟩
  have hb := fun j => below_drewN (Below.refl w.heap.size w) j
  replace hc := Lib.hid hc
  replace hb := Lib.hid hb
  replace h := Lib.hid h
  replace h' := Lib.hid h'
  go_enter Try.func25, Try.ntmps25
  go_wp2
  go_loopw [5] (fun i wr => ∃ k j : Nat, k ≤ N ∧ i = .int .i64 (k : Nat) ∧ wr = w.drewN j) (fun i _ => N - (intOf i).toNat)
  case atStart => exact ⟨0, 0, by omega, rfl, rfl⟩
  case round =>
    obtain ⟨k, j, hk, rfl, hw⟩ := hrel
    by_cases hkn : k < N
    · obtain ⟨g, g', rfl, rfl, c0, c1, c2, c3⟩ := hc.out j k hkn
      rw [← hw] at c0 c1 c2 c3
      have he := e2_self (f k)
      have hkn2 : (k : Int) < (N : Int) := by omega
      replace hw := Lib.hid hw
      generalize f k = q at *
      go_wp2_with fail
      go_quiet (fail)
      go_wp2
      go_roundw
      case rel => exact ⟨k + 1, j + nq, by omega, by go_num, by rw [hw.out, World.drewN_drewN]⟩
      case measure => simp [intOf]; omega
    · have : k = N := by omega
      subst this
      have hfin := hb.out j
      rw [← hw] at hfin
      replace hfin := Lib.hid hfin
      replace hw := Lib.hid hw
      go_wp2
      go_ret
      exact ⟨rfl, hfin.out⟩

set_option maxHeartbeats 2000000 in
theorem ruled_any (B : Nat) (A : Option Addr) (c : Nat) (l : List Int) (e q : Int) (w : World) (h : Row w B A l) :
    Calls Try.prog 53 #[.slice A l.length c, .int .i64 e, .int .i64 q] w fun r w' => r = .returned (.int .i64 (errS l e q)) ∧ w' = w := by
  have k1 := asked_any B A c l e w h
  have k2 := within_any 1 q 4 w
  unfold errS
  by_cases hk : okE l e
  · rw [if_pos hk]
    rw [errC_ok hk] at k1
    by_cases hq : 1 ≤ q ∧ q ≤ 4
    · rw [if_pos hq]
      rw [decide_eq_true hq] at k2
      generalize l.length = n at *
      replace k1 := Lib.hid k1
      replace k2 := Lib.hid k2
      replace h := Lib.hid h
      replace hk := Lib.hid hk
      replace hq := Lib.hid hq
      go_enter Try.func53, Try.ntmps53
      go_wp2_with fail
      refine k1.out.mono ?_
      rintro _ X ⟨rfl, rfl⟩
      go_wp2_with fail
      refine k2.out.mono ?_
      rintro _ X ⟨rfl, rfl⟩
      go_wp2
      go_ret
      exact ⟨rfl, rfl⟩
    · rw [if_neg hq]
      rw [decide_eq_false hq] at k2
      generalize l.length = n at *
      replace k1 := Lib.hid k1
      replace k2 := Lib.hid k2
      replace h := Lib.hid h
      replace hk := Lib.hid hk
      replace hq := Lib.hid hq
      go_enter Try.func53, Try.ntmps53
      go_wp2_with fail
      refine k1.out.mono ?_
      rintro _ X ⟨rfl, rfl⟩
      go_wp2_with fail
      refine k2.out.mono ?_
      rintro _ X ⟨rfl, rfl⟩
      go_wp2
      go_ret
      exact ⟨rfl, rfl⟩
  · rw [if_neg hk]
    have hne := errC_ne hk
    generalize l.length = n at *
    generalize errC l e = E at *
    have hn : (E == 0) = false := by simp; omega
    replace k1 := Lib.hid k1
    replace k2 := Lib.hid k2
    replace h := Lib.hid h
    replace hk := Lib.hid hk
    replace hne := Lib.hid hne
    go_enter Try.func53, Try.ntmps53
    go_wp2_with fail
    refine k1.out.mono ?_
    rintro _ X ⟨rfl, rfl⟩
    go_wp2
    go_ret
    exact ⟨rfl, rfl⟩

/-- Awards that the specification makes. -/
def ShP (w : World) (n : Nat) (f : Nat → Rt) (r : Ending) (w' : World) : Prop := ∃ g cp, r = .returned (.slice (some ⟨g, 0, none⟩) n cp) ∧ AwW w n g f w'
set_option maxRecDepth 100000 in
set_option maxHeartbeats 8000000 in
theorem prop_ref (B : Nat) (A : Option Addr) (c : Nat) (l : List Int) (e : Int) (w : World) (h : Row w B A l) (hB : B ≤ w.heap.size) (hk : okE l e) :
    Calls Try.prog 54 #[.slice A l.length c, .int .i64 e, .int .i64 1] w (ShP w l.length (prL l e)) := by
  obtain ⟨i3, ji, jz0, jz1, jz2⟩ := info_parts info37
  replace ji := Lib.hid ji
  replace jz0 := Lib.hid jz0
  replace jz1 := Lib.hid jz1
  replace jz2 := Lib.hid jz2
  have h63 := h.1
  have hn := val_len hk.1
  have hsm := sm_b hk.1
  have he := hk.2
  have hat := fun X (hX : Below w.heap.size w X) k (hk : k < l.length) => (h.below (hX.mono hB)).at_ k hk
  have hx := fun k (hkl : k < l.length) => hk.1.2 k hkl
  have d51 := fun X (hX : Below w.heap.size w X) => Total_ref B A c l X (h.below (hX.mono hB)) hk.1.2 (by omega)
  have hpr : ∀ k, mk (el l k * e) (max (sm l) 1) = prL l e k := fun k => rfl
  have hown0 : w.ownsRow w.heap.size 37 2 (.slice none 0 0) 0 (rvals (mkQ (prL l e) 0)) := ⟨rfl, .inl ⟨rfl, rfl⟩⟩
  have k51 := Lib.hid (d51 w (Below.refl _ _))
  generalize prL l e = F at *
  generalize sm l = S at *
  generalize l.length = n at *
  have kr := fun X (p : Int) (hp : 0 ≤ p ∧ p ≤ 8000000) => Ratio_ref p (max S 1) X (by omega) (by omega)
  unfold ShP
  replace hat := Lib.hid hat
  replace hx := Lib.hid hx
  replace hpr := Lib.hid hpr
  replace kr := Lib.hid kr
  replace d51 := Lib.hid d51
  replace h := Lib.hid h
  replace hk := Lib.hid hk
  replace hown0 := Lib.hid hown0
  obtain ⟨hn1, hn8⟩ := hn
  obtain ⟨he0, he1⟩ := he
  go_enter Try.func54, Try.ntmps54
  go_wp2_with fail
  refine k51.out.mono ?_
  rintro _ X ⟨rfl, rfl⟩
  go_wp2
  go_loopw [9, 8] (fun i v wr => ∃ k : Nat, k ≤ n ∧ i = .int .i64 (k : Nat) ∧ Below X.heap.size X wr ∧ wr.ownsRow X.heap.size 37 2 v k (rvals (mkQ F k))) (fun i _ _ => n - (intOf i).toNat)
  case atStart => exact ⟨0, by omega, rfl, Below.refl _ _, hown0.out⟩
  case round =>
    clear hown0
    obtain ⟨k, hkk, rfl, hX, hown⟩ := hrel
    by_cases hkn : k < n
    · obtain ⟨b, o, rfl, hb', _⟩ := hat.out wr hX k hkn
      have hxk := hx.out k hkn
      have hF := hpr.out k
      unfold okC at hxk
      have p1 : el l k * e ≤ 1000 * e := Int.mul_le_mul_of_nonneg_right hxk.2 he0
      have p2 : 0 ≤ el l k * e := Int.mul_nonneg hxk.1 he0
      obtain ⟨pm, hpm⟩ : ∃ z, z = el l k * e := ⟨_, rfl⟩
      rw [← hpm] at p1 p2 hF
      have w1 : IntKind.i64.wrap (el l k * e) = pm := by rw [← hpm]; exact IntWalk.i64_in _ (by omega)
      have d72 := fun X => kr.out X pm (by omega)
      rw [hF] at d72
      unfold rtV at d72
      have hS : ∀ Y, Below wr.heap.size wr Y → Y.cell? ⟨b, o + k, none⟩ = some (.int .i64 (el l k)) := fun Y hXX => by
        obtain ⟨b2, o2, e, _, q0⟩ := hat.out Y (bel_trans hX hXX) k hkn
        cases e
        exact q0
      have how : ∀ Y, Below wr.heap.size wr Y → Y.ownsRow X.heap.size 37 2 u8 k (rvals (mkQ F k)) := fun Y hXX => own_up hown hXX
      have hsz : ∀ Y, Below wr.heap.size wr Y → X.heap.size ≤ Y.heap.size := fun Y hXX => (bel_trans hX hXX).size
      have rest : ∀ Y g cap w1, Below wr.heap.size wr Y → w1.ownsRow X.heap.size 37 2 (.slice (some ⟨g, 0, none⟩) (k + 1) cap) (k + 1) (rvals (mkQ F k) ++ [.int .i64 (F k).n, .int .i64 (F k).d]) → Y.grownBy w1 u8.ownBlock →
          (w1.cell? ⟨b, o + k, none⟩ = some (.int .i64 (el l k))) ∧ Below X.heap.size X w1 ∧ w1.ownsRow X.heap.size 37 2 (.slice (some ⟨g, 0, none⟩) (k + 1) cap) (k + 1) (rvals (mkQ F (k + 1))) := fun Y g cap w1 hXX ho hg => by
        have hbw : Below X.heap.size X w1 := (bel_trans hX hXX).grown hg (hsz Y hXX) (fun x hx => ((how Y hXX).lt x hx).1)
        obtain ⟨b2, o2, e, _, q0⟩ := hat.out w1 hbw k hkn
        cases e
        exact ⟨q0, hbw, by rw [mkQ_snoc]; exact ho⟩
      have hkn2 : (k : Int) < (n : Int) := by omega
      have h0 : Below wr.heap.size wr wr.drew := below_drewN (Below.refl _ _) 1
      have k0 := hS _ h0
      have d51' := d51.out wr.drew (bel_trans hX h0)
      generalize F k = Q at *
      generalize el l k = x at *
      replace d72 := Lib.hid d72
      replace d51' := Lib.hid d51'
      replace hS := Lib.hid hS
      replace how := Lib.hid how
      replace hsz := Lib.hid hsz
      replace rest := Lib.hid rest
      replace hown := Lib.hid hown
      replace hX := Lib.hid hX
      replace hF := Lib.hid hF
      replace hpm := Lib.hid hpm
      replace hxk := Lib.hid hxk
      go_wp2
      go_region_held_law (fun Y => Y.cell? ⟨b, o + k, none⟩ = some (.int .i64 x))
        (first | with_reducible exact k0 | with_reducible exact k1 | with_reducible exact k2 | with_reducible exact k3)
        (first
          | (go_simp; go_at_call 51; refine d51'.out.mono ?_; rintro e X0 ⟨rfl, rfl⟩)
          | (go_simp; go_at_call 72; refine (d72.out _).mono ?_; rintro e X1 ⟨rfl, hb1⟩; have h1 := bel_trans h0 hb1; have k1 := hS.out _ h1; have h2 := bel_trans h1 (ba1 X1 (.cells #[.int .i64 Q.n, .int .i64 Q.d] 37)); have k2 := hS.out _ h2; have own2 := how.out _ h2; have sz2 := hsz.out _ h2; have nw2 := news2 X1 Q)
          | (refine step_append_lies _ rfl (.tmp 48) (.tmp 59) 25 rfl X.heap.size 37 i3 (.agg #[.int .i64 0, .int .i64 0]) 2 16 Try.underlying25 ji.out jz0.out jz1.out jz2.out rfl (by decide) _ k _ rfl own2 ⟨X1.heap.size, 0, none⟩ 1 1 [.int .i64 Q.n, .int .i64 Q.d] rfl rfl nw2 (one2 Q) (by omega) (by unfold maxLen; omega) (by omega) sz2 _ rfl ?_; intro g cap w1 hown1 hgrow hat1 hlt1; obtain ⟨k3, z3, z4⟩ := rest.out _ g cap w1 h2 hown1 hgrow; clear hown1 hgrow hat1 hlt1))
      all_goals
        go_wp2
        go_roundw
        case rel => exact ⟨k + 1, by omega, by go_num, z3, z4⟩
        case measure => simp [intOf]; omega
    · have : k = n := by omega
      subst this
      obtain ⟨g, cap, rfl, hge, hbl⟩ := own_blkR hown (by omega)
      have hfin := Lib.hid (show AwW X k g F wr from ⟨hX, hge, hbl⟩)
      replace hown := Lib.hid hown
      replace hX := Lib.hid hX
      replace hbl := Lib.hid hbl
      go_wp2
      go_ret
      exact ⟨g, cap, rfl, hfin.out⟩
end Go.Proofs.Ythleekdkbgnabaa
