/-
  All deeds with the tanks, one list behind the other: slices.Grow, slices.Concat and deeds of the program.
-/
import Derived.Test.YtgonibieeimdoaaG
import Derived.Lib.AppendZerosOnto
namespace Go.Proofs.Ytgonibieeimdoaa
open Go.RowKit Go.Deep M
set_option linter.unusedVariables false
set_option linter.unusedSimpArgs false

theorem bel_trans {w X Y : World} (h : Below w.heap.size w X) (hb : Below X.heap.size X Y) : Below w.heap.size w Y := h.trans (hb.mono h.size)

set_option maxHeartbeats 2000000 in
theorem grow_nil (n : Nat) (w : World) (h1 : 1 ≤ n) (hn : n ≤ 1000) :
    Calls Try.prog 117 #[.slice none 0 0, .int .i64 n] w fun e w' => ∃ v, e = .returned v ∧ Below w.heap.size w w' ∧ w'.ownsRow w.heap.size 24 3 v 0 [] := by
  obtain ⟨i24, ji, jz0, jz1, jz2⟩ := info_parts info24
  have hcap := grownCap_ge w (0 + n) 0 24
  have hcap2 := grownCap_le_maxLen w (0 + n) 0 24 (by unfold maxLen; omega)
  have hr : ∀ ty, (Builtin.append_ #[32, 3] ty #[.slice none 0 0, .int .i64 (n : Nat)]).run Try.prog w = _ := fun ty =>
    Lib.run_append_grow_zeros w 32 3 ty 24 i24 (.agg #[.int .i64 0, .int .i64 0, .int .i64 0]) .i64 .i64 Try.underlying32 Try.underlying3 ji jz0 none 0 0 [] (run_firstCells_none w.drew i24.size 0 0 0) n (by omega) (by omega) (by omega) (by omega) (by rw [jz2]; omega) (growslice_fits (by omega) (by rw [jz2]; omega))
  rw [Nat.zero_add] at hr hcap hcap2
  obtain ⟨G, hG⟩ : ∃ G, G = grownCap w n 0 24 := ⟨_, rfl⟩
  rw [← hG] at hr hcap hcap2
  obtain ⟨cs, hcs⟩ : ∃ cs : Array Value, cs = ([] : List Value).toArray ++ Builtin.zeroCells (Value.agg #[.int .i64 0, .int .i64 0, .int .i64 0]).cells n ++ Builtin.zeroCells (Value.agg #[.int .i64 0, .int .i64 0, .int .i64 0]).cells (G - n) := ⟨_, rfl⟩
  have hsz : cs.size = G * 3 := by
    rw [hcs]
    unfold Builtin.zeroCells
    simp [Value.cells]
    omega
  rw [← hcs] at hr
  have hfin : Below w.heap.size w (w.drew.alloc (.cells cs 24)) ∧ (w.drew.alloc (.cells cs 24)).ownsRow w.heap.size 24 3 (.slice (some ⟨w.heap.size, 0, none⟩) 0 G) 0 [] := by
    have hd : Below w.heap.size w w.drew := below_drewN (Below.refl _ _) 1
    refine ⟨hd.alloc (Nat.le_refl _) _, rfl, .inr ⟨w.heap.size, G, cs, rfl, Nat.le_refl _, heap_alloc_new w.drew _, Nat.zero_le _, hcap2, hsz, by simp⟩⟩
  have G9 : G ≤ 9223372036854775807 := by unfold maxLen at hcap2; omega
  have hrz := hr
  have hng : ¬ ((n : Int) < 0) := by omega
  have hps : (n : Int) > 0 := by omega
  have hwn : wrap64 (n : Int) = (n : Int) := by unfold wrap64; omega
  clear hr hsz ji jz0 jz1 jz2
  replace hcs := Lib.hid hcs
  replace hG := Lib.hid hG
  replace hfin := Lib.hid hfin
  go_enter Try.func117, Try.ntmps117
  go_wp2_with (at_builtin; refine Lib.wpList_append_run _ rfl _ _ _ _ rfl _ _ rfl rfl _ _ (hrz _) ?_)
  all_goals (go_ret; exact ⟨_, rfl, hfin.out.1, hfin.out.2⟩)

/-! ### slices.Concat of three lists -/
/-- The lists so far, one behind the other. -/
def flat (Dl : Nat → List Dd) : Nat → List Dd
  | 0 => []
  | k + 1 => flat Dl k ++ Dl k
theorem flat_succ (Dl : Nat → List Dd) (k : Nat) : flat Dl (k + 1) = flat Dl k ++ Dl k := rfl
theorem flat_le {Dl : Nat → List Dd} (h : ∀ k, k < 3 → (Dl k).length ≤ 100) : ∀ k, k ≤ 3 → (flat Dl k).length ≤ 100 * k := by
  intro k
  induction k with
  | zero => intro _; simp [flat]
  | succ k ih => intro hk; rw [flat_succ, List.length_append]; have := ih (by omega); have := h k (by omega); omega
theorem dls_news {w : World} {B b o : Nat} {D : List Dd} (h : Dls w B (some ⟨b, o, none⟩) D) : ∀ j u, (dvals D)[j]? = some u → w.cell? ((⟨b, o, none⟩ : Addr).add j) = some u := by
  intro j u hu
  have hj : j < D.length * 3 := by
    have := (List.getElem?_eq_some_iff.1 hu).1
    rwa [dvals_len] at this
  have hi : j / 3 < D.length := by omega
  obtain ⟨b', o', e, _, c0, c1, c2⟩ := h.at_ (j / 3) hi
  injection e with e
  injection e with e1 e2 _
  subst e1 e2
  obtain ⟨v0, v1, v2⟩ := dvals_at D (j / 3) hi
  rw [add_pl]
  rcases (show j % 3 = 0 ∨ j % 3 = 1 ∨ j % 3 = 2 by omega) with hr | hr | hr
  · rw [show j = j / 3 * 3 by omega] at hu ⊢
    rw [v0] at hu
    injection hu with hu
    subst hu
    have : j / 3 * 3 / 3 = j / 3 := by omega
    exact c0
  · have e3 : j = j / 3 * 3 + 1 := by omega
    rw [e3] at hu ⊢
    rw [v1] at hu
    injection hu with hu
    subst hu
    rw [← Nat.add_assoc]
    exact c1
  · have e3 : j = j / 3 * 3 + 2 := by omega
    rw [e3] at hu ⊢
    rw [v2] at hu
    injection hu with hu
    subst hu
    rw [← Nat.add_assoc]
    exact c2

set_option maxRecDepth 100000 in
set_option maxHeartbeats 4000000 in
theorem concat3 (b c : Nat) (B : Nat) (Dl : Nat → List Dd) (Al : Nat → Option Addr) (cl : Nat → Nat) (w : World) (h : ∀ k, k < 3 → w.cell? ⟨b, k, none⟩ = some (.slice (Al k) (Dl k).length (cl k)) ∧ Dls w B (Al k) (Dl k) ∧ 1 ≤ (Dl k).length ∧ (Dl k).length ≤ 100)
    (hB : B ≤ w.heap.size) (hb : b < w.heap.size) :
    Calls Try.prog 101 #[.slice (some ⟨b, 0, none⟩) 3 c] w (NewD w (flat Dl 3)) := by
  obtain ⟨i24, ji, jz0, jz1, jz2⟩ := info_parts info24
  replace ji := Lib.hid ji
  replace jz0 := Lib.hid jz0
  replace jz1 := Lib.hid jz1
  replace jz2 := Lib.hid jz2
  have hfl := flat_le (fun k hk => (h k hk).2.2.2)
  have hpos : 1 ≤ (flat Dl 3).length := by
    rw [flat_succ, List.length_append]; have := (h 2 (by omega)).2.2.1; omega
  have hfs : ∀ k, (flat Dl (k + 1)).length = (flat Dl k).length + (Dl k).length := fun k => by rw [flat_succ, List.length_append]
  have hdv : ∀ k, dvals (flat Dl (k + 1)) = dvals (flat Dl k) ++ dvals (Dl k) := fun k => by rw [flat_succ, dvals_app]
  have hcell : ∀ X k, k < 3 → Below w.heap.size w X → X.cell? ⟨b, k, none⟩ = some (.slice (Al k) (Dl k).length (cl k)) := fun X k hk hX => (hX.cell (p := ⟨b, k, none⟩) hb).trans (h k hk).1
  have hdl : ∀ X k, k < 3 → Below w.heap.size w X → Dls X B (Al k) (Dl k) := fun X k hk hX => (h k hk).2.1.below (hX.mono hB)
  have hlen : ∀ k, k < 3 → 1 ≤ (Dl k).length ∧ (Dl k).length ≤ 100 := fun k hk => (h k hk).2.2
  unfold NewD
  clear h
  replace hfl := Lib.hid hfl
  replace hpos := Lib.hid hpos
  replace hfs := Lib.hid hfs
  replace hdv := Lib.hid hdv
  replace hcell := Lib.hid hcell
  replace hdl := Lib.hid hdl
  replace hlen := Lib.hid hlen
  have hw0 := Lib.hid (Below.refl w.heap.size w)
  have hz := Lib.hid (show (flat Dl 0).length = 0 from rfl)
  go_enter Try.func101, Try.ntmps101
  go_wp2
  go_loopw [3, 11] (fun s i X => ∃ k : Nat, k ≤ 3 ∧ i = .int .i64 (k : Nat) ∧ s = .int .i64 ((flat Dl k).length : Nat) ∧ Below w.heap.size w X) (fun _ i _ => 3 - (intOf i).toNat)
  case atStart => exact ⟨0, by omega, rfl, rfl, hw0.out⟩
  case round =>
    obtain ⟨k, hk, rfl, rfl, hX⟩ := hrel
    by_cases hlt : k < 3
    · have e0 := hcell.out wr k hlt hX
      obtain ⟨l1, l2⟩ := hlen.out k hlt
      have l3 := hfl.out k (by omega)
      have hs := hfs.out k
      obtain ⟨m, hm⟩ : ∃ m, m = (flat Dl k).length := ⟨_, rfl⟩
      obtain ⟨d, hd⟩ : ∃ d, d = (Dl k).length := ⟨_, rfl⟩
      rw [← hm, ← hd] at hs
      rw [← hm] at l3 ⊢
      rw [← hd] at l1 l2 e0
      have hng : ¬ ((m : Int) + (d : Int) < 0) := by omega
      have hm9 : m ≤ 300 := by omega
      replace hm := Lib.hid hm
      replace hd := Lib.hid hd
      replace hs := Lib.hid hs
      replace hX := Lib.hid hX
      go_wp2
      go_roundw
      case rel => exact ⟨k + 1, by omega, by go_num, by rw [hs.out]; go_num, hX.out⟩
      case measure => simp [intOf]; omega
    · have hk' : k = 3 := by omega
      subst hk'
      obtain ⟨m, hm⟩ : ∃ m, m = (flat Dl 3).length := ⟨_, rfl⟩
      have l3 := hfl.out 3 (by omega)
      have l4 := hpos.out
      rw [← hm] at l3 l4 ⊢
      have cg := grow_nil m wr l4 (by omega)
      have hm' := Lib.hid hm
      clear hm
      replace hX := Lib.hid hX
      replace cg := Lib.hid cg
      go_wp2_with fail
      refine cg.out.mono ?_
      rintro e X1 ⟨v, rfl, hb1, hown⟩
      have hX1 := Lib.hid (bel_trans hX.out hb1)
      have ho1 := Lib.hid (own_mono' hown hX.out.size)
      clear hown hb1
      go_wp2
      go_loopw [6, 27] (fun v i X => ∃ k : Nat, k ≤ 3 ∧ i = .int .i64 (k : Nat) ∧ Below w.heap.size w X ∧ X.ownsRow w.heap.size 24 3 v (flat Dl k).length (dvals (flat Dl k))) (fun _ i _ => 3 - (intOf i).toNat)
      case atStart => exact ⟨0, by omega, rfl, hX1.out, by rw [hz.out]; exact ho1.out⟩
      case round =>
        clear hX1 ho1
        obtain ⟨k, hk, rfl, hX2, ho⟩ := hrel
        by_cases hlt : k < 3
        · have e0 := hcell.out wr k hlt hX2
          have hdx := hdl.out wr k hlt hX2
          obtain ⟨l1, l2⟩ := hlen.out k hlt
          have l3 := hfl.out k (by omega)
          obtain ⟨b', o', hA, _⟩ := hdx.at_ 0 (by omega)
          rw [hA] at e0 hdx
          have hnews := Lib.hid (dls_news hdx)
          have hx2 := hX2.size
          replace hdx := Lib.hid hdx
          replace hA := Lib.hid hA
          replace ho := Lib.hid ho
          replace hX2 := Lib.hid hX2
          go_wp2_with (at_builtin
                       refine wpList_append_own _ rfl (.tmp 31) (.tmp 32) 32 rfl w.heap.size 24 i24 (.agg #[.int .i64 0, .int .i64 0, .int .i64 0]) 3 24 Try.underlying32 ji.out jz0.out jz1.out jz2.out rfl (by decide) _ _ _ rfl ho.out ⟨b', o', none⟩ (Dl k).length (cl k) (dvals (Dl k)) rfl (dvals_len _) hnews.out dvals_cell (by unfold maxLen; omega) (by omega) hx2 ?_
                       intro v' w2 hown' hgrow _
                       have hY := Lib.hid (show Below w.heap.size w w2 from hX2.out.trans (below_grown hgrow hx2 fun b hb => (ho.out.lt b hb).1))
                       have ho2 := Lib.hid (show w2.ownsRow w.heap.size 24 3 v' (flat Dl (k + 1)).length (dvals (flat Dl (k + 1))) by rw [hfs.out, hdv.out]; exact hown'))
          go_roundw
          case rel => exact ⟨k + 1, by omega, by go_num, hY.out, ho2.out⟩
          case measure => simp [intOf]; omega
        · have hk' : k = 3 := by omega
          subst hk'
          replace hX2 := Lib.hid hX2
          replace ho := Lib.hid ho
          go_wp2
          go_ret
          exact ⟨_, rfl, hX2.out, ho.out⟩
end Go.Proofs.Ytgonibieeimdoaa
