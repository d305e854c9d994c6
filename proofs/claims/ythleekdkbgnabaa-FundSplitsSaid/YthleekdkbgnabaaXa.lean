/-
  slices.Grow, slices.Concat of three lists of integers, and a claim that is split: the program's functions.
-/
import Derived.Test.YthleekdkbgnabaaMathE
import Derived.Test.YthleekdkbgnabaaS
import Derived.Lib.AppendZerosOnto
namespace Go.Proofs.Ythleekdkbgnabaa
open Go.RowKit Go.Deep M
set_option linter.unusedVariables false
set_option linter.unusedSimpArgs false

theorem own_mono' {w : World} {base base' n : Nat} {t : TypeId} {k : Nat} {v : Value} {xs : List Value} (h : w.ownsRow base t k v n xs) (hb : base' ≤ base) : w.ownsRow base' t k v n xs := by
  rcases h with ⟨h1, h2 | ⟨g, cap, cur, h3, hge, h4⟩⟩
  · exact ⟨h1, .inl h2⟩
  · exact ⟨h1, .inr ⟨g, cap, cur, h3, Nat.le_trans hb hge, h4⟩⟩
set_option maxHeartbeats 2000000 in
theorem grow_nil (n : Nat) (w : World) (h1 : 1 ≤ n) (hn : n ≤ 1000) :
    Calls Try.prog 122 #[.slice none 0 0, .int .i64 n] w fun e w' => ∃ v, e = .returned v ∧ Below w.heap.size w w' ∧ w'.ownsRow w.heap.size 3 1 v 0 [] := by
  obtain ⟨i24, ji, jz0, jz1, jz2⟩ := info_parts info3
  have hcap := grownCap_ge w (0 + n) 0 3
  have hcap2 := grownCap_le_maxLen w (0 + n) 0 3 (by unfold maxLen; omega)
  have hr : ∀ ty, (Builtin.append_ #[65, 3] ty #[.slice none 0 0, .int .i64 (n : Nat)]).run Try.prog w = _ := fun ty =>
    Lib.run_append_grow_zeros w 65 3 ty 3 i24 (.int .i64 0) .i64 .i64 Try.underlying65 Try.underlying3 ji jz0 none 0 0 [] (run_firstCells_none w.drew i24.size 0 0 0) n (by omega) (by omega) (by omega) (by omega) (by rw [jz2]; omega) (growslice_fits (by omega) (by rw [jz2]; omega))
  rw [Nat.zero_add] at hr hcap hcap2
  obtain ⟨G, hG⟩ : ∃ G, G = grownCap w n 0 3 := ⟨_, rfl⟩
  rw [← hG] at hr hcap hcap2
  obtain ⟨cs, hcs⟩ : ∃ cs : Array Value, cs = ([] : List Value).toArray ++ Builtin.zeroCells (Value.int .i64 0).cells n ++ Builtin.zeroCells (Value.int .i64 0).cells (G - n) := ⟨_, rfl⟩
  have hsz : cs.size = G * 1 := by
    rw [hcs]
    unfold Builtin.zeroCells
    simp [Value.cells]
    omega
  rw [← hcs] at hr
  have hfin : Below w.heap.size w (w.drew.alloc (.cells cs 3)) ∧ (w.drew.alloc (.cells cs 3)).ownsRow w.heap.size 3 1 (.slice (some ⟨w.heap.size, 0, none⟩) 0 G) 0 [] := by
    have hd : Below w.heap.size w w.drew := below_drewN (Below.refl _ _) 1
    refine ⟨hd.alloc (Nat.le_refl _) _, rfl, .inr ⟨w.heap.size, G, cs, rfl, Nat.le_refl _, heap_alloc_new w.drew _, Nat.zero_le _, hcap2, hsz, by simp⟩⟩
  have G9 : G ≤ 9223372036854775807 := by unfold maxLen at hcap2; omega
  have hrz := hr
  have hng : ¬ ((n : Int) < 0) := by omega
  have hps : (n : Int) > 0 := by omega
  have hwn : wrap64 (n : Int) = (n : Int) := by unfold wrap64; omega
  clear hr hsz ji jz0 jz1 jz2
  replace hcs := Lib.hid hcs
  replace hG := Lib.hid hG
  replace hfin := Lib.hid hfin
  go_enter Try.func122, Try.ntmps122
  go_wp2_with (at_builtin; refine Lib.wpList_append_run _ rfl _ _ _ _ rfl _ _ rfl rfl _ _ (hrz _) ?_)
  all_goals (go_ret; exact ⟨_, rfl, hfin.out.1, hfin.out.2⟩)

/-- The lists so far, one behind the other. -/
def flat (Dl : Nat → List Int) : Nat → List Int
  | 0 => []
  | k + 1 => flat Dl k ++ Dl k
theorem flat_succ (Dl : Nat → List Int) (k : Nat) : flat Dl (k + 1) = flat Dl k ++ Dl k := rfl
theorem flat_le {Dl : Nat → List Int} (h : ∀ k, k < 3 → (Dl k).length ≤ 100) : ∀ k, k ≤ 3 → (flat Dl k).length ≤ 100 * k := by
  intro k
  induction k with
  | zero => intro _; simp [flat]
  | succ k ih => intro hk; rw [flat_succ, List.length_append]; have := ih (by omega); have := h k (by omega); omega

set_option maxRecDepth 100000 in
set_option maxHeartbeats 4000000 in
theorem concat3 (b c : Nat) (Dl : Nat → List Int) (Bl Ol cl : Nat → Nat) (w : World) (h : ∀ X, Below w.heap.size w X → ∀ k, k < 3 → X.cell? ⟨b, k, none⟩ = some (.slice (some ⟨Bl k, Ol k, none⟩) (Dl k).length (cl k)) ∧ ∀ i u, (vals (Dl k))[i]? = some u → X.cell? ((⟨Bl k, Ol k, none⟩ : Addr).add i) = some u)
    (hl : ∀ k, k < 3 → (Dl k).length ≤ 100) (hp : 1 ≤ (flat Dl 3).length) :
    Calls Try.prog 104 #[.slice (some ⟨b, 0, none⟩) 3 c] w fun r w' => ∃ v, r = .returned v ∧ Below w.heap.size w w' ∧ w'.ownsRow w.heap.size 3 1 v (flat Dl 3).length (vals (flat Dl 3)) := by
  obtain ⟨i24, ji, jz0, jz1, jz2⟩ := info_parts info3
  replace ji := Lib.hid ji
  replace jz0 := Lib.hid jz0
  replace jz1 := Lib.hid jz1
  replace jz2 := Lib.hid jz2
  have hfl := flat_le hl
  have hfs : ∀ k, (flat Dl (k + 1)).length = (flat Dl k).length + (Dl k).length := fun k => by rw [flat_succ, List.length_append]
  have hdv : ∀ k, vals (flat Dl (k + 1)) = vals (flat Dl k) ++ vals (Dl k) := fun k => by rw [flat_succ, vals_app]
  have hvl : ∀ k, (vals (Dl k)).length = (Dl k).length * 1 := fun k => by rw [vals_len, Nat.mul_one]
  have hv1 : ∀ k, ∀ u ∈ vals (Dl k), u.oneCell' = true := fun k u hu => by obtain ⟨_, _, rfl⟩ := List.mem_map.1 hu; rfl
  replace hfl := Lib.hid hfl
  replace hp := Lib.hid hp
  replace hfs := Lib.hid hfs
  replace hdv := Lib.hid hdv
  replace hvl := Lib.hid hvl
  replace hv1 := Lib.hid hv1
  replace h := Lib.hid h
  replace hl := Lib.hid hl
  have hw0 := Lib.hid (Below.refl w.heap.size w)
  have hz := Lib.hid (show (flat Dl 0).length = 0 from rfl)
  go_enter Try.func104, Try.ntmps104
  go_wp2
  go_loopw [11, 5, 3] (fun i _ s X => ∃ k : Nat, k ≤ 3 ∧ i = .int .i64 (k : Nat) ∧ s = .int .i64 ((flat Dl k).length : Nat) ∧ Below w.heap.size w X) (fun i _ _ _ => 3 - (intOf i).toNat)
  case atStart => exact ⟨0, by omega, rfl, rfl, hw0.out⟩
  case round =>
    obtain ⟨k, hk, rfl, rfl, hX⟩ := hrel
    by_cases hlt : k < 3
    · obtain ⟨e0, _⟩ := h.out wr hX k hlt
      have l2 := hl.out k hlt
      have l3 := hfl.out k (by omega)
      have hs := hfs.out k
      obtain ⟨m, hm⟩ : ∃ m, m = (flat Dl k).length := ⟨_, rfl⟩
      obtain ⟨d, hd⟩ : ∃ d, d = (Dl k).length := ⟨_, rfl⟩
      rw [← hm, ← hd] at hs
      rw [← hm] at l3 ⊢
      rw [← hd] at l2 e0
      have hng : ¬ ((m : Int) + (d : Int) < 0) := by omega
      have hm9 : m ≤ 300 := by omega
      replace hm := Lib.hid hm
      replace hd := Lib.hid hd
      replace hs := Lib.hid hs
      replace hX := Lib.hid hX
      go_wp2
      go_roundw
      case rel => exact ⟨k + 1, by omega, by go_num, by rw [hs.out]; go_num, hX.out⟩
      case measure => simp [intOf]; omega
    · have hk' : k = 3 := by omega
      subst hk'
      obtain ⟨m, hm⟩ : ∃ m, m = (flat Dl 3).length := ⟨_, rfl⟩
      have l3 := hfl.out 3 (by omega)
      have l4 := hp.out
      rw [← hm] at l3 l4 ⊢
      have cg := grow_nil m wr l4 (by omega)
      have hm' := Lib.hid hm
      clear hm
      replace hX := Lib.hid hX
      replace cg := Lib.hid cg
      go_wp2_with fail
      refine cg.out.mono ?_
      rintro e X1 ⟨v, rfl, hb1, hown⟩
      have hX1 := Lib.hid (bel_trans hX.out hb1)
      have ho1 := Lib.hid (own_mono' hown hX.out.size)
      clear hown hb1
      go_wp2
      go_loopw [27, 8, 6] (fun i _ v X => ∃ k : Nat, k ≤ 3 ∧ i = .int .i64 (k : Nat) ∧ Below w.heap.size w X ∧ X.ownsRow w.heap.size 3 1 v (flat Dl k).length (vals (flat Dl k))) (fun i _ _ _ => 3 - (intOf i).toNat)
      case atStart => exact ⟨0, by omega, rfl, hX1.out, by rw [hz.out]; exact ho1.out⟩
      case round =>
        clear hX1 ho1
        obtain ⟨k, hk, rfl, hX2, ho⟩ := hrel
        by_cases hlt : k < 3
        · obtain ⟨e0, hnews⟩ := h.out wr hX2 k hlt
          have l2 := hl.out k hlt
          have l3 := hfl.out k (by omega)
          have hx2 := hX2.size
          replace hnews := Lib.hid hnews
          replace ho := Lib.hid ho
          replace hX2 := Lib.hid hX2
          go_wp2_with (at_builtin
                       refine wpList_append_own _ rfl (.tmp 31) (.tmp 32) 65 rfl w.heap.size 3 i24 (.int .i64 0) 1 8 Try.underlying65 ji.out jz0.out jz1.out jz2.out rfl (by decide) _ _ _ rfl ho.out ⟨Bl k, Ol k, none⟩ (Dl k).length (cl k) (vals (Dl k)) rfl (hvl.out k) hnews.out (hv1.out k) (by unfold maxLen; omega) (by omega) hx2 ?_
                       intro v' w2 hown' hgrow _
                       have hY := Lib.hid (show Below w.heap.size w w2 from hX2.out.trans (below_grown hgrow hx2 fun b hb => (ho.out.lt b hb).1))
                       have ho2 := Lib.hid (show w2.ownsRow w.heap.size 3 1 v' (flat Dl (k + 1)).length (vals (flat Dl (k + 1))) by rw [hfs.out, hdv.out]; exact hown'))
          go_roundw
          case rel => exact ⟨k + 1, by omega, by go_num, hY.out, ho2.out⟩
          case measure => simp [intOf]; omega
        · have hk' : k = 3 := by omega
          subst hk'
          replace hX2 := Lib.hid hX2
          replace ho := Lib.hid ho
          go_wp2
          go_ret
          exact ⟨_, rfl, hX2.out, ho.out⟩
end Go.Proofs.Ythleekdkbgnabaa
