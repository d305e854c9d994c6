/-
  The first order, beach after beach: the program's function, and that the jobs can be done so.
-/
import Derived.Test.YtgjgpcpghglnnaaL
import Derived.Test.YtgjgpcpghglnnaaMathC
namespace Go.Proofs.Ytgjgpcpghglnnaa
open Go.RowKit Go.Deep M
set_option linter.unusedVariables false
set_option linter.unusedSimpArgs false

namespace M
/-- The first order of the first k beaches. -/
def fo (J : List (List Jb)) : Nat → List Int
  | 0 => []
  | k + 1 => fo J k ++ List.replicate (be J k).length (k : Int)
theorem fo_succ (J : List (List Jb)) (k : Nat) : fo J (k + 1) = fo J k ++ List.replicate (be J k).length (k : Int) := rfl
theorem fo_len (J : List (List Jb)) (k : Nat) : (fo J k).length = tn J k := by
  induction k with
  | zero => rfl
  | succ k ih => rw [fo_succ, List.length_append, List.length_replicate, ih, tn_succ]
theorem fo_runs (J : List (List Jb)) : ∀ k, k ≤ J.length → (∀ b : Nat, cnt (fo J k) (b : Int) (fo J k).length = if b < k then (be J b).length else 0) ∧ Runs J (fo J k) := by
  intro k
  induction k with
  | zero => intro _; exact ⟨fun _ => rfl, fun i hi => absurd hi (Nat.not_lt_zero _)⟩
  | succ k ih =>
    intro hk
    obtain ⟨h1, h2⟩ := ih (by omega)
    rw [fo_succ]
    refine ⟨fun b => ?_, fun i hi => ?_⟩
    · rw [List.length_append, List.length_replicate, cnt_right _ _ _ _ _ (Nat.le_refl _), h1 b]
      by_cases e : b = k
      · subst e
        rw [if_neg (Nat.lt_irrefl _), if_pos rfl, if_pos (Nat.lt_succ_self _), Nat.zero_add]
      · rw [if_neg (show ¬ (k : Int) = (b : Int) by omega), Nat.add_zero]
        by_cases hb : b < k
        · rw [if_pos hb, if_pos (by omega)]
        · rw [if_neg hb, if_neg (by omega)]
    · rw [List.length_append, List.length_replicate] at hi
      by_cases hlt : i < (fo J k).length
      · obtain ⟨r1, r2⟩ := h2 i hlt
        rw [el_left hlt, cnt_left _ _ _ _ (by omega)]
        exact ⟨r1, r2⟩
      · obtain ⟨t, rfl⟩ := Nat.exists_eq_add_of_le (show (fo J k).length ≤ i by omega)
        rw [el_right, el_rep _ (by omega), cnt_right _ _ _ _ _ (by omega), if_pos rfl, h1 k, if_neg (Nat.lt_irrefl _), Int.toNat_natCast]
        exact ⟨⟨by omega, by omega⟩, by omega⟩
end M

theorem vals_blk {w : World} {g : Nat} {l : List Int} (h : w.heap[g]? = some (.cells (vals l).toArray 3 (0, 0))) : ∀ j u, (vals l)[j]? = some u → w.cell? ((⟨g, 0, none⟩ : Addr).add j) = some u := by
  intro j u hj
  rw [add_pl, Nat.zero_add]
  simp [World.cell?, h, hj]
structure FoW (w : World) (v : Value) (o : List Int) (X : World) : Prop where
  below : Below w.heap.size w X
  own : X.ownsRow w.heap.size 3 1 v o.length (vals o)
theorem FoW.up {w X Y : World} {v : Value} {o : List Int} (h : FoW w v o X) (hb : Below X.heap.size X Y) : FoW w v o Y := ⟨bel_trans h.below hb, own_up h.own hb⟩
theorem FoW.app {w X Y : World} {v v' : Value} {o l : List Int} (h : FoW w v o X) (hown : Y.ownsRow w.heap.size 3 1 v' (o.length + l.length) (vals o ++ vals l)) (hgrow : X.grownBy Y v.ownBlock) : FoW w v' (o ++ l) Y := by
  have hge : ∀ b, v.ownBlock = some b → w.heap.size ≤ b := fun b hb => (h.own.lt b hb).1
  refine ⟨h.below.trans (below_grown hgrow h.below.size fun b hb => hge b hb), ?_⟩
  rw [List.length_append, vals_app]
  exact hown

set_option maxRecDepth 100000 in
set_option maxHeartbeats 8000000 in
theorem first_any (B : Nat) (A : Option Addr) (c : Nat) (D : List Bc) (w : World) (h : Bcs w B A D) (hB : B ≤ w.heap.size) (hv : vJ (bl D)) :
    Calls Try.prog 76 #[.slice A D.length c] w fun e w' => ∃ v, e = .returned v ∧ FoW w v (fo (bl D) D.length) w' := by
  have h63 := h.1
  have hlen := bl_len D
  obtain ⟨i3, ji, jz0, jz1, jz2⟩ := info_parts info3
  replace ji := Lib.hid ji
  replace jz0 := Lib.hid jz0
  replace jz1 := Lib.hid jz1
  replace jz2 := Lib.hid jz2
  have hfl : ∀ k, k ≤ D.length → (fo (bl D) k).length ≤ 12 := fun k hk => by
    rw [fo_len]; exact Nat.le_trans (tn_mono (bl D) (show k ≤ (bl D).length by rw [hlen]; exact hk)) hv.2.1
  have hbl := fun i (hi : i < D.length) => Nat.le_trans (be_le (show i < (bl D).length by rw [hlen]; exact hi)) hv.2.1
  have hat := fun X (hX : Below w.heap.size w X) k (hk : k < D.length) => (h.below (hX.mono hB)).at_ k hk
  have hfs := fo_succ (bl D)
  obtain ⟨J, hJ⟩ : ∃ J, J = bl D := ⟨_, rfl⟩
  rw [← hJ] at hfl hbl hat hfs ⊢
  obtain ⟨n, hn⟩ : ∃ n, n = D.length := ⟨_, rfl⟩
  rw [← hn] at h63 hfl hbl hat ⊢
  have hW0 : FoW w (.slice none 0 0) (fo J 0) w := ⟨Below.refl _ _, ⟨rfl, .inl ⟨rfl, rfl⟩⟩⟩
  replace hW0 := Lib.hid hW0
  replace hn := Lib.hid hn
  replace hJ := Lib.hid hJ
  replace hlen := Lib.hid hlen
  replace hfl := Lib.hid hfl
  replace hbl := Lib.hid hbl
  replace hat := Lib.hid hat
  replace hfs := Lib.hid hfs
  replace hv := Lib.hid hv
  replace h := Lib.hid h
  go_enter Try.func76, Try.ntmps76
  go_wp2
  go_loopw [3, 8] (fun v i X => ∃ k : Nat, k ≤ n ∧ i = .int .i64 (k : Nat) ∧ FoW w v (fo J k) X) (fun _ i _ => n - (intOf i).toNat)
  case atStart => exact ⟨0, by omega, rfl, hW0.out⟩
  case round =>
    clear hW0
    obtain ⟨k, hk, rfl, hW⟩ := hrel
    by_cases hlk : k < n
    · obtain ⟨b, o, rfl, hb, e0, hjb⟩ := hat.out wr hW.below k hlk
      have hL12 := hbl.out k hlk
      have hF1 := hfl.out k hk
      have hF2 := hfl.out (k + 1) hlk
      have hfs' := hfs.out k
      rw [hfs', List.length_append, List.length_replicate] at hF2
      obtain ⟨L, hL⟩ : ∃ L, L = (be J k).length := ⟨_, rfl⟩
      rw [← hL] at e0 hL12 hF2 hfs'
      obtain ⟨A2, hA2⟩ : ∃ A2, A2 = (bc D k).A := ⟨_, rfl⟩
      obtain ⟨c2, hc2⟩ : ∃ c2, c2 = (bc D k).c := ⟨_, rfl⟩
      rw [← hA2, ← hc2] at e0
      obtain ⟨Y, hY⟩ : ∃ Y, Y = wr.alloc (.cells #[.int .i64 (k : Nat)] 3) := ⟨_, rfl⟩
      have hne : Y.cell? ⟨wr.heap.size, 0, none⟩ = some (.int .i64 (k : Nat)) := by rw [hY]; simp
      have hYs : wr.heap.size < Y.heap.size := by rw [hY]; simp
      have k92 := Repeat_one (k : Nat) wr.heap.size 1 L hL12 Y hne hYs
      have hWY := hW.up (show Below wr.heap.size wr Y by rw [hY]; exact ba1 wr _)
      have hwY := hWY.below.size
      obtain ⟨lo, hlo⟩ : ∃ l, l = List.replicate L (k : Int) := ⟨_, rfl⟩
      rw [← hlo] at k92 hfs'
      have hll : lo.length = L := by rw [hlo, List.length_replicate]
      have hvl : (vals lo).length = L := by rw [vals_len, hll]
      obtain ⟨G, hG⟩ : ∃ G, G = Y.heap.size := ⟨_, rfl⟩
      rw [← hG] at k92
      replace hG := Lib.hid hG
      replace k92 := Lib.hid k92
      replace hne := Lib.hid hne
      replace hW := Lib.hid hW
      replace hWY := Lib.hid hWY
      replace hjb := Lib.hid hjb
      replace hL := Lib.hid hL
      replace hA2 := Lib.hid hA2
      replace hc2 := Lib.hid hc2
      replace hlo := Lib.hid hlo
      replace hll := Lib.hid hll
      replace hvl := Lib.hid hvl
      replace hfs' := Lib.hid hfs'
      have hYY := Lib.hid hY.symm
      clear hY
      go_wp2_with fail
      rw [hYY.out]
      refine k92.out.mono ?_
      rintro e X3 ⟨rfl, hb3, hg3⟩
      rw [hG.out] at hb3
      have hW3 := Lib.hid (hWY.out.up hb3)
      have hsz3 := hW3.out.below.size
      have hs3 := Lib.hid (vals_blk hg3)
      have hv1 := Lib.hid (show ∀ u ∈ vals lo, u.oneCell' = true from fun u hu => by obtain ⟨x, _, rfl⟩ := List.mem_map.1 hu; rfl)
      clear hb3 hg3
      go_wp2_with (at_builtin
                   refine wpList_append_own _ rfl (.tmp 13) (.tmp 18) 23 rfl w.heap.size 3 i3 (.int .i64 0) 1 8 Try.underlying23 ji.out jz0.out jz1.out jz2.out rfl (by decide) _ _ _ rfl hW3.out.own ⟨G, 0, none⟩ L L (vals lo) rfl (by rw [hvl.out, Nat.mul_one]) hs3.out hv1.out (by unfold maxLen; omega) (by omega) hsz3 ?_
                   intro v' w2 hown' hgrow _
                   have hX4 := Lib.hid (hW3.out.app (by rw [hll.out]; exact hown') hgrow)
                   clear hown' hgrow)
      go_roundw
      case rel => exact ⟨k + 1, by omega, by go_num, by rw [hfs'.out]; exact hX4.out⟩
      case measure => simp [intOf]; omega
    · have hk' : k = n := by omega
      subst hk'
      replace hW := Lib.hid hW
      go_wp2
      go_ret
      exact ⟨_, rfl, hW.out⟩
end Go.Proofs.Ytgjgpcpghglnnaa
