/-
  All deeds with the tanks: deeds of the program.
-/
import Derived.Test.YtgonibieeimdoaaL
namespace Go.Proofs.Ytgonibieeimdoaa
open Go.RowKit Go.Deep M
set_option linter.unusedVariables false
set_option linter.unusedSimpArgs false

namespace M
theorem fills_succ (k : Nat) : fills (k + 1) = fills k ++ [⟨1, 0, (k : Int)⟩] := by simp [fills, List.range_succ]
theorem empties_succ (k : Nat) : empties (k + 1) = empties k ++ [⟨2, 0, (k : Int)⟩] := by simp [empties, List.range_succ]
/-- The pours out of tank i into the first j. -/
def poursJ (i j : Nat) : List Dd := ((List.range j).filter fun z => z ≠ i).map fun (z : Nat) => ⟨3, (i : Int), (z : Int)⟩
theorem poursJ_zero (i : Nat) : poursJ i 0 = [] := rfl
theorem poursJ_yes {i j : Nat} (h : j ≠ i) : poursJ i (j + 1) = poursJ i j ++ [⟨3, (i : Int), (j : Int)⟩] := by
  unfold poursJ
  rw [List.range_succ, List.filter_append, List.map_append]
  simp [h]
theorem poursJ_no {i j : Nat} (h : j = i) : poursJ i (j + 1) = poursJ i j := by
  unfold poursJ
  rw [List.range_succ, List.filter_append, List.map_append]
  simp [h]
theorem poursJ_all (n i : Nat) : poursJ i n = poursOf n i := rfl
theorem poursJ_le (i j : Nat) : (poursJ i j).length ≤ j := by
  induction j with
  | zero => simp [poursJ_zero]
  | succ j ih =>
    by_cases h : j = i
    · rw [poursJ_no h]; omega
    · rw [poursJ_yes h, List.length_append]; simp; exact ih
/-- The pours out of the first k tanks. -/
def poursN (n k : Nat) : List Dd := (List.range k).flatMap (poursOf n)
theorem poursN_succ (n k : Nat) : poursN n (k + 1) = poursN n k ++ poursJ k n := by
  unfold poursN
  rw [List.range_succ, List.flatMap_append]
  simp [poursJ_all]
theorem poursN_le (n k : Nat) : (poursN n k).length ≤ n * k := by
  induction k with
  | zero => simp [poursN]
  | succ k ih =>
    rw [poursN_succ, List.length_append, Nat.mul_succ]
    have := poursJ_le k n
    omega
theorem pours_all (n : Nat) : poursN n n = pours n := rfl
theorem fills_len (n : Nat) : (fills n).length = n := by simp [fills]
theorem empties_len (n : Nat) : (empties n).length = n := by simp [empties]
theorem pours_pos {n : Nat} (h : 2 ≤ n) (h4 : n ≤ 4) : 1 ≤ (pours n).length ∧ (pours n).length ≤ 16 := by
  rcases (show n = 2 ∨ n = 3 ∨ n = 4 by omega) with rfl | rfl | rfl <;> decide
end M

/-- Three lists of deeds, each in a block of its own. -/
structure D3W (w : World) (v1 v2 v3 : Value) (D1 D2 D3 : List Dd) (X : World) : Prop where
  below : Below w.heap.size w X
  o1 : X.ownsRow w.heap.size 24 3 v1 D1.length (dvals D1)
  o2 : X.ownsRow w.heap.size 24 3 v2 D2.length (dvals D2)
  o3 : X.ownsRow w.heap.size 24 3 v3 D3.length (dvals D3)
  n12 : ∀ b, v1.ownBlock = some b → v2.ownBlock ≠ some b
  n13 : ∀ b, v1.ownBlock = some b → v3.ownBlock ≠ some b
  n23 : ∀ b, v2.ownBlock = some b → v3.ownBlock ≠ some b
theorem D3W.s12 {w X : World} {v1 v2 v3 : Value} {D1 D2 D3 : List Dd} (h : D3W w v1 v2 v3 D1 D2 D3 X) : D3W w v2 v1 v3 D2 D1 D3 X :=
  ⟨h.below, h.o2, h.o1, h.o3, fun b e1 e2 => h.n12 b e2 e1, h.n23, h.n13⟩
theorem D3W.s13 {w X : World} {v1 v2 v3 : Value} {D1 D2 D3 : List Dd} (h : D3W w v1 v2 v3 D1 D2 D3 X) : D3W w v3 v2 v1 D3 D2 D1 X :=
  ⟨h.below, h.o3, h.o2, h.o1, fun b e1 e2 => h.n23 b e2 e1, fun b e1 e2 => h.n13 b e2 e1, fun b e1 e2 => h.n12 b e2 e1⟩
theorem D3W.up {w X Y : World} {v1 v2 v3 : Value} {D1 D2 D3 : List Dd} (h : D3W w v1 v2 v3 D1 D2 D3 X) (hb : Below X.heap.size X Y) : D3W w v1 v2 v3 D1 D2 D3 Y :=
  ⟨bel_trans h.below hb, own_up h.o1 hb, own_up h.o2 hb, own_up h.o3 hb, h.n12, h.n13, h.n23⟩
theorem D3W.app {w X Y : World} {v1 v2 v3 v' : Value} {D1 D2 D3 : List Dd} {x : Dd} (h : D3W w v1 v2 v3 D1 D2 D3 X) (hown : Y.ownsRow w.heap.size 24 3 v' (D1.length + 1) (dvals D1 ++ dc x)) (hgrow : X.grownBy Y v1.ownBlock) (hat : v'.ownBlock = v1.ownBlock ∨ v'.ownBlock = some X.heap.size) :
    D3W w v' v2 v3 (D1 ++ [x]) D2 D3 Y := by
  have hne : ∀ (v : Value) (D : List Dd), X.ownsRow w.heap.size 24 3 v D.length (dvals D) → (∀ b, v1.ownBlock = some b → v.ownBlock ≠ some b) → Y.ownsRow w.heap.size 24 3 v D.length (dvals D) ∧ ∀ b, v'.ownBlock = some b → v.ownBlock ≠ some b := fun v D ho hn =>
    ⟨own_to ho fun g hg => hgrow.block g (ho.lt g hg).2 fun e => hn g e.symm hg, fun b hb e => by
      rcases hat with hat | hat
      · exact hn b (hat ▸ hb) e
      · rw [hat] at hb
        injection hb with hb
        have := (ho.lt b e).2
        omega⟩
  obtain ⟨p2, q2⟩ := hne v2 D2 h.o2 h.n12
  obtain ⟨p3, q3⟩ := hne v3 D3 h.o3 h.n13
  refine ⟨h.below.trans (below_grown hgrow h.below.size fun b hb => (h.o1.lt b hb).1), ?_, p2, p3, q2, q3, h.n23⟩
  rw [List.length_append, dvals_app, dvals_one]
  exact hown
theorem d3W_zero (w : World) : D3W w (.slice none 0 0) (.slice none 0 0) (.slice none 0 0) [] [] [] w :=
  ⟨Below.refl _ _, ⟨rfl, .inl ⟨rfl, rfl⟩⟩, ⟨rfl, .inl ⟨rfl, rfl⟩⟩, ⟨rfl, .inl ⟨rfl, rfl⟩⟩, fun b hb => (by cases hb), fun b hb => (by cases hb), fun b hb => (by cases hb)⟩
theorem one_dd (w : World) (a b c : Int) : ∀ j u, (dc ⟨a, b, c⟩)[j]? = some u → (w.alloc (.cells #[.int .i64 a, .int .i64 b, .int .i64 c] 24)).cell? ((⟨w.heap.size, 0, none⟩ : Addr).add j) = some u := by
  intro j u hj
  match j, hj with
  | 0, hj => simp [dc] at hj; subst hj; simp [Addr.add]
  | 1, hj => simp [dc] at hj; subst hj; simp [Addr.add]
  | 2, hj => simp [dc] at hj; subst hj; simp [Addr.add]
  | j + 3, hj => simp [dc] at hj
theorem dc_cell {x : Dd} : ∀ u ∈ dc x, u.oneCell' = true := fun u hu => by
  simp [dc] at hu
  rcases hu with rfl | rfl | rfl <;> rfl

set_option maxRecDepth 100000 in
set_option maxHeartbeats 8000000 in
theorem deeds_any (A : Option Addr) (c n : Nat) (w : World) (h2 : 2 ≤ n) (h4 : n ≤ 4) :
    Calls Try.prog 83 #[.slice A n c] w (NewD w (allD n)) := by
  obtain ⟨i24, ji, jz0, jz1, jz2⟩ := info_parts info24
  replace ji := Lib.hid ji
  replace jz0 := Lib.hid jz0
  replace jz1 := Lib.hid jz1
  replace jz2 := Lib.hid jz2
  have hz := Lib.hid (d3W_zero w)
  go_enter Try.func83, Try.ntmps83
  go_wp2
  go_loopw [3, 4, 5, 10] (fun v1 v2 v3 i X => ∃ k : Nat, k ≤ n ∧ i = .int .i64 (k : Nat) ∧ D3W w v1 v2 v3 (fills k) (empties k) (poursN n k) X) (fun _ _ _ i _ => n - (intOf i).toNat)
  case atStart => exact ⟨0, by omega, rfl, hz.out⟩
  case round =>
    clear hz
    obtain ⟨k, hk, rfl, hX⟩ := hrel
    by_cases hlt : k < n
    · have hX1 := hX.up (ba1 wr (.cells #[.int .i64 1, .int .i64 0, .int .i64 (k : Nat)] 24))
      have hn1 := Lib.hid (one_dd wr 1 0 (k : Nat))
      have hl1 := fills_len k
      have hl2 := empties_len k
      have hsz := hX.below.size
      replace hX := Lib.hid hX
      replace hX1 := Lib.hid hX1
      replace hl1 := Lib.hid hl1
      replace hl2 := Lib.hid hl2
      have hpn := Lib.hid (poursN_le n k)
      have hfk : (fills k).length ≤ 4 := by rw [hl1.out]; omega
      have hek : (empties k).length ≤ 4 := by rw [hl2.out]; omega
      go_wp2_with (first
        | (have hgo := hX2.out
           clear hgo
           at_builtin
           refine wpList_append_own_at _ rfl (.tmp 18) (.tmp 21) 32 rfl w.heap.size 24 i24 (.agg #[.int .i64 0, .int .i64 0, .int .i64 0]) 3 24 Try.underlying32 ji.out jz0.out jz1.out jz2.out rfl (by decide) _ _ _ rfl hX2.out.o1 ⟨w2.heap.size, 0, none⟩ 1 1 (dc ⟨2, 0, (k : Nat)⟩) rfl rfl hn2.out dc_cell (by unfold maxLen; omega) (by omega) (by simp; omega) ?_
           intro v'' w3 hown' hgrow _ hat
           have hY2 := Lib.hid (show D3W w v' v'' _ (fills (k + 1)) (empties (k + 1)) (poursN n k ++ poursJ k 0) w3 by
             rw [fills_succ, empties_succ, poursJ_zero, List.append_nil]
             exact (hX2.out.app hown' hgrow hat).s12)
           clear hown' hgrow hat)
        | (at_builtin
           refine wpList_append_own_at _ rfl (.tmp 13) (.tmp 16) 32 rfl w.heap.size 24 i24 (.agg #[.int .i64 0, .int .i64 0, .int .i64 0]) 3 24 Try.underlying32 ji.out jz0.out jz1.out jz2.out rfl (by decide) _ _ _ rfl hX1.out.o1 ⟨wr.heap.size, 0, none⟩ 1 1 (dc ⟨1, 0, (k : Nat)⟩) rfl rfl hn1.out dc_cell (by unfold maxLen; omega) (by omega) (by simp; omega) ?_
           intro v' w2 hown' hgrow _ hat
           have hY1 := hX1.out.app hown' hgrow hat
           have hX2 := Lib.hid (hY1.s12.up (ba1 w2 (.cells #[.int .i64 2, .int .i64 0, .int .i64 (k : Nat)] 24)))
           have hn2 := Lib.hid (one_dd w2 2 0 (k : Nat))
           have hsz2 := hY1.below.size
           replace hY1 := Lib.hid hY1
           clear hown' hgrow hat))
      go_loopw [5, 25] (fun v3 i X => ∃ j : Nat, j ≤ n ∧ i = .int .i64 (j : Nat) ∧ D3W w v' v'' v3 (fills (k + 1)) (empties (k + 1)) (poursN n k ++ poursJ k j) X) (fun _ i _ => n - (intOf i).toNat)
      case atStart => exact ⟨0, by omega, rfl, hY2.out⟩
      case round =>
        clear hY2
        obtain ⟨j, hj, rfl, hZ⟩ := hrel
        by_cases hlj : j < n
        · by_cases hne : j = k
          · have hZ' := Lib.hid (show D3W w v' v'' _ (fills (k + 1)) (empties (k + 1)) (poursN n k ++ poursJ k (j + 1)) wr by rw [poursJ_no hne]; exact hZ)
            replace hZ := Lib.hid hZ
            subst hne
            go_wp2
            go_roundw
            case rel => exact ⟨j + 1, by omega, by go_num, hZ'.out⟩
            case measure => simp [intOf]; omega
          · have hZ1 := Lib.hid (hZ.s13.up (ba1 wr (.cells #[.int .i64 3, .int .i64 (k : Nat), .int .i64 (j : Nat)] 24)))
            have hn3 := Lib.hid (one_dd wr 3 (k : Nat) (j : Nat))
            have hsz3 := hZ.below.size
            replace hZ := Lib.hid hZ
            have hjl := poursJ_le k j
            have hll : (poursN n k ++ poursJ k j).length ≤ 24 := by
              rw [List.length_append]
              have := hpn.out
              have : n * k ≤ 4 * 4 := Nat.mul_le_mul h4 (by omega)
              omega
            have hnei : ¬ ((j : Int) = (k : Int)) := by omega
            go_wp2_with (at_builtin
                         refine wpList_append_own_at _ rfl (.tmp 31) (.tmp 35) 32 rfl w.heap.size 24 i24 (.agg #[.int .i64 0, .int .i64 0, .int .i64 0]) 3 24 Try.underlying32 ji.out jz0.out jz1.out jz2.out rfl (by decide) _ _ _ rfl hZ1.out.o1 ⟨wr.heap.size, 0, none⟩ 1 1 (dc ⟨3, (k : Nat), (j : Nat)⟩) rfl rfl hn3.out dc_cell (by unfold maxLen; omega) (by omega) (by simp; omega) ?_
                         intro v3' w4 hown' hgrow _ hat
                         have hZ2 := Lib.hid (show D3W w v' v'' v3' (fills (k + 1)) (empties (k + 1)) (poursN n k ++ poursJ k (j + 1)) w4 by
                           rw [poursJ_yes hne, ← List.append_assoc]
                           exact (hZ1.out.app hown' hgrow hat).s13)
                         clear hown' hgrow hat)
            go_roundw
            case rel => exact ⟨j + 1, by omega, by go_num, hZ2.out⟩
            case measure => simp [intOf]; omega
        · have hj' : j = n := by omega
          subst hj'
          have hZ' := Lib.hid (show D3W w v' v'' _ (fills (k + 1)) (empties (k + 1)) (poursN j (k + 1)) wr by rw [poursN_succ]; exact hZ)
          replace hZ := Lib.hid hZ
          go_wp2
          go_roundw
          case rel => exact ⟨k + 1, by omega, by go_num, hZ'.out⟩
          case measure => simp [intOf]; omega
    · have hk' : k = n := by omega
      subst hk'
      rw [pours_all] at hX
      obtain ⟨p1, p2⟩ := pours_pos h2 h4
      have l1 := fills_len k
      have l2 := empties_len k
      obtain ⟨A1, c1, rfl, r1⟩ := own_dls hX.o1 (by omega)
      obtain ⟨A2, c2, rfl, r2⟩ := own_dls hX.o2 (by omega)
      obtain ⟨A3, c3, rfl, r3⟩ := own_dls hX.o3 (by omega)
      obtain ⟨X1, hX1⟩ : ∃ X, X = wr.alloc (.cells #[.slice A1 (fills k).length c1, .slice A2 (empties k).length c2, .slice A3 (pours k).length c3] 32) := ⟨_, rfl⟩
      have hb := ba1 wr (.cells #[.slice A1 (fills k).length c1, .slice A2 (empties k).length c2, .slice A3 (pours k).length c3] 32)
      have hbk := heap_alloc_new wr (.cells #[.slice A1 (fills k).length c1, .slice A2 (empties k).length c2, .slice A3 (pours k).length c3] 32)
      rw [← hX1] at hb hbk
      have cc := concat3 wr.heap.size 3 wr.heap.size (fun i => if i = 0 then fills k else if i = 1 then empties k else pours k) (fun i => if i = 0 then A1 else if i = 1 then A2 else A3) (fun i => if i = 0 then c1 else if i = 1 then c2 else c3) X1 (fun i hi => by
        rcases (show i = 0 ∨ i = 1 ∨ i = 2 by omega) with rfl | rfl | rfl
        · exact ⟨by simp [World.cell?, hbk], r1.below hb, by simp; omega, by simp; omega⟩
        · exact ⟨by simp [World.cell?, hbk], r2.below hb, by simp; omega, by simp; omega⟩
        · exact ⟨by simp [World.cell?, hbk], r3.below hb, by simp; omega, by simp; omega⟩) hb.size (blk_lt hbk)
      have hfl : flat (fun i => if i = 0 then fills k else if i = 1 then empties k else pours k) 3 = allD k := by simp [flat, allD]
      rw [hfl] at cc
      have hbel := hX.below.trans (hb.mono hX.below.size)
      unfold NewD at cc ⊢
      replace cc := Lib.hid cc
      replace hX := Lib.hid hX
      replace r1 := Lib.hid r1
      replace r2 := Lib.hid r2
      replace r3 := Lib.hid r3
      replace hb := Lib.hid hb
      replace hbk := Lib.hid hbk
      replace hfl := Lib.hid hfl
      replace hX1 := Lib.hid hX1
      replace l1 := Lib.hid l1
      replace l2 := Lib.hid l2
      replace hbel := Lib.hid hbel
      go_wp2_with fail
      rw [← hX1.out]
      refine cc.out.mono ?_
      rintro e X2 ⟨v, rfl, hb2, ho⟩
      have hfin := Lib.hid (And.intro (bel_trans hbel.out hb2) (own_mono' ho hbel.out.size))
      go_wp2
      go_ret
      exact ⟨v, rfl, hfin.out.1, hfin.out.2⟩
end Go.Proofs.Ytgonibieeimdoaa
