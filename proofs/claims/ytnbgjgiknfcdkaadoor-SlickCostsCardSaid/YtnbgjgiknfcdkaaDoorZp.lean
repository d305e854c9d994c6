/-
  The specification's 'Before'.
-/
import Derived.Test.YtnbgjgiknfcdkaaDoorZo
import Derived.Deep.RegionHeldLaw
namespace Go.Proofs.YtnbgjgiknfcdkaaDoor
open Go.RowKit Go.Deep M
set_option linter.unusedVariables false
set_option linter.unusedSimpArgs false

/-- The world of 'Before': the box of the bay. -/
def LWB (w : World) (W H l s : Value) (X : World) : Prop := Below w.heap.size w X ∧ Quad X w.heap.size W H l s
theorem LWB.call {w : World} {W H l s : Value} {X Y : World} (h : LWB w W H l s X) (hb : Below X.heap.size X Y) : LWB w W H l s Y := ⟨h.1.trans (hb.mono h.1.size), h.2.up hb⟩
theorem drewB (w : World) : Below w.heap.size w w.drew := below_drewN (Below.refl _ _) 1

set_option maxRecDepth 100000 in
set_option maxHeartbeats 4000000 in
theorem BeforeR_bad (B : Nat) (W H : Int) (aL aS aP : Option Addr) (cL cS cP : Nat) (L : List Bool) (n : Nat) (S P : List Int) (N : Int) (w : World) (h : BayIn w B aL L aS n S) (hP : Row w B aP P) (hB : B ≤ w.heap.size) (E : Int) (hE : (validB W H L n S = false ∧ E = 20) ∨ (validB W H L n S = true ∧ pricesB L.length P = false ∧ E = 2) ∨ (validB W H L n S = true ∧ pricesB L.length P = true ∧ (N < 0 ∨ 5 < N) ∧ E = 2)) :
    Calls Tryd.prog 37 #[.agg #[.int .i64 W, .int .i64 H, .slice aL L.length cL, .slice aS n cS], .slice aP P.length cP, .int .i64 N] w (LstRes w ([], E)) := by
  have hst : LWB w (.int .i64 W) (.int .i64 H) (.slice aL L.length cL) (.slice aS n cS) (w.alloc (.cells #[.int .i64 W, .int .i64 H, .slice aL L.length cL, .slice aS n cS] 25)) := ⟨ba1 _ _, Quad.new _ _ _ _ _⟩
  have c21 := fun X (hX : LWB w (.int .i64 W) (.int .i64 H) (.slice aL L.length cL) (.slice aS n cS) X) => Valid_ref B W H aL aS cL cS L n S X (h.below (hX.1.mono hB)) (Nat.le_trans hB hX.1.size)
  rcases hE with ⟨hv, rfl⟩ | ⟨hv, hp, rfl⟩ | ⟨hv, hp, hN, rfl⟩
  · rw [hv] at c21
    clear hv
    replace c21 := Lib.hid c21
    replace hst := Lib.hid hst
    have hs0 := hst.out
    have g0 := hs0.2.c0
    have g1 := hs0.2.c1
    have g2 := hs0.2.c2
    have g3 := hs0.2.c3
    go_enter Tryd.func37, Tryd.ntmps37
    go_wp2_with fail
    refine (c21.out _ hs0).mono ?_
    rintro e w1 ⟨rfl, hb1⟩
    have hs1 := hs0.call hb1
    clear hb1 hs0 g0 g1 g2 g3
    have hbb := hs1.1
    clear hs1
    go_wp2
    go_ret2
    exact ⟨none, 0, rfl, hbb, row_nil _ _ _⟩
  · have hV := val_of hv
    have h36 : L.length ≤ 36 := by
      have := hV.2.1.1
      have := Int.mul_le_mul hV.1.1.2 hV.1.2.2 (by have := hV.1.2.1; omega) (by omega)
      omega
    have c53 := fun X (hX : LWB w (.int .i64 W) (.int .i64 H) (.slice aL L.length cL) (.slice aS n cS) X) => ArePrices_ref B W H aL aS aP cL cS cP L.length n L.length P X (hP.below (hX.1.mono hB)) (Nat.le_trans hB hX.1.size) hV.2.1.1 h36
    rw [hp] at c53
    rw [hv] at c21
    clear hv hp hV
    replace c53 := Lib.hid c53
    replace c21 := Lib.hid c21
    replace hst := Lib.hid hst
    have hs0 := hst.out
    have g0 := hs0.2.c0
    have g1 := hs0.2.c1
    have g2 := hs0.2.c2
    have g3 := hs0.2.c3
    go_enter Tryd.func37, Tryd.ntmps37
    go_wp2_with fail
    refine (c21.out _ hs0).mono ?_
    rintro e w1 ⟨rfl, hb1⟩
    have hs1 := hs0.call hb1
    clear hb1 hs0 g0 g1 g2 g3
    have g0 := hs1.2.c0
    have g1 := hs1.2.c1
    have g2 := hs1.2.c2
    have g3 := hs1.2.c3
    go_wp2_with fail
    refine (c53.out _ hs1).mono ?_
    rintro e w2 ⟨rfl, hb2⟩
    have hs2 := hs1.call hb2
    clear hb2 hs1 g0 g1 g2 g3
    have hbb := hs2.1
    clear hs2
    go_wp2
    go_ret2
    exact ⟨none, 0, rfl, hbb, row_nil _ _ _⟩
  · have hV := val_of hv
    have h36 : L.length ≤ 36 := by
      have := hV.2.1.1
      have := Int.mul_le_mul hV.1.1.2 hV.1.2.2 (by have := hV.1.2.1; omega) (by omega)
      omega
    have c53 := fun X (hX : LWB w (.int .i64 W) (.int .i64 H) (.slice aL L.length cL) (.slice aS n cS) X) => ArePrices_ref B W H aL aS aP cL cS cP L.length n L.length P X (hP.below (hX.1.mono hB)) (Nat.le_trans hB hX.1.size) hV.2.1.1 h36
    rw [hp] at c53
    rw [hv] at c21
    clear hv hp hV
    replace c53 := Lib.hid c53
    by_cases h0 : N < 0
    · clear hN
      replace c21 := Lib.hid c21
      replace hst := Lib.hid hst
      have hs0 := hst.out
      have g0 := hs0.2.c0
      have g1 := hs0.2.c1
      have g2 := hs0.2.c2
      have g3 := hs0.2.c3
      go_enter Tryd.func37, Tryd.ntmps37
      go_wp2_with fail
      refine (c21.out _ hs0).mono ?_
      rintro e w1 ⟨rfl, hb1⟩
      have hs1 := hs0.call hb1
      clear hb1 hs0 g0 g1 g2 g3
      have g0 := hs1.2.c0
      have g1 := hs1.2.c1
      have g2 := hs1.2.c2
      have g3 := hs1.2.c3
      go_wp2_with fail
      refine (c53.out _ hs1).mono ?_
      rintro e w2 ⟨rfl, hb2⟩
      have hs2 := hs1.call hb2
      clear hb2 hs1 g0 g1 g2 g3
      have hbb := hs2.1
      clear hs2
      go_wp2
      go_ret2
      exact ⟨none, 0, rfl, hbb, row_nil _ _ _⟩
    · have h5 : 5 < N := by omega
      clear hN
      replace c21 := Lib.hid c21
      replace hst := Lib.hid hst
      have hs0 := hst.out
      have g0 := hs0.2.c0
      have g1 := hs0.2.c1
      have g2 := hs0.2.c2
      have g3 := hs0.2.c3
      go_enter Tryd.func37, Tryd.ntmps37
      go_wp2_with fail
      refine (c21.out _ hs0).mono ?_
      rintro e w1 ⟨rfl, hb1⟩
      have hs1 := hs0.call hb1
      clear hb1 hs0 g0 g1 g2 g3
      have g0 := hs1.2.c0
      have g1 := hs1.2.c1
      have g2 := hs1.2.c2
      have g3 := hs1.2.c3
      go_wp2_with fail
      refine (c53.out _ hs1).mono ?_
      rintro e w2 ⟨rfl, hb2⟩
      have hs2 := hs1.call hb2
      clear hb2 hs1 g0 g1 g2 g3
      have hbb := hs2.1
      clear hs2
      go_wp2
      go_ret2
      exact ⟨none, 0, rfl, hbb, row_nil _ _ _⟩

set_option maxRecDepth 100000 in
set_option maxHeartbeats 8000000 in
theorem BeforeR_ok (B wn hn : Nat) (aL aS aP : Option Addr) (cL cS cP : Nat) (L : List Bool) (S P : List Int) (mn : Nat) (w : World) (h : BayIn w B aL L aS (wn * hn) S) (hP : Row w B aP P) (hB : B ≤ w.heap.size) (hBay : Bay wn hn L S) (hv : validB wn hn L (wn * hn) S = true) (hp : pricesB (wn * hn) P = true) (h5 : mn ≤ 5) :
    Calls Tryd.prog 37 #[.agg #[.int .i64 (wn : Nat), .int .i64 (hn : Nat), .slice aL (wn * hn) cL, .slice aS (wn * hn) cS], .slice aP (wn * hn + 1) cP, .int .i64 (mn : Nat)] w (LstRes w (bf wn hn L S mn P, 0)) := by
  obtain ⟨i3, ji, jz0, jz1, jz2⟩ := info_parts info3
  replace ji := Lib.hid ji
  replace jz0 := Lib.hid jz0
  replace jz1 := Lib.hid jz1
  replace jz2 := Lib.hid jz2
  have h36 := hBay.cells
  have hLN := hBay.2.1.1
  have hw6 := hBay.1.1
  have hh6 := hBay.1.2
  obtain ⟨hpl, hpb⟩ := prices_of hp
  have wm : IntKind.i64.wrap ((wn : Int) * hn) = ((wn * hn : Nat) : Int) := by rw [← Int.natCast_mul]; exact IntWalk.i64_in _ (by omega)
  have c21 : ∀ X, LWB w (.int .i64 (wn : Nat)) (.int .i64 (hn : Nat)) (.slice aL (wn * hn) cL) (.slice aS (wn * hn) cS) X → Calls Tryd.prog 21 #[.agg #[.int .i64 (wn : Nat), .int .i64 (hn : Nat), .slice aL (wn * hn) cL, .slice aS (wn * hn) cS]] X fun e w' => e = .returned (.bool true) ∧ Below X.heap.size X w' := fun X hX => by
    have h1 := Valid_ref B wn hn aL aS cL cS L (wn * hn) S X (h.below (hX.1.mono hB)) (Nat.le_trans hB hX.1.size)
    rw [hv, hLN] at h1
    exact h1
  have c53 : ∀ X, LWB w (.int .i64 (wn : Nat)) (.int .i64 (hn : Nat)) (.slice aL (wn * hn) cL) (.slice aS (wn * hn) cS) X → Calls Tryd.prog 53 #[.agg #[.int .i64 (wn : Nat), .int .i64 (hn : Nat), .slice aL (wn * hn) cL, .slice aS (wn * hn) cS], .slice aP (wn * hn + 1) cP] X fun e w' => e = .returned (.bool true) ∧ Below X.heap.size X w' := fun X hX => by
    have h1 := ArePrices_ref B wn hn aL aS aP cL cS cP (wn * hn) (wn * hn) (wn * hn) P X (hP.below (hX.1.mono hB)) (Nat.le_trans hB hX.1.size) (by simp) (by omega)
    rw [hp, hpl] at h1
    exact h1
  have c57 : ∀ k, k ≤ wn * hn → ∀ X, Calls Tryd.prog 57 #[.agg #[.int .i64 (wn : Nat), .int .i64 (hn : Nat), .slice aL (wn * hn) cL, .slice aS (wn * hn) cS], .int .i64 (k : Nat)] X fun e X' => ∃ A c, e = .returned (.agg #[.int .i64 0, .slice A (wn * hn) c, .int .i64 (el (one (wn * hn) k) (wn * hn))]) ∧ Below X.heap.size X X' ∧ Row X' X'.heap.size A (pre (wn * hn) (one (wn * hn) k)) := fun k hk X =>
    One_ref wn hn aL aS cL cS (wn * hn) (wn * hn) (wn * hn) k X rfl (by omega) (by omega) (by omega) hk
  have c71 : ∀ k, k ≤ wn * hn → ∀ X A c, LWB w (.int .i64 (wn : Nat)) (.int .i64 (hn : Nat)) (.slice aL (wn * hn) cL) (.slice aS (wn * hn) cS) X → Row X X.heap.size A (pre (wn * hn) (one (wn * hn) k)) → Calls Tryd.prog 71 #[.agg #[.int .i64 (wn : Nat), .int .i64 (hn : Nat), .slice aL (wn * hn) cL, .slice aS (wn * hn) cS], .agg #[.int .i64 0, .slice A (wn * hn) c, .int .i64 (el (one (wn * hn) k) (wn * hn))], .int .i64 (mn : Nat)] X fun e X' => ∃ A' c', e = .returned (.agg #[.int .i64 (mn : Nat), .slice A' (wn * hn) c', .int .i64 (el (af wn hn L S mn (one (wn * hn) k)) (wn * hn))]) ∧ Below X.heap.size X X' ∧ Row X' X'.heap.size A' (pre (wn * hn) (af wn hn L S mn (one (wn * hn) k))) := fun k hk X A c hX hr => by
    have e1 : amt (pre (wn * hn) (one (wn * hn) k)) (el (one (wn * hn) k) (wn * hn)) = one (wn * hn) k := amt_pre (one_len _ _)
    have e2 := pow16 mn 5 h5 1 (by omega)
    have h1 := afterR_any X.heap.size wn hn aL aS A cL cS c L S 0 (pre (wn * hn) (one (wn * hn) k)) (el (one (wn * hn) k) (wn * hn)) mn X ((h.below (hX.1.mono hB)).more (Nat.le_trans hB hX.1.size)) hr (Nat.le_refl _) hBay (pre_len _ _) (by omega) (by rw [e1]; exact one_nonneg _ _) (by rw [e1, one_tot hk]; omega)
    rw [e1, Int.zero_add] at h1
    exact h1
  have c54 : ∀ k, k ≤ wn * hn → ∀ X A c, LWB w (.int .i64 (wn : Nat)) (.int .i64 (hn : Nat)) (.slice aL (wn * hn) cL) (.slice aS (wn * hn) cS) X → Row X X.heap.size A (pre (wn * hn) (af wn hn L S mn (one (wn * hn) k))) → Calls Tryd.prog 54 #[.agg #[.int .i64 (mn : Nat), .slice A (wn * hn) c, .int .i64 (el (af wn hn L S mn (one (wn * hn) k)) (wn * hn))], .slice aP (wn * hn + 1) cP] X fun e X' => e = .returned (.int .i64 (el (bf wn hn L S mn P) k)) ∧ Below X.heap.size X X' := fun k hk X A c hX hr => by
    have hl := af_len (L := L) (S := S) (one_len (wn * hn) k) mn
    have e1 := amt_pre hl
    have hnn := af_nonneg hBay (one_len (wn * hn) k) (one_nonneg (wn * hn) k) mn
    have htt := af_tot (L := L) (S := S) hBay (one_len (wn * hn) k) mn
    rw [one_tot hk] at htt
    have e2 := pow16 mn 5 h5 1 (by omega)
    have h1 := Priced_ref X.heap.size A aP c cP (wn * hn) mn (pre (wn * hn) (af wn hn L S mn (one (wn * hn) k))) (el (af wn hn L S mn (one (wn * hn) k)) (wn * hn)) P X hr ((hP.below (hX.1.mono hB)).more (Nat.le_trans hB hX.1.size)) (Nat.le_refl _) (pre_len _ _) hpl (by omega)
      (fun i hi => by
        rw [e1]
        have b1 := hnn i (by rw [hl]; exact hi)
        have b2 := el_le_tot hnn i (by rw [hl]; exact hi)
        have b3 := hpb i (by omega)
        refine ⟨Int.mul_nonneg b1 b3.1, ?_⟩
        have := Int.mul_le_mul (show el (af wn hn L S mn (one (wn * hn) k)) i ≤ 1000000000000 by omega) b3.2 b3.1 (by omega)
        omega)
    rw [e1, cst_one P hk] at h1
    exact h1
  have hql : (bf wn hn L S mn P).length = wn * hn + 1 := bf_len hpl mn
  generalize bf wn hn L S mn P = q at *
  clear hpb hpl hp hv h hP
  generalize hm : wn * hn = m at *
  replace hm := Lib.hid hm
  replace hLN := Lib.hid hLN
  replace hql := Lib.hid hql
  have hst : LWB w (.int .i64 (wn : Nat)) (.int .i64 (hn : Nat)) (.slice aL m cL) (.slice aS m cS) (w.alloc (.cells #[.int .i64 (wn : Nat), .int .i64 (hn : Nat), .slice aL m cL, .slice aS m cS] 25)) := ⟨ba1 _ _, Quad.new _ _ _ _ _⟩
  have dr := drewB
  replace dr := Lib.hid dr
  replace c53 := Lib.hid c53
  replace c57 := Lib.hid c57
  replace c71 := Lib.hid c71
  replace c54 := Lib.hid c54
  replace c21 := Lib.hid c21
  replace hst := Lib.hid hst
  have hs0 := hst.out
  have g0 := hs0.2.c0
  have g1 := hs0.2.c1
  have g2 := hs0.2.c2
  have g3 := hs0.2.c3
  go_enter Tryd.func37, Tryd.ntmps37
  go_wp2_with fail
  refine (c21.out _ hs0).mono ?_
  rintro e w1 ⟨rfl, hb1⟩
  have hs1 := hs0.call hb1
  clear hb1 hs0 g0 g1 g2 g3
  have g0 := hs1.2.c0
  have g1 := hs1.2.c1
  have g2 := hs1.2.c2
  have g3 := hs1.2.c3
  go_wp2_with fail
  refine (c53.out _ hs1).mono ?_
  rintro e w2 ⟨rfl, hb2⟩
  have hs2 := hs1.call hb2
  clear hb2 hs1 g0 g1 g2 g3
  have g0 := hs2.2.c0
  have g1 := hs2.2.c1
  replace hs2 := Lib.hid hs2
  go_wp2
  go_loopw [8, 9] (fun v i X => ∃ k : Nat, k ≤ m + 1 ∧ i = .int .i64 k ∧ LWB w (.int .i64 (wn : Nat)) (.int .i64 (hn : Nat)) (.slice aL m cL) (.slice aS m cS) X ∧ X.ownsRow (w.heap.size + 1) 3 1 v k (vals (mk (el q) k)) ∧ w.heap.size + 1 ≤ X.heap.size) (fun _ i _ => m + 1 - (intOf i).toNat)
  case atStart => exact ⟨0, Nat.zero_le _, rfl, hs2.out, World.ownsRow_nil _ _ _ _, hs2.out.2.lt⟩
  case round =>
    clear hs2 g0 g1
    obtain ⟨k, hk, rfl, hX, hown, hsz⟩ := hrel
    have g0 := hX.2.c0
    have g1 := hX.2.c1
    by_cases hlt : k ≤ m
    · have hkI : (k : Int) ≤ (m : Nat) := by omega
      obtain ⟨P0, hP0⟩ : ∃ P0 : World → Prop, ∀ X, P0 X ↔ (LWB w (.int .i64 (wn : Nat)) (.int .i64 (hn : Nat)) (.slice aL m cL) (.slice aS m cS) X ∧ X.ownsRow (w.heap.size + 1) 3 1 u8 k (vals (mk (el q) k)) ∧ w.heap.size + 1 ≤ X.heap.size) := ⟨_, fun _ => Iff.rfl⟩
      have pup : ∀ X Y, P0 X → Below X.heap.size X Y → P0 Y := fun X Y hX hb => by
        obtain ⟨x1, x2, x3⟩ := (hP0 X).1 hX
        exact (hP0 Y).2 ⟨x1.call hb, own_keep x2 (fun g hg => hb.block g (x2.lt g hg).2), Nat.le_trans x3 hb.size⟩
      have hS : ∀ X, P0 X → (X.cell? ⟨w.heap.size, 0, none⟩ = some (.int .i64 (wn : Nat)) ∧ X.cell? ⟨w.heap.size, 1, none⟩ = some (.int .i64 (hn : Nat)) ∧ X.cell? ⟨w.heap.size, 2, none⟩ = some (.slice aL m cL) ∧ X.cell? ⟨w.heap.size, 3, none⟩ = some (.slice aS m cS)) := fun X hX => by
        obtain ⟨x1, _⟩ := (hP0 X).1 hX
        exact ⟨x1.2.c0, x1.2.c1, x1.2.c2, x1.2.c3⟩
      have d57 := fun X (hX : P0 X) => c57.out k hlt X
      have d71 := fun X A c (hX : P0 X) => c71.out k hlt X A c ((hP0 X).1 hX).1
      have d54 := fun X A c (hX : P0 X) => c54.out k hlt X A c ((hP0 X).1 hX).1
      have h0 : P0 (World.drew _) := pup _ _ ((hP0 wr).2 ⟨hX, hown, hsz⟩) (dr.out _)
      have k0 := hS _ h0
      have hsn : vals (mk (el q) (k + 1)) = vals (mk (el q) k) ++ [.int .i64 (el q k)] := vals_snoc (el q) k
      have rest : ∀ X g cap w1, P0 X → w1.ownsRow (w.heap.size + 1) 3 1 (.slice (some ⟨g, 0, none⟩) (k + 1) cap) (k + 1) (vals (mk (el q) k) ++ [.int .i64 (el q k)]) → X.grownBy w1 u8.ownBlock →
          (w1.cell? ⟨w.heap.size, 0, none⟩ = some (.int .i64 (wn : Nat)) ∧ w1.cell? ⟨w.heap.size, 1, none⟩ = some (.int .i64 (hn : Nat)) ∧ w1.cell? ⟨w.heap.size, 2, none⟩ = some (.slice aL m cL) ∧ w1.cell? ⟨w.heap.size, 3, none⟩ = some (.slice aS m cS)) ∧ LWB w (.int .i64 (wn : Nat)) (.int .i64 (hn : Nat)) (.slice aL m cL) (.slice aS m cS) w1 ∧ w1.ownsRow (w.heap.size + 1) 3 1 (.slice (some ⟨g, 0, none⟩) (k + 1) cap) (k + 1) (vals (mk (el q) (k + 1))) ∧ w.heap.size + 1 ≤ w1.heap.size := fun X g cap w1 hX ho hg => by
        obtain ⟨x1, x2, x3⟩ := (hP0 X).1 hX
        have hr : ∀ x, u8.ownBlock = some x → w.heap.size + 1 ≤ x := fun x hx => (x2.lt x hx).1
        have hq : Quad w1 w.heap.size (.int .i64 (wn : Nat)) (.int .i64 (hn : Nat)) (.slice aL m cL) (.slice aS m cS) := (hg.block _ x1.2.lt (fun e => by have := hr _ e.symm; omega)).trans x1.2
        exact ⟨⟨hq.c0, hq.c1, hq.c2, hq.c3⟩, ⟨x1.1.grown hg x1.1.size (fun x hx => by have := hr x hx; omega), hq⟩, by rw [hsn]; exact ho, Nat.le_trans x3 hg.size⟩
      have ow : ∀ X, P0 X → X.ownsRow (w.heap.size + 1) 3 1 u8 k (vals (mk (el q) k)) := fun X hX => ((hP0 X).1 hX).2.1
      have sz : ∀ X, P0 X → w.heap.size + 1 ≤ X.heap.size := fun X hX => ((hP0 X).1 hX).2.2
      generalize el q k = x0 at *
      replace d57 := Lib.hid d57
      replace d71 := Lib.hid d71
      replace d54 := Lib.hid d54
      replace pup := Lib.hid pup
      replace hS := Lib.hid hS
      replace rest := Lib.hid rest
      replace ow := Lib.hid ow
      replace sz := Lib.hid sz
      replace hsn := Lib.hid hsn
      replace hP0 := Lib.hid hP0
      clear hown hX
      go_wp2
      go_region_held_law (fun X => (X.cell? ⟨w.heap.size, 0, none⟩ = some (.int .i64 (wn : Nat)) ∧ X.cell? ⟨w.heap.size, 1, none⟩ = some (.int .i64 (hn : Nat)) ∧ X.cell? ⟨w.heap.size, 2, none⟩ = some (.slice aL m cL) ∧ X.cell? ⟨w.heap.size, 3, none⟩ = some (.slice aS m cS)))
        (first | with_reducible exact k0 | with_reducible exact k1 | with_reducible exact k2 | with_reducible exact k3 | with_reducible exact k4 | with_reducible exact k5)
        (first
          | (go_simp; go_at_call 57; refine (d57.out _ h0).mono ?_; rintro e X1 ⟨A1, c1, rfl, hb1, r1⟩; have h1 := pup.out _ _ h0 hb1; have k1 := hS.out _ h1)
          | (go_simp; go_at_call 71; refine (d71.out _ A1 c1 h1 r1).mono ?_; rintro e X2 ⟨A2, c2, rfl, hb2, r2⟩; have h2 := pup.out _ _ h1 hb2; have k2 := hS.out _ h2)
          | (go_simp; go_at_call 54; refine (d54.out _ A2 c2 h2 r2).mono ?_; rintro e X3 ⟨rfl, hb3⟩; have h3 := pup.out _ _ h2 hb3; have k3 := hS.out _ h3; have h4 := pup.out _ _ h3 (ba1 X3 (.cells #[.int .i64 x0] 3)); have k4 := hS.out _ h4; have own4 := ow.out _ h4; have sz4 := sz.out _ h3; have news4 : ∀ j u, [Value.int .i64 x0][j]? = some u → (X3.alloc (.cells #[.int .i64 x0] 3)).cell? ((⟨X3.heap.size, 0, none⟩ : Addr).add j) = some u := World.news_of_block (w := X3.alloc (.cells #[.int .i64 x0] 3)) (World.alloc_heap_new X3 (.cells #[.int .i64 x0] 3)))
          | (refine step_append_lies _ rfl (.tmp 34) (.tmp 43) 26 rfl (w.heap.size + 1) 3 i3 (.int .i64 0) 1 8 Tryd.underlying26 ji.out jz0.out jz1.out jz2.out rfl (by decide) _ k _ rfl own4 ⟨X3.heap.size, 0, none⟩ 1 1 [.int .i64 x0] rfl rfl news4 (fun u hu => by cases List.mem_singleton.1 hu; rfl) (by omega) (by unfold maxLen; omega) (by omega) (by simp; omega) _ rfl ?_; intro g cap w1 hown1 hgrow hat hlt1; obtain ⟨k5, z2, z3, z4⟩ := rest.out _ g cap w1 h4 hown1 hgrow; clear hown1 hgrow hat hlt1))
      go_wp2
      go_roundw
      case rel => exact ⟨k + 1, by omega, by go_num, z2, z3, z4⟩
      case measure => simp [intOf]; omega
    · have hk' : k = m + 1 := by omega
      subst hk'
      have hqq : mk (el q) (m + 1) = q := by rw [← hql.out]; exact mk_self q
      rw [hqq] at hown
      have hlq : (m + 1 : Nat) = q.length := hql.out.symm
      obtain ⟨A, c, rfl, hr⟩ := own_row (base := w.heap.size + 1) (l := q) (by rw [← hlq]; exact hown) (by omega)
      have hbb := hX.1
      rw [← hlq]
      clear hX hown hqq
      replace hlq := Lib.hid hlq
      replace hbb := Lib.hid hbb
      replace hr := Lib.hid hr
      go_wp2
      go_ret2
      exact ⟨A, c, by show _ = Ending.returned (.tuple #[.slice A q.length c, _]); rw [← hlq.out]; rfl, hbb.out, hr.out⟩

theorem BeforeR_any (B : Nat) (W H : Int) (aL aS aP : Option Addr) (cL cS cP : Nat) (L : List Bool) (n : Nat) (S P : List Int) (N : Int) (w : World) (h : BayIn w B aL L aS n S) (hP : Row w B aP P) (hB : B ≤ w.heap.size) :
    Calls Tryd.prog 37 #[.agg #[.int .i64 W, .int .i64 H, .slice aL L.length cL, .slice aS n cS], .slice aP P.length cP, .int .i64 N] w (LstRes w (befR W H L n S P N)) := by
  cases hv : validB W H L n S with
  | false =>
    have hr : befR W H L n S P N = ([], 20) := by unfold befR; rw [hv]; rfl
    rw [hr]
    exact BeforeR_bad B W H aL aS aP cL cS cP L n S P N w h hP hB 20 (.inl ⟨hv, rfl⟩)
  | true =>
  cases hp : pricesB L.length P with
  | false =>
    have hr : befR W H L n S P N = ([], 2) := by unfold befR; rw [hv, hp]; rfl
    rw [hr]
    exact BeforeR_bad B W H aL aS aP cL cS cP L n S P N w h hP hB 2 (.inr (.inl ⟨hv, hp, rfl⟩))
  | true =>
  by_cases hN : 0 ≤ N ∧ N ≤ 5
  · have hmv : movesB N = true := by unfold movesB; simp [hN]
    obtain ⟨wn, hn, rfl, rfl, rfl, hLl, hBay⟩ := bay_of (val_of hv) h.share.2.1
    obtain ⟨mn, rfl⟩ : ∃ m : Nat, N = m := ⟨N.toNat, by omega⟩
    have hr : befR wn hn L (wn * hn) S P mn = (bf wn hn L S mn P, 0) := by unfold befR; rw [hv, hp, hmv]; simp
    rw [hr]
    have hpl := (prices_of hp).1
    rw [hLl] at hp hpl
    have h1 := BeforeR_ok B wn hn aL aS aP cL cS cP L S P mn w h hP hB hBay hv hp (by omega)
    rw [hLl, hpl]
    exact h1
  · have hmv : movesB N = false := by unfold movesB; simp; omega
    have hr : befR W H L n S P N = ([], 2) := by unfold befR; rw [hv, hp, hmv]; rfl
    rw [hr]
    exact BeforeR_bad B W H aL aS aP cL cS cP L n S P N w h hP hB 2 (.inr (.inr ⟨hv, hp, by omega, rfl⟩))
end Go.Proofs.YtnbgjgiknfcdkaaDoor
