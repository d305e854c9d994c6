/-
  Equal awards: the program's function.
-/
import Derived.Test.YthleekdkbgnabaaJ
namespace Go.Proofs.Ythleekdkbgnabaa
open Go.RowKit Go.Deep M
set_option linter.unusedVariables false
set_option linter.unusedSimpArgs false

set_option maxRecDepth 100000 in
set_option maxHeartbeats 4000000 in
theorem eqAw_any (B : Nat) (A : Option Addr) (c : Nat) (l : List Int) (e : Int) (w : World) (h : Row w B A l) (hB : B ≤ w.heap.size) (hk : okE l e) :
    Calls Try.prog 110 #[.slice A l.length c, .int .i64 e] w fun r w' => ∃ g, r = .returned (.slice (some ⟨g, 0, none⟩) l.length l.length) ∧ AwW w l.length g (eqL l e) w' := by
  have h63 := h.1
  have hn := val_len hk.1
  have hsm := sm_b hk.1
  have hL := levR_b hk.1 hk.2
  have kl := level_any B A c l e w h hB hk.1 ⟨hk.2.1, by have := hk.2.2; omega⟩
  have hat := fun X (hX : Below w.heap.size w X) k (hk : k < l.length) => (h.below (hX.mono hB)).at_ k hk
  have hx := fun k (hkl : k < l.length) => hk.1.2 k hkl
  have hmk := fun X => run_mkR X l.length (by omega)
  have hle := fun k (hkl : k < l.length) => les_lev hk.1 hk.2 hkl
  generalize hLL : levR (lvl l e) (mx l) = L at *
  generalize eqL l e = F at *
  unfold rtV at kl
  generalize l.length = n at *
  have kr := fun X (x : Int) (hx : okC x) => ratio_any x 1 X (by unfold okC at hx; omega) (by omega)
  have ks := fun X (x : Int) (hx : okC x) => lesser_any ⟨x, 1⟩ L X (by
    unfold okC at hx
    have := prod_b (a := x) (b := L.d) (x := 1000) (y := 8) (by omega) (by omega) (by omega)
    unfold fitP; simp only; omega) (by unfold fitP; simp only; omega)
  replace hLL := Lib.hid hLL
  replace hL := Lib.hid hL
  replace kl := Lib.hid kl
  replace hat := Lib.hid hat
  replace hx := Lib.hid hx
  replace hle := Lib.hid hle
  replace kr := Lib.hid kr
  replace ks := Lib.hid ks
  replace h := Lib.hid h
  replace hk := Lib.hid hk
  obtain ⟨hn1, hn8⟩ := hn
  replace hsm := Lib.hid hsm
  go_enter Try.func110, Try.ntmps110
  go_wp2_with fail
  refine kl.out.mono ?_
  rintro _ X1 ⟨rfl, hb1⟩
  have hbx := Bxr.new X1 L.n L.d
  have hbx1 := ba1 X1 (.cells #[.int .i64 L.n, .int .i64 L.d] 37)
  have hsz : (X1.alloc (.cells #[.int .i64 L.n, .int .i64 L.d] 37)).heap.size = X1.heap.size + 1 := by simp
  have hm := hmk (X1.alloc (.cells #[.int .i64 L.n, .int .i64 L.d] 37))
  have hmb := mkR_below (X1.alloc (.cells #[.int .i64 L.n, .int .i64 L.d] 37)) n
  have hmm := mkR_blk (X1.alloc (.cells #[.int .i64 L.n, .int .i64 L.d] 37)) n
  rw [hsz] at hm hmm
  obtain ⟨g, hg⟩ : ∃ g, g = X1.heap.size + 1 := ⟨_, rfl⟩
  obtain ⟨b0, hb0⟩ : ∃ g, g = X1.heap.size := ⟨_, rfl⟩
  rw [← hg] at hm hmm
  rw [← hb0] at hbx
  have hW0 : AwW w n g (fun _ => ⟨0, 0⟩) (mkR (X1.alloc (.cells #[.int .i64 L.n, .int .i64 L.d] 37)) n) := ⟨bel_trans (bel_trans hb1 hbx1) hmb, by have := hb1.size; omega, hmm⟩
  have hbx2 := hbx.up hmb
  obtain ⟨Y, hY⟩ : ∃ Y, Y = mkR (X1.alloc (.cells #[.int .i64 L.n, .int .i64 L.d] 37)) n := ⟨_, rfl⟩
  rw [← hY] at hm hW0 hbx2
  have hne : b0 ≠ g := by omega
  have hW1 := Lib.hid (And.intro (hW0.start (F := F)) hbx2)
  clear hmk
  replace hbx := Lib.hid hbx
  replace hbx1 := Lib.hid hbx1
  replace hsz := Lib.hid hsz
  replace hmb := Lib.hid hmb
  replace hmm := Lib.hid hmm
  replace hg := Lib.hid hg
  replace hY := Lib.hid hY
  replace hb1 := Lib.hid hb1
  have hb0' := Lib.hid hb0.symm
  replace hb0 := Lib.hid hb0
  clear hW0 hbx2
  go_wp2
  rw [hb0'.out]
  go_loopw [17, 7, 8] (fun i _ _ wr => ∃ k : Nat, k ≤ n ∧ i = .int .i64 (k : Nat) ∧ AwW w n g (upto k F fun _ => ⟨0, 0⟩) wr ∧ Bxr wr b0 L.n L.d) (fun i _ _ _ => n - (intOf i).toNat)
  case atStart => exact ⟨0, by omega, rfl, hW1.out⟩
  case round =>
    clear hW1
    obtain ⟨k, hkk, rfl, hW, hbx⟩ := hrel
    by_cases hkn : k < n
    · obtain ⟨b, o, rfl, hb', e0⟩ := hat.out wr hW.below k hkn
      have hxk := hx.out k hkn
      have hF := hle.out k hkn
      have k70 := fun X => kr.out X _ hxk
      have k126 := fun X => ks.out X _ hxk
      rw [hF] at k126
      rw [mk_one] at k70
      unfold rtV at k70 k126
      simp only at k70 k126
      have hS : ∀ X, Below wr.heap.size wr X → X.cell? ⟨b0, 0, none⟩ = some (.int .i64 L.n) ∧ X.cell? ⟨b0, 1, none⟩ = some (.int .i64 L.d) := fun X hX => ⟨(hbx.up hX).c0, (hbx.up hX).c1⟩
      have hS3 : ∀ X, Below wr.heap.size wr X → ((X.setCell ⟨g, k * 2, none⟩ (.int .i64 (F k).n)).setCell ⟨g, k * 2 + 1, none⟩ (.int .i64 (F k).d)).cell? ⟨b0, 0, none⟩ = some (.int .i64 L.n) ∧ ((X.setCell ⟨g, k * 2, none⟩ (.int .i64 (F k).n)).setCell ⟨g, k * 2 + 1, none⟩ (.int .i64 (F k).d)).cell? ⟨b0, 1, none⟩ = some (.int .i64 L.d) := fun X hX => by
        have q := (hbx.up hX).to ((setCell_far (X := X.setCell ⟨g, k * 2, none⟩ (.int .i64 (F k).n)) (k := k * 2 + 1) (v := .int .i64 (F k).d) hne).trans (setCell_far hne))
        exact ⟨q.c0, q.c1⟩
      have hcel : ∀ X, Below wr.heap.size wr X → X.cell? ⟨g, k * 2, none⟩ = some (.int .i64 0) ∧ X.cell? ⟨g, k * 2 + 1, none⟩ = some (.int .i64 0) ∧ X.frozen? ⟨g, k * 2, none⟩ = false ∧ X.frozen? ⟨g, k * 2 + 1, none⟩ = false := fun X hX => (hW.up hX).cells hkn
      have hfin : ∀ X, Below wr.heap.size wr X → AwW w n g (upto (k + 1) F fun _ => ⟨0, 0⟩) ((X.setCell ⟨g, k * 2, none⟩ (.int .i64 (F k).n)).setCell ⟨g, k * 2 + 1, none⟩ (.int .i64 (F k).d)) ∧ Bxr ((X.setCell ⟨g, k * 2, none⟩ (.int .i64 (F k).n)).setCell ⟨g, k * 2 + 1, none⟩ (.int .i64 (F k).d)) b0 L.n L.d := fun X hX =>
        ⟨(hW.up hX).step hkn, (hbx.up hX).to ((setCell_far (X := X.setCell ⟨g, k * 2, none⟩ (.int .i64 (F k).n)) (k := k * 2 + 1) (v := .int .i64 (F k).d) hne).trans (setCell_far hne))⟩
      have hlt := hW.blk.lt
      have hkn2 : (k : Int) < (n : Int) := by omega
      generalize el l k = x at *
      generalize F k = Q at *
      replace hS := Lib.hid hS
      replace hS3 := Lib.hid hS3
      replace hcel := Lib.hid hcel
      replace hfin := Lib.hid hfin
      replace k70 := Lib.hid k70
      replace k126 := Lib.hid k126
      replace hW := Lib.hid hW
      replace hbx := Lib.hid hbx
      replace hF := Lib.hid hF
      replace hxk := Lib.hid hxk
      go_wp2
      go_region_held3 (fun X => X.cell? ⟨b0, 0, none⟩ = some (.int .i64 L.n) ∧ X.cell? ⟨b0, 1, none⟩ = some (.int .i64 L.d)) (first | with_reducible exact hS.out _ (by assumption) | with_reducible exact hS3.out _ (by assumption) | exact hS.out _ (below_drewN (Below.refl _ _) 1)) (first | (go_at_call 70; refine (k70.out _).mono ?_; rintro e X4 ⟨rfl, hb4⟩; have hb5 : Below wr.heap.size wr X4 := (below_drewN (Below.refl wr.heap.size wr) 1).trans hb4) | (go_at_call 126; refine (k126.out _).mono ?_; rintro e X5 ⟨rfl, hb6⟩; have hb7 : Below wr.heap.size wr X5 := bel_trans hb5 hb6; obtain ⟨z0, z1, z2, z3⟩ := hcel.out X5 hb7; have hf5 := Lib.hid (hfin.out X5 hb7)))
      all_goals
        go_wp2
        go_roundw
        case rel => exact ⟨k + 1, by omega, by go_num, hf5.out.1, hf5.out.2⟩
        case measure => simp [intOf]; omega
    · have : k = n := by omega
      subst this
      have hfin := Lib.hid hW.fin
      replace hW := Lib.hid hW
      replace hbx := Lib.hid hbx
      go_wp2
      go_ret
      exact ⟨g, rfl, hfin.out⟩
end Go.Proofs.Ythleekdkbgnabaa
