/-
  Claims less losses, half awards, equal losses, the old rule: the program's functions.
-/
import Derived.Test.YthleekdkbgnabaaL
namespace Go.Proofs.Ythleekdkbgnabaa
open Go.RowKit Go.Deep M
set_option linter.unusedVariables false
set_option linter.unusedSimpArgs false

namespace M
theorem mi_ls {l : List Int} {f : Nat → Rt} {i : Nat} : miR ⟨el l i, 1⟩ (f i) = lsL l f i := by
  unfold miR lsL
  simp only [Int.mul_one, Int.one_mul]
/-- Awards whose losses, and halves, can be told. -/
def midR (a : Rt) : Prop := (-1000000 ≤ a.n ∧ a.n ≤ 1000000) ∧ 1 ≤ a.d ∧ a.d ≤ 1000000
end M
theorem AwW.wide {w X : World} {n g : Nat} {f : Nat → Rt} (h : AwW X n g f X) : g < X.heap.size := h.blk.lt

set_option maxRecDepth 100000 in
set_option maxHeartbeats 4000000 in
theorem less_any (B : Nat) (A : Option Addr) (c c' gl : Nat) (l : List Int) (f : Nat → Rt) (w : World) (h : Row w B A l) (hB : B ≤ w.heap.size) (hv : vC l) (hf : BlR w gl l.length f) (hmid : ∀ i, i < l.length → midR (f i)) :
    Calls Try.prog 127 #[.slice A l.length c, .slice (some ⟨gl, 0, none⟩) l.length c'] w fun r w' => ∃ g, r = .returned (.slice (some ⟨g, 0, none⟩) l.length l.length) ∧ AwW w l.length g (lsL l f) w' := by
  have h63 := h.1
  have hn := val_len hv
  have hat := fun X (hX : Below w.heap.size w X) k (hk : k < l.length) => (h.below (hX.mono hB)).at_ k hk
  have hx := fun k (hkl : k < l.length) => hv.2 k hkl
  have hmk := run_mkR w l.length (by omega)
  have hls := fun k => @mi_ls l f k
  have hgl := hf.lt
  have hfc := fun X (hX : Below w.heap.size w X) => hf.to (hX.block _ hgl)
  have hW0 : AwW w l.length w.heap.size (fun _ => ⟨0, 0⟩) (mkR w l.length) := ⟨mkR_below _ _, Nat.le_refl _, mkR_blk _ _⟩
  generalize lsL l f = F at *
  generalize l.length = n at *
  have kr := fun X (x : Int) (hx : okC x) => ratio_any x 1 X (by unfold okC at hx; omega) (by omega)
  have ks := fun X (x : Int) (hx : okC x) (q : Rt) (hq : midR q) => minus_any ⟨x, 1⟩ q X (by
    unfold okC at hx
    unfold smallR; simp only; omega) (by unfold midR at hq; unfold smallR; omega)
  obtain ⟨g, hg⟩ : ∃ g, g = w.heap.size := ⟨_, rfl⟩
  rw [← hg] at hmk hW0
  have hne : gl ≠ g := by omega
  obtain ⟨Y, hY⟩ : ∃ Y, Y = mkR w n := ⟨_, rfl⟩
  rw [← hY] at hmk hW0
  have hW1 := Lib.hid (hW0.start (F := F))
  clear hW0
  replace hg := Lib.hid hg
  replace hY := Lib.hid hY
  replace hat := Lib.hid hat
  replace hx := Lib.hid hx
  replace hls := Lib.hid hls
  replace hfc := Lib.hid hfc
  replace hf := Lib.hid hf
  replace hgl := Lib.hid hgl
  replace hmid := Lib.hid hmid
  replace kr := Lib.hid kr
  replace ks := Lib.hid ks
  replace h := Lib.hid h
  replace hv := Lib.hid hv
  obtain ⟨hn1, hn8⟩ := hn
  go_enter Try.func127, Try.ntmps127
  go_wp2
  go_loopw [13, 6, 7] (fun i _ _ wr => ∃ k : Nat, k ≤ n ∧ i = .int .i64 (k : Nat) ∧ AwW w n g (upto k F fun _ => ⟨0, 0⟩) wr) (fun i _ _ _ => n - (intOf i).toNat)
  case atStart => exact ⟨0, by omega, rfl, hW1.out⟩
  case round =>
    clear hW1
    obtain ⟨k, hkk, rfl, hW⟩ := hrel
    by_cases hkn : k < n
    · obtain ⟨b, o, rfl, hb', e0⟩ := hat.out wr hW.below k hkn
      have hxk := hx.out k hkn
      have hF := hls.out k
      have hmq := hmid.out k hkn
      have k70 := fun X => kr.out X _ hxk
      have k78 := fun X => ks.out X _ hxk _ hmq
      rw [hF] at k78
      rw [mk_one] at k70
      unfold rtV at k70 k78
      simp only at k70 k78
      have hS : ∀ X, Below wr.heap.size wr X → X.cell? ⟨gl, k * 2, none⟩ = some (.int .i64 (f k).n) ∧ X.cell? ⟨gl, k * 2 + 1, none⟩ = some (.int .i64 (f k).d) := fun X hX => by
        have q := hfc.out X (bel_trans hW.below hX)
        exact ⟨q.c0 hkn, q.c1 hkn⟩
      have hS3 : ∀ X, Below wr.heap.size wr X → ((X.setCell ⟨g, k * 2, none⟩ (.int .i64 (F k).n)).setCell ⟨g, k * 2 + 1, none⟩ (.int .i64 (F k).d)).cell? ⟨gl, k * 2, none⟩ = some (.int .i64 (f k).n) ∧ ((X.setCell ⟨g, k * 2, none⟩ (.int .i64 (F k).n)).setCell ⟨g, k * 2 + 1, none⟩ (.int .i64 (F k).d)).cell? ⟨gl, k * 2 + 1, none⟩ = some (.int .i64 (f k).d) := fun X hX => by
        have q := (hfc.out X (bel_trans hW.below hX)).to ((setCell_far (X := X.setCell ⟨g, k * 2, none⟩ (.int .i64 (F k).n)) (k := k * 2 + 1) (v := .int .i64 (F k).d) hne).trans (setCell_far hne))
        exact ⟨q.c0 hkn, q.c1 hkn⟩
      have hcel : ∀ X, Below wr.heap.size wr X → X.cell? ⟨g, k * 2, none⟩ = some (.int .i64 0) ∧ X.cell? ⟨g, k * 2 + 1, none⟩ = some (.int .i64 0) ∧ X.frozen? ⟨g, k * 2, none⟩ = false ∧ X.frozen? ⟨g, k * 2 + 1, none⟩ = false := fun X hX => (hW.up hX).cells hkn
      have hfin : ∀ X, Below wr.heap.size wr X → AwW w n g (upto (k + 1) F fun _ => ⟨0, 0⟩) ((X.setCell ⟨g, k * 2, none⟩ (.int .i64 (F k).n)).setCell ⟨g, k * 2 + 1, none⟩ (.int .i64 (F k).d)) := fun X hX => (hW.up hX).step hkn
      have hlt := hW.blk.lt
      have hkn2 : (k : Int) < (n : Int) := by omega
      generalize el l k = x at *
      generalize F k = Q at *
      generalize f k = q at *
      replace hS := Lib.hid hS
      replace hS3 := Lib.hid hS3
      replace hcel := Lib.hid hcel
      replace hfin := Lib.hid hfin
      replace k70 := Lib.hid k70
      replace k78 := Lib.hid k78
      replace hW := Lib.hid hW
      replace hF := Lib.hid hF
      replace hxk := Lib.hid hxk
      replace hmq := Lib.hid hmq
      go_wp2
      go_region_held3 (fun X => X.cell? ⟨gl, k * 2, none⟩ = some (.int .i64 q.n) ∧ X.cell? ⟨gl, k * 2 + 1, none⟩ = some (.int .i64 q.d)) (first | with_reducible exact hS.out _ (by assumption) | with_reducible exact hS3.out _ (by assumption) | exact hS.out _ (below_drewN (Below.refl _ _) 1)) (first | (go_at_call 70; refine (k70.out _).mono ?_; rintro e X4 ⟨rfl, hb4⟩; have hb5 : Below wr.heap.size wr X4 := (below_drewN (Below.refl wr.heap.size wr) 1).trans hb4) | (go_at_call 78; refine (k78.out _).mono ?_; rintro e X5 ⟨rfl, hb6⟩; have hb7 : Below wr.heap.size wr X5 := bel_trans hb5 hb6; obtain ⟨z0, z1, z2, z3⟩ := hcel.out X5 hb7; have hf5 := Lib.hid (hfin.out X5 hb7)))
      all_goals
        go_wp2
        go_roundw
        case rel => exact ⟨k + 1, by omega, by go_num, hf5.out⟩
        case measure => simp [intOf]; omega
    · have : k = n := by omega
      subst this
      have hfin := Lib.hid hW.fin
      replace hW := Lib.hid hW
      go_wp2
      go_ret
      exact ⟨g, rfl, hfin.out⟩

set_option maxRecDepth 100000 in
set_option maxHeartbeats 4000000 in
theorem half_any (B : Nat) (A : Option Addr) (c : Nat) (l : List Int) (e : Int) (w : World) (h : Row w B A l) (hB : B ≤ w.heap.size) (hk : okE l (2 * e)) :
    Calls Try.prog 128 #[.slice A l.length c, .int .i64 e] w fun r w' => ∃ g, r = .returned (.slice (some ⟨g, 0, none⟩) l.length l.length) ∧ AwW w l.length g (hvL (eqL l (2 * e))) w' := by
  have hn := val_len hk.1
  have hsm := sm_b hk.1
  have ke := eqAw_any B A c l (2 * e) w h hB hk
  have hb := fun i (hi : i < l.length) => eqL_b hk.1 hk.2 hi
  have hhv : ∀ i, hvL (eqL l (2 * e)) i = mk (eqL l (2 * e) i).n (2 * (eqL l (2 * e) i).d) := fun i => rfl
  have he := hk.2
  generalize hvL (eqL l (2 * e)) = F at *
  generalize eqL l (2 * e) = f at *
  generalize sm l = S at *
  generalize l.length = n at *
  have kr := fun X i (hi : i < n) => ratio_any (f i).n (2 * (f i).d) X (by have := hb i hi; omega) (by have := hb i hi; omega)
  obtain ⟨e2, he2⟩ : ∃ x, x = 2 * e := ⟨_, rfl⟩
  have w1 : IntKind.i64.wrap (2 * e) = e2 := by rw [← he2]; exact IntWalk.i64_in _ (by omega)
  rw [← he2] at ke
  replace he2 := Lib.hid he2.symm
  replace hhv := Lib.hid hhv
  replace hb := Lib.hid hb
  replace ke := Lib.hid ke
  replace kr := Lib.hid kr
  replace h := Lib.hid h
  replace hk := Lib.hid hk
  replace he := Lib.hid he
  obtain ⟨hn1, hn8⟩ := hn
  replace hsm := Lib.hid hsm
  go_enter Try.func128, Try.ntmps128
  go_wp2_with fail
  try rw [he2.out]
  refine ke.out.mono ?_
  rintro _ X1 ⟨g, rfl, hW0⟩
  have hW1 := Lib.hid (hW0.start (F := F))
  clear hW0
  go_wp2
  go_loopw [14, 6, 7] (fun i _ _ wr => ∃ k : Nat, k ≤ n ∧ i = .int .i64 (k : Nat) ∧ AwW w n g (upto k F f) wr) (fun i _ _ _ => n - (intOf i).toNat)
  case atStart => exact ⟨0, by omega, rfl, hW1.out⟩
  case round =>
    clear hW1
    obtain ⟨k, hkk, rfl, hW⟩ := hrel
    by_cases hkn : k < n
    · obtain ⟨y0, y1, y2, y3⟩ := hW.cells hkn
      have hF := hhv.out k
      have hbk := hb.out k hkn
      have kk := fun X => kr.out X k hkn
      rw [← hF] at kk
      unfold rtV at kk
      have hlt := hW.blk.lt
      have hbx := Bxr.new wr (f k).n (f k).d
      have hba := ba1 wr (.cells #[.int .i64 (f k).n, .int .i64 (f k).d] 37)
      have hW2 := hW.up hba
      obtain ⟨Y, hY⟩ : ∃ Y, Y = wr.alloc (.cells #[.int .i64 (f k).n, .int .i64 (f k).d] 37) := ⟨_, rfl⟩
      rw [← hY] at hbx hba hW2
      have hcel : ∀ X, Below Y.heap.size Y X → AwW w n g (upto k F f) X := fun X hX => hW2.up hX
      have b0 := hbx.c0
      have b1 := hbx.c1
      have hYY := Lib.hid hY
      rw [hY] at b0 b1
      clear hY
      have hkn2 : (k : Int) < (n : Int) := by omega
      have kk2 := Lib.hid (kk Y)
      clear kk
      generalize hQ : F k = Q at *
      generalize f k = q at *
      obtain ⟨d2, hd2⟩ : ∃ x, x = 2 * q.d := ⟨_, rfl⟩
      have w2 : IntKind.i64.wrap (2 * q.d) = d2 := by rw [← hd2]; exact IntWalk.i64_in _ (by omega)
      rw [← hd2] at kk2
      replace hd2 := Lib.hid hd2.symm
      replace hQ := Lib.hid hQ
      replace hcel := Lib.hid hcel
      replace hW := Lib.hid hW
      replace hW2 := Lib.hid hW2
      replace hF := Lib.hid hF
      replace hba := Lib.hid hba
      replace hbx := Lib.hid hbx
      replace hbk := Lib.hid hbk
      go_wp2_with fail
      rw [← hYY.out]
      try rw [hd2.out]
      refine kk2.out.mono ?_
      rintro _ X2 ⟨rfl, hb2⟩
      have hW3 := hcel.out X2 hb2
      obtain ⟨z0, z1, z2, z3⟩ := hW3.cells hkn
      have hl3 := hW3.blk.lt
      have hW4 := hW3.step hkn
      rw [hQ.out] at hW4
      replace hW4 := Lib.hid hW4
      replace hW3 := Lib.hid hW3
      replace hb2 := Lib.hid hb2
      go_wp2
      go_roundw
      case rel => exact ⟨k + 1, by omega, by simp, hW4.out⟩
      case measure => simp [intOf]; omega
    · have : k = n := by omega
      subst this
      have hfin := Lib.hid hW.fin
      replace hW := Lib.hid hW
      go_wp2
      go_ret
      exact ⟨g, rfl, hfin.out⟩
end Go.Proofs.Ythleekdkbgnabaa
