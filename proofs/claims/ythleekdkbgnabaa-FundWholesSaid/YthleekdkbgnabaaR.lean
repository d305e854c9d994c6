/-
  Half awards: the specification's function.
-/
import Derived.Test.YthleekdkbgnabaaQ
namespace Go.Proofs.Ythleekdkbgnabaa
open Go.RowKit Go.Deep M
set_option linter.unusedVariables false
set_option linter.unusedSimpArgs false

set_option maxRecDepth 100000 in
set_option maxHeartbeats 4000000 in
theorem halves_ref (B : Nat) (A : Option Addr) (c : Nat) (l : List Int) (e : Int) (w : World) (h : Row w B A l) (hB : B ≤ w.heap.size) (hk : okE l (2 * e)) :
    Calls Try.prog 87 #[.slice A l.length c, .int .i64 e] w fun r w' => ∃ g, r = .returned (.slice (some ⟨g, 0, none⟩) l.length l.length) ∧ AwW w l.length g (hvL (eqL l (2 * e))) w' := by
  have hn := val_len hk.1
  have hsm := sm_b hk.1
  have ke := equal_ref B A c l (2 * e) w h hB hk
  have hb := fun i (hi : i < l.length) => eqL_b hk.1 hk.2 hi
  have hhv : ∀ i, hvL (eqL l (2 * e)) i = mk (eqL l (2 * e) i).n (2 * (eqL l (2 * e) i).d) := fun i => rfl
  have he := hk.2
  generalize hvL (eqL l (2 * e)) = F at *
  generalize eqL l (2 * e) = f at *
  generalize sm l = S at *
  generalize l.length = n at *
  have kr := fun X i (hi : i < n) => Ratio_ref (f i).n (2 * (f i).d) X (by have := hb i hi; omega) (by have := hb i hi; omega)
  obtain ⟨e2, he2⟩ : ∃ x, x = 2 * e := ⟨_, rfl⟩
  have w1 : IntKind.i64.wrap (2 * e) = e2 := by rw [← he2]; exact IntWalk.i64_in _ (by omega)
  rw [← he2] at ke
  replace he2 := Lib.hid he2.symm
  replace hhv := Lib.hid hhv
  replace hb := Lib.hid hb
  replace ke := Lib.hid ke
  replace kr := Lib.hid kr
  replace h := Lib.hid h
  replace hk := Lib.hid hk
  replace he := Lib.hid he
  obtain ⟨hn1, hn8⟩ := hn
  replace hsm := Lib.hid hsm
  go_enter Try.func87, Try.ntmps87
  go_wp2_with fail
  try rw [he2.out]
  refine ke.out.mono ?_
  rintro _ X1 ⟨g, rfl, hW0⟩
  have hW1 := Lib.hid (hW0.start (F := F))
  clear hW0
  go_wp2
  go_loopw [6] (fun i wr => ∃ k : Nat, k ≤ n ∧ i = .int .i64 (k : Nat) ∧ AwW w n g (upto k F f) wr) (fun i _ => n - (intOf i).toNat)
  case atStart => exact ⟨0, by omega, rfl, hW1.out⟩
  case round =>
    clear hW1
    obtain ⟨k, hkk, rfl, hW⟩ := hrel
    by_cases hkn : k < n
    · have hF := hhv.out k
      have hbk := hb.out k hkn
      have kk := fun X => kr.out X k hkn
      rw [← hF] at kk
      unfold rtV at kk
      have hlt := hW.blk.lt
      have hW0 := hW.drewN 1
      have hcel : ∀ X, Below wr.heap.size wr X → AwW w n g (upto k F f) X := fun X hX => hW.up hX
      obtain ⟨y0, y1, y2, y3⟩ := hW0.cells hkn
      have y0' : wr.drew.cell? ⟨g, k * 2, none⟩ = some (.int .i64 (f k).n) := y0
      have y1' : wr.drew.cell? ⟨g, k * 2 + 1, none⟩ = some (.int .i64 (f k).d) := y1
      have hkn2 : (k : Int) < (n : Int) := by omega
      clear y0 y1 y2 y3
      generalize hQ : F k = Q at *
      generalize f k = q at *
      obtain ⟨d2, hd2⟩ : ∃ x, x = 2 * q.d := ⟨_, rfl⟩
      have w2 : IntKind.i64.wrap (2 * q.d) = d2 := by rw [← hd2]; exact IntWalk.i64_in _ (by omega)
      rw [← hd2] at kk
      replace kk := Lib.hid kk
      replace hd2 := Lib.hid hd2.symm
      replace hQ := Lib.hid hQ
      replace hcel := Lib.hid hcel
      replace hW := Lib.hid hW
      replace hW0 := Lib.hid hW0
      replace hF := Lib.hid hF
      replace hbk := Lib.hid hbk
      go_wp2
      go_region_with (go_at_call 72; refine (kk.out _).mono ?_; rintro e X2 ⟨rfl, hb2⟩; have hb3 : Below wr.heap.size wr X2 := (below_drewN (Below.refl wr.heap.size wr) 1).trans hb2; have hW3 := hcel.out X2 hb3; obtain ⟨z0, z1, z2, z3⟩ := hW3.cells hkn; have hl3 := hW3.blk.lt; have hW4 := hW3.step hkn; rw [hQ.out] at hW4; replace hW4 := Lib.hid hW4; replace hW3 := Lib.hid hW3)
      all_goals
        go_wp2
        go_roundw
        case rel => exact ⟨k + 1, by omega, by go_num, hW4.out⟩
        case measure => simp [intOf]; omega
    · have : k = n := by omega
      subst this
      have hfin := Lib.hid hW.fin
      replace hW := Lib.hid hW
      go_wp2
      go_ret
      exact ⟨g, rfl, hfin.out⟩
end Go.Proofs.Ythleekdkbgnabaa
