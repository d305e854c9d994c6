/-
  'Mirrored' of the specification: the numbers of cells mirrored left to right.
-/
import Derived.Test.YtnbgjgiknfcdkaaDoorT
import Derived.Test.YtnbgjgiknfcdkaaDoorMm
import Derived.Deep.RegionHeldLaw
import Derived.Deep.AppendLies
namespace Go.Proofs.YtnbgjgiknfcdkaaDoor
open Go.RowKit Go.Deep M
set_option linter.unusedVariables false
set_option linter.unusedSimpArgs false

theorem mk_snoc (F : Nat → Int) (n : Nat) : mk F (n + 1) = mk F n ++ [F n] := by simp [mk, List.range_succ]
theorem vals_snoc (F : Nat → Int) (n : Nat) : vals (mk F (n + 1)) = vals (mk F n) ++ [.int .i64 (F n)] := by rw [mk_snoc]; simp [vals]
theorem quad_drewN {w : World} {b : Nat} {x y z u : Value} (h : Quad w b x y z u) (n : Nat) : Quad (w.drewN n) b x y z u := h
theorem quad_grown {w w' : World} {b : Nat} {x y z u : Value} {row : Option Nat} (h : Quad w b x y z u) (hg : w.grownBy w' row) (hr : ∀ k, row = some k → k ≠ b) : Quad w' b x y z u :=
  (hg.block b h.lt (fun e => hr b e.symm rfl)).trans h

set_option maxHeartbeats 4000000 in
set_option maxRecDepth 100000 in
theorem Mirrored_ref (B : Nat) (wn hn : Nat) (vl vs : Value) (A : Option Addr) (c : Nat) (O : List Int) (w : World) (hw : 1 ≤ wn ∧ wn ≤ 6) (hh : 1 ≤ hn ∧ hn ≤ 6) (hO : Row w B A O) (hB : B ≤ w.heap.size) (hl : O.length = wn * hn) :
    Calls Tryd.prog 58 #[.agg #[.int .i64 (wn : Nat), .int .i64 (hn : Nat), vl, vs], .slice A O.length c] w (NewOwn w (mO wn O.length O)) := by
  obtain ⟨i3, ji, jz0, jz1, jz2⟩ := info_parts info3
  replace ji := Lib.hid ji
  replace jz0 := Lib.hid jz0
  replace jz1 := Lib.hid jz1
  replace jz2 := Lib.hid jz2
  have h36 : O.length ≤ 36 := by rw [hl]; exact Nat.mul_le_mul hw.2 hh.2
  have hmi : ∀ k, k < O.length → mi wn k < O.length := fun k hk => by rw [hl] at hk ⊢; exact mi_lt hw.1 hk
  replace hl := Lib.hid hl
  replace hmi := Lib.hid hmi
  have hq := Quad.new w (.int .i64 (wn : Nat)) (.int .i64 (hn : Nat)) vl vs
  have hst := World.ownsRow_nil (w.alloc (.cells #[.int .i64 (wn : Nat), .int .i64 (hn : Nat), vl, vs] 25)) (w.heap.size + 1) 3 1
  replace hq := Lib.hid hq
  replace hst := Lib.hid hst
  go_enter Tryd.func58, Tryd.ntmps58
  go_wp2
  go_loopw [5, 6] (fun v i wr => ∃ k : Nat, k ≤ O.length ∧ i = .int .i64 k ∧ Below w.heap.size w wr ∧ w.heap.size < wr.heap.size ∧ Quad wr w.heap.size (.int .i64 (wn : Nat)) (.int .i64 (hn : Nat)) vl vs ∧ wr.ownsRow (w.heap.size + 1) 3 1 v k (vals (mO wn k O))) (fun _ i _ => O.length - (intOf i).toNat)
  case atStart => exact ⟨0, Nat.zero_le _, rfl, ba1 _ _, by simp, hq.out, hst.out⟩
  case round =>
    obtain ⟨k, hk, rfl, hbw, hsz, hqd, hown⟩ := hrel
    by_cases hlt : k < O.length
    · obtain ⟨b, o, rfl, hb, hc⟩ := (hO.below (hbw.mono hB)).at_ (mi wn k) (hmi.out k hlt)
      have hkI : (k : Int) < (O.length : Nat) := by omega
      obtain ⟨m, hm⟩ : ∃ m, m = k % wn := ⟨_, rfl⟩
      have hm1 : m < wn := by rw [hm]; exact Nat.mod_lt _ (by omega)
      have hm2 : m ≤ k := by rw [hm]; exact Nat.mod_le _ _
      have hmt : (k : Int).tmod (wn : Nat) = (m : Nat) := by rw [hm, Int.tmod_eq_emod_of_nonneg (by omega), Int.natCast_emod]
      have hmk : k - m + wn - 1 - m = mi wn k := by
        have e := Nat.div_add_mod k wn
        unfold mi
        rw [Nat.mul_comm] at e
        rw [hm] at hm1 ⊢
        generalize k / wn * wn = q at *
        omega
      have hml : mi wn k < O.length := hmi.out k hlt
      obtain ⟨r1, hr1⟩ : ∃ r : Nat, r = k - m := ⟨_, rfl⟩
      obtain ⟨r2, hr2⟩ : ∃ r : Nat, r = r1 + wn := ⟨_, rfl⟩
      obtain ⟨r3, hr3⟩ : ∃ r : Nat, r = r2 - 1 := ⟨_, rfl⟩
      have w1 : IntKind.i64.wrap ((k : Int) - (m : Nat)) = (r1 : Nat) := by rw [IntWalk.i64_in _ (by omega)]; omega
      have w2 : IntKind.i64.wrap ((r1 : Int) + (wn : Nat)) = (r2 : Nat) := by rw [IntWalk.i64_in _ (by omega)]; omega
      have w3 : IntKind.i64.wrap ((r2 : Int) - 1) = (r3 : Nat) := by rw [IntWalk.i64_in _ (by omega)]; omega
      have w4 : IntKind.i64.wrap ((r3 : Int) - (m : Nat)) = (mi wn k : Nat) := by rw [IntWalk.i64_in _ (by omega)]; omega
      have hs : vals (mO wn (k + 1) O) = vals (mO wn k O) ++ [.int .i64 (el O (mi wn k))] := vals_snoc _ _
      generalize hmi0 : mi wn k = q at *
      have hqI : (q : Int) < (O.length : Nat) := by omega
      have hwn0 : ¬ wn = 0 := by omega
      have g0 := hqd.c0
      replace hs := Lib.hid hs
      replace hm := Lib.hid hm
      replace hmk := Lib.hid hmk
      replace hr1 := Lib.hid hr1
      replace hr2 := Lib.hid hr2
      replace hr3 := Lib.hid hr3
      replace hmi0 := Lib.hid hmi0
      have S1 : ((wr.alloc (.cells #[.int .i64 (el O q)] 3)).drew).cell? ⟨w.heap.size, 0, none⟩ = some (.int .i64 (wn : Nat)) ∧ ((wr.alloc (.cells #[.int .i64 (el O q)] 3)).drew).cell? ⟨b, o + q, none⟩ = some (.int .i64 (el O q)) :=
        ⟨((ba1 wr (.cells #[.int .i64 (el O q)] 3)).cell (p := ⟨w.heap.size, 0, none⟩) hsz).trans g0, ((ba1 wr (.cells #[.int .i64 (el O q)] 3)).cell (p := ⟨b, o + q, none⟩) (by show b < _; omega)).trans hc⟩
      have own1 : ((wr.alloc (.cells #[.int .i64 (el O q)] 3)).drew).ownsRow (w.heap.size + 1) 3 1 u5 k (vals (mO wn k O)) := hown.alloc _
      have news1 : ∀ j u, [Value.int .i64 (el O q)][j]? = some u → ((wr.alloc (.cells #[.int .i64 (el O q)] 3)).drew).cell? ((⟨wr.heap.size, 0, none⟩ : Addr).add j) = some u :=
        World.news_of_block (w := (wr.alloc (.cells #[.int .i64 (el O q)] 3)).drew) (World.alloc_heap_new wr (.cells #[.int .i64 (el O q)] 3))
      have q1 := (quad_drewN (hqd.up (ba1 wr (.cells #[.int .i64 (el O q)] 3))) 1)
      have b1 := below_drewN (hbw.alloc (by omega) (.cells #[.int .i64 (el O q)] 3)) 1
      have rest : ∀ g cap w1, w1.ownsRow (w.heap.size + 1) 3 1 (.slice (some ⟨g, 0, none⟩) (k + 1) cap) (k + 1) (vals (mO wn k O) ++ [.int .i64 (el O q)]) → ((wr.alloc (.cells #[.int .i64 (el O q)] 3)).drew).grownBy w1 u5.ownBlock →
          (w1.cell? ⟨w.heap.size, 0, none⟩ = some (.int .i64 (wn : Nat)) ∧ w1.cell? ⟨b, o + q, none⟩ = some (.int .i64 (el O q))) ∧ Below w.heap.size w w1 ∧ w.heap.size < w1.heap.size ∧ Quad w1 w.heap.size (.int .i64 (wn : Nat)) (.int .i64 (hn : Nat)) vl vs ∧ w1.ownsRow (w.heap.size + 1) 3 1 (.slice (some ⟨g, 0, none⟩) (k + 1) cap) (k + 1) (vals (mO wn (k + 1) O)) := fun g cap w1 ho hg => by
        have hr : ∀ x, u5.ownBlock = some x → w.heap.size + 1 ≤ x := fun x hx => (own1.lt x hx).1
        have hz : wr.heap.size + 1 ≤ w1.heap.size := by have := hg.size; simpa using this
        refine ⟨⟨(hg.cell_far ⟨w.heap.size, 0, none⟩ (by simp; omega) (fun e => by have h1 : w.heap.size + 1 ≤ w.heap.size := hr _ e.symm; omega)).trans S1.1, (hg.cell_far ⟨b, o + q, none⟩ (by simp; omega) (fun e => by have h1 : w.heap.size + 1 ≤ b := hr _ e.symm; omega)).trans S1.2⟩,
          b1.grown hg b1.size (fun x hx => by have := hr x hx; omega), by omega, quad_grown q1 hg (fun x hx e => by have := hr x hx; omega), by rw [hs]; exact ho⟩
      replace hs := Lib.hid hs
      replace own1 := Lib.hid own1
      replace news1 := Lib.hid news1
      replace S1 := Lib.hid S1
      replace rest := Lib.hid rest
      clear hown q1 b1
      go_wp2
      go_region_held_law (fun X => X.cell? ⟨w.heap.size, 0, none⟩ = some (.int .i64 (wn : Nat)) ∧ X.cell? ⟨b, o + q, none⟩ = some (.int .i64 (el O q))) (first | exact ⟨g0, hc⟩ | exact S1.out | exact S2)
        (first | (refine step_append_lies _ rfl (.tmp 13) (.tmp 32) 26 rfl (w.heap.size + 1) 3 i3 (.int .i64 0) 1 8 Tryd.underlying26 ji.out jz0.out jz1.out jz2.out rfl (by decide) _ k _ rfl own1.out ⟨wr.heap.size, 0, none⟩ 1 1 [.int .i64 (el O q)] rfl rfl news1.out (fun u hu => by cases List.mem_singleton.1 hu; rfl) (by omega) (by unfold maxLen; omega) (by omega) (by simp; omega) _ rfl ?_; intro g cap w1 hown1 hgrow hat hlt1; obtain ⟨S2, b2, z2, q2, o2⟩ := rest.out g cap w1 hown1 hgrow; clear hown1 hgrow hat hlt1))
      go_wp2
      go_roundw
      case rel => exact ⟨k + 1, by omega, by go_num, b2, z2, q2, o2⟩
      case measure => simp [intOf]; omega
    · have hk' : k = O.length := by omega
      subst hk'
      have hend := own_mono hown (Nat.le_succ w.heap.size)
      have hml : (mO wn O.length O).length = O.length := mO_len _ _ _
      have hend2 : NewOwn w (mO wn O.length O) (.returned u5) wr := ⟨u5, rfl, hbw, by rw [hml]; exact hend⟩
      replace hml := Lib.hid hml
      replace hend2 := Lib.hid hend2
      clear hown hend
      go_wp2
      go_ret
      exact hend2.out
end Go.Proofs.YtnbgjgiknfcdkaaDoor
