/-
  What a place gives, as an iterator: its contract for every loop body.
-/
import Derived.Test.YtnbgjgiknfcdkaaDoorG
import Derived.RangeFuncNested
import Derived.RangeFuncBound
import Derived.RangeFuncCalls
import Derived.RangeFuncLeaves
import Derived.Shelf.Abstract
import Derived.Shelf.RegionOpen
import Derived.Stop.RegionWithIn
import Derived.BigFrameIn
import Derived.OwnWalkIn
import Derived.TacticsInMore
import Derived.LoopNIn
import Derived.LoopIn
namespace Go.Proofs.YtnbgjgiknfcdkaaDoor
open Go.RowKit Go.Deep M
set_option linter.unusedVariables false
set_option linter.unusedSimpArgs false
attribute [local go_sem] run_idx0 run_idx1 run_idx2 run_idx3 run_idx4

/-- A pair that a place of a bay of n cells may give. -/
abbrev Pr (n : Nat) := { x : Nat × Int // x.1 ≤ n ∧ 0 ≤ x.2 ∧ x.2 ≤ 16 }
abbrev encs {n : Nat} (x : Pr n) : Array Value := #[.int .i64 (x.1.1 : Nat), .int .i64 x.1.2]
/-- The table of directions in memory. -/
def Dirs (w : World) : Prop := 0 < w.heap.size ∧ ∀ k, k < 5 → w.cell? ⟨0, k * 2, none⟩ = some (.int .i64 (rightOf k)) ∧ w.cell? ⟨0, k * 2 + 1, none⟩ = some (.int .i64 (downOf k))
theorem Dirs.below {w w' : World} {B : Nat} (h : Dirs w) (hb : Below B w w') (hB : 1 ≤ B) : Dirs w' :=
  ⟨Nat.lt_of_lt_of_le h.1 hb.size, fun k hk => ⟨(hb.cell (p := ⟨0, k * 2, none⟩) hB).trans (h.2 k hk).1, (hb.cell (p := ⟨0, k * 2 + 1, none⟩) hB).trans (h.2 k hk).2⟩⟩

/-- All blocks below n₀ but x lie as they lay. -/
structure Bx (n₀ x : Nat) (w w' : World) : Prop where
  os : w'.os = w.os
  tape : w'.tape = w.tape
  output : w'.output = w.output
  size : w.heap.size ≤ w'.heap.size
  block : ∀ k, k < n₀ → k ≠ x → w'.heap[k]? = w.heap[k]?
theorem Below.bx {n₀ : Nat} {w w' : World} (h : Below n₀ w w') (x : Nat) : Bx n₀ x w w' := ⟨h.os, h.tape, h.output, h.size, fun k hk _ => h.block k hk⟩
theorem Bx.refl (n₀ x : Nat) (w : World) : Bx n₀ x w w := Below.bx (Below.refl _ _) x
theorem Bx.trans {n₀ x : Nat} {a b c : World} (h : Bx n₀ x a b) (k : Bx n₀ x b c) : Bx n₀ x a c :=
  ⟨k.os.trans h.os, k.tape.trans h.tape, k.output.trans h.output, Nat.le_trans h.size k.size, fun i hi hx => (k.block i hi hx).trans (h.block i hi hx)⟩
theorem Bx.cell {n₀ x : Nat} {w w' : World} (h : Bx n₀ x w w') {p : Addr} (hp : p.block < n₀) (hx : p.block ≠ x) : w'.cell? p = w.cell? p := World.cell?_of_block (h.block _ hp hx)
theorem Dirs.bx {w w' : World} {n₀ x : Nat} (h : Dirs w) (hb : Bx n₀ x w w') (hB : 1 ≤ n₀) (hx : 1 ≤ x) : Dirs w' :=
  ⟨Nat.lt_of_lt_of_le h.1 hb.size, fun k hk => ⟨(hb.cell (p := ⟨0, k * 2, none⟩) hB (by show 0 ≠ x; omega)).trans (h.2 k hk).1, (hb.cell (p := ⟨0, k * 2 + 1, none⟩) hB (by show 0 ≠ x; omega)).trans (h.2 k hk).2⟩⟩
theorem bx_drewN {n₀ x : Nat} {a w : World} (h : Bx n₀ x a w) (n : Nat) : Bx n₀ x a (w.drewN n) := ⟨h.os, h.tape, h.output, h.size, h.block⟩

theorem gives_any (W H : Int) (aL aS : Option Addr) (cL nS cS : Nat) (nL : Nat) (p : Int) (w : World) :
    Calls Tryd.prog 95 #[.agg #[.int .i64 W, .int .i64 H, .slice aL nL cL, .slice aS nS cS], .int .i64 p] w
      fun e w' => e = .returned (.func (.func 98) #[] #[.pointer (some ⟨w.heap.size, 0, none⟩), .pointer (some ⟨w.heap.size + 1, 0, none⟩)]) ∧
        w' = (w.alloc (.cells #[.int .i64 W, .int .i64 H, .slice aL nL cL, .slice aS nS cS] 82)).alloc (.cells #[.int .i64 p] 3) := by
  go_enter Tryd.func95, Tryd.ntmps95
  go_wp2
  go_ret
  exact ⟨rfl, rfl⟩

theorem abides_below {β : Type} {B : Nat} {J : β → World → Prop} (hJ : AbidesFrom B J) {s : β} {W W' : World} (h : J s W) (hb : Below W.heap.size W W') : J s W' :=
  hJ s W W' none h ⟨hb.os, hb.tape, hb.output, hb.size, fun k hk _ => hb.block k hk⟩ (fun r e => by cases e)

set_option maxRecDepth 100000 in
set_option maxHeartbeats 4000000 in
theorem gives1_in (n : Nat) (l B1 B2 n₀ nb x : Nat) (w h : Nat) (aL aS : Option Addr) (cL cS : Nat) (L : List Bool) (S : List Int) (p : Nat) (J Jx : List (Pr (w * h)) → World → Prop)
    (hBay : Bay w h L S) (hp : p ≤ w * h) (W : World) (hJa : AbidesFrom W.heap.size J) (hJxa : AbidesFrom W.heap.size Jx)
    (hY : ∀ pre y W1, J pre W1 → pre.length < 5 → YieldAt Fence.wide (n - 1) Tryd.prog l (encs y) W1 fun e W' =>
      (e = .returned (.bool true) ∧ J (pre ++ [y]) W' ∧ Bx n₀ x W1 W') ∨ (e = .returned (.bool false) ∧ Jx (pre ++ [y]) W'))
    (hn0 : n₀ ≤ W.heap.size) (h1 : 1 ≤ n₀) (hb1 : B1 < n₀) (hb2 : B2 < n₀) (hx1 : B1 ≠ x) (hx2 : B2 ≠ x) (hx0 : 1 ≤ x) (hnb : nb ≤ n₀)
    (k0 : W.cell? ⟨B1, 0, none⟩ = some (.int .i64 w)) (k1 : W.cell? ⟨B1, 1, none⟩ = some (.int .i64 h)) (k2 : W.cell? ⟨B1, 2, none⟩ = some (.slice aL L.length cL)) (k3 : W.cell? ⟨B1, 3, none⟩ = some (.slice aS (w * h) cS)) (k4 : W.cell? ⟨B2, 0, none⟩ = some (.int .i64 p))
    (hm : BayIn W nb aL L aS (w * h) S) (hd : Dirs W) (h0 : J [] W) :
    CallsIn Fence.wide n Tryd.prog 98 #[.func (.yield l) #[] #[], .pointer (some ⟨B1, 0, none⟩), .pointer (some ⟨B2, 0, none⟩)] W fun e W' => (∃ v, e = .returned v) ∧
      ((∃ xs, xs.map (·.1) = gv w h L S p ∧ J xs W') ∨ (∃ pre, True ∧ Jx pre W')) := by
  have hcells := hBay.cells
  have hLn := hBay.2.1.1
  cases hk : keeps w h L p with
  | true =>
    have c99 := keeps_any nb w h aL aS cL (w * h) cS L p W hm.land (by omega) (by omega) (by omega)
    have hkk : (decide (p = L.length) || bl L p) = true := by rw [hLn]; exact hk
    rw [hkk] at c99
    have hgv : gv w h L S p = [(p, 16)] := by unfold gv; rw [if_pos hk]
    have hp63 : (p : Int) ≤ 36 := by omega
    rw [hgv]
    clear hkk hk hgv
    replace hLn := Lib.hid hLn
    refine callsIn_of_wp Tryd.func98 rfl trivial ?_ rfl
    simp only [Tryd.ntmps98, List.size_toArray, List.length_cons, List.length_nil, Nat.reduceAdd, Nat.reduceSub, Array.replicate_succ, Array.replicate_zero, List.push_toArray, List.append_toArray, List.nil_append, List.cons_append]
    gi_wp2_with fail
    refine ⟨trivial, fun hd => (by cases hd), ?_⟩
    refine CallsIn.mono (callsIn_wide.2 c99) ?_
    rintro e W1 ⟨rfl, hW1⟩
    have hJ1 := abides_below hJa h0 hW1
    have k4' := (hW1.cell (p := ⟨B2, 0, none⟩) (by show B2 < W.heap.size; omega)).trans k4
    obtain ⟨f1, t1, a1, b1, hy1, hR1⟩ := hY [] ⟨(p, 16), hp, by omega, by omega⟩ W1 hJ1 (by simp)
    dsimp only [encs] at hy1
    gi_wp2
    refine ⟨fun hd => (by cases hd), ?_⟩
    refine hR1.mono ?_
    rintro e W2 (⟨rfl, hJ2, hk2⟩ | ⟨rfl, hx2⟩)
    · gi_wp2
      refine bodyPost_ret (results_none rfl _ _ _) rfl ?_
      exact ⟨⟨_, rfl⟩, .inl ⟨_, by simp, hJ2⟩⟩
    · gi_wp2
      refine bodyPost_ret (results_none rfl _ _ _) rfl ?_
      exact ⟨⟨_, rfl⟩, .inr ⟨_, trivial, hx2⟩⟩
  | false =>
    obtain ⟨hpl, hland⟩ := keeps_of hk hp
    have c99 := keeps_any nb w h aL aS cL (w * h) cS L p W hm.land (by omega) (by omega) (by omega)
    have hkk : (decide (p = L.length) || bl L p) = false := by rw [hLn]; exact hk
    rw [hkk] at c99
    have hgv : gv w h L S p = gvK w h S p 5 := by unfold gv; rw [if_neg (by rw [hk]; simp)]
    have hp36 : p < 36 := by omega
    have hplI : (p : Int) < (w * h : Nat) := by omega
    have hs16 := (hBay.2.2 p hpl).1
    rw [hgv]
    have hw6 := hBay.1.1
    have hh6 := hBay.1.2
    have hn63 : (w * h : Nat) ≤ 9223372036854775807 := by omega
    have c100 : ∀ k W, k < 5 → Calls Tryd.prog 100 #[.agg #[.int .i64 w, .int .i64 h, .slice aL L.length cL, .slice aS (w * h) cS], .int .i64 p, .agg #[.int .i64 (rightOf k), .int .i64 (downOf k)]] W
      fun e w' => e = .returned (.int .i64 (dst w h p k : Nat)) ∧ Below W.heap.size W w' := fun k W hk5 => next_dst w h aL aS cL (w * h) cS L.length p k W hw6 hh6 hLn hpl hk5
    have hdst : ∀ k, dst w h p k ≤ w * h := fun k => dst_le hw6.1 hpl
    obtain ⟨b, o, rfl, hb, s0, s1, s2, s3, s4⟩ := hm.share.at_ p hpl
    clear hkk hk hgv
    replace hLn := Lib.hid hLn
    replace c100 := Lib.hid c100
    replace hs16 := Lib.hid hs16
    replace hdst := Lib.hid hdst
    replace hd := Lib.hid hd
    refine callsIn_of_wp Tryd.func98 rfl trivial ?_ rfl
    simp only [Tryd.ntmps98, List.size_toArray, List.length_cons, List.length_nil, Nat.reduceAdd, Nat.reduceSub, Array.replicate_succ, Array.replicate_zero, List.push_toArray, List.append_toArray, List.nil_append, List.cons_append]
    gi_wp2_with fail
    refine ⟨trivial, fun hd => (by cases hd), ?_⟩
    refine CallsIn.mono (callsIn_wide.2 c99) ?_
    rintro e W1 ⟨rfl, hW1⟩
    have hJ1 := abides_below hJa h0 hW1
    have hWB : Below n₀ W W1 := hW1.mono hn0
    have e3 := (hWB.cell (p := ⟨B1, 3, none⟩) hb1).trans k3
    have e4 := (hWB.cell (p := ⟨B2, 0, none⟩) hb2).trans k4
    have r0 := (hWB.cell (p := ⟨b, o + p * 5, none⟩) (by show b < n₀; omega)).trans s0
    have r1 := (hWB.cell (p := ⟨b, o + p * 5 + 1, none⟩) (by show b < n₀; omega)).trans s1
    have r2 := (hWB.cell (p := ⟨b, o + p * 5 + 2, none⟩) (by show b < n₀; omega)).trans s2
    have r3 := (hWB.cell (p := ⟨b, o + p * 5 + 3, none⟩) (by show b < n₀; omega)).trans s3
    have r4 := (hWB.cell (p := ⟨b, o + p * 5 + 4, none⟩) (by show b < n₀; omega)).trans s4
    gi_wp2
    gi_loopw [17] (fun i wr => ∃ (k : Nat) (pre : List (Pr (w * h))), k ≤ 5 ∧ i = .int .i64 k ∧ pre.map (·.1) = gvK w h S p k ∧ pre.length ≤ k ∧ J pre wr ∧ Bx n₀ x W wr) (fun i _ => 5 - (intOf i).toNat)
    case atStart => exact ⟨0, [], Nat.zero_le _, rfl, rfl, Nat.le_refl _, hJ1, Below.bx hWB x⟩
    case round =>
      obtain ⟨k, pre, hk5, rfl, hpre, hlen, hJs, hbw⟩ := hrel
      by_cases hkt : k < 5
      · have hix : ∀ w', (Instr.index 74 (.agg #[.int .i64 (sh S p 0), .int .i64 (sh S p 1), .int .i64 (sh S p 2), .int .i64 (sh S p 3), .int .i64 (sh S p 4)]) (.int .i64 (k : Nat))).run Tryd.prog w' = .ok (.int .i64 (sh S p k)) w' := fun w' => by
          refine run_idx w' _ _ _ (by omega) (by omega) ?_
          have : k = 0 ∨ k = 1 ∨ k = 2 ∨ k = 3 ∨ k = 4 := by omega
          rcases this with rfl | rfl | rfl | rfl | rfl <;> rfl
        by_cases hpos : 0 < sh S p k
        · have hpre' := Lib.hid hpre
          obtain ⟨q1, q2⟩ := hs16.out k hkt
          have d1 := (hd.out.bx hbw h1 hx0).2 k hkt
          obtain ⟨d1, d2⟩ := d1
          have u0 := (hbw.cell (p := ⟨B1, 0, none⟩) hb1 hx1).trans k0
          have u1 := (hbw.cell (p := ⟨B1, 1, none⟩) hb1 hx1).trans k1
          have u2 := (hbw.cell (p := ⟨B1, 2, none⟩) hb1 hx1).trans k2
          have u3 := (hbw.cell (p := ⟨B1, 3, none⟩) hb1 hx1).trans k3
          have u4 := (hbw.cell (p := ⟨B2, 0, none⟩) hb2 hx2).trans k4
          clear hpre
          have hJd := abides_below hJa hJs (below_drewN (Below.refl wr.heap.size wr) 1)
          have hbd : Bx n₀ x W wr.drew := bx_drewN hbw 1
          have hY' : ∀ W3, Below wr.drew.heap.size wr.drew W3 → YieldAt Fence.wide (n - 1) Tryd.prog l #[.int .i64 (dst w h p k : Nat), .int .i64 (sh S p k)] W3 fun e W' => ∃ r, e = .returned (.bool r) ∧
              ((r = true ∧ J (pre ++ [⟨(dst w h p k, sh S p k), hdst.out k, q1, q2⟩]) W' ∧ Bx n₀ x W W') ∨ (r = false ∧ Jx (pre ++ [⟨(dst w h p k, sh S p k), hdst.out k, q1, q2⟩]) W')) := fun W3 hW3 => by
            obtain ⟨f1, t1, a1, b1, hy1, hR1⟩ := hY pre ⟨(dst w h p k, sh S p k), hdst.out k, q1, q2⟩ W3 (abides_below hJa hJd hW3) (by omega)
            refine ⟨f1, t1, a1, b1, hy1, RoundIn.mono hR1 ?_⟩
            rintro e W' (⟨rfl, h1, h2⟩ | ⟨rfl, h1⟩)
            · exact ⟨true, rfl, .inl ⟨rfl, h1, (hbd.trans (Below.bx (hW3.mono (Nat.le_trans hn0 hbw.size)) x)).trans h2⟩⟩
            · exact ⟨false, rfl, .inr ⟨rfl, h1⟩⟩
          replace hY' := Lib.hid hY'
          gi_wp2
          clear hix
          gi_region_with (first | (refine ⟨trivial, fun hd => (by cases hd), ?_⟩; refine CallsIn.mono (callsIn_wide.2 (c100.out k _ hkt)) ?_; rintro e W3 ⟨rfl, hW3⟩; obtain ⟨f1, t1, a1, b1, hy1, hR1⟩ := hY'.out W3 hW3) | (refine ⟨fun hd => (by cases hd), ?_⟩; refine RoundIn.mono hR1 ?_; rintro e W4 ⟨r, rfl, hr⟩; clear hy1 hR1))
          all_goals
            rcases hr with ⟨rfl, hJ4, hb4⟩ | ⟨rfl, hx4⟩
            · gi_wp2
              go_roundw
              case rel => exact ⟨k + 1, _, by omega, by go_num, by rw [List.map_append, hpre'.out, gvK_succ, if_pos hpos]; rfl, by simp; omega, hJ4, hb4⟩
              case measure => simp [intOf]; omega
            · gi_wp2
              refine bodyPost_ret (results_none rfl _ _ _) rfl ?_
              exact ⟨⟨_, rfl⟩, .inr ⟨_, trivial, hx4⟩⟩
        · have hpre' := Lib.hid hpre
          have hg : decide (0 < sh S p k) = false := by simpa using hpos
          clear hpre
          gi_wp2
          clear hix
          refine wpIn_wide.2 ?_
          go_quiet (fail)
          have hJd := abides_below hJa hJs (below_drewN (Below.refl wr.heap.size wr) nq)
          have hbd : Bx n₀ x W (wr.drewN nq) := bx_drewN hbw nq
          gi_wp2
          go_roundw
          case rel => exact ⟨k + 1, _, by omega, by go_num, by rw [hpre'.out, gvK_succ, if_neg (by omega)], by omega, hJd, hbd⟩
          case measure => simp [intOf]; omega
      · have hk' : k = 5 := by omega
        subst hk'
        have hpre' := Lib.hid hpre
        clear hpre
        gi_wp2
        refine bodyPost_end (results_none rfl _ _ _) rfl ?_
        exact ⟨⟨_, rfl⟩, .inl ⟨pre, hpre'.out, hJs⟩⟩

theorem gives_stops (n : Nat) (B1 B2 n₀ nb x : Nat) (w h : Nat) (aL aS : Option Addr) (cL cS : Nat) (L : List Bool) (S : List Int) (p : Nat)
    (hBay : Bay w h L S) (hp : p ≤ w * h) (W : World)
    (hn0 : n₀ ≤ W.heap.size) (h1 : 1 ≤ n₀) (hb1 : B1 < n₀) (hb2 : B2 < n₀) (hx1 : B1 ≠ x) (hx2 : B2 ≠ x) (hx0 : 1 ≤ x) (hnb : nb ≤ n₀)
    (k0 : W.cell? ⟨B1, 0, none⟩ = some (.int .i64 w)) (k1 : W.cell? ⟨B1, 1, none⟩ = some (.int .i64 h)) (k2 : W.cell? ⟨B1, 2, none⟩ = some (.slice aL L.length cL)) (k3 : W.cell? ⟨B1, 3, none⟩ = some (.slice aS (w * h) cS)) (k4 : W.cell? ⟨B2, 0, none⟩ = some (.int .i64 p))
    (hm : BayIn W nb aL L aS (w * h) S) (hd : Dirs W) :
    SeqStopsK Fence.wide n Tryd.prog 98 #[.pointer (some ⟨B1, 0, none⟩), .pointer (some ⟨B2, 0, none⟩)] (fun y : Pr (w * h) => encs y) (Bx n₀ x) (fun xs => xs.map (·.1) = gv w h L S p) (fun _ => True) 5 W := fun l J Jx W' hW hJ hJx hY h0 =>
  gives1_in n l B1 B2 n₀ nb x w h aL aS cL cS L S p J Jx hBay hp W' hJ hJx hY (Nat.le_trans hn0 hW.size) h1 hb1 hb2 hx1 hx2 hx0 hnb
    ((hW.cell (p := ⟨B1, 0, none⟩) (by show B1 < W.heap.size; omega)).trans k0) ((hW.cell (p := ⟨B1, 1, none⟩) (by show B1 < W.heap.size; omega)).trans k1) ((hW.cell (p := ⟨B1, 2, none⟩) (by show B1 < W.heap.size; omega)).trans k2)
    ((hW.cell (p := ⟨B1, 3, none⟩) (by show B1 < W.heap.size; omega)).trans k3) ((hW.cell (p := ⟨B2, 0, none⟩) (by show B2 < W.heap.size; omega)).trans k4)
    (hm.below (hW.mono (by omega))) (hd.below hW (by omega)) h0
end Go.Proofs.YtnbgjgiknfcdkaaDoor
