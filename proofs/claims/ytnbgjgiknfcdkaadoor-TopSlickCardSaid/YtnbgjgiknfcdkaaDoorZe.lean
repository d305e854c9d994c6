/-
  'EqualBays' of two bays that hold the same.
-/
import Derived.Test.YtnbgjgiknfcdkaaDoorT
namespace Go.Proofs.YtnbgjgiknfcdkaaDoor
open Go.RowKit Go.Deep M
set_option linter.unusedVariables false
set_option linter.unusedSimpArgs false
attribute [local go_sem] run_eq5

/-- The boxes of two bays. -/
structure EqW (w : World) (x y z u x' y' z' u' : Value) (X : World) : Prop where
  below : Below w.heap.size w X
  fst : Quad X w.heap.size x y z u
  snd : Quad X (w.heap.size + 1) x' y' z' u'
theorem EqW.drewN {w : World} {x y z u x' y' z' u' : Value} {X : World} (h : EqW w x y z u x' y' z' u' X) (m : Nat) : EqW w x y z u x' y' z' u' (X.drewN m) := ⟨below_drewN h.below m, h.fst, h.snd⟩
theorem EqW.call {w : World} {x y z u x' y' z' u' : Value} {X Y : World} (h : EqW w x y z u x' y' z' u' X) (hb : Below X.heap.size X Y) : EqW w x y z u x' y' z' u' Y := ⟨h.below.trans (hb.mono h.below.size), h.fst.up hb, h.snd.up hb⟩
theorem eqW_start (w : World) (x y z u x' y' z' u' : Value) : EqW w x y z u x' y' z' u' ((w.alloc (.cells #[x, y, z, u] 25)).alloc (.cells #[x', y', z', u'] 25)) := by
  refine ⟨ba2 w _ _, (Quad.new w x y z u).up (ba1 _ _), ?_⟩
  have := Quad.new (w.alloc (.cells #[x, y, z, u] 25)) x' y' z' u'
  simpa using this

theorem e5_self (a b c d e : Int) : e5 a b c d e a b c d e = true := by unfold e5; simp

set_option maxRecDepth 100000 in
set_option maxHeartbeats 4000000 in
theorem EqualBays_eq (B : Nat) (W H : Int) (aL aS aL' aS' : Option Addr) (cL cS cL' cS' : Nat) (L : List Bool) (n : Nat) (S : List Int) (w : World) (h : BayIn w B aL L aS n S) (h' : BayIn w B aL' L aS' n S) (hB : B ≤ w.heap.size) :
    Calls Tryd.prog 50 #[.agg #[.int .i64 W, .int .i64 H, .slice aL L.length cL, .slice aS n cS], .agg #[.int .i64 W, .int .i64 H, .slice aL' L.length cL', .slice aS' n cS']] w fun e w' => e = .returned (.bool true) ∧ Below w.heap.size w w' := by
  have hst := eqW_start w (.int .i64 W) (.int .i64 H) (.slice aL L.length cL) (.slice aS n cS) (.int .i64 W) (.int .i64 H) (.slice aL' L.length cL') (.slice aS' n cS')
  have hl63 := h.land.1
  have hs63 := h.share.1
  replace hst := Lib.hid hst
  go_enter Tryd.func50, Tryd.ntmps50
  go_wp2
  go_loopw [5] (fun i wr => ∃ k : Nat, k ≤ L.length ∧ i = .int .i64 k ∧ EqW w (.int .i64 W) (.int .i64 H) (.slice aL L.length cL) (.slice aS n cS) (.int .i64 W) (.int .i64 H) (.slice aL' L.length cL') (.slice aS' n cS') wr) (fun i _ => L.length - (intOf i).toNat)
  case atStart => exact ⟨0, Nat.zero_le _, rfl, hst.out⟩
  case round =>
    obtain ⟨k, hk, rfl, hX⟩ := hrel
    have p2 := hX.fst.c2
    have q2 := hX.snd.c2
    by_cases hlt : k < L.length
    · obtain ⟨b, o, rfl, hb, hc⟩ := (h.land.below (hX.below.mono hB)).at_ k hlt
      obtain ⟨b', o', rfl, hb', hc'⟩ := (h'.land.below (hX.below.mono hB)).at_ k hlt
      have hkI : (k : Int) < (L.length : Nat) := by omega
      generalize hv : bl L k = v at hc hc'
      replace hv := Lib.hid hv
      replace hX := Lib.hid hX
      go_wp2
      go_quiet (fail)
      go_wp2
      go_roundw
      case rel => exact ⟨k + 1, by omega, by go_num, hX.out.drewN _⟩
      case measure => simp [intOf]; omega
    · have hkI : ¬ (k : Int) < (L.length : Nat) := by omega
      replace hX := Lib.hid hX
      go_wp2
      go_loopw [6] (fun i wr => ∃ k : Nat, k ≤ n ∧ i = .int .i64 k ∧ EqW w (.int .i64 W) (.int .i64 H) (.slice aL L.length cL) (.slice aS n cS) (.int .i64 W) (.int .i64 H) (.slice aL' L.length cL') (.slice aS' n cS') wr) (fun i _ => n - (intOf i).toNat)
      case atStart => exact ⟨0, Nat.zero_le _, rfl, hX.out⟩
      case round =>
        clear hX p2 q2
        obtain ⟨k, hk, rfl, hX⟩ := hrel
        have p3 := hX.fst.c3
        have q3 := hX.snd.c3
        by_cases hlt : k < n
        · obtain ⟨b, o, rfl, hb, s0, s1, s2, s3, s4⟩ := (h.share.below (hX.below.mono hB)).at_ k hlt
          obtain ⟨b', o', rfl, hb', t0, t1, t2, t3, t4⟩ := (h'.share.below (hX.below.mono hB)).at_ k hlt
          have hkI : (k : Int) < (n : Nat) := by omega
          have e5s := e5_self (sh S k 0) (sh S k 1) (sh S k 2) (sh S k 3) (sh S k 4)
          replace hX := Lib.hid hX
          go_wp2
          go_quiet (fail)
          go_wp2
          go_roundw
          case rel => exact ⟨k + 1, by omega, by go_num, hX.out.drewN _⟩
          case measure => simp [intOf]; omega
        · have hkI : ¬ (k : Int) < (n : Nat) := by omega
          have hfin := hX.below
          replace hX := Lib.hid hX
          go_wp2
          go_ret
          exact ⟨rfl, hfin⟩
end Go.Proofs.YtnbgjgiknfcdkaaDoor
