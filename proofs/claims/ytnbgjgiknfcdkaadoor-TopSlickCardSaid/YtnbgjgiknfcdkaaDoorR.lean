/-
  Whether two slicks are equal; plain mathematics of moves: what land and the sea keep, a slick behind moves.
-/
import Derived.Test.YtnbgjgiknfcdkaaDoorP
namespace Go.Proofs.YtnbgjgiknfcdkaaDoor
open Go.RowKit Go.Deep M
set_option linter.unusedVariables false
set_option linter.unusedSimpArgs false

/-! ### what is on land, and what is away, never falls -/
theorem mv_keeps {w h : Nat} {L : List Bool} {S a : List Int} (hB : Bay w h L S) (ha : a.length = w * h + 1) (h0 : NonNeg a) {j : Nat} (hj : j ≤ w * h) (hk : keeps w h L j = true) : 16 * el a j ≤ el (mv w h L S a) j := by
  rw [mv_el hj]
  unfold mvF
  have h1 := sm_term (f := fun p => el a p * G w h L S p j) (w * h + 1) j (by omega) (fun p hp => Int.mul_nonneg (h0 p (by omega)) (G_nonneg hB p j (by omega)))
  have h2 : G w h L S j j = 16 := by unfold G; rw [if_pos hk, if_pos rfl]
  rw [h2] at h1
  omega
theorem af_keeps {w h : Nat} {L : List Bool} {S a : List Int} (hB : Bay w h L S) (ha : a.length = w * h + 1) (h0 : NonNeg a) {j : Nat} (hj : j ≤ w * h) (hk : keeps w h L j = true) (n : Nat) : (16 : Int) ^ n * el a j ≤ el (af w h L S n a) j := by
  induction n with
  | zero => simp [af]
  | succ n ih =>
    have h1 := mv_keeps hB (af_len (L := L) (S := S) ha n) (af_nonneg hB ha h0 n) hj hk
    show _ ≤ el (mv w h L S (af w h L S n a)) j
    rw [Int.pow_succ, Int.mul_assoc, Int.mul_left_comm]
    omega

/-- A slick behind moves is one. -/
theorem slk_after {w h : Nat} {L : List Bool} {S : List Int} {K : Nat} {O : List Int} {aw : Int} {n : Nat} (hB : Bay w h L S) (hs : SlkP K O aw) (hO : O.length = w * h) (hn : K + n ≤ 5) :
    amt (pre (w * h) (af w h L S n (amt O aw))) (el (af w h L S n (amt O aw)) (w * h)) = af w h L S n (amt O aw) ∧ SlkP ((K : Int) + n) (pre (w * h) (af w h L S n (amt O aw))) (el (af w h L S n (amt O aw)) (w * h)) := by
  have hl : (amt O aw).length = w * h + 1 := by rw [amt_len, hO]
  have e := amt_pre (m := w * h) (af_len (L := L) (S := S) hl n)
  refine ⟨e, by have := hs.1; omega, ?_, ?_⟩
  · rw [e]; exact af_nonneg hB hl hs.2.1 n
  · rw [e, af_tot hB hl]
    have h2 := hs.2.2
    rw [Int.toNat_natCast] at h2
    have e2 : ((K : Int) + n).toNat = n + K := by omega
    rw [e2, Int.pow_add]
    have := Int.mul_le_mul_of_nonneg_left h2 (show 0 ≤ (16 : Int) ^ n from Int.pow_nonneg (by omega))
    rw [Int.mul_left_comm] at this
    omega
/-- What After answers to a valid bay and a slick of it. -/
theorem aftR_ok {w h : Nat} {L : List Bool} {S : List Int} {K : Nat} {O : List Int} {aw : Int} {n : Nat} (hV : validB w h L (w * h) S = true) (hs : slkB L.length K O aw = true) (hn : K + n ≤ 5) :
    aftR w h L (w * h) S K O aw n = (((K + n : Nat) : Int), pre (w * h) (af w h L S n (amt O aw)), el (af w h L S n (amt O aw)) (w * h), 0) := by
  unfold aftR
  have hm : movesB (n : Int) = true := by unfold movesB; simp; omega
  rw [hV, hs, hm]
  simp only [if_true]
  rw [if_pos (by omega)]
  simp

set_option maxRecDepth 100000 in
set_option maxHeartbeats 4000000 in
theorem Equal_ref (B : Nat) (aO aO' : Option Addr) (cO cO' : Nat) (K K' : Int) (O O' : List Int) (aw aw' : Int) (w : World) (hO : Row w B aO O) (hO' : Row w B aO' O') (hB : B ≤ w.heap.size) (e1 : K = K') (e2 : O = O') (e3 : aw = aw') :
    Calls Tryd.prog 33 #[.agg #[.int .i64 K, .slice aO O.length cO, .int .i64 aw], .agg #[.int .i64 K', .slice aO' O'.length cO', .int .i64 aw']] w fun e w' => e = .returned (.bool true) ∧ Below w.heap.size w w' := by
  subst e1 e2 e3
  have hb0 := ba2 w (.cells #[.int .i64 K, .slice aO O.length cO, .int .i64 aw] 28) (.cells #[.int .i64 K, .slice aO' O.length cO', .int .i64 aw] 28)
  have c28 := SameInts_ref B aO aO' cO cO' O O _ (hO.below (hb0.mono hB)) (hO'.below (hb0.mono hB))
  rw [show decide (O = O) = true by simp] at c28
  replace c28 := Lib.hid c28
  go_enter Tryd.func33, Tryd.ntmps33
  go_wp2_with fail
  refine c28.out.mono ?_
  rintro e w1 ⟨rfl, m, rfl⟩
  go_wp2
  go_ret
  exact ⟨rfl, below_drewN hb0 m⟩

set_option maxRecDepth 100000 in
set_option maxHeartbeats 4000000 in
/-- 'Is' at a slick of whatever length. -/
theorem Is_any (B : Nat) (W H : Int) (aL aS aO : Option Addr) (cL cS cO nL : Nat) (n : Nat) (K : Int) (O : List Int) (aw : Int) (w : World) (hO : Row w B aO O) (hB : B ≤ w.heap.size) (hW : (nL : Int) = W * H) (h36 : nL ≤ 36) :
    Calls Tryd.prog 51 #[.agg #[.int .i64 W, .int .i64 H, .slice aL nL cL, .slice aS n cS], .agg #[.int .i64 K, .slice aO O.length cO, .int .i64 aw]] w
      fun e w' => e = .returned (.bool (slkB nL K O aw)) ∧ Below w.heap.size w w' := by
  by_cases hl : O.length = nL
  · exact Is_ref B W H aL aS aO cL cS cO nL n K O aw w hO hB hW h36 (by omega)
  · have hb0 := ba2 w (.cells #[.int .i64 W, .int .i64 H, .slice aL nL cL, .slice aS n cS] 25) (.cells #[.int .i64 K, .slice aO O.length cO, .int .i64 aw] 28)
    have h63 := hO.1
    have hp : 0 ≤ W * H ∧ W * H ≤ 36 := by omega
    have hlb : ((O.length : Int) == W * H) = false := by rw [← hW]; simp; omega
    have hv : slkB nL K O aw = false := slkB_false (fun h => hl h.1)
    replace hv := Lib.hid hv
    replace hl := Lib.hid hl
    obtain ⟨q, hq⟩ : ∃ q, W * H = q := ⟨_, rfl⟩
    rw [hq] at hlb hp
    replace hW := Lib.hid hW
    go_enter Tryd.func51, Tryd.ntmps51
    go_wp2
    go_ret
    exact ⟨ret_bool hv.out.symm, hb0⟩

/-! ### a law's world: the boxes of a bay and of a slick -/
def Law2 (w : World) (W H l s K o aw : Value) (X : World) : Prop := Bx2 w.heap.size W H l s K o aw X ∧ Below w.heap.size w X ∧ w.heap.size + 2 ≤ X.heap.size
theorem Law2.call {w : World} {W H l s K o aw : Value} {X Y : World} (h : Law2 w W H l s K o aw X) (hb : Below X.heap.size X Y) : Law2 w W H l s K o aw Y := ⟨bx2_to h.1 hb h.2.2, h.2.1.trans (hb.mono h.2.1.size), Nat.le_trans h.2.2 hb.size⟩
theorem law2_start (w : World) (W H l s K o aw : Value) : Law2 w W H l s K o aw ((w.alloc (.cells #[W, H, l, s] 25)).alloc (.cells #[K, o, aw] 28)) := ⟨bx2 w _ _ _ _ _ _ _, ba2 w _ _, by simp⟩
theorem Law2.drewN {w : World} {W H l s K o aw : Value} {X : World} (h : Law2 w W H l s K o aw X) (n : Nat) : Law2 w W H l s K o aw (X.drewN n) := ⟨h.1, below_drewN h.2.1 n, h.2.2⟩
theorem Law2.alloc {w : World} {W H l s K o aw : Value} {X : World} (h : Law2 w W H l s K o aw X) (ob : Obj) : Law2 w W H l s K o aw (X.alloc ob) := h.call (ba1 X ob)
end Go.Proofs.YtnbgjgiknfcdkaaDoor
