/-
  The specification's total, Is and asked.
-/
import Derived.Test.YtnbgjgiknfcdkaaDoorM
namespace Go.Proofs.YtnbgjgiknfcdkaaDoor
open Go.RowKit Go.Deep M
set_option linter.unusedVariables false
set_option linter.unusedSimpArgs false

theorem tot_amt (O : List Int) (aw : Int) : tot (amt O aw) = sm (el O) O.length + aw := by
  unfold tot
  rw [amt_len, sm_succ, amt_away, sm_congr O.length (fun i hi => amt_el O aw i hi)]
open Classical in
noncomputable def tR (K : Int) (O : List Int) (aw : Int) : Int := if SlkP K O aw then tot (amt O aw) else -1
theorem tR_true {K : Int} {O : List Int} {aw : Int} (h : SlkP K O aw) : tR K O aw = tot (amt O aw) := by unfold tR; simp [h]
theorem tR_false {K : Int} {O : List Int} {aw : Int} (h : ¬ SlkP K O aw) : tR K O aw = -1 := by unfold tR; simp [h]
theorem tR_sign {K : Int} {O : List Int} {aw : Int} : (0 ≤ tR K O aw ↔ SlkP K O aw) ∧ -1 ≤ tR K O aw ∧ tR K O aw ≤ 40000000000 := by
  by_cases h : SlkP K O aw
  · rw [tR_true h]
    have h0 := tot_nonneg h.2.1
    have h1 := h.2.2
    have hN := h
    obtain ⟨⟨a, b⟩, _⟩ := h
    have h2 : (16 : Int) ^ K.toNat ≤ 1048576 := by
      have hk : K.toNat = 0 ∨ K.toNat = 1 ∨ K.toNat = 2 ∨ K.toNat = 3 ∨ K.toNat = 4 ∨ K.toNat = 5 := by omega
      rcases hk with e | e | e | e | e | e <;> rw [e] <;> decide
    exact ⟨⟨fun _ => hN, fun _ => h0⟩, by omega, by omega⟩
  · rw [tR_false h]
    exact ⟨⟨fun h' => by omega, fun h' => absurd h' h⟩, by omega, by omega⟩
theorem sm_small {f : Nat → Int} (n : Nat) (h : ∀ i, i < n → 0 ≤ f i ∧ f i ≤ 40000000000) : 0 ≤ sm f n ∧ sm f n ≤ 40000000000 * n := by
  induction n with
  | zero => exact ⟨Int.le_refl _, Int.le_refl _⟩
  | succ n ih =>
    have h1 := ih (fun i hi => h i (by omega))
    have h2 := h n (by omega)
    rw [sm_succ]
    omega

set_option maxRecDepth 100000 in
set_option maxHeartbeats 4000000 in
theorem total_ref (B : Nat) (K : Int) (aO : Option Addr) (cO : Nat) (O : List Int) (aw : Int) (w : World) (hO : Row w B aO O) (hB : B ≤ w.heap.size) (h100 : O.length ≤ 100) :
    Calls Tryd.prog 66 #[.agg #[.int .i64 K, .slice aO O.length cO, .int .i64 aw]] w fun e w' => e = .returned (.int .i64 (tR K O aw)) ∧ Below w.heap.size w w' := by
  have hb0 := ba1 w (.cells #[.int .i64 K, .slice aO O.length cO, .int .i64 aw] 28)
  by_cases k1 : K < 0
  · have hn := Lib.hid (tR_false (O := O) (aw := aw) (K := K) (fun h => by have := h.1; omega))
    go_enter Tryd.func66, Tryd.ntmps66
    go_wp2
    go_ret
    exact ⟨ret_int hn.out.symm, hb0⟩
  by_cases k2 : 5 < K
  · have hn := Lib.hid (tR_false (O := O) (aw := aw) (K := K) (fun h => by have := h.1; omega))
    go_enter Tryd.func66, Tryd.ntmps66
    go_wp2
    go_ret
    exact ⟨ret_int hn.out.symm, hb0⟩
  obtain ⟨k0, rfl⟩ : ∃ k0 : Nat, K = k0 := ⟨K.toNat, by omega⟩
  have c52 := fun w => sixteen_ref k0 w (by omega)
  obtain ⟨p, hp⟩ : ∃ p, (16 : Int) ^ k0 = p := ⟨_, rfl⟩
  have hpb : 1 ≤ p ∧ p ≤ 1048576 := by
    have hk' : k0 = 0 ∨ k0 = 1 ∨ k0 = 2 ∨ k0 = 3 ∨ k0 = 4 ∨ k0 = 5 := by omega
    subst hp
    rcases hk' with rfl | rfl | rfl | rfl | rfl | rfl <;> decide
  rw [hp] at c52
  have hbad : ∀ k, k < O.length → (el O k < 0 ∨ 36000 * p < el O k) → tR k0 O aw = -1 := fun k hk h => tR_false fun hs => by
    obtain ⟨_, h1, h2⟩ := hs
    have h3 := h1 k (by rw [amt_len]; omega)
    have h4 := el_le_tot h1 k (by rw [amt_len]; omega)
    rw [amt_el O aw k hk] at h3 h4
    rw [Int.toNat_natCast, hp] at h2
    omega
  have hbadA : (aw < 0 ∨ 36000 * p < aw) → tR k0 O aw = -1 := fun h => tR_false fun hs => by
    obtain ⟨_, h1, h2⟩ := hs
    have h3 := h1 O.length (by rw [amt_len]; omega)
    have h4 := el_le_tot h1 O.length (by rw [amt_len]; omega)
    rw [amt_away] at h3 h4
    rw [Int.toNat_natCast, hp] at h2
    omega
  have hbadS : 36000 * p < aw + sm (el O) O.length → tR k0 O aw = -1 := fun h => tR_false fun hs => by
    obtain ⟨_, h1, h2⟩ := hs
    rw [Int.toNat_natCast, hp, tot_amt] at h2
    omega
  have hgood : 0 ≤ aw → (∀ i, i < O.length → 0 ≤ el O i) → aw + sm (el O) O.length ≤ 36000 * p → tR k0 O aw = aw + sm (el O) O.length := fun h1 h2 h3 => by
    have e1 : NonNeg (amt O aw) := fun i hi => by
      rw [amt_len] at hi
      by_cases e : i < O.length
      · rw [amt_el O aw i e]; exact h2 i e
      · have : i = O.length := by omega
        subst this
        rw [amt_away]; exact h1
    have e2 : tot (amt O aw) ≤ 36000 * (16 : Int) ^ ((k0 : Int)).toNat := by rw [Int.toNat_natCast, hp, tot_amt]; omega
    rw [tR_true ⟨by omega, e1, e2⟩, tot_amt]
    omega
  generalize tR k0 O aw = r at *
  replace hbad := Lib.hid hbad
  replace hbadS := Lib.hid hbadS
  replace hgood := Lib.hid hgood
  replace c52 := Lib.hid c52
  clear hp
  by_cases a1 : aw < 0
  · have hn := Lib.hid (hbadA (.inl a1))
    clear hbadA
    go_enter Tryd.func66, Tryd.ntmps66
    go_wp2_with fail
    refine (c52.out _).mono ?_
    rintro e w' ⟨rfl, rfl⟩
    go_wp2
    go_ret
    exact ⟨ret_int hn.out.symm, hb0⟩
  by_cases a2 : 36000 * p < aw
  · have hn := Lib.hid (hbadA (.inr a2))
    clear hbadA
    go_enter Tryd.func66, Tryd.ntmps66
    go_wp2_with fail
    refine (c52.out _).mono ?_
    rintro e w' ⟨rfl, rfl⟩
    go_wp2
    go_ret
    exact ⟨ret_int hn.out.symm, hb0⟩
  clear hbadA
  go_enter Tryd.func66, Tryd.ntmps66
  go_wp2_with fail
  refine (c52.out _).mono ?_
  rintro e w' ⟨rfl, rfl⟩
  go_wp2
  go_loop [4, 5] (fun s i => ∃ k : Nat, k ≤ O.length ∧ i = .int .i64 k ∧ s = .int .i64 (aw + sm (el O) k) ∧ (∀ i, i < k → 0 ≤ el O i ∧ el O i ≤ 40000000000)) (fun _ i => O.length - (intOf i).toNat)
  case atStart => exact ⟨0, Nat.zero_le _, rfl, by rw [sm_zero]; simp, fun i hi => absurd hi (Nat.not_lt_zero _)⟩
  case round =>
    obtain ⟨k, hk, rfl, rfl, hel⟩ := hrel
    obtain ⟨s1, s2⟩ := sm_small k hel
    by_cases hlt : k < O.length
    · obtain ⟨b, o, rfl, hb, hc⟩ := hO.at_ k hlt
      have hbw : b < w.heap.size := by omega
      have hne : b ≠ w.heap.size := by omega
      by_cases e1 : el O k < 0
      · have hn := Lib.hid (hbad.out k hlt (.inl e1))
        replace hel := Lib.hid hel
        go_wp2
        go_ret
        exact ⟨ret_int hn.out.symm, hb0⟩
      by_cases e2 : 36000 * p < el O k
      · have hn := Lib.hid (hbad.out k hlt (.inr e2))
        replace hel := Lib.hid hel
        go_wp2
        go_ret
        exact ⟨ret_int hn.out.symm, hb0⟩
      have hs := Lib.hid (sm_succ (el O) k)
      replace hel := Lib.hid hel
      go_wp2
      go_round
      case rel => exact ⟨k + 1, by omega, by go_num, by rw [hs.out, Int.add_assoc], fun i hi => by
        rcases Nat.lt_succ_iff_lt_or_eq.1 hi with h1 | rfl
        · exact hel.out i h1
        · omega⟩
      case measure => simp [intOf]; omega
    · have hk' : k = O.length := by omega
      subst hk'
      by_cases e3 : 36000 * p < aw + sm (el O) O.length
      · have hn := Lib.hid (hbadS.out e3)
        replace hel := Lib.hid hel
        go_wp2
        go_ret
        exact ⟨ret_int hn.out.symm, hb0⟩
      · have hn := Lib.hid (hgood.out (by omega) (fun i hi => (hel i hi).1) (by omega))
        replace hel := Lib.hid hel
        go_wp2
        go_ret
        exact ⟨ret_int hn.out.symm, hb0⟩

set_option maxRecDepth 100000 in
set_option maxHeartbeats 4000000 in
theorem Is_ref (B : Nat) (W H : Int) (aL aS aO : Option Addr) (cL cS cO nL : Nat) (n : Nat) (K : Int) (O : List Int) (aw : Int) (w : World) (hO : Row w B aO O) (hB : B ≤ w.heap.size) (hW : (nL : Int) = W * H) (h36 : nL ≤ 36) (h100 : O.length ≤ 100) :
    Calls Tryd.prog 51 #[.agg #[.int .i64 W, .int .i64 H, .slice aL nL cL, .slice aS n cS], .agg #[.int .i64 K, .slice aO O.length cO, .int .i64 aw]] w
      fun e w' => e = .returned (.bool (slkB nL K O aw)) ∧ Below w.heap.size w w' := by
  have hb0 := ba2 w (.cells #[.int .i64 W, .int .i64 H, .slice aL nL cL, .slice aS n cS] 25) (.cells #[.int .i64 K, .slice aO O.length cO, .int .i64 aw] 28)
  have hp : 0 ≤ W * H ∧ W * H ≤ 36 := by omega
  by_cases hl : (O.length : Int) = nL
  · have hlb : ((O.length : Int) == W * H) = true := by rw [← hW]; simp; omega
    have c66 := total_ref B K aO cO O aw _ (hO.below (hb0.mono hB)) (by simp; omega) h100
    have hs := (tR_sign (K := K) (O := O) (aw := aw))
    generalize tR K O aw = t at *
    obtain ⟨hs, hs2, hs3⟩ := hs
    replace c66 := Lib.hid c66
    by_cases ht : 0 ≤ t
    · have hv : slkB nL K O aw = true := slkB_true (by omega) (hs.1 ht)
      replace hv := Lib.hid hv
      replace hl := Lib.hid hl
      clear hs
      obtain ⟨q, hq⟩ : ∃ q, W * H = q := ⟨_, rfl⟩
      rw [hq] at hlb hp
      replace hW := Lib.hid hW
      go_enter Tryd.func51, Tryd.ntmps51
      go_wp2_with fail
      refine c66.out.mono ?_
      rintro e w1 ⟨rfl, hb1⟩
      have hbb := hb0.trans (hb1.mono (by simp; omega))
      clear hb1
      go_wp2
      go_ret
      exact ⟨ret_bool hv.out.symm, hbb⟩
    · have hv : slkB nL K O aw = false := slkB_false (fun h => ht (hs.2 h.2))
      replace hv := Lib.hid hv
      replace hl := Lib.hid hl
      clear hs
      obtain ⟨q, hq⟩ : ∃ q, W * H = q := ⟨_, rfl⟩
      rw [hq] at hlb hp
      replace hW := Lib.hid hW
      go_enter Tryd.func51, Tryd.ntmps51
      go_wp2_with fail
      refine c66.out.mono ?_
      rintro e w1 ⟨rfl, hb1⟩
      have hbb := hb0.trans (hb1.mono (by simp; omega))
      clear hb1
      go_wp2
      go_ret
      exact ⟨ret_bool (by rw [hv.out]; simp; omega), hbb⟩
  · have hlb : ((O.length : Int) == W * H) = false := by rw [← hW]; simp; omega
    have hv : slkB nL K O aw = false := slkB_false (fun h => hl (by rw [h.1]))
    replace hv := Lib.hid hv
    replace hl := Lib.hid hl
    obtain ⟨q, hq⟩ : ∃ q, W * H = q := ⟨_, rfl⟩
    rw [hq] at hlb hp
    replace hW := Lib.hid hW
    go_enter Tryd.func51, Tryd.ntmps51
    go_wp2
    go_ret
    exact ⟨ret_bool hv.out.symm, hb0⟩

/-- Both boxes of a bay and a slick, the first blocks that a call makes. -/
def Bx2 (m : Nat) (W H l s K o aw : Value) (X : World) : Prop :=
  (X.cell? ⟨m, 0, none⟩ = some W ∧ X.cell? ⟨m, 1, none⟩ = some H ∧ X.cell? ⟨m, 2, none⟩ = some l ∧ X.cell? ⟨m, 3, none⟩ = some s) ∧ (X.cell? ⟨m + 1, 0, none⟩ = some K ∧ X.cell? ⟨m + 1, 1, none⟩ = some o ∧ X.cell? ⟨m + 1, 2, none⟩ = some aw)
theorem bx2 (w : World) (W H l s K o aw : Value) : Bx2 w.heap.size W H l s K o aw ((w.alloc (.cells #[W, H, l, s] 25)).alloc (.cells #[K, o, aw] 28)) :=
  ⟨⟨by simp [go_sem], by simp [go_sem], by simp [go_sem], by simp [go_sem]⟩, by simp [go_sem], by simp [go_sem], by simp [go_sem]⟩
theorem bx2_to {m : Nat} {W H l s K o aw : Value} {X Y : World} {B : Nat} (h : Bx2 m W H l s K o aw X) (hb : Below B X Y) (hB : m + 2 ≤ B) : Bx2 m W H l s K o aw Y := by
  obtain ⟨⟨h0, h1, h2, h3⟩, h4, h5, h6⟩ := h
  have e : ∀ o, Y.cell? ⟨m, o, none⟩ = X.cell? ⟨m, o, none⟩ := fun o => hb.cell (p := ⟨m, o, none⟩) (by show m < B; omega)
  have f : ∀ o, Y.cell? ⟨m + 1, o, none⟩ = X.cell? ⟨m + 1, o, none⟩ := fun o => hb.cell (p := ⟨m + 1, o, none⟩) (by show m + 1 < B; omega)
  exact ⟨⟨(e 0).trans h0, (e 1).trans h1, (e 2).trans h2, (e 3).trans h3⟩, (f 0).trans h4, (f 1).trans h5, (f 2).trans h6⟩
theorem bx2_below {w : World} {W H l s K o aw : Value} {Y : World} (h : Bx2 w.heap.size W H l s K o aw ((w.alloc (.cells #[W, H, l, s] 25)).alloc (.cells #[K, o, aw] 28)))
    (hb : Below ((w.alloc (.cells #[W, H, l, s] 25)).alloc (.cells #[K, o, aw] 28)).heap.size ((w.alloc (.cells #[W, H, l, s] 25)).alloc (.cells #[K, o, aw] 28)) Y) : Bx2 w.heap.size W H l s K o aw Y := bx2_to h hb (by simp)

/-- The first error of a bay and a slick. -/
noncomputable def askE (W H : Int) (L : List Bool) (n : Nat) (S : List Int) (K : Int) (O : List Int) (aw : Int) : Int := if validB W H L n S = true then (if slkB L.length K O aw = true then 0 else 21) else 20

set_option maxRecDepth 100000 in
set_option maxHeartbeats 4000000 in
theorem asked_ref (B : Nat) (W H : Int) (aL aS aO : Option Addr) (cL cS cO : Nat) (L : List Bool) (n : Nat) (S : List Int) (K : Int) (O : List Int) (aw : Int) (w : World) (h : BayIn w B aL L aS n S) (hO : Row w B aO O) (hB : B ≤ w.heap.size) (h100 : O.length ≤ 100) :
    Calls Tryd.prog 65 #[.agg #[.int .i64 W, .int .i64 H, .slice aL L.length cL, .slice aS n cS], .agg #[.int .i64 K, .slice aO O.length cO, .int .i64 aw]] w
      fun e w' => e = .returned (.int .i64 (askE W H L n S K O aw)) ∧ Below w.heap.size w w' := by
  have hb0 := ba2 w (.cells #[.int .i64 W, .int .i64 H, .slice aL L.length cL, .slice aS n cS] 25) (.cells #[.int .i64 K, .slice aO O.length cO, .int .i64 aw] 28)
  have c21 := Valid_ref B W H aL aS cL cS L n S _ (h.below (hb0.mono hB)) (by simp; omega)
  cases hv : validB W H L n S with
  | false =>
    have hr : askE W H L n S K O aw = 20 := by unfold askE; rw [hv]; rfl
    rw [hv] at c21
    rw [hr]
    replace c21 := Lib.hid c21
    go_enter Tryd.func65, Tryd.ntmps65
    go_wp2_with fail
    refine c21.out.mono ?_
    rintro e w1 ⟨rfl, hb1⟩
    have hbb := hb0.trans (hb1.mono (by simp; omega))
    clear hb1
    go_wp2
    go_ret
    exact ⟨rfl, hbb⟩
  | true =>
    have hV := val_of hv
    have h36 : L.length ≤ 36 := by
      have := hV.2.1.1
      have := Int.mul_le_mul hV.1.1.2 hV.1.2.2 (by have := hV.1.2.1; omega) (by omega)
      omega
    have c51 : ∀ X, Below w.heap.size w X → Calls Tryd.prog 51 #[.agg #[.int .i64 W, .int .i64 H, .slice aL L.length cL, .slice aS n cS], .agg #[.int .i64 K, .slice aO O.length cO, .int .i64 aw]] X
      fun e w' => e = .returned (.bool (slkB L.length K O aw)) ∧ Below X.heap.size X w' := fun X hX => Is_ref B W H aL aS aO cL cS cO L.length n K O aw X (hO.below (hX.mono hB)) (Nat.le_trans hB hX.size) hV.2.1.1 h36 h100
    have hr : askE W H L n S K O aw = (if slkB L.length K O aw = true then 0 else 21) := by unfold askE; rw [hv]; rfl
    rw [hv] at c21
    rw [hr]
    clear hr hV hv
    generalize slkB L.length K O aw = s at *
    replace c21 := Lib.hid c21
    replace c51 := Lib.hid c51
    have hbx := bx2 w (.int .i64 W) (.int .i64 H) (.slice aL L.length cL) (.slice aS n cS) (.int .i64 K) (.slice aO O.length cO) (.int .i64 aw)
    replace hbx := Lib.hid hbx
    cases s with
    | true =>
      go_enter Tryd.func65, Tryd.ntmps65
      go_wp2_with fail
      refine c21.out.mono ?_
      rintro e w1 ⟨rfl, hb1⟩
      have hbb := hb0.trans (hb1.mono (by simp; omega))
      obtain ⟨⟨g0, g1, g2, g3⟩, g4, g5, g6⟩ := bx2_below hbx.out hb1
      clear hb1
      go_wp2_with fail
      refine (c51.out _ hbb).mono ?_
      rintro e w2 ⟨rfl, hb2⟩
      have hbb2 := hbb.trans (hb2.mono hbb.size)
      clear hb2
      go_wp2
      go_ret
      exact ⟨rfl, hbb2⟩
    | false =>
      go_enter Tryd.func65, Tryd.ntmps65
      go_wp2_with fail
      refine c21.out.mono ?_
      rintro e w1 ⟨rfl, hb1⟩
      have hbb := hb0.trans (hb1.mono (by simp; omega))
      obtain ⟨⟨g0, g1, g2, g3⟩, g4, g5, g6⟩ := bx2_below hbx.out hb1
      clear hb1
      go_wp2_with fail
      refine (c51.out _ hbb).mono ?_
      rintro e w2 ⟨rfl, hb2⟩
      have hbb2 := hbb.trans (hb2.mono hbb.size)
      clear hb2
      go_wp2
      go_ret
      exact ⟨rfl, hbb2⟩
end Go.Proofs.YtnbgjgiknfcdkaaDoor
