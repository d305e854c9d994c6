/-
  'Cost', and the specification's 'ArePrices' and 'Priced'.
-/
import Derived.Test.YtnbgjgiknfcdkaaDoorZm
import Derived.Test.YtnbgjgiknfcdkaaDoorO
namespace Go.Proofs.YtnbgjgiknfcdkaaDoor
open Go.RowKit Go.Deep M
set_option linter.unusedVariables false
set_option linter.unusedSimpArgs false

/-- What amounts cost by prices. -/
def cst (a P : List Int) : Int := sm (fun i => el a i * el P i) a.length
/-- What Cost answers. -/
noncomputable def cosR (W H : Int) (L : List Bool) (n : Nat) (S : List Int) (K : Int) (O : List Int) (aw : Int) (P : List Int) : Int × Int :=
  if validB W H L n S = true then
    if slkB L.length K O aw = true then
      if pricesB L.length P = true then (cst (amt O aw) P, 0) else (0, 2)
    else (0, 21)
  else (0, 20)
/-- The world of 'Cost': the boxes of the bay, of the slick, and the list that is checked. -/
structure CoW (w : World) (W H l s K o aw : Value) (X : World) : Prop where
  below : Below w.heap.size w X
  bay : Quad X w.heap.size W H l s
  slk : Tri X (w.heap.size + 1) K o aw
theorem CoW.call {w : World} {W H l s K o aw : Value} {X Y : World} (h : CoW w W H l s K o aw X) (hb : Below X.heap.size X Y) : CoW w W H l s K o aw Y := ⟨h.below.trans (hb.mono h.below.size), h.bay.up hb, h.slk.up hb⟩
theorem coW_start (w : World) (W H l s K o aw : Value) : CoW w W H l s K o aw ((w.alloc (.cells #[W, H, l, s] 25)).alloc (.cells #[K, o, aw] 28)) := by
  refine ⟨ba2 w _ _, (Quad.new w W H l s).up (ba1 _ _), ?_⟩
  have := Tri.new (w.alloc (.cells #[W, H, l, s] 25)) K o aw
  simpa using this
theorem sm_bound {f : Nat → Int} (n : Nat) (hn : n ≤ 37) (h : ∀ i, i < n → 0 ≤ f i ∧ f i ≤ 1000000000000000) : ∀ m, m ≤ n → 0 ≤ sm f m ∧ sm f m ≤ 37000000000000000 := by
  have : ∀ m, m ≤ n → 0 ≤ sm f m ∧ sm f m ≤ 1000000000000000 * (m : Int) := by
    intro m
    induction m with
    | zero => intro _; exact ⟨by simp [sm_zero], by simp [sm_zero]⟩
    | succ m ih =>
      intro hm
      have h1 := ih (by omega)
      have h2 := h m (by omega)
      rw [sm_succ]
      omega
  intro m hm
  have := this m hm
  omega

set_option maxRecDepth 100000 in
set_option maxHeartbeats 4000000 in
theorem Cost_bad (B : Nat) (W H : Int) (aL aS aO aP : Option Addr) (cL cS cO cP : Nat) (L : List Bool) (n : Nat) (S : List Int) (K : Int) (O : List Int) (aw : Int) (P : List Int) (w : World) (h : BayIn w B aL L aS n S) (hO : Row w B aO O) (hP : Row w B aP P) (hB : B ≤ w.heap.size) (hv : validB W H L n S = false ∨ (validB W H L n S = true ∧ slkB L.length K O aw = false)) (E : Int) (hE : E = if validB W H L n S = true then 21 else 20) :
    Calls Tryd.prog 34 #[.agg #[.int .i64 W, .int .i64 H, .slice aL L.length cL, .slice aS n cS], .agg #[.int .i64 K, .slice aO O.length cO, .int .i64 aw], .slice aP P.length cP] w fun e w' => e = .returned (.tuple #[.int .i64 0, .int .i64 E]) ∧ Below w.heap.size w w' := by
  have hst := (coW_start w (.int .i64 W) (.int .i64 H) (.slice aL L.length cL) (.slice aS n cS) (.int .i64 K) (.slice aO O.length cO) (.int .i64 aw)).call (ba1 _ (.cells #[.int .i64 K, .slice aO O.length cO, .int .i64 aw] 28))
  have c59 := checked1_any B W H aL aS aO cL cS cO L n S K O aw (w.heap.size + 2) 1 _ (h.below (hst.below.mono hB)) (hO.below (hst.below.mono hB)) (by simp; omega) (by simp) ⟨by simp [go_sem], by simp [go_sem], by simp [go_sem]⟩
  have hE2 : (if validB W H L n S = true then (if slkB L.length K O aw = true then 0 else 21) else (20 : Int)) = E := by
    rcases hv with hv | ⟨hv, hs⟩
    · rw [hE, hv]; rfl
    · rw [hE, hv, hs]; rfl
  have hE3 : (E == 0) = false := by rw [hE]; split <;> rfl
  have hE4 : (E != 0) = true := by rw [hE]; split <;> rfl
  rw [hE2] at c59
  clear hE2 hE hv
  replace c59 := Lib.hid c59
  replace hst := Lib.hid hst
  have hs0 := hst.out
  have g0 := hs0.bay.c0
  have g1 := hs0.bay.c1
  have g2 := hs0.bay.c2
  have g3 := hs0.bay.c3
  have t0 := hs0.slk.c0
  have t1 := hs0.slk.c1
  have t2 := hs0.slk.c2
  go_enter Tryd.func34, Tryd.ntmps34
  go_wp2_with fail
  refine (c59.out).mono ?_
  rintro e w1 ⟨rfl, hb1⟩
  have hw1 := hst.out.call hb1
  clear hb1 hs0 g0 g1 g2 g3 t0 t1 t2
  have hbb := hw1.below
  clear hw1
  go_wp2
  go_ret2
  exact ⟨rfl, hbb⟩

set_option maxRecDepth 100000 in
set_option maxHeartbeats 4000000 in
theorem Cost_arg (B : Nat) (W H : Int) (aL aS aO aP : Option Addr) (cL cS cO cP : Nat) (L : List Bool) (n : Nat) (S : List Int) (K : Int) (O : List Int) (aw : Int) (P : List Int) (w : World) (h : BayIn w B aL L aS n S) (hO : Row w B aO O) (hP : Row w B aP P) (hB : B ≤ w.heap.size) (hv : validB W H L n S = true) (hs : slkB L.length K O aw = true) (hp : pricesB L.length P = false) :
    Calls Tryd.prog 34 #[.agg #[.int .i64 W, .int .i64 H, .slice aL L.length cL, .slice aS n cS], .agg #[.int .i64 K, .slice aO O.length cO, .int .i64 aw], .slice aP P.length cP] w fun e w' => e = .returned (.tuple #[.int .i64 0, .int .i64 2]) ∧ Below w.heap.size w w' := by
  have hst := (coW_start w (.int .i64 W) (.int .i64 H) (.slice aL L.length cL) (.slice aS n cS) (.int .i64 K) (.slice aO O.length cO) (.int .i64 aw)).call (ba1 _ (.cells #[.int .i64 K, .slice aO O.length cO, .int .i64 aw] 28))
  have c59 := checked1_any B W H aL aS aO cL cS cO L n S K O aw (w.heap.size + 2) 1 _ (h.below (hst.below.mono hB)) (hO.below (hst.below.mono hB)) (by simp; omega) (by simp) ⟨by simp [go_sem], by simp [go_sem], by simp [go_sem]⟩
  have hV := val_of hv
  have h36 : L.length ≤ 36 := by
    have := hV.2.1.1
    have := Int.mul_le_mul hV.1.1.2 hV.1.2.2 (by have := hV.1.2.1; omega) (by omega)
    omega
  have c72 := fun X (hX : Below w.heap.size w X) => isPrices_any B W H aL aS aP cL cS cP L.length n P X (hP.below (hX.mono hB)) (Nat.le_trans hB hX.size) (by omega)
  rw [hp] at c72
  rw [hv, hs] at c59
  replace c72 := Lib.hid c72
  clear hv hs hp hV
  replace c59 := Lib.hid c59
  replace hst := Lib.hid hst
  have hs0 := hst.out
  have g0 := hs0.bay.c0
  have g1 := hs0.bay.c1
  have g2 := hs0.bay.c2
  have g3 := hs0.bay.c3
  have t0 := hs0.slk.c0
  have t1 := hs0.slk.c1
  have t2 := hs0.slk.c2
  go_enter Tryd.func34, Tryd.ntmps34
  go_wp2_with fail
  refine (c59.out).mono ?_
  rintro e w1 ⟨rfl, hb1⟩
  have hw1 := hst.out.call hb1
  clear hb1 hs0 g0 g1 g2 g3 t0 t1 t2
  have g0 := hw1.bay.c0
  have g1 := hw1.bay.c1
  have g2 := hw1.bay.c2
  have g3 := hw1.bay.c3
  go_wp2_with fail
  refine (c72.out _ hw1.below).mono ?_
  rintro e w2 ⟨rfl, hb2⟩
  have hbb := (hw1.call hb2).below
  clear hb2 hw1 g0 g1 g2 g3
  go_wp2
  go_ret2
  exact ⟨rfl, hbb⟩

set_option maxRecDepth 100000 in
set_option maxHeartbeats 4000000 in
theorem Cost_ok (B : Nat) (W H : Int) (aL aS aO aP : Option Addr) (cL cS cO cP : Nat) (L : List Bool) (n : Nat) (S : List Int) (K : Int) (O : List Int) (aw : Int) (P : List Int) (w : World) (h : BayIn w B aL L aS n S) (hO : Row w B aO O) (hP : Row w B aP P) (hB : B ≤ w.heap.size) (hv : validB W H L n S = true) (hs : slkB L.length K O aw = true) (hp : pricesB L.length P = true) :
    Calls Tryd.prog 34 #[.agg #[.int .i64 W, .int .i64 H, .slice aL L.length cL, .slice aS n cS], .agg #[.int .i64 K, .slice aO O.length cO, .int .i64 aw], .slice aP P.length cP] w fun e w' => e = .returned (.tuple #[.int .i64 (cst (amt O aw) P), .int .i64 0]) ∧ Below w.heap.size w w' := by
  have hst := (coW_start w (.int .i64 W) (.int .i64 H) (.slice aL L.length cL) (.slice aS n cS) (.int .i64 K) (.slice aO O.length cO) (.int .i64 aw)).call (ba1 _ (.cells #[.int .i64 K, .slice aO O.length cO, .int .i64 aw] 28))
  have c59 := checked1_any B W H aL aS aO cL cS cO L n S K O aw (w.heap.size + 2) 1 _ (h.below (hst.below.mono hB)) (hO.below (hst.below.mono hB)) (by simp; omega) (by simp) ⟨by simp [go_sem], by simp [go_sem], by simp [go_sem]⟩
  have hV := val_of hv
  have h36 : L.length ≤ 36 := by
    have := hV.2.1.1
    have := Int.mul_le_mul hV.1.1.2 hV.1.2.2 (by have := hV.1.2.1; omega) (by omega)
    omega
  have hOl : O.length = L.length := (slk_of hs).1
  have hpo := prices_of hp
  have hsp := (slk_of hs).2
  have htt := slk_tot hsp
  have hal : (amt O aw).length = L.length + 1 := by rw [amt_len, hOl]
  have hbnd : ∀ i, i < L.length + 1 → (0 ≤ el (amt O aw) i ∧ el (amt O aw) i ≤ 1000000000000) ∧ 0 ≤ el P i ∧ el P i ≤ 1000 := fun i hi => by
    refine ⟨⟨hsp.2.1 i (by omega), ?_⟩, hpo.2 i (by omega)⟩
    have := el_le_tot hsp.2.1 i (by omega)
    omega
  have hmul : ∀ i, i < L.length + 1 → 0 ≤ el (amt O aw) i * el P i ∧ el (amt O aw) i * el P i ≤ 1000000000000000 := fun i hi => by
    have := hbnd i hi
    refine ⟨Int.mul_nonneg this.1.1 this.2.1, ?_⟩
    have := Int.mul_le_mul this.1.2 this.2.2 this.2.1 (by omega)
    omega
  have hsm := sm_bound (f := fun i => el (amt O aw) i * el P i) (L.length + 1) (by omega) hmul
  have c72 := fun X (hX : Below w.heap.size w X) => isPrices_any B W H aL aS aP cL cS cP L.length n P X (hP.below (hX.mono hB)) (Nat.le_trans hB hX.size) (by omega)
  rw [hp] at c72
  rw [hv, hs] at c59
  have c64 := fun X (hX : Below w.heap.size w X) => (amounts_any B K aO cO O aw X (hO.below (hX.mono hB)) (Nat.le_trans hB hX.size) (by omega)).mono fun e w' hn => hn.cap (by rw [List.length_append]; simp; omega)
  have hcs : cst (amt O aw) P = sm (fun i => el (amt O aw) i * el P i) (L.length + 1) := by unfold cst; rw [hal]
  rw [hcs]
  have hPr := fun X (hX : Below w.heap.size w X) i (hi : i < L.length + 1) => (hP.below (hX.mono hB)).at_ i (by rw [hpo.1]; exact hi)
  have hpl := hpo.1
  have hp63 := hP.1
  change ∀ X, Below w.heap.size w X → Calls Tryd.prog 64 _ X (NewCap X (amt O aw)) at c64
  clear hcs hv hs hp hV hsp htt hpo hO hP h
  generalize amt O aw = a at *
  generalize hm : L.length + 1 = m at *
  have hm37 : 1 ≤ m ∧ m ≤ 37 := by omega
  unfold NewCap at c64
  rw [hal] at c64
  replace hm := Lib.hid hm
  replace hal := Lib.hid hal
  replace hpl := Lib.hid hpl
  replace hbnd := Lib.hid hbnd
  replace hmul := Lib.hid hmul
  replace hsm := Lib.hid hsm
  replace hPr := Lib.hid hPr
  replace hOl := Lib.hid hOl
  replace c72 := Lib.hid c72
  replace c64 := Lib.hid c64
  replace c59 := Lib.hid c59
  replace hst := Lib.hid hst
  have hs0 := hst.out
  have g0 := hs0.bay.c0
  have g1 := hs0.bay.c1
  have g2 := hs0.bay.c2
  have g3 := hs0.bay.c3
  have t0 := hs0.slk.c0
  have t1 := hs0.slk.c1
  have t2 := hs0.slk.c2
  go_enter Tryd.func34, Tryd.ntmps34
  go_wp2_with fail
  refine (c59.out).mono ?_
  rintro e w1 ⟨rfl, hb1⟩
  have hw1 := hst.out.call hb1
  clear hb1 hs0 g0 g1 g2 g3 t0 t1 t2
  have g0 := hw1.bay.c0
  have g1 := hw1.bay.c1
  have g2 := hw1.bay.c2
  have g3 := hw1.bay.c3
  go_wp2_with fail
  refine (c72.out _ hw1.below).mono ?_
  rintro e w2 ⟨rfl, hb2⟩
  have hw2 := hw1.call hb2
  clear hb2 hw1 g0 g1 g2 g3
  have t0 := hw2.slk.c0
  have t1 := hw2.slk.c1
  have t2 := hw2.slk.c2
  go_wp2_with fail
  refine (c64.out _ hw2.below).mono ?_
  rintro e w3 ⟨A, c, rfl, hc3, hb3, hr3⟩
  have hw3 := hw2.call hb3
  clear hb3 hw2 t0 t1 t2
  have hbb := hw3.below
  clear hw3
  replace hbb := Lib.hid hbb
  replace hr3 := Lib.hid hr3
  go_wp2
  go_loop [9, 26] (fun s i => ∃ k : Nat, k ≤ m ∧ i = .int .i64 k ∧ s = .int .i64 (sm (fun i => el a i * el P i) k)) (fun _ i => m - (intOf i).toNat)
  case atStart => exact ⟨0, Nat.zero_le _, rfl, rfl⟩
  case round =>
    obtain ⟨k, hk, rfl, rfl⟩ := hrel
    by_cases hlt : k < m
    · have hkI : (k : Int) < (m : Nat) := by omega
      obtain ⟨b, o, rfl, hb, hc⟩ := hr3.out.at_ k (by rw [hal.out]; exact hlt)
      obtain ⟨b', o', rfl, hb', hc'⟩ := hPr.out _ hbb.out k hlt
      have hpI : (k : Int) < (P.length : Nat) := by rw [hpl.out]; exact hkI
      have b1 := hmul.out k hlt
      have b2 := hsm.out k hk
      have hsn := sm_succ (fun i => el a i * el P i) k
      generalize sm (fun i => el a i * el P i) k = s0 at *
      generalize el a k = x0 at *
      generalize el P k = y0 at *
      obtain ⟨q0, hq0⟩ : ∃ t, t = x0 * y0 := ⟨_, rfl⟩
      rw [← hq0] at b1 hsn
      have wm : IntKind.i64.wrap (x0 * y0) = q0 := by rw [hq0]; exact IntWalk.i64_in _ (by omega)
      clear hq0
      replace hsn := Lib.hid hsn
      go_wp2
      go_round
      case rel => exact ⟨k + 1, by omega, by go_num, by rw [hsn.out]⟩
      case measure => simp [intOf]; omega
    · have hk' : k = m := by omega
      subst hk'
      go_wp2
      go_ret2
      exact ⟨rfl, hbb.out⟩

theorem Cost_any (B : Nat) (W H : Int) (aL aS aO aP : Option Addr) (cL cS cO cP : Nat) (L : List Bool) (n : Nat) (S : List Int) (K : Int) (O : List Int) (aw : Int) (P : List Int) (w : World) (h : BayIn w B aL L aS n S) (hO : Row w B aO O) (hP : Row w B aP P) (hB : B ≤ w.heap.size) :
    Calls Tryd.prog 34 #[.agg #[.int .i64 W, .int .i64 H, .slice aL L.length cL, .slice aS n cS], .agg #[.int .i64 K, .slice aO O.length cO, .int .i64 aw], .slice aP P.length cP] w fun e w' => e = .returned (.tuple #[.int .i64 (cosR W H L n S K O aw P).1, .int .i64 (cosR W H L n S K O aw P).2]) ∧ Below w.heap.size w w' := by
  cases hv : validB W H L n S with
  | false =>
    have hr : cosR W H L n S K O aw P = (0, 20) := by unfold cosR; rw [hv]; rfl
    rw [hr]
    exact Cost_bad B W H aL aS aO aP cL cS cO cP L n S K O aw P w h hO hP hB (.inl hv) 20 (by rw [hv]; rfl)
  | true =>
  cases hs : slkB L.length K O aw with
  | false =>
    have hr : cosR W H L n S K O aw P = (0, 21) := by unfold cosR; rw [hv, hs]; rfl
    rw [hr]
    exact Cost_bad B W H aL aS aO aP cL cS cO cP L n S K O aw P w h hO hP hB (.inr ⟨hv, hs⟩) 21 (by rw [hv]; rfl)
  | true =>
  cases hp : pricesB L.length P with
  | false =>
    have hr : cosR W H L n S K O aw P = (0, 2) := by unfold cosR; rw [hv, hs, hp]; rfl
    rw [hr]
    exact Cost_arg B W H aL aS aO aP cL cS cO cP L n S K O aw P w h hO hP hB hv hs hp
  | true =>
    have hr : cosR W H L n S K O aw P = (cst (amt O aw) P, 0) := by unfold cosR; rw [hv, hs, hp]; rfl
    rw [hr]
    exact Cost_ok B W H aL aS aO aP cL cS cO cP L n S K O aw P w h hO hP hB hv hs hp

/-! ### the specification -/
set_option maxRecDepth 100000 in
set_option maxHeartbeats 4000000 in
theorem ArePrices_ref (B : Nat) (W H : Int) (aL aS aP : Option Addr) (cL cS cP : Nat) (nL n m : Nat) (P : List Int) (w : World) (hP : Row w B aP P) (hB : B ≤ w.heap.size) (hm : (m : Int) = W * H) (h36 : m ≤ 36) :
    Calls Tryd.prog 53 #[.agg #[.int .i64 W, .int .i64 H, .slice aL nL cL, .slice aS n cS], .slice aP P.length cP] w fun e w' => e = .returned (.bool (pricesB m P)) ∧ Below w.heap.size w w' := by
  have hb0 := ba1 w (.cells #[.int .i64 W, .int .i64 H, .slice aL nL cL, .slice aS n cS] 25)
  have hp63 := hP.1
  have wm : IntKind.i64.wrap (W * H) = (m : Int) := by rw [← hm]; exact IntWalk.i64_in _ (by omega)
  have t := Quad.new w (.int .i64 W) (.int .i64 H) (.slice aL nL cL) (.slice aS n cS)
  have g0 := t.c0
  have g1 := t.c1
  clear t
  replace hm := Lib.hid hm
  replace hb0 := Lib.hid hb0
  unfold pricesB
  by_cases e : P.length = m + 1
  · have d : decide (P.length = m + 1) = true := decide_eq_true e
    rw [d, Bool.true_and]
    have hP' := hP.below (hb0.out.mono hB)
    replace e := Lib.hid e
    have eI : (P.length : Int) = (m : Int) + 1 := by have := e.out; omega
    have eB : ((P.length : Int) != (m : Int) + 1) = false := by simp; omega
    clear d
    replace eI := Lib.hid eI
    go_enter Tryd.func53, Tryd.ntmps53
    go_wp2
    go_loop [5] (fun i => ∃ j : Nat, j ≤ P.length ∧ i = .int .i64 j ∧ badPIn P j = false) (fun i => P.length - (intOf i).toNat)
    case atStart => exact ⟨0, Nat.zero_le _, rfl, rfl⟩
    case round =>
      obtain ⟨j, hj, rfl, hnb⟩ := hrel
      by_cases hlt : j < P.length
      · obtain ⟨b', o', rfl, hb', hcell⟩ := hP'.at_ j hlt
        have hjj : (j : Int) < ((P.length : Nat) : Int) := by omega
        have hl37 : P.length ≤ 37 := by have := e.out; omega
        cases hbb : badP (el P j) with
        | true =>
          have hall := Lib.hid (badPIn_of P.length j hlt hbb)
          replace hnb := Lib.hid hnb
          unfold badP at hbb
          generalize el P j = v at *
          by_cases h0 : v < 0
          · clear hbb
            go_wp2
            go_ret
            exact ⟨by rw [hall.out]; rfl, hb0.out⟩
          · have h1 : 1000 < v := by
              rw [Bool.or_eq_true] at hbb
              rcases hbb with h | h
              · exact absurd (of_decide_eq_true h) h0
              · exact of_decide_eq_true h
            clear hbb
            go_wp2
            go_ret
            exact ⟨by rw [hall.out]; rfl, hb0.out⟩
        | false =>
          have hn2 : badPIn P (j + 1) = false := by show (badPIn P j || badP (el P j)) = false; rw [hnb, hbb]; rfl
          replace hn2 := Lib.hid hn2
          replace hnb := Lib.hid hnb
          unfold badP at hbb
          rw [Bool.or_eq_false_iff] at hbb
          have h0 := of_decide_eq_false hbb.1
          have h1 := of_decide_eq_false hbb.2
          clear hbb
          generalize el P j = v at *
          go_wp2
          go_round
          case rel => exact ⟨j + 1, by omega, by go_num, hn2.out⟩
          case measure => simp [intOf]; omega
      · have hjj : ¬ (j : Int) < ((P.length : Nat) : Int) := by omega
        obtain rfl : j = P.length := by omega
        replace hnb := Lib.hid hnb
        go_wp2
        go_ret
        exact ⟨by rw [hnb.out]; rfl, hb0.out⟩
  · have d : decide (P.length = m + 1) = false := decide_eq_false e
    rw [d, Bool.false_and]
    have eB : ((P.length : Int) != (m : Int) + 1) = true := by simp; omega
    replace e := Lib.hid e
    clear hP d
    go_enter Tryd.func53, Tryd.ntmps53
    go_wp2
    go_ret
    exact ⟨rfl, hb0.out⟩

set_option maxRecDepth 100000 in
set_option maxHeartbeats 4000000 in
theorem Priced_ref (B : Nat) (aO aP : Option Addr) (cO cP m : Nat) (K : Int) (O : List Int) (aw : Int) (P : List Int) (w : World) (hO : Row w B aO O) (hP : Row w B aP P) (hB : B ≤ w.heap.size) (hOl : O.length = m) (hPl : P.length = m + 1) (h36 : m ≤ 36)
    (hmul : ∀ i, i < m + 1 → 0 ≤ el (amt O aw) i * el P i ∧ el (amt O aw) i * el P i ≤ 1000000000000000) :
    Calls Tryd.prog 54 #[.agg #[.int .i64 K, .slice aO m cO, .int .i64 aw], .slice aP (m + 1) cP] w fun e w' => e = .returned (.int .i64 (cst (amt O aw) P)) ∧ Below w.heap.size w w' := by
  have hb0 := ba1 w (.cells #[.int .i64 K, .slice aO m cO, .int .i64 aw] 28)
  have t := Tri.new w (.int .i64 K) (.slice aO m cO) (.int .i64 aw)
  have hsm := sm_bound (f := fun i => el (amt O aw) i * el P i) (m + 1) (by omega) hmul
  have hO' := fun X (hX : Below w.heap.size w X) i (hi : i < m) => (hO.below (hX.mono hB)).at_ i (by rw [hOl]; exact hi)
  have hP' := fun X (hX : Below w.heap.size w X) i (hi : i < m + 1) => (hP.below (hX.mono hB)).at_ i (by rw [hPl]; exact hi)
  have hcs : cst (amt O aw) P = aw * el P m + sm (fun i => el O i * el P i) m := by
    unfold cst
    rw [amt_len, hOl, sm_succ]
    have e1 : el (amt O aw) m = aw := by rw [← hOl]; exact amt_away O aw
    rw [e1, Int.add_comm]
    congr 1
    exact sm_congr _ (fun i hi => by rw [amt_el _ _ _ (by omega)])
  have hmO : ∀ i, i < m → 0 ≤ el O i * el P i ∧ el O i * el P i ≤ 1000000000000000 := fun i hi => by
    have := hmul i (by omega)
    rw [amt_el _ _ _ (by omega)] at this
    exact this
  have hmA : 0 ≤ aw * el P m ∧ aw * el P m ≤ 1000000000000000 := by
    have := hmul m (by omega)
    have e1 : el (amt O aw) m = aw := by rw [← hOl]; exact amt_away O aw
    rw [e1] at this
    exact this
  have hsO := sm_bound (f := fun i => el O i * el P i) m (by omega) hmO
  rw [hcs]
  obtain ⟨bP, oP, rfl, hbP, hcP⟩ := hP' _ hb0 m (by omega)
  have hmI : (m : Int) < ((m + 1 : Nat) : Int) := by omega
  generalize el P m = y0 at *
  obtain ⟨q0, hq0⟩ : ∃ t, t = aw * y0 := ⟨_, rfl⟩
  rw [← hq0] at hmA ⊢
  have wm : IntKind.i64.wrap (aw * y0) = q0 := by rw [hq0]; exact IntWalk.i64_in _ (by omega)
  clear hq0 hcs hsm hmul hO hP hOl hPl
  have t1 := t.c1
  have t2 := t.c2
  replace hb0 := Lib.hid hb0
  replace hO' := Lib.hid hO'
  replace hP' := Lib.hid hP'
  replace hmO := Lib.hid hmO
  replace hsO := Lib.hid hsO
  go_enter Tryd.func54, Tryd.ntmps54
  go_upto_region 1 with fail
  go_quiet (fail)
  clear t1 t2 hcP
  have hst : Below w.heap.size w ((w.alloc (.cells #[.int .i64 K, .slice aO m cO, .int .i64 aw] 28)).drewN nq) ∧ Tri ((w.alloc (.cells #[.int .i64 K, .slice aO m cO, .int .i64 aw] 28)).drewN nq) w.heap.size (.int .i64 K) (.slice aO m cO) (.int .i64 aw) := ⟨below_drewN hb0.out _, t⟩
  have t1 := hst.2.c1
  replace hst := Lib.hid hst
  go_wp2
  go_loopw [5, 6] (fun s i X => ∃ k : Nat, k ≤ m ∧ i = .int .i64 k ∧ s = .int .i64 (q0 + sm (fun i => el O i * el P i) k) ∧ Below w.heap.size w X ∧ Tri X w.heap.size (.int .i64 K) (.slice aO m cO) (.int .i64 aw)) (fun _ i _ => m - (intOf i).toNat)
  case atStart => exact ⟨0, Nat.zero_le _, rfl, by simp [sm_zero], hst.out⟩
  case round =>
    clear hst t1
    obtain ⟨k, hk, rfl, rfl, hX, hT⟩ := hrel
    have t1 := hT.c1
    by_cases hlt : k < m
    · have hkI : (k : Int) < (m : Nat) := by omega
      have hkI2 : (k : Int) < ((m + 1 : Nat) : Int) := by omega
      obtain ⟨b, o, rfl, hb, hc⟩ := hO'.out _ hX k hlt
      obtain ⟨b', o', e', hb', hc'⟩ := hP'.out _ hX k (by omega)
      obtain ⟨rfl, rfl⟩ : bP = b' ∧ oP = o' := by simpa using e'
      have b1 := hmO.out k hlt
      have b2 := hsO.out k hk
      have hsn := sm_succ (fun i => el O i * el P i) k
      generalize sm (fun i => el O i * el P i) k = s0 at *
      generalize el O k = x0 at *
      generalize el P k = z0 at *
      obtain ⟨p0, hp0⟩ : ∃ t, t = x0 * z0 := ⟨_, rfl⟩
      rw [← hp0] at b1 hsn
      have wm2 : IntKind.i64.wrap (x0 * z0) = p0 := by rw [hp0]; exact IntWalk.i64_in _ (by omega)
      obtain ⟨s1, hs1⟩ : ∃ t, t = q0 + s0 := ⟨_, rfl⟩
      obtain ⟨s2, hs2⟩ : ∃ t, t = s1 + p0 := ⟨_, rfl⟩
      have wm3 : IntKind.i64.wrap (s1 + p0) = s2 := by rw [hs2]; exact IntWalk.i64_in _ (by omega)
      rw [← hs1]
      have hrel2 : s2 = q0 + sm (fun i => el O i * el P i) (k + 1) := by rw [hsn, hs2, hs1]; omega
      clear hp0 hsn e' hs1 hs2
      replace hrel2 := Lib.hid hrel2
      replace hX := Lib.hid hX
      replace hT := Lib.hid hT
      go_wp2
      go_quiet (fail)
      go_wp2
      go_roundw
      case rel => exact ⟨k + 1, by omega, by go_num, by rw [hrel2.out], below_drewN hX.out _, hT.out⟩
      case measure => simp [intOf]; omega
    · have hk' : k = m := by omega
      subst hk'
      go_wp2
      go_ret
      exact ⟨rfl, hX⟩
end Go.Proofs.YtnbgjgiknfcdkaaDoor
