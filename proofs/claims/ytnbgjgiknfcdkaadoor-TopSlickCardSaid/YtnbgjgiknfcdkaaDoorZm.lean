/-
  'isPrices', 'before', 'Before': prices before moves.
-/
import Derived.Test.YtnbgjgiknfcdkaaDoorZl
import Derived.Test.YtnbgjgiknfcdkaaDoorD
import Derived.Test.YtnbgjgiknfcdkaaDoorF
namespace Go.Proofs.YtnbgjgiknfcdkaaDoor
open Go.RowKit Go.Deep M
set_option linter.unusedVariables false
set_option linter.unusedSimpArgs false

/-! ### which prices are some -/
def badP (v : Int) : Bool := decide (v < 0) || decide (1000 < v)
def badPIn (a : List Int) : Nat → Bool
  | 0 => false
  | m + 1 => badPIn a m || badP (el a m)
theorem badPIn_of {a : List Int} : ∀ (m j : Nat), j < m → badP (el a j) = true → badPIn a m = true
  | m + 1, j, hj, hb => by
    show (badPIn a m || badP (el a m)) = true
    by_cases e : j = m
    · subst e; rw [hb]; simp
    · rw [badPIn_of m j (by omega) hb]; rfl
theorem not_badPIn {a : List Int} : ∀ (m : Nat), badPIn a m = false → ∀ j, j < m → badP (el a j) = false
  | 0, _, j, hj => absurd hj (by omega)
  | m + 1, h, j, hj => by
    have h' : (badPIn a m || badP (el a m)) = false := h
    rw [Bool.or_eq_false_iff] at h'
    by_cases e : j = m
    · subst e; exact h'.2
    · exact not_badPIn m h'.1 j (by omega)
/-- What isPrices answers, for m cells. -/
def pricesB (m : Nat) (P : List Int) : Bool := decide (P.length = m + 1) && !(badPIn P P.length)
theorem prices_of {m : Nat} {P : List Int} (h : pricesB m P = true) : P.length = m + 1 ∧ ∀ i, i ≤ m → 0 ≤ el P i ∧ el P i ≤ 1000 := by
  unfold pricesB at h
  rw [Bool.and_eq_true, Bool.not_eq_true'] at h
  have h1 : P.length = m + 1 := by simpa using h.1
  refine ⟨h1, fun i hi => ?_⟩
  have := not_badPIn _ h.2 i (by omega)
  unfold badP at this
  rw [Bool.or_eq_false_iff] at this
  have e1 := of_decide_eq_false this.1
  have e2 := of_decide_eq_false this.2
  omega

set_option maxRecDepth 100000 in
set_option maxHeartbeats 4000000 in
theorem badPrice_any (v : Int) (w : World) : Calls Tryd.prog 88 #[.int .i64 v] w fun e w' => e = .returned (.bool (badP v)) ∧ w = w' := by
  unfold badP
  cases h0 : decide (v < 0) with
  | true =>
    go_enter Tryd.func88, Tryd.ntmps88
    go_wp2
    go_ret
    exact ⟨rfl, rfl⟩
  | false =>
    go_enter Tryd.func88, Tryd.ntmps88
    go_wp2
    go_ret
    exact ⟨rfl, rfl⟩

set_option maxRecDepth 100000 in
set_option maxHeartbeats 4000000 in
theorem indexP_any (B : Nat) (A : Option Addr) (c : Nat) (a : List Int) (w : World) (ha : Row w B A a) (hl : a.length ≤ 901) :
    Calls Tryd.prog 97 #[.slice A a.length c, .func (.func 88) #[] #[]] w fun e w' => ∃ r : Int, e = .returned (.int .i64 r) ∧ decide (0 ≤ r) = badPIn a a.length ∧ w = w' := by
  have cb : ∀ i, Calls Tryd.prog 88 #[.int .i64 (el a i)] w fun e w' => e = .returned (.bool (badP (el a i))) ∧ w = w' := fun i => badPrice_any (el a i) w
  replace cb := Lib.hid cb
  go_enter Tryd.func97, Tryd.ntmps97
  go_wp2
  go_loop [8] (fun i => ∃ j : Nat, j ≤ a.length ∧ i = .int .i64 j ∧ badPIn a j = false) (fun i => a.length - (intOf i).toNat)
  case atStart => exact ⟨0, Nat.zero_le _, rfl, rfl⟩
  case round =>
    obtain ⟨j, hj, rfl, hnb⟩ := hrel
    by_cases hlt : j < a.length
    · obtain ⟨b', o', rfl, hb', hcell⟩ := ha.at_ j hlt
      have hjj : (j : Int) < ((a.length : Nat) : Int) := by omega
      cases hbb : badP (el a j) with
      | true =>
        have hall := badPIn_of a.length j hlt hbb
        have c1 := cb.out j
        rw [hbb] at c1
        replace c1 := Lib.hid c1
        replace hall := Lib.hid hall
        replace hnb := Lib.hid hnb
        clear hbb cb
        go_wp2_with fail
        refine c1.out.mono ?_
        rintro e w1 ⟨rfl, rfl⟩
        go_wp2
        go_ret
        exact ⟨(j : Int), rfl, by rw [hall.out]; simp, rfl⟩
      | false =>
        have hn2 : badPIn a (j + 1) = false := by show (badPIn a j || badP (el a j)) = false; rw [hnb, hbb]; rfl
        have c1 := cb.out j
        rw [hbb] at c1
        replace c1 := Lib.hid c1
        replace hn2 := Lib.hid hn2
        replace hnb := Lib.hid hnb
        clear hbb cb
        go_wp2_with fail
        refine c1.out.mono ?_
        rintro e w1 ⟨rfl, rfl⟩
        go_wp2
        go_round
        case rel => exact ⟨j + 1, by omega, by go_num, hn2.out⟩
        case measure => simp [intOf]; omega
    · have hjj : ¬ (j : Int) < ((a.length : Nat) : Int) := by omega
      obtain rfl : j = a.length := by omega
      replace hnb := Lib.hid hnb
      go_wp2
      go_ret
      exact ⟨-1, rfl, by rw [hnb.out]; rfl, rfl⟩

set_option maxRecDepth 100000 in
set_option maxHeartbeats 4000000 in
theorem containsP_any (B : Nat) (A : Option Addr) (c : Nat) (a : List Int) (w : World) (ha : Row w B A a) (hl : a.length ≤ 901) :
    Calls Tryd.prog 87 #[.slice A a.length c, .func (.func 88) #[] #[]] w fun e w' => e = .returned (.bool (badPIn a a.length)) ∧ w = w' := by
  have c97 := indexP_any B A c a w ha hl
  generalize badPIn a a.length = q at *
  replace c97 := Lib.hid c97
  clear ha
  go_enter Tryd.func87, Tryd.ntmps87
  go_wp2_with fail
  refine c97.out.mono ?_
  rintro e w1 ⟨r, rfl, hr, rfl⟩
  replace hr := Lib.hid hr
  go_wp2
  go_ret
  exact ⟨ret_bool hr.out, rfl⟩

set_option maxRecDepth 100000 in
set_option maxHeartbeats 4000000 in
theorem isPrices_any (B : Nat) (W H : Int) (aL aS aP : Option Addr) (cL cS cP : Nat) (nL n : Nat) (P : List Int) (w : World) (hP : Row w B aP P) (hB : B ≤ w.heap.size) (hl : nL ≤ 900) :
    Calls Tryd.prog 72 #[.agg #[.int .i64 W, .int .i64 H, .slice aL nL cL, .slice aS n cS], .slice aP P.length cP] w fun e w' => e = .returned (.bool (pricesB nL P)) ∧ Below w.heap.size w w' := by
  have hb0 := ba1 w (.cells #[.int .i64 W, .int .i64 H, .slice aL nL cL, .slice aS n cS] 25)
  have hP' := hP.below (hb0.mono hB)
  have hp63 := hP.1
  unfold pricesB
  by_cases e : P.length = nL + 1
  · have c87 := containsP_any B aP cP P _ hP' (by omega)
    have d : decide (P.length = nL + 1) = true := decide_eq_true e
    rw [d]
    generalize badPIn P P.length = q at *
    generalize P.length = m at *
    have eI : (m : Int) = (nL : Int) + 1 := by omega
    have eB : ((m : Int) == (nL : Int) + 1) = true := by simpa using eI
    replace c87 := Lib.hid c87
    clear hP hP' d
    replace hb0 := Lib.hid hb0
    replace e := Lib.hid e
    go_enter Tryd.func72, Tryd.ntmps72
    go_wp2_with fail
    refine c87.out.mono ?_
    rintro e w1 ⟨rfl, rfl⟩
    go_wp2
    go_ret
    exact ⟨rfl, hb0.out⟩
  · have d : decide (P.length = nL + 1) = false := decide_eq_false e
    rw [d]
    generalize P.length = m at *
    have eB : ((m : Int) == (nL : Int) + 1) = false := by simp; omega
    replace hb0 := Lib.hid hb0
    replace e := Lib.hid e
    clear hP hP' d
    go_enter Tryd.func72, Tryd.ntmps72
    go_wp2
    go_ret
    exact ⟨rfl, hb0.out⟩

/-! ### the prices before some moves -/
theorem bf_bound {w h : Nat} {L : List Bool} {S a : List Int} (hB : Bay w h L S) (ha : ∀ i, i ≤ w * h → 0 ≤ el a i ∧ el a i ≤ 1000) : ∀ k, k ≤ 5 → ∀ i, i ≤ w * h → 0 ≤ el (bf w h L S k a) i ∧ el (bf w h L S k a) i ≤ 1000 * (16 : Int) ^ k
  | 0, _, i, hi => by have := ha i hi; show 0 ≤ el a i ∧ el a i ≤ 1000 * (16 : Int) ^ 0; omega
  | k + 1, hk, i, hi => by
    have ih := bf_bound hB ha k (by omega)
    show 0 ≤ el (pr w h L S (bf w h L S k a)) i ∧ el (pr w h L S (bf w h L S k a)) i ≤ _
    rw [pr_el hi]
    unfold prF
    generalize bf w h L S k a = c at *
    have hp : 0 ≤ (16 : Int) ^ k := Int.pow_nonneg (by omega)
    constructor
    · exact sm_nonneg _ (fun j hj => Int.mul_nonneg (G_nonneg hB i j hi) (ih j (by omega)).1)
    · have h1 : sm (fun j => G w h L S i j * el c j) (w * h + 1) ≤ sm (fun j => G w h L S i j * (1000 * (16 : Int) ^ k)) (w * h + 1) := sm_le _ (fun j hj => Int.mul_le_mul_of_nonneg_left (ih j (by omega)).2 (G_nonneg hB i j hi))
      rw [sm_mul_right, G_sum hB i hi] at h1
      rw [Int.pow_succ]
      generalize (16 : Int) ^ k = q at *
      omega

set_option maxRecDepth 100000 in
set_option maxHeartbeats 4000000 in
theorem before_any (B : Nat) (w h : Nat) (aL aS A : Option Addr) (cL cS c n : Nat) (L : List Bool) (S a : List Int) (W : World) (hBay : Bay w h L S) (hm : BayIn W B aL L aS (w * h) S) (ha : Row W B A a) (hB : B ≤ W.heap.size) (hB1 : 1 ≤ B) (hd : Dirs W)
    (hlen : a.length = w * h + 1) (hnn : ∀ i, i ≤ w * h → 0 ≤ el a i ∧ el a i ≤ 1000) (hn : n ≤ 5) :
    Calls Tryd.prog 73 #[.agg #[.int .i64 w, .int .i64 h, .slice aL L.length cL, .slice aS (w * h) cS], .slice A a.length c, .int .i64 n] W (NewCap W (bf w h L S n a)) := by
  have step : ∀ k, k < n → ∀ W' A' c', Below W.heap.size W W' → Row W' W'.heap.size A' (bf w h L S k a) → Calls Tryd.prog 89 #[.agg #[.int .i64 w, .int .i64 h, .slice aL L.length cL, .slice aS (w * h) cS], .slice A' a.length c'] W' (NewCap W' (bf w h L S (k + 1) a)) := fun k hk W' A' c' hb hr => by
    have h1 := priced_any W'.heap.size w h aL aS A' cL cS c' L S (bf w h L S k a) W' hBay ((hm.below (hb.mono hB)).more (Nat.le_trans hB hb.size)) hr (Nat.le_refl _) (by have := hb.size; omega) (hd.below (hb.mono hB) hB1)
      (bf_len hlen k) (fun i hi => by
        have h2 := bf_bound hBay hnn k (by omega) i hi
        have h3 := pow16 k 5 (by omega) 1000 (by omega)
        refine ⟨h2.1, ?_⟩
        have h4 : 1000 * (16 : Int) ^ k = (16 : Int) ^ k * 1000 := Int.mul_comm _ _
        omega)
    rw [bf_len hlen k, ← hlen] at h1
    exact h1
  have hl : ∀ k, (bf w h L S k a).length = a.length := fun k => by rw [bf_len hlen k, hlen]
  have h0 : bf w h L S 0 a = a := rfl
  have ha36 : a.length ≤ 37 := by have := hBay.cells; omega
  have c84 : Calls Tryd.prog 84 #[.slice A a.length c] (W.alloc (.cells #[.int .i64 w, .int .i64 h, .slice aL L.length cL, .slice aS (w * h) cS] 82)) (NewCap (W.alloc (.cells #[.int .i64 w, .int .i64 h, .slice aL L.length cL, .slice aS (w * h) cS] 82)) (bf w h L S 0 a)) :=
    (Clone_any B A c a _ (ha.below ((ba1 W _).mono hB)) (by simp; omega) (by omega)).mono fun e w' hn => hn.cap (by omega)
  generalize hf : (fun k => bf w h L S k a) = F
  have hF : ∀ k, bf w h L S k a = F k := fun k => congrFun hf k
  simp only [hF] at *
  clear hf hF hlen hnn hBay
  replace step := Lib.hid step
  replace hl := Lib.hid hl
  replace h0 := Lib.hid h0
  replace c84 := Lib.hid c84
  go_enter Tryd.func73, Tryd.ntmps73
  go_wp2_with fail
  refine c84.out.mono ?_
  rintro e w0 ⟨A0, c0, rfl, hc0, hb0, hr0⟩
  rw [hl.out] at hc0 ⊢
  have hbb0 := (ba1 W (.cells #[.int .i64 w, .int .i64 h, .slice aL L.length cL, .slice aS (w * h) cS] 82)).trans (hb0.mono (by simp))
  have z0 := (hb0.cell (p := ⟨W.heap.size, 0, none⟩) (by simp)).trans (show (W.alloc (.cells #[.int .i64 w, .int .i64 h, .slice aL L.length cL, .slice aS (w * h) cS] 82)).cell? ⟨W.heap.size, 0, none⟩ = some (.int .i64 w) by simp [go_sem])
  have z1 := (hb0.cell (p := ⟨W.heap.size, 1, none⟩) (by simp)).trans (show (W.alloc (.cells #[.int .i64 w, .int .i64 h, .slice aL L.length cL, .slice aS (w * h) cS] 82)).cell? ⟨W.heap.size, 1, none⟩ = some (.int .i64 h) by simp [go_sem])
  have z2 := (hb0.cell (p := ⟨W.heap.size, 2, none⟩) (by simp)).trans (show (W.alloc (.cells #[.int .i64 w, .int .i64 h, .slice aL L.length cL, .slice aS (w * h) cS] 82)).cell? ⟨W.heap.size, 2, none⟩ = some (.slice aL L.length cL) by simp [go_sem])
  have z3 := (hb0.cell (p := ⟨W.heap.size, 3, none⟩) (by simp)).trans (show (W.alloc (.cells #[.int .i64 w, .int .i64 h, .slice aL L.length cL, .slice aS (w * h) cS] 82)).cell? ⟨W.heap.size, 3, none⟩ = some (.slice aS (w * h) cS) by simp [go_sem])
  have hsz0 : W.heap.size < w0.heap.size := by have := hb0.size; simp at this; omega
  replace hbb0 := Lib.hid hbb0
  replace hr0 := Lib.hid hr0
  clear hb0
  go_wp2
  go_loopw [1, 10] (fun x i wr => ∃ (k : Nat) (A' : Option Addr) (c' : Nat), k ≤ n ∧ i = .int .i64 k ∧ x = .slice A' a.length c' ∧ (a.length ≤ c' ∧ c' ≤ 9223372036854775807) ∧ Below W.heap.size W wr ∧ Row wr wr.heap.size A' (F k) ∧ W.heap.size < wr.heap.size ∧
    (wr.cell? ⟨W.heap.size, 0, none⟩ = some (.int .i64 w) ∧ wr.cell? ⟨W.heap.size, 1, none⟩ = some (.int .i64 h) ∧ wr.cell? ⟨W.heap.size, 2, none⟩ = some (.slice aL L.length cL) ∧ wr.cell? ⟨W.heap.size, 3, none⟩ = some (.slice aS (w * h) cS))) (fun _ i _ => n - (intOf i).toNat)
  case atStart => exact ⟨0, A0, c0, Nat.zero_le _, rfl, rfl, hc0, hbb0.out, hr0.out, hsz0, z0, z1, z2, z3⟩
  case round =>
    obtain ⟨k, A', c', hk, rfl, rfl, hcc, hb, hr, hsz, g0, g1, g2, g3⟩ := hrel
    by_cases hlt : k < n
    · go_wp2_with fail
      refine (step.out k hlt wr A' c' hb hr).mono ?_
      rintro e w1 ⟨A1, c1, rfl, hc1, hb1, hr1⟩
      rw [hl.out] at hc1 ⊢
      have hbb := hb.trans (hb1.mono hb.size)
      have e0 := (hb1.cell (p := ⟨W.heap.size, 0, none⟩) hsz).trans g0
      have e1 := (hb1.cell (p := ⟨W.heap.size, 1, none⟩) hsz).trans g1
      have e2 := (hb1.cell (p := ⟨W.heap.size, 2, none⟩) hsz).trans g2
      have e3 := (hb1.cell (p := ⟨W.heap.size, 3, none⟩) hsz).trans g3
      have hsz1 : W.heap.size < w1.heap.size := by have := hb1.size; omega
      clear hb1 hr hb
      go_wp2
      go_roundw
      case rel => exact ⟨k + 1, A1, c1, by omega, by go_num, rfl, hc1, hbb, hr1, hsz1, e0, e1, e2, e3⟩
      case measure => simp [intOf]; omega
    · have hk' : k = n := by omega
      subst hk'
      have hlk := hl.out k
      go_wp2
      go_ret
      exact ⟨A', c', by rw [hl.out]; rfl, by rw [hl.out]; exact hcc, hb, hr⟩

/-- What Before answers. -/
noncomputable def befR (W H : Int) (L : List Bool) (n : Nat) (S P : List Int) (N : Int) : List Int × Int :=
  if validB W H L n S = true then
    if pricesB L.length P = true then
      if movesB N = true then (bf W.toNat H.toNat L S N.toNat P, 0) else ([], 2)
    else ([], 2)
  else ([], 20)
/-- What a call says that hands back a list and an error. -/
def LstRes (w : World) (r : List Int × Int) (e : Ending) (w' : World) : Prop :=
  ∃ A c, e = .returned (.tuple #[.slice A r.1.length c, .int .i64 r.2]) ∧ Below w.heap.size w w' ∧ Row w' w'.heap.size A r.1

set_option maxRecDepth 100000 in
set_option maxHeartbeats 4000000 in
theorem Before_any (B : Nat) (W H : Int) (aL aS aP : Option Addr) (cL cS cP : Nat) (L : List Bool) (n : Nat) (S P : List Int) (N : Int) (w : World) (h : BayIn w B aL L aS n S) (hP : Row w B aP P) (hB : B ≤ w.heap.size) (hB1 : 1 ≤ B) (hd : Dirs w) :
    Calls Tryd.prog 36 #[.agg #[.int .i64 W, .int .i64 H, .slice aL L.length cL, .slice aS n cS], .slice aP P.length cP, .int .i64 N] w (LstRes w (befR W H L n S P N)) := by
  have hst : Quad (w.alloc (.cells #[.int .i64 W, .int .i64 H, .slice aL L.length cL, .slice aS n cS] 25)) w.heap.size (.int .i64 W) (.int .i64 H) (.slice aL L.length cL) (.slice aS n cS) := Quad.new _ _ _ _ _
  have hb0 := ba1 w (.cells #[.int .i64 W, .int .i64 H, .slice aL L.length cL, .slice aS n cS] 25)
  have c59 := fun X (hX : Below w.heap.size w X) => checked0_any B W H aL aS cL cS L n S X (h.below (hX.mono hB)) (Nat.le_trans hB hX.size)
  have g0 := hst.c0
  have g1 := hst.c1
  have g2 := hst.c2
  have g3 := hst.c3
  cases hv : validB W H L n S with
  | false =>
    have hr : befR W H L n S P N = ([], 20) := by unfold befR; rw [hv]; rfl
    rw [hr]
    rw [hv] at c59
    replace c59 := Lib.hid c59
    replace hb0 := Lib.hid hb0
    clear hst
    go_enter Tryd.func36, Tryd.ntmps36
    go_wp2_with fail
    refine (c59.out _ hb0.out).mono ?_
    rintro e w1 ⟨rfl, hb1⟩
    have hbb := hb0.out.trans (hb1.mono hb0.out.size)
    clear hb1
    go_wp2
    go_ret2
    exact ⟨none, 0, rfl, hbb, row_nil _ _ _⟩
  | true =>
  rw [hv] at c59
  obtain ⟨wn, hn, rfl, rfl, rfl, hLl, hBay⟩ := bay_of (val_of hv) h.share.2.1
  have h36 := hBay.cells
  have hL36 : L.length ≤ 36 := by omega
  replace hLl := Lib.hid hLl
  have c72 := fun X (hX : Below w.heap.size w X) => isPrices_any B wn hn aL aS aP cL cS cP L.length (wn * hn) P X (hP.below (hX.mono hB)) (Nat.le_trans hB hX.size) (by omega)
  cases hp : pricesB L.length P with
  | false =>
    have hr : befR wn hn L (wn * hn) S P N = ([], 2) := by unfold befR; rw [hv, hp]; rfl
    rw [hr]
    rw [hp] at c72
    replace c59 := Lib.hid c59
    replace c72 := Lib.hid c72
    replace hb0 := Lib.hid hb0
    go_enter Tryd.func36, Tryd.ntmps36
    go_wp2_with fail
    refine (c59.out _ hb0.out).mono ?_
    rintro e w1 ⟨rfl, hb1⟩
    have hbb := hb0.out.trans (hb1.mono hb0.out.size)
    have hs1 := hst.up hb1
    clear hb1 hst g0 g1 g2 g3
    have g0 := hs1.c0
    have g1 := hs1.c1
    have g2 := hs1.c2
    have g3 := hs1.c3
    go_wp2_with fail
    refine (c72.out _ hbb).mono ?_
    rintro e w2 ⟨rfl, hb2⟩
    have hbb2 := hbb.trans (hb2.mono hbb.size)
    clear hb2
    go_wp2
    go_ret2
    exact ⟨none, 0, rfl, hbb2, row_nil _ _ _⟩
  | true =>
  rw [hp] at c72
  obtain ⟨hpl, hpb⟩ := prices_of hp
  replace hpl := Lib.hid hpl
  cases hm : movesB N with
  | false =>
    have hr : befR wn hn L (wn * hn) S P N = ([], 2) := by unfold befR; rw [hv, hp, hm]; rfl
    rw [hr]
    replace c59 := Lib.hid c59
    replace c72 := Lib.hid c72
    replace hb0 := Lib.hid hb0
    go_enter Tryd.func36, Tryd.ntmps36
    go_wp2_with fail
    refine (c59.out _ hb0.out).mono ?_
    rintro e w1 ⟨rfl, hb1⟩
    have hbb := hb0.out.trans (hb1.mono hb0.out.size)
    have hs1 := hst.up hb1
    clear hb1 hst g0 g1 g2 g3
    have g0 := hs1.c0
    have g1 := hs1.c1
    have g2 := hs1.c2
    have g3 := hs1.c3
    go_wp2_with fail
    refine (c72.out _ hbb).mono ?_
    rintro e w2 ⟨rfl, hb2⟩
    have hbb2 := hbb.trans (hb2.mono hbb.size)
    clear hb2
    go_wp2_with fail
    refine (isMoves_any N _).mono ?_
    rintro e w3 ⟨rfl, rfl⟩
    rw [hm]
    go_wp2
    go_ret2
    exact ⟨none, 0, rfl, hbb2, row_nil _ _ _⟩
  | true =>
    have hNb : 0 ≤ N ∧ N ≤ 5 := by unfold movesB at hm; simpa using hm
    obtain ⟨mn, rfl⟩ : ∃ m : Nat, N = m := ⟨N.toNat, by omega⟩
    have hr : befR wn hn L (wn * hn) S P mn = (bf wn hn L S mn P, 0) := by unfold befR; rw [hv, hp, hm]; simp
    rw [hr]
    have c73 := fun X (hX : Below w.heap.size w X) => before_any B wn hn aL aS aP cL cS cP mn L S P X hBay (h.below (hX.mono hB)) (hP.below (hX.mono hB)) (Nat.le_trans hB hX.size) hB1 (hd.below (hX.mono hB) hB1) (by rw [hpl.out, hLl.out]) (fun i hi => hpb i (by have := hLl.out; omega)) (by omega)
    generalize bf wn hn L S mn P = q at *
    replace c59 := Lib.hid c59
    replace c72 := Lib.hid c72
    replace c73 := Lib.hid c73
    replace hb0 := Lib.hid hb0
    clear hp hpl hpb hP h hd
    go_enter Tryd.func36, Tryd.ntmps36
    go_wp2_with fail
    refine (c59.out _ hb0.out).mono ?_
    rintro e w1 ⟨rfl, hb1⟩
    have hbb := hb0.out.trans (hb1.mono hb0.out.size)
    have hs1 := hst.up hb1
    clear hb1 hst g0 g1 g2 g3
    have g0 := hs1.c0
    have g1 := hs1.c1
    have g2 := hs1.c2
    have g3 := hs1.c3
    go_wp2_with fail
    refine (c72.out _ hbb).mono ?_
    rintro e w2 ⟨rfl, hb2⟩
    have hbb2 := hbb.trans (hb2.mono hbb.size)
    have hs2 := hs1.up hb2
    clear hb2 hs1 g0 g1 g2 g3 hbb
    have g0 := hs2.c0
    have g1 := hs2.c1
    have g2 := hs2.c2
    have g3 := hs2.c3
    go_wp2_with fail
    refine (isMoves_any mn _).mono ?_
    rintro e w3 ⟨rfl, rfl⟩
    rw [hm]
    go_wp2_with fail
    refine (c73.out _ hbb2).mono ?_
    rintro e w4 ⟨A4, c4, rfl, _, hb4, hr4⟩
    have hbb4 := hbb2.trans (hb4.mono hbb2.size)
    clear hb4 hs2 g0 g1 g2 g3 hbb2
    go_wp2
    go_ret2
    exact ⟨A4, c4, rfl, hbb4, hr4⟩
end Go.Proofs.YtnbgjgiknfcdkaaDoor
