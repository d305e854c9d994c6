/-
  What a slick has in all, on water and on land: the program's and the specification's functions.
-/
import Derived.Test.YtnbgjgiknfcdkaaDoorN
namespace Go.Proofs.YtnbgjgiknfcdkaaDoor
open Go.RowKit Go.Deep M
set_option linter.unusedVariables false
set_option linter.unusedSimpArgs false

theorem askE_zero {W H : Int} {L : List Bool} {n : Nat} {S : List Int} {K : Int} {O : List Int} {aw : Int} (h : askE W H L n S K O aw = 0) : ValP W H L n S ∧ O.length = L.length ∧ SlkP K O aw := by
  unfold askE at h
  by_cases hv : validB W H L n S = true
  · rw [if_pos hv] at h
    by_cases hs : slkB L.length K O aw = true
    · exact ⟨val_of hv, slk_of hs⟩
    · rw [if_neg hs] at h; omega
  · rw [if_neg hv] at h; omega
theorem val_len {W H : Int} {L : List Bool} {n : Nat} {S : List Int} (hV : ValP W H L n S) : L.length ≤ 36 := by
  have := hV.2.1.1
  have := Int.mul_le_mul hV.1.1.2 hV.1.2.2 (by have := hV.1.2.1; omega) (by omega)
  omega
theorem slk_tot {K : Int} {O : List Int} {aw : Int} (h : SlkP K O aw) : tot (amt O aw) ≤ 1000000000000 := by
  have h2 := tR_sign (K := K) (O := O) (aw := aw)
  rw [tR_true h] at h2
  omega
theorem nn_only {L : List Bool} {O : List Int} {aw : Int} (b : Bool) (h : NonNeg (amt O aw)) (hl : O.length = L.length) : NonNeg (only L O b) ∧ tot (only L O b) ≤ tot (amt O aw) := by
  have hO : ∀ i, i < O.length → 0 ≤ el O i := fun i hi => by have := h i (by rw [amt_len]; omega); rwa [amt_el O aw i hi] at this
  have hA : 0 ≤ aw := by have := h O.length (by rw [amt_len]; omega); rwa [amt_away] at this
  have he : ∀ i, i < L.length → el (only L O b) i = onlyF L O b i := fun i hi => mk_el _ _ _ hi
  have hb : ∀ i, i < L.length → 0 ≤ onlyF L O b i ∧ onlyF L O b i ≤ el O i := fun i hi => by
    have := hO i (by omega)
    unfold onlyF; split <;> omega
  refine ⟨fun i hi => by rw [only_len] at hi; rw [he i hi]; exact (hb i hi).1, ?_⟩
  rw [tot_amt]
  unfold tot
  rw [only_len, sm_congr L.length he]
  have h1 := sm_le L.length (fun i hi => (hb i hi).2)
  rw [hl]; omega
theorem c59E {B : Nat} {W H : Int} {aL aS aO : Option Addr} {cL cS cO : Nat} {L : List Bool} {n : Nat} {S : List Int} {K : Int} {O : List Int} {aw : Int} {w : World} (h : BayIn w B aL L aS n S) (hO : Row w B aO O) (hB : B ≤ w.heap.size) :
    Calls Tryd.prog 59 #[.agg #[.int .i64 W, .int .i64 H, .slice aL L.length cL, .slice aS n cS], .slice (some ⟨w.heap.size + 1 + 1, 0, none⟩) 1 1] (((w.alloc (.cells #[.int .i64 W, .int .i64 H, .slice aL L.length cL, .slice aS n cS] 25)).alloc (.cells #[.int .i64 K, .slice aO O.length cO, .int .i64 aw] 28)).alloc (.cells #[.int .i64 K, .slice aO O.length cO, .int .i64 aw] 28))
      fun e w' => e = .returned (.int .i64 (askE W H L n S K O aw)) ∧ Below w.heap.size w w' ∧ w.heap.size + 3 ≤ w'.heap.size ∧ Bx2 w.heap.size (.int .i64 W) (.int .i64 H) (.slice aL L.length cL) (.slice aS n cS) (.int .i64 K) (.slice aO O.length cO) (.int .i64 aw) w' := by
  have hb := ba3 w (.cells #[.int .i64 W, .int .i64 H, .slice aL L.length cL, .slice aS n cS] 25) (.cells #[.int .i64 K, .slice aO O.length cO, .int .i64 aw] 28) (.cells #[.int .i64 K, .slice aO O.length cO, .int .i64 aw] 28)
  refine (checked1_any B W H aL aS aO cL cS cO L n S K O aw (w.heap.size + 1 + 1) 1 _ (h.below (hb.mono hB)) (hO.below (hb.mono hB)) (by simp; omega) (by simp) ⟨by simp [go_sem], by simp [go_sem], by simp [go_sem]⟩).mono ?_
  rintro e w' ⟨rfl, hb1⟩
  refine ⟨rfl, hb.trans (hb1.mono (by simp; omega)), by have := hb1.size; simpa using this, ?_⟩
  refine bx2_to (bx2_to (bx2 w _ _ _ _ _ _ _) (ba1 _ _) (by simp)) hb1 (by simp)
theorem c65E {B : Nat} {W H : Int} {aL aS aO : Option Addr} {cL cS cO : Nat} {L : List Bool} {n : Nat} {S : List Int} {K : Int} {O : List Int} {aw : Int} {w : World} (h : BayIn w B aL L aS n S) (hO : Row w B aO O) (hB : B ≤ w.heap.size) (h100 : O.length ≤ 100) :
    Calls Tryd.prog 65 #[.agg #[.int .i64 W, .int .i64 H, .slice aL L.length cL, .slice aS n cS], .agg #[.int .i64 K, .slice aO O.length cO, .int .i64 aw]] ((w.alloc (.cells #[.int .i64 W, .int .i64 H, .slice aL L.length cL, .slice aS n cS] 25)).alloc (.cells #[.int .i64 K, .slice aO O.length cO, .int .i64 aw] 28))
      fun e w' => e = .returned (.int .i64 (askE W H L n S K O aw)) ∧ Below w.heap.size w w' ∧ w.heap.size + 2 ≤ w'.heap.size ∧ Bx2 w.heap.size (.int .i64 W) (.int .i64 H) (.slice aL L.length cL) (.slice aS n cS) (.int .i64 K) (.slice aO O.length cO) (.int .i64 aw) w' := by
  have hb := ba2 w (.cells #[.int .i64 W, .int .i64 H, .slice aL L.length cL, .slice aS n cS] 25) (.cells #[.int .i64 K, .slice aO O.length cO, .int .i64 aw] 28)
  refine (asked_ref B W H aL aS aO cL cS cO L n S K O aw _ (h.below (hb.mono hB)) (hO.below (hb.mono hB)) (by simp; omega) h100).mono ?_
  rintro e w' ⟨rfl, hb1⟩
  exact ⟨rfl, hb.trans (hb1.mono (by simp; omega)), by have := hb1.size; simpa using this, bx2_below (bx2 w _ _ _ _ _ _ _) hb1⟩
/-- What a call says that hands back a number and an error. -/
def IntRes (w : World) (v err : Int) (e : Ending) (w' : World) : Prop := e = .returned (.tuple #[.int .i64 v, .int .i64 err]) ∧ Below w.heap.size w w'
/-- .. a list and an error. -/
def ListRes (w : World) (l : List Int) (err : Int) (e : Ending) (w' : World) : Prop := ∃ A c, e = .returned (.tuple #[.slice A l.length c, .int .i64 err]) ∧ Below w.heap.size w w' ∧ Row w' w'.heap.size A l
noncomputable def totV (W H : Int) (L : List Bool) (n : Nat) (S : List Int) (K : Int) (O : List Int) (aw : Int) : Int := if askE W H L n S K O aw = 0 then tot (amt O aw) else 0
noncomputable def aflV (W H : Int) (L : List Bool) (n : Nat) (S : List Int) (K : Int) (O : List Int) (aw : Int) : Int := if askE W H L n S K O aw = 0 then tot (only L O false) else 0
noncomputable def beaV (W H : Int) (L : List Bool) (n : Nat) (S : List Int) (K : Int) (O : List Int) (aw : Int) : List Int := if askE W H L n S K O aw = 0 then only L O true else []

set_option maxRecDepth 100000 in
set_option maxHeartbeats 4000000 in
theorem Total_any (B : Nat) (W H : Int) (aL aS aO : Option Addr) (cL cS cO : Nat) (L : List Bool) (n : Nat) (S : List Int) (K : Int) (O : List Int) (aw : Int) (w : World) (h : BayIn w B aL L aS n S) (hO : Row w B aO O) (hB : B ≤ w.heap.size) :
    Calls Tryd.prog 22 #[.agg #[.int .i64 W, .int .i64 H, .slice aL L.length cL, .slice aS n cS], .agg #[.int .i64 K, .slice aO O.length cO, .int .i64 aw]] w (IntRes w (totV W H L n S K O aw) (askE W H L n S K O aw)) := by
  have cE := c59E h hO hB (W := W) (H := H) (cL := cL) (cS := cS) (cO := cO) (K := K) (aw := aw)
  by_cases hE : askE W H L n S K O aw = 0
  · obtain ⟨hV, hl, hs⟩ := askE_zero hE
    have h36 := val_len hV
    have hv : totV W H L n S K O aw = _ := if_pos hE
    rw [hv, hE]
    rw [hE] at cE
    have ht := slk_tot hs
    have hn := hs.2.1
    clear hv hE hV hs
    replace cE := Lib.hid cE
    have c64 : ∀ X, Below w.heap.size w X → Calls Tryd.prog 64 #[.agg #[.int .i64 K, .slice aO O.length cO, .int .i64 aw]] X (NewRow X (amt O aw)) := fun X hX => amounts_row (hO.below (hX.mono hB)) (Nat.le_trans hB hX.size) (by omega)
    have c63 : ∀ X A c, Row X X.heap.size A (amt O aw) → Calls Tryd.prog 63 #[.slice A (amt O aw).length c] X fun e w' => e = .returned (.int .i64 (tot (amt O aw))) ∧ X = w' := fun X A c hr => total_any _ A c _ X hr hn ht (by rw [amt_len]; omega)
    generalize amt O aw = a at *
    generalize tot a = t at *
    replace c64 := Lib.hid c64
    replace c63 := Lib.hid c63
    replace hl := Lib.hid hl
    go_enter Tryd.func22, Tryd.ntmps22
    go_wp2_with fail
    refine cE.out.mono ?_
    rintro e w1 ⟨rfl, hbb, hsz, hbx⟩
    obtain ⟨⟨g0, g1, g2, g3⟩, g4, g5, g6⟩ := hbx
    go_wp2_with fail
    refine (c64.out _ hbb).mono ?_
    rintro e w2 ⟨A2, c2, rfl, hb2, hr2⟩
    have hbb2 := hbb.trans (hb2.mono hbb.size)
    clear hb2
    go_wp2_with fail
    refine (c63.out _ _ _ hr2).mono ?_
    rintro e w3 ⟨rfl, rfl⟩
    go_wp2
    go_ret2
    exact ⟨rfl, hbb2⟩
  · have hv : totV W H L n S K O aw = _ := if_neg hE
    rw [hv]
    generalize askE W H L n S K O aw = E at *
    have hEb : (E != 0) = true := by simpa using hE
    replace hE := Lib.hid hE
    clear hv
    replace cE := Lib.hid cE
    go_enter Tryd.func22, Tryd.ntmps22
    go_wp2_with fail
    refine cE.out.mono ?_
    rintro e w1 ⟨rfl, hbb, hsz, hbx⟩
    clear hbx
    go_wp2
    go_ret2
    exact ⟨rfl, hbb⟩

set_option maxRecDepth 100000 in
set_option maxHeartbeats 4000000 in
theorem Total_ref (B : Nat) (W H : Int) (aL aS aO : Option Addr) (cL cS cO : Nat) (L : List Bool) (n : Nat) (S : List Int) (K : Int) (O : List Int) (aw : Int) (w : World) (h : BayIn w B aL L aS n S) (hO : Row w B aO O) (hB : B ≤ w.heap.size) (h100 : O.length ≤ 100) :
    Calls Tryd.prog 23 #[.agg #[.int .i64 W, .int .i64 H, .slice aL L.length cL, .slice aS n cS], .agg #[.int .i64 K, .slice aO O.length cO, .int .i64 aw]] w (IntRes w (totV W H L n S K O aw) (askE W H L n S K O aw)) := by
  have cE := c65E h hO hB h100 (W := W) (H := H) (cL := cL) (cS := cS) (cO := cO) (K := K) (aw := aw)
  by_cases hE : askE W H L n S K O aw = 0
  · obtain ⟨hV, hl, hs⟩ := askE_zero hE
    have h36 := val_len hV
    have hv : totV W H L n S K O aw = _ := if_pos hE
    rw [hv, hE]
    rw [hE] at cE
    have ht := slk_tot hs
    have hn := hs.2.1
    have hs' := hs
    clear hv hE hV hs
    replace cE := Lib.hid cE
    have c66 : ∀ X, Below w.heap.size w X → Calls Tryd.prog 66 #[.agg #[.int .i64 K, .slice aO O.length cO, .int .i64 aw]] X fun e w' => e = .returned (.int .i64 (tot (amt O aw))) ∧ Below X.heap.size X w' := fun X hX => by
      have h1 := total_ref B K aO cO O aw X (hO.below (hX.mono hB)) (Nat.le_trans hB hX.size) h100
      rwa [tR_true hs'] at h1
    generalize tot (amt O aw) = t at *
    replace c66 := Lib.hid c66
    replace hl := Lib.hid hl
    go_enter Tryd.func23, Tryd.ntmps23
    go_wp2_with fail
    refine cE.out.mono ?_
    rintro e w1 ⟨rfl, hbb, hsz, hbx⟩
    obtain ⟨⟨g0, g1, g2, g3⟩, g4, g5, g6⟩ := hbx
    go_wp2_with fail
    refine (c66.out _ hbb).mono ?_
    rintro e w2 ⟨rfl, hb2⟩
    have hbb2 := hbb.trans (hb2.mono hbb.size)
    clear hb2
    go_wp2
    go_ret2
    exact ⟨rfl, hbb2⟩
  · have hv : totV W H L n S K O aw = _ := if_neg hE
    rw [hv]
    generalize askE W H L n S K O aw = E at *
    have hEb : (E != 0) = true := by simpa using hE
    replace hE := Lib.hid hE
    clear hv
    replace cE := Lib.hid cE
    go_enter Tryd.func23, Tryd.ntmps23
    go_wp2_with fail
    refine cE.out.mono ?_
    rintro e w1 ⟨rfl, hbb, hsz, hbx⟩
    clear hbx
    go_wp2
    go_ret2
    exact ⟨rfl, hbb⟩

set_option maxRecDepth 100000 in
set_option maxHeartbeats 4000000 in
theorem Afloat_any (B : Nat) (W H : Int) (aL aS aO : Option Addr) (cL cS cO : Nat) (L : List Bool) (n : Nat) (S : List Int) (K : Int) (O : List Int) (aw : Int) (w : World) (h : BayIn w B aL L aS n S) (hO : Row w B aO O) (hB : B ≤ w.heap.size) :
    Calls Tryd.prog 24 #[.agg #[.int .i64 W, .int .i64 H, .slice aL L.length cL, .slice aS n cS], .agg #[.int .i64 K, .slice aO O.length cO, .int .i64 aw]] w (IntRes w (aflV W H L n S K O aw) (askE W H L n S K O aw)) := by
  have cE := c59E h hO hB (W := W) (H := H) (cL := cL) (cS := cS) (cO := cO) (K := K) (aw := aw)
  by_cases hE : askE W H L n S K O aw = 0
  · obtain ⟨hV, hl, hs⟩ := askE_zero hE
    have h36 := val_len hV
    have hv : aflV W H L n S K O aw = _ := if_pos hE
    rw [hv, hE]
    rw [hE] at cE
    have ht := slk_tot hs
    have hn := hs.2.1
    clear hv hE hV hs
    replace cE := Lib.hid cE
    have c67 : ∀ X, Below w.heap.size w X → Calls Tryd.prog 67 #[.agg #[.int .i64 W, .int .i64 H, .slice aL L.length cL, .slice aS n cS], .slice aO O.length cO, .bool false] X (NewRow X (only L O false)) := fun X hX => only_any B W H aL aS aO cL n cS cO L O false X (h.land.below (hX.mono hB)) (hO.below (hX.mono hB)) (Nat.le_trans hB hX.size) (by omega) h36 (by omega)
    have hnn := nn_only (L := L) false hn hl
    have hol := only_len L O false
    have c63 : ∀ X A c, Row X X.heap.size A (only L O false) → Calls Tryd.prog 63 #[.slice A (only L O false).length c] X fun e w' => e = .returned (.int .i64 (tot (only L O false))) ∧ X = w' := fun X A c hr => total_any _ A c _ X hr hnn.1 (by omega) (by rw [only_len]; omega)
    clear hnn hol
    generalize only L O false = a at *
    generalize tot a = t at *
    replace c67 := Lib.hid c67
    replace c63 := Lib.hid c63
    replace hl := Lib.hid hl
    go_enter Tryd.func24, Tryd.ntmps24
    go_wp2_with fail
    refine cE.out.mono ?_
    rintro e w1 ⟨rfl, hbb, hsz, hbx⟩
    obtain ⟨⟨g0, g1, g2, g3⟩, g4, g5, g6⟩ := hbx
    go_wp2_with fail
    refine (c67.out _ hbb).mono ?_
    rintro e w2 ⟨A2, c2, rfl, hb2, hr2⟩
    have hbb2 := hbb.trans (hb2.mono hbb.size)
    clear hb2
    go_wp2_with fail
    refine (c63.out _ _ _ hr2).mono ?_
    rintro e w3 ⟨rfl, rfl⟩
    go_wp2
    go_ret2
    exact ⟨rfl, hbb2⟩
  · have hv : aflV W H L n S K O aw = _ := if_neg hE
    rw [hv]
    generalize askE W H L n S K O aw = E at *
    have hEb : (E != 0) = true := by simpa using hE
    replace hE := Lib.hid hE
    clear hv
    replace cE := Lib.hid cE
    go_enter Tryd.func24, Tryd.ntmps24
    go_wp2_with fail
    refine cE.out.mono ?_
    rintro e w1 ⟨rfl, hbb, hsz, hbx⟩
    clear hbx
    go_wp2
    go_ret2
    exact ⟨rfl, hbb⟩

set_option maxRecDepth 100000 in
set_option maxHeartbeats 4000000 in
theorem Beached_any (B : Nat) (W H : Int) (aL aS aO : Option Addr) (cL cS cO : Nat) (L : List Bool) (n : Nat) (S : List Int) (K : Int) (O : List Int) (aw : Int) (w : World) (h : BayIn w B aL L aS n S) (hO : Row w B aO O) (hB : B ≤ w.heap.size) :
    Calls Tryd.prog 26 #[.agg #[.int .i64 W, .int .i64 H, .slice aL L.length cL, .slice aS n cS], .agg #[.int .i64 K, .slice aO O.length cO, .int .i64 aw]] w (ListRes w (beaV W H L n S K O aw) (askE W H L n S K O aw)) := by
  have cE := c59E h hO hB (W := W) (H := H) (cL := cL) (cS := cS) (cO := cO) (K := K) (aw := aw)
  by_cases hE : askE W H L n S K O aw = 0
  · obtain ⟨hV, hl, hs⟩ := askE_zero hE
    have h36 := val_len hV
    have hv : beaV W H L n S K O aw = _ := if_pos hE
    rw [hv, hE]
    rw [hE] at cE
    have ht := slk_tot hs
    have hn := hs.2.1
    clear hv hE hV hs
    replace cE := Lib.hid cE
    have c67 : ∀ X, Below w.heap.size w X → Calls Tryd.prog 67 #[.agg #[.int .i64 W, .int .i64 H, .slice aL L.length cL, .slice aS n cS], .slice aO O.length cO, .bool true] X (NewRow X (only L O true)) := fun X hX => only_any B W H aL aS aO cL n cS cO L O true X (h.land.below (hX.mono hB)) (hO.below (hX.mono hB)) (Nat.le_trans hB hX.size) (by omega) h36 (by omega)
    generalize only L O true = a at *
    replace c67 := Lib.hid c67
    replace hl := Lib.hid hl
    go_enter Tryd.func26, Tryd.ntmps26
    go_wp2_with fail
    refine cE.out.mono ?_
    rintro e w1 ⟨rfl, hbb, hsz, hbx⟩
    obtain ⟨⟨g0, g1, g2, g3⟩, g4, g5, g6⟩ := hbx
    go_wp2_with fail
    refine (c67.out _ hbb).mono ?_
    rintro e w2 ⟨A2, c2, rfl, hb2, hr2⟩
    have hbb2 := hbb.trans (hb2.mono hbb.size)
    clear hb2
    go_wp2
    go_ret2
    exact ⟨A2, c2, rfl, hbb2, hr2⟩
  · have hv : beaV W H L n S K O aw = _ := if_neg hE
    rw [hv]
    generalize askE W H L n S K O aw = E at *
    have hEb : (E != 0) = true := by simpa using hE
    replace hE := Lib.hid hE
    clear hv
    replace cE := Lib.hid cE
    go_enter Tryd.func26, Tryd.ntmps26
    go_wp2_with fail
    refine cE.out.mono ?_
    rintro e w1 ⟨rfl, hbb, hsz, hbx⟩
    clear hbx
    go_wp2
    go_ret2
    exact ⟨none, 0, rfl, hbb, row_nil _ _ _⟩

set_option maxRecDepth 100000 in
set_option maxHeartbeats 4000000 in
theorem Afloat_ref (B : Nat) (W H : Int) (aL aS aO : Option Addr) (cL cS cO : Nat) (L : List Bool) (n : Nat) (S : List Int) (K : Int) (O : List Int) (aw : Int) (w : World) (h : BayIn w B aL L aS n S) (hO : Row w B aO O) (hB : B ≤ w.heap.size) (h100 : O.length ≤ 100) :
    Calls Tryd.prog 25 #[.agg #[.int .i64 W, .int .i64 H, .slice aL L.length cL, .slice aS n cS], .agg #[.int .i64 K, .slice aO O.length cO, .int .i64 aw]] w (IntRes w (aflV W H L n S K O aw) (askE W H L n S K O aw)) := by
  have cE := c65E h hO hB h100 (W := W) (H := H) (cL := cL) (cS := cS) (cO := cO) (K := K) (aw := aw)
  by_cases hE : askE W H L n S K O aw = 0
  · obtain ⟨hV, hl, hs⟩ := askE_zero hE
    have h36 := val_len hV
    have hv : aflV W H L n S K O aw = _ := if_pos hE
    rw [hv, hE]
    rw [hE] at cE
    have ht := slk_tot hs
    have hn := hs.2.1
    clear hv hE hV hs
    replace cE := Lib.hid cE
    have hlI : (O.length : Int) = L.length := by omega
    have hel : ∀ i, i < L.length → 0 ≤ el O i ∧ el O i ≤ 1000000000000 := fun i hi => by
      have h1 := hn i (by rw [amt_len]; omega)
      have h2 := el_le_tot hn i (by rw [amt_len]; omega)
      rw [amt_el O aw i (by omega)] at h1 h2
      omega
    have hfin : sm (onlyF L O false) L.length = tot (only L O false) := by
      unfold tot
      rw [only_len]
      exact sm_congr _ (fun i hi => (mk_el _ _ _ hi).symm)
    generalize tot (only L O false) = t at *
    replace hfin := Lib.hid hfin
    replace hel := Lib.hid hel
    clear ht hn
    replace hl := Lib.hid hl
    go_enter Tryd.func25, Tryd.ntmps25
    go_wp2_with fail
    refine cE.out.mono ?_
    rintro e w1 ⟨rfl, hbb, hsz, hbx⟩
    obtain ⟨⟨g0, g1, g2, g3⟩, g4, g5, g6⟩ := hbx
    go_wp2
    go_loop [7, 8] (fun s i => ∃ k : Nat, k ≤ L.length ∧ i = .int .i64 k ∧ s = .int .i64 (sm (onlyF L O false) k) ∧ 0 ≤ sm (onlyF L O false) k ∧ sm (onlyF L O false) k ≤ 1000000000000 * k) (fun _ i => L.length - (intOf i).toNat)
    case atStart => exact ⟨0, Nat.zero_le _, rfl, rfl, Int.le_refl _, Int.le_refl _⟩
    case round =>
      obtain ⟨k, hk, rfl, rfl, s1, s2⟩ := hrel
      by_cases hlt : k < L.length
      · obtain ⟨b, o, rfl, hbl, hc⟩ := (h.land.below (hbb.mono hB)).at_ k hlt
        obtain ⟨b', o', rfl, hbl', hc'⟩ := (hO.below (hbb.mono hB)).at_ k (by have := hl.out; omega)
        have hkO : (k : Int) < (O.length : Nat) := by omega
        have hs := Lib.hid (sm_succ (onlyF L O false) k)
        have he := hel.out k hlt
        cases hb : bl L k with
        | true =>
          rw [hb] at hc
          have hf : onlyF L O false k = 0 := if_neg (by rw [hb]; simp)
          replace hf := Lib.hid hf
          go_wp2
          go_round
          case rel => exact ⟨k + 1, by omega, by go_num, by rw [hs.out, hf.out]; simp, by rw [hs.out, hf.out]; omega, by rw [hs.out, hf.out]; omega⟩
          case measure => simp [intOf]; omega
        | false =>
          rw [hb] at hc
          have hf : onlyF L O false k = el O k := if_pos hb
          replace hf := Lib.hid hf
          go_wp2
          go_round
          case rel => exact ⟨k + 1, by omega, by go_num, by rw [hs.out, hf.out], by rw [hs.out, hf.out]; omega, by rw [hs.out, hf.out]; omega⟩
          case measure => simp [intOf]; omega
      · have hk' : k = L.length := by omega
        subst hk'
        have hf := hfin.out
        replace hf := Lib.hid hf
        go_wp2
        go_ret2
        exact ⟨by rw [← hf.out]; rfl, hbb⟩
  · have hv : aflV W H L n S K O aw = _ := if_neg hE
    rw [hv]
    generalize askE W H L n S K O aw = E at *
    have hEb : (E != 0) = true := by simpa using hE
    replace hE := Lib.hid hE
    clear hv
    replace cE := Lib.hid cE
    go_enter Tryd.func25, Tryd.ntmps25
    go_wp2_with fail
    refine cE.out.mono ?_
    rintro e w1 ⟨rfl, hbb, hsz, hbx⟩
    clear hbx
    go_wp2
    go_ret2
    exact ⟨rfl, hbb⟩

end Go.Proofs.YtnbgjgiknfcdkaaDoor
