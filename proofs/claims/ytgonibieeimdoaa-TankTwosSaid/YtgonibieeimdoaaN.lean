/-
  Whether a list is one of deeds with the tanks: slices.Index, Contains, IndexFunc, ContainsFunc and areDeeds of the program; areDeeds of the specification.
-/
import Derived.Test.YtgonibieeimdoaaM
import Derived.Test.YtgonibieeimdoaaE
namespace Go.Proofs.Ytgonibieeimdoaa
open Go.RowKit Go.Deep M
set_option linter.unusedVariables false
set_option linter.unusedSimpArgs false
attribute [local go_sem high] run_neq3 run_eql3

namespace M
theorem mem_dd {D : List Dd} {x : Dd} : x ∈ D ↔ ∃ i, i < D.length ∧ dd D i = x := by
  rw [List.mem_iff_getElem]
  constructor
  · rintro ⟨i, hi, h⟩; exact ⟨i, hi, by rw [dd_eq D i hi]; exact h⟩
  · rintro ⟨i, hi, h⟩; exact ⟨i, hi, by rw [← dd_eq D i hi]; exact h⟩
/-- Are all of D in L? -/
def AllIn (L D : List Dd) (k : Nat) : Prop := ∀ i, i < k → dd D i ∈ L
theorem allIn_zero (L D : List Dd) : AllIn L D 0 := fun _ h => absurd h (Nat.not_lt_zero _)
theorem allIn_succ {L D : List Dd} {k : Nat} (h : AllIn L D k) (h1 : dd D k ∈ L) : AllIn L D (k + 1) := fun j hj => by
  rcases Nat.lt_succ_iff_lt_or_eq.1 hj with h' | rfl
  · exact h j h'
  · exact h1
end M

/-- A number that says where something was found. -/
def FndI (yes : Bool) (w : World) (e : Ending) (w' : World) : Prop := ∃ r : Int, e = .returned (.int .i64 r) ∧ (yes = true → 0 ≤ r) ∧ (yes = false → r = -1) ∧ -1 ≤ r ∧ r ≤ 9223372036854775807 ∧ Below w.heap.size w w'

set_option maxHeartbeats 2000000 in
theorem indexD (B : Nat) (A : Option Addr) (c : Nat) (D : List Dd) (x : Dd) (w : World) (h : Dls w B A D) (hB : B ≤ w.heap.size) :
    Calls Try.prog 118 #[.slice A D.length c, .agg #[.int .i64 x.d, .int .i64 x.f, .int .i64 x.t]] w (FndI (decide (x ∈ D)) w) := by
  have h63 := h.1
  have hb0 := ba1 w (.cells #[.int .i64 x.d, .int .i64 x.f, .int .i64 x.t] 24)
  have hbx := Bx3.new w x
  replace hb0 := Lib.hid hb0
  replace hbx := Lib.hid hbx
  go_enter Try.func118, Try.ntmps118
  go_wp2
  go_loopw [8] (fun i X => ∃ k : Nat, k ≤ D.length ∧ i = .int .i64 k ∧ (∀ j, j < k → dd D j ≠ x) ∧ Below w.heap.size w X ∧ Bx3 X w.heap.size x) (fun i _ => D.length - (intOf i).toNat)
  case atStart => exact ⟨0, Nat.zero_le _, rfl, fun j hj => absurd hj (Nat.not_lt_zero _), hb0.out, hbx.out⟩
  case round =>
    clear hb0 hbx
    obtain ⟨k, hk, rfl, hno, hX, hbx⟩ := hrel
    by_cases hlt : k < D.length
    · obtain ⟨b1, o, rfl, hb, hc0, hc1, hc2⟩ := (h.below (hX.mono hB)).at_ k hlt
      have d0 := hbx.c0
      have d1 := hbx.c1
      have d2 := hbx.c2
      have hka : (k : Int) < (D.length : Int) := by omega
      have h3 := e3_iff x (dd D k)
      by_cases he : x = dd D k
      · have hd := Lib.hid (show decide (x ∈ D) = true from decide_eq_true (mem_dd.2 ⟨k, hlt, he.symm⟩))
        rw [decide_eq_true he] at h3
        replace he := Lib.hid he
        replace hno := Lib.hid hno
        replace hX := Lib.hid hX
        replace hbx := Lib.hid hbx
        go_wp2_with fail
        go_quiet (fail)
        go_wp2
        go_ret
        exact ⟨k, rfl, by intro; omega, (by rw [hd.out]; intro h; cases h), by omega, by omega, below_drewN hX.out _⟩
      · have hs := Lib.hid (fun (j : Nat) (hj : j < k + 1) => show dd D j ≠ x by
          rcases Nat.lt_succ_iff_lt_or_eq.1 hj with h' | rfl
          · exact hno j h'
          · exact fun g => he g.symm)
        rw [decide_eq_false he] at h3
        replace he := Lib.hid he
        replace hno := Lib.hid hno
        have hX' := Lib.hid (fun m => below_drewN hX m)
        have hbx' := Lib.hid (fun m => show Bx3 (wr.drewN m) w.heap.size x from hbx.to rfl)
        replace hX := Lib.hid hX
        replace hbx := Lib.hid hbx
        go_wp2_with fail
        go_quiet (fail)
        go_wp2
        go_roundw
        case rel => exact ⟨k + 1, by omega, by go_num, hs.out, hX'.out nq, hbx'.out nq⟩
        case measure => simp [intOf]; omega
    · have hk' : k = D.length := by omega
      subst hk'
      have hd := Lib.hid (show decide (x ∈ D) = false from decide_eq_false fun hm => by
        obtain ⟨i, hi, e⟩ := mem_dd.1 hm
        exact hno i hi e)
      replace hno := Lib.hid hno
      replace hX := Lib.hid hX
      replace hbx := Lib.hid hbx
      go_wp2
      go_ret
      exact ⟨-1, rfl, (by rw [hd.out]; intro h; cases h), fun _ => rfl, by omega, by omega, hX.out⟩

set_option maxHeartbeats 1000000 in
theorem containsD (B : Nat) (A : Option Addr) (c : Nat) (D : List Dd) (x : Dd) (w : World) (h : Dls w B A D) (hB : B ≤ w.heap.size) :
    Calls Try.prog 105 #[.slice A D.length c, .agg #[.int .i64 x.d, .int .i64 x.f, .int .i64 x.t]] w fun e w' => e = .returned (.bool (decide (x ∈ D))) ∧ Below w.heap.size w w' := by
  have h63 := h.1
  have hb0 := ba1 w (.cells #[.int .i64 x.d, .int .i64 x.f, .int .i64 x.t] 24)
  have hbx := Bx3.new w x
  have d0 := hbx.c0
  have d1 := hbx.c1
  have d2 := hbx.c2
  have ci := indexD B A c D x _ (h.below (hb0.mono hB)) (Nat.le_trans hB hb0.size)
  unfold FndI at ci
  generalize decide (x ∈ D) = q at *
  replace ci := Lib.hid ci
  replace hb0 := Lib.hid hb0
  replace hbx := Lib.hid hbx
  go_enter Try.func105, Try.ntmps105
  go_wp2_with fail
  refine ci.out.mono ?_
  rintro e w1 ⟨r, rfl, hr1, hr2, hr3, hr4, hb2⟩
  have hend := Lib.hid (bel_trans hb0.out hb2)
  clear hb2
  cases q with
  | true =>
    have hr := hr1 rfl
    clear hr1 hr2
    go_wp2
    go_ret
    exact ⟨rfl, hend.out⟩
  | false =>
    have hr := hr2 rfl
    subst hr
    clear hr1 hr2
    go_wp2
    go_ret
    exact ⟨rfl, hend.out⟩

set_option maxHeartbeats 1000000 in
theorem notIn_any (B : Nat) (A : Option Addr) (c : Nat) (L : List Dd) (x : Dd) (bx : Nat) (w : World) (h : Dls w B A L) (hB : B ≤ w.heap.size) (hc : w.cell? ⟨bx, 0, none⟩ = some (.slice A L.length c)) (hx : bx < w.heap.size) :
    Calls Try.prog 104 #[.agg #[.int .i64 x.d, .int .i64 x.f, .int .i64 x.t], .pointer (some ⟨bx, 0, none⟩)] w fun e w' => e = .returned (.bool (!decide (x ∈ L))) ∧ Below w.heap.size w w' := by
  have h63 := h.1
  have hb0 := ba1 w (.cells #[.int .i64 x.d, .int .i64 x.f, .int .i64 x.t] 24)
  have hbx := Bx3.new w x
  have d0 := hbx.c0
  have d1 := hbx.c1
  have d2 := hbx.c2
  have d3 := (hb0.cell (p := ⟨bx, 0, none⟩) hx).trans hc
  have ci := containsD B A c L x _ (h.below (hb0.mono hB)) (Nat.le_trans hB hb0.size)
  generalize decide (x ∈ L) = q at *
  replace ci := Lib.hid ci
  replace hb0 := Lib.hid hb0
  replace hbx := Lib.hid hbx
  clear hc
  go_enter Try.func104, Try.ntmps104
  go_wp2_with fail
  refine ci.out.mono ?_
  rintro e w1 ⟨rfl, hb2⟩
  have hend := Lib.hid (bel_trans hb0.out hb2)
  clear hb2
  cases q with
  | true =>
    go_wp2
    go_ret
    exact ⟨rfl, hend.out⟩
  | false =>
    go_wp2
    go_ret
    exact ⟨rfl, hend.out⟩

set_option maxHeartbeats 2000000 in
theorem indexNot (B : Nat) (A A' : Option Addr) (c c' : Nat) (L D : List Dd) (bx : Nat) (w : World) (h : Dls w B A L) (h' : Dls w B A' D) (hB : B ≤ w.heap.size) (hc : w.cell? ⟨bx, 0, none⟩ = some (.slice A L.length c)) (hx : bx < w.heap.size) (q : Bool) (hq : q = decide (∀ i, i < D.length → dd D i ∈ L)) :
    Calls Try.prog 100 #[.slice A' D.length c', .func (Fn.func 104) #[] #[.pointer (some ⟨bx, 0, none⟩)]] w (FndI (!q) w) := by
  have h63 := h'.1
  replace hq := Lib.hid hq
  go_enter Try.func100, Try.ntmps100
  go_wp2
  go_loopw [8] (fun i wr => ∃ k : Nat, k ≤ D.length ∧ i = .int .i64 k ∧ AllIn L D k ∧ Below w.heap.size w wr) (fun i _ => D.length - (intOf i).toNat)
  case atStart => exact ⟨0, Nat.zero_le _, rfl, allIn_zero _ _, Below.refl _ _⟩
  case round =>
    obtain ⟨k, hk, rfl, hel, hbw⟩ := hrel
    have hr := h'.below (hbw.mono hB)
    have hcr := (hbw.cell (p := ⟨bx, 0, none⟩) hx).trans hc
    have hel := Lib.hid hel
    by_cases hlt : k < D.length
    · obtain ⟨b, o, rfl, hb, hc0, hc1, hc2⟩ := hr.at_ k hlt
      have hn := notIn_any B A c L (dd D k) bx wr (h.below (hbw.mono hB)) (Nat.le_trans hB hbw.size) hcr (by have := hbw.size; omega)
      replace hr := Lib.hid hr
      have hbw := Lib.hid hbw
      by_cases hin : dd D k ∈ L
      · have hs := Lib.hid (allIn_succ hel.out hin)
        rw [decide_eq_true hin] at hn
        have hn := Lib.hid hn
        replace hin := Lib.hid hin
        go_wp2_with (go_at_call 104; refine hn.out.mono ?_; rintro e w' ⟨rfl, hb1⟩)
        go_roundw
        case rel => exact ⟨k + 1, by omega, by go_num, hs.out, bel_trans hbw.out hb1⟩
        case measure => simp [intOf]; omega
      · have hw := Lib.hid (show q = false by
          rw [hq.out, decide_eq_false]; intro hh; exact hin (hh k hlt))
        rw [decide_eq_false hin] at hn
        have hn := Lib.hid hn
        replace hin := Lib.hid hin
        go_wp2_with (go_at_call 104; refine hn.out.mono ?_; rintro e w' ⟨rfl, hb1⟩)
        go_ret
        exact ⟨k, rfl, (by intro; omega), (by rw [hw.out]; intro h; cases h), by omega, by omega, bel_trans hbw.out hb1⟩
    · have hk' : k = D.length := by omega
      subst hk'
      have hw := Lib.hid (show q = true by rw [hq.out]; exact decide_eq_true hel.out)
      replace hbw := Lib.hid hbw
      go_wp2
      go_ret
      exact ⟨-1, rfl, (by rw [hw.out]; intro h; cases h), fun _ => rfl, by omega, by omega, hbw.out⟩

set_option maxHeartbeats 1000000 in
theorem containsNot (B : Nat) (A A' : Option Addr) (c c' : Nat) (L D : List Dd) (bx : Nat) (w : World) (h : Dls w B A L) (h' : Dls w B A' D) (hB : B ≤ w.heap.size) (hc : w.cell? ⟨bx, 0, none⟩ = some (.slice A L.length c)) (hx : bx < w.heap.size) (q : Bool) (hq : q = decide (∀ i, i < D.length → dd D i ∈ L)) :
    Calls Try.prog 103 #[.slice A' D.length c', .func (Fn.func 104) #[] #[.pointer (some ⟨bx, 0, none⟩)]] w fun e w' => e = .returned (.bool (!q)) ∧ Below w.heap.size w w' := by
  have ci := indexNot B A A' c c' L D bx w h h' hB hc hx q hq
  unfold FndI at ci
  clear hq
  obtain ⟨q', hq'⟩ : ∃ z, z = !q := ⟨_, rfl⟩
  rw [← hq'] at ci ⊢
  clear hq'
  replace ci := Lib.hid ci
  go_enter Try.func103, Try.ntmps103
  go_wp2_with fail
  refine ci.out.mono ?_
  rintro e w1 ⟨r, rfl, hr1, hr2, hr3, hr4, hb2⟩
  replace hb2 := Lib.hid hb2
  cases q' with
  | true =>
    have hr := hr1 rfl
    clear hr1 hr2
    go_wp2
    go_ret
    exact ⟨rfl, hb2.out⟩
  | false =>
    have hr := hr2 rfl
    subst hr
    clear hr1 hr2
    go_wp2
    go_ret
    exact ⟨rfl, hb2.out⟩

set_option maxRecDepth 100000 in
set_option maxHeartbeats 2000000 in
theorem areDeeds_any (B : Nat) (A A' : Option Addr) (c c' n : Nat) (D : List Dd) (w : World) (h' : Dls w B A' D) (hB : B ≤ w.heap.size) (h2 : 2 ≤ n) (h4 : n ≤ 4) :
    Calls Try.prog 88 #[.slice A n c, .slice A' D.length c'] w fun e w' => e = .returned (.bool (dsB n D)) ∧ Below w.heap.size w w' := by
  have h63 := h'.1
  have cd := deeds_any A c n w h2 h4
  unfold NewD at cd
  have hdl : (allD n).length ≤ 9223372036854775807 := by
    rcases (show n = 2 ∨ n = 3 ∨ n = 4 by omega) with rfl | rfl | rfl <;> decide
  by_cases hlen : D.length ≤ 200
  · have hds : dsB n D = decide (∀ i, i < D.length → dd D i ∈ allD n) := by
      by_cases hv : ∀ i, i < D.length → dd D i ∈ allD n
      · rw [decide_eq_true hv]; exact ds_true ⟨hlen, fun i hi => (mem_allD n _).1 (hv i hi)⟩
      · rw [decide_eq_false hv]; exact ds_false fun hh => hv fun i hi => (mem_allD n _).2 (hh.2 i hi)
    obtain ⟨q, hq⟩ : ∃ q, q = dsB n D := ⟨_, rfl⟩
    rw [← hq] at hds ⊢
    obtain ⟨L, hL⟩ : ∃ L, L = allD n := ⟨_, rfl⟩
    rw [← hL] at cd hds hdl
    replace hq := Lib.hid hq
    replace hL := Lib.hid hL
    replace hds := Lib.hid hds
    replace cd := Lib.hid cd
    go_enter Try.func88, Try.ntmps88
    go_wp2_with fail
    refine cd.out.mono ?_
    rintro e w1 ⟨v, rfl, hb1, ho⟩
    obtain ⟨A1, c1, rfl, hr⟩ := own_dls ho hdl
    have hb2 := ba1 w1 (.cells #[.slice A1 L.length c1] 32)
    have hbk := heap_alloc_new w1 (.cells #[.slice A1 L.length c1] 32)
    have hc : (w1.alloc (.cells #[.slice A1 L.length c1] 32)).cell? ⟨w1.heap.size, 0, none⟩ = some (.slice A1 L.length c1) := by
      unfold World.cell?
      rw [hbk]
      rfl
    have hbb := bel_trans hb1 hb2
    have cn := containsNot (max B w1.heap.size) A1 A' c1 c' L D w1.heap.size _ ((hr.below hb2).more (Nat.le_max_right _ _)) ((h'.below (hbb.mono hB)).more (Nat.le_max_left _ _)) (by have := hbb.size; have := hb2.size; omega) hc (blk_lt hbk) q hds.out
    replace cn := Lib.hid cn
    replace hr := Lib.hid hr
    replace ho := Lib.hid ho
    replace hb1 := Lib.hid hb1
    replace hb2 := Lib.hid hb2
    replace hbk := Lib.hid hbk
    replace hbb := Lib.hid hbb
    go_wp2_with fail
    refine cn.out.mono ?_
    rintro e w2 ⟨rfl, hb3⟩
    have hend := Lib.hid (bel_trans hbb.out hb3)
    clear hb3
    cases q with
    | true =>
      go_wp2
      go_ret
      exact ⟨rfl, hend.out⟩
    | false =>
      go_wp2
      go_ret
      exact ⟨rfl, hend.out⟩
  · have hds := Lib.hid (show dsB n D = false from ds_false fun hh => hlen hh.1)
    replace cd := Lib.hid cd
    have hli : ¬ ((D.length : Int) ≤ 200) := by omega
    go_enter Try.func88, Try.ntmps88
    go_wp2_with fail
    refine cd.out.mono ?_
    rintro e w1 ⟨v, rfl, hb1, ho⟩
    obtain ⟨A1, c1, rfl, hr⟩ := own_dls ho hdl
    have hend := Lib.hid (bel_trans hb1 (ba1 w1 (.cells #[.slice A1 (allD n).length c1] 32)))
    replace ho := Lib.hid ho
    replace hr := Lib.hid hr
    generalize (allD n).length = m at *
    clear hb1
    go_wp2
    go_ret
    exact ⟨by rw [hds.out]; rfl, hend.out⟩

set_option maxRecDepth 100000 in
set_option maxHeartbeats 2000000 in
theorem areDeeds_ref (B : Nat) (A A' : Option Addr) (c c' n : Nat) (D : List Dd) (w : World) (h' : Dls w B A' D) (hB : B ≤ w.heap.size) (hn : n ≤ 9223372036854775807) :
    Calls Try.prog 61 #[.slice A n c, .slice A' D.length c'] w fun e w' => e = .returned (.bool (dsB n D)) ∧ Below w.heap.size w w' := by
  have h63 := h'.1
  have hyes : D.length ≤ 200 → (∀ i, i < D.length → isD n (dd D i)) → dsB n D = true := fun a b => ds_true ⟨a, b⟩
  have hno : ∀ i, i < D.length → ¬ isD n (dd D i) → dsB n D = false := fun i hi hh => ds_false fun hv => hh (hv.2 i hi)
  have hlong : ¬ D.length ≤ 200 → dsB n D = false := fun h => ds_false fun hv => h hv.1
  obtain ⟨q, hq⟩ : ∃ q, q = dsB n D := ⟨_, rfl⟩
  rw [← hq] at hyes hno hlong ⊢
  replace hq := Lib.hid hq
  replace hyes := Lib.hid hyes
  replace hno := Lib.hid hno
  replace hlong := Lib.hid hlong
  go_enter Try.func61, Try.ntmps61
  go_wp2
  go_loopw [5] (fun i X => ∃ k : Nat, k ≤ D.length ∧ k ≤ 201 ∧ i = .int .i64 k ∧ (∀ j, j < k → isD n (dd D j)) ∧ Below w.heap.size w X) (fun i _ => D.length - (intOf i).toNat)
  case atStart => exact ⟨0, Nat.zero_le _, by omega, rfl, fun j hj => absurd hj (Nat.not_lt_zero _), Below.refl _ _⟩
  case round =>
    obtain ⟨k, hk, hk2, rfl, hel, hX⟩ := hrel
    by_cases hlt : k < D.length ∧ k ≤ 200
    · obtain ⟨hlt, h200⟩ := hlt
      obtain ⟨b, o, rfl, hb, hc0, hc1, hc2⟩ := (h'.below (hX.mono hB)).at_ k hlt
      have ci := IsDeed_ref B A c n (dd D k) wr hn
      by_cases hd : isD n (dd D k)
      · rw [show isDB n (dd D k) = true from decide_eq_true hd] at ci
        have hs := Lib.hid (fun (j : Nat) (hj : j < k + 1) => show isD n (dd D j) by
          rcases Nat.lt_succ_iff_lt_or_eq.1 hj with h' | rfl
          · exact hel j h'
          · exact hd)
        replace ci := Lib.hid ci
        replace hel := Lib.hid hel
        replace hX := Lib.hid hX
        replace hd := Lib.hid hd
        go_wp2_with fail
        refine ci.out.mono ?_
        rintro e X1 ⟨rfl, hb1⟩
        have hX1 := Lib.hid (bel_trans hX.out hb1)
        clear hb1
        go_wp2
        go_roundw
        case rel => exact ⟨k + 1, by omega, by omega, by go_num, hs.out, hX1.out⟩
        case measure => simp [intOf]; omega
      · rw [show isDB n (dd D k) = false from decide_eq_false hd] at ci
        have hf := hno.out k hlt hd
        subst hf
        replace ci := Lib.hid ci
        replace hel := Lib.hid hel
        replace hX := Lib.hid hX
        replace hd := Lib.hid hd
        go_wp2_with fail
        refine ci.out.mono ?_
        rintro e X1 ⟨rfl, hb1⟩
        have hX1 := Lib.hid (bel_trans hX.out hb1)
        clear hb1
        go_wp2
        go_ret
        exact ⟨rfl, hX1.out⟩
    · replace hX := Lib.hid hX
      by_cases h200 : D.length ≤ 200
      · have hk' : k = D.length := by omega
        have hf := hyes.out h200 (fun i hi => hel i (by omega))
        subst hf
        subst hk'
        replace hel := Lib.hid hel
        clear hlt
        go_wp2
        go_ret
        first | exact ⟨rfl, hX.out⟩ | exact ⟨ret_bool (decide_eq_true (by omega)), hX.out⟩
      · have hf := hlong.out h200
        subst hf
        replace hel := Lib.hid hel
        have hk' : k = 201 := by omega
        subst hk'
        have hli : ¬ ((D.length : Int) ≤ 200) := by omega
        clear hlt
        go_wp2
        all_goals (go_ret; first | exact ⟨rfl, hX.out⟩ | exact ⟨ret_bool (decide_eq_false (by omega)), hX.out⟩)
end Go.Proofs.Ytgonibieeimdoaa
