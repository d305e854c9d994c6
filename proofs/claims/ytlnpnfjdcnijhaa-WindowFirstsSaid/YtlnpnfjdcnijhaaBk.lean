/-
  The plain window, and whether two windows are the same: the specification's functions.
-/
import Derived.Test.YtlnpnfjdcnijhaaBj
namespace Go.Proofs.Ytlnpnfjdcnijhaa
open Go.RowKit Go.Deep M
set_option linter.unusedVariables false
set_option linter.unusedSimpArgs false

set_option maxRecDepth 100000 in
set_option maxHeartbeats 4000000 in
theorem Plain_ref (B : Nat) (A : Option Addr) (c : Nat) (x : Wn) (w : World) (h : Row w B A x.hs) (hB : B ≤ w.heap.size) :
    Calls Try.prog 38 #[wnV x.p A x.hs.length c] w (RetW w (plainR x).1 (plainR x).2) := by
  have h63 := h.1
  have hW := swW_new w x.p A x.hs.length c
  have c58 := (Wide_ref B A c x _ (h.below (hW.on.below.mono hB)) (Nat.le_trans hB hW.on.below.size)).mono fun e w' ⟨he, hb⟩ => And.intro he (hW.up hb)
  obtain ⟨c0, c1⟩ := hW.on.cells
  replace hW := Lib.hid hW
  cases hv : winB x 3600 with
  | false =>
    have hR : plainR x = (⟨0, []⟩, 50) := by unfold plainR; rw [hv]; simp
    rw [hR]
    rw [hv] at c58
    unfold wnV at *
    simp only []
    replace c58 := Lib.hid c58
    replace hR := Lib.hid hR
    replace hv := Lib.hid hv
    go_enter Try.func38, Try.ntmps38
    go_wp2_with fail
    refine c58.out.mono ?_
    rintro e X1 ⟨rfl, hX1⟩
    have z0 := hX1.box.fz 0
    have z1 := hX1.box.fz 1
    have z2 := hX1.box.c0
    have z3 := hX1.box.c1
    have hl := hX1.box.lt
    have y0 : ((X1.setCell ⟨w.heap.size + 1, 0, none⟩ (.int .i64 0)).setCell ⟨w.heap.size + 1, 1, none⟩ (.slice none 0 0)).cell? ⟨w.heap.size + 1, 0, none⟩ = some (.int .i64 0) := by
      simp [World.cell?, World.setCell, Array.getElem?_modify, show X1.heap[w.heap.size + 1]? = _ from hX1.box]
    have y1 : ((X1.setCell ⟨w.heap.size + 1, 0, none⟩ (.int .i64 0)).setCell ⟨w.heap.size + 1, 1, none⟩ (.slice none 0 0)).cell? ⟨w.heap.size + 1, 1, none⟩ = some (.slice none 0 0) := by
      simp [World.cell?, World.setCell, Array.getElem?_modify, show X1.heap[w.heap.size + 1]? = _ from hX1.box]
    have hz := set2_below hX1.on.below (Nat.le_succ w.heap.size) (.int .i64 0) (.slice none 0 0)
    replace hX1 := Lib.hid hX1
    replace hz := Lib.hid hz
    go_wp2
    exact bodyPost_ret (v := .tuple #[.agg #[.int .i64 0, .slice none 0 0], .int .i64 50]) (by simp [results, Try.results38, go_sem, y0, y1]) rfl ⟨none, 0, rfl, hz.out, row_nil _ _ _, fun a ha => (by cases ha)⟩
  | true =>
    obtain ⟨p, hp, hp1, hp2, hg⟩ := win_nat hv
    have hR : plainR x = (plW x, 0) := by unfold plainR; rw [hv]; simp
    rw [hR]
    rw [hv] at c58
    have hpw : plW x = ⟨(plN p (opB x) : Nat), hrsL (fun j => opB x (j : Nat)) (plN p (opB x))⟩ := by unfold plW; rw [hp, Int.toNat_natCast]
    rw [hpw]
    have hpl : ∀ X, SwW w x.p A x.hs.length c X → Calls Try.prog 82 #[.agg #[.int .i64 x.p, .slice A x.hs.length c]] X fun e w' => ∃ A5 c5, e = .returned (.agg #[.int .i64 (plN p (opB x) : Nat), .slice A5 (hrsL (fun j => opB x (j : Nat)) (plN p (opB x))).length c5]) ∧ SwW w x.p A x.hs.length c w' ∧ Row w' w'.heap.size A5 (hrsL (fun j => opB x (j : Nat)) (plN p (opB x))) ∧ ∀ a, A5 = some a → w.heap.size + 1 < a.block := fun X hX => by
      have := plain_ref B A c x p X (h.below (hX.on.below.mono hB)) (Nat.le_trans hB hX.on.below.size) hv hp
      rw [← hp] at this
      refine this.mono ?_
      rintro e w' ⟨A5, c5, he, hb, hr, hfr⟩
      exact ⟨A5, c5, he, hX.up hb, hr, fun a ha => by have := hfr a ha; have := hX.box.lt; omega⟩
    have hll := hrsL_le (fun j => opB x (j : Nat)) (plN p (opB x))
    have hN := (plN_spec hp1 (opB_perM hp)).1.2
    simp only []
    generalize hrsL (fun j => opB x (j : Nat)) (plN p (opB x)) = l at *
    generalize plN p (opB x) = m at *
    unfold wnV at *
    replace c58 := Lib.hid c58
    replace hR := Lib.hid hR
    replace hv := Lib.hid hv
    replace hp := Lib.hid hp
    replace hpl := Lib.hid hpl
    replace hpw := Lib.hid hpw
    clear hg
    go_enter Try.func38, Try.ntmps38
    go_wp2_with fail
    refine c58.out.mono ?_
    rintro e X2 ⟨rfl, hX2⟩
    have f0 := hX2.on.box.c0
    have f1 := hX2.on.box.c1
    have ho := Lib.hid (hpl.out _ hX2)
    go_wp2_with fail
    refine ho.out.mono ?_
    rintro e X5 ⟨A5, c5, rfl, hX5, hrow, hfr⟩
    obtain ⟨y0, y1, hrw⟩ := res_win (w := w) (p := m) (c := c5) hX5.box hrow (fun a ha => Or.inl (by have := hfr a ha; omega))
    have hz := set2_below hX5.on.below (Nat.le_succ w.heap.size) (.int .i64 (m : Nat)) (.slice A5 l.length c5)
    have z0 := hX5.box.c0
    have z1 := hX5.box.c1
    have z2 := hX5.box.fz 0
    have z3 := hX5.box.fz 1
    have hl5 := hX5.box.lt
    replace hX5 := Lib.hid hX5
    replace hrow := Lib.hid hrow
    replace hfr := Lib.hid hfr
    replace hrw := Lib.hid hrw
    replace hz := Lib.hid hz
    go_wp2
    exact bodyPost_ret (v := .tuple #[.agg #[.int .i64 (m : Nat), .slice A5 l.length c5], .int .i64 0]) (by simp [results, Try.results38, go_sem, y0, y1]) rfl ⟨A5, c5, rfl, hz.out, hrw.out, fun a ha => by have := hfr.out a ha; omega⟩

set_option maxRecDepth 100000 in
set_option maxHeartbeats 4000000 in
theorem Same_ref (B : Nat) (A A' : Option Addr) (c c' : Nat) (x y : Wn) (w : World) (h : Row w B A x.hs) (h' : Row w B A' y.hs) (hB : B ≤ w.heap.size) :
    Calls Try.prog 40 #[wnV x.p A x.hs.length c, wnV y.p A' y.hs.length c'] w fun e w' => e = .returned (.tuple #[.bool (sameR x y).1, .int .i64 (sameR x y).2]) ∧ Below w.heap.size w w' := by
  have h63 := h.1
  have h63' := h'.1
  have hW := twO_new w x.p y.p A A' x.hs.length y.hs.length c c'
  have kx : ∀ X, TwO w x.p y.p A A' x.hs.length y.hs.length c c' X → Calls Try.prog 58 #[wnV x.p A x.hs.length c] X fun e w' => e = .returned (.bool (winB x 3600)) ∧ TwO w x.p y.p A A' x.hs.length y.hs.length c c' w' := fun X hX =>
    (Wide_ref B A c x X (h.below (hX.below.mono hB)) (Nat.le_trans hB hX.below.size)).mono fun e w' ⟨he, hb⟩ => ⟨he, hX.up hb⟩
  have ky : ∀ X, TwO w x.p y.p A A' x.hs.length y.hs.length c c' X → Calls Try.prog 58 #[wnV y.p A' y.hs.length c'] X fun e w' => e = .returned (.bool (winB y 3600)) ∧ TwO w x.p y.p A A' x.hs.length y.hs.length c c' w' := fun X hX =>
    (Wide_ref B A' c' y X (h'.below (hX.below.mono hB)) (Nat.le_trans hB hX.below.size)).mono fun e w' ⟨he, hb⟩ => ⟨he, hX.up hb⟩
  obtain ⟨c0, c1, d0, d1⟩ := hW.cells
  cases hx : winB x 3600 with
  | false =>
    have hR : sameR x y = (false, 50) := by unfold sameR; rw [hx]; simp
    rw [hR]
    simp only []
    have k1 := kx _ hW
    rw [hx] at k1
    unfold wnV at *
    clear kx ky
    replace k1 := Lib.hid k1
    replace hR := Lib.hid hR
    replace hx := Lib.hid hx
    go_enter Try.func40, Try.ntmps40
    go_wp2_with fail
    refine k1.out.mono ?_
    rintro e X1 ⟨rfl, hX1⟩
    go_wp2
    exact bodyPost_ret (v := .tuple #[.bool false, .int .i64 50]) (by simp [results, Try.results40, go_sem]) rfl ⟨rfl, hX1.below⟩
  | true =>
    have k1 := kx _ hW
    rw [hx] at k1
    cases hy : winB y 3600 with
    | false =>
      have hR : sameR x y = (false, 50) := by unfold sameR; rw [hy]; simp
      rw [hR]
      simp only []
      rw [hy] at ky
      unfold wnV at *
      clear kx
      replace k1 := Lib.hid k1
      replace ky := Lib.hid ky
      replace hR := Lib.hid hR
      replace hx := Lib.hid hx
      replace hy := Lib.hid hy
      go_enter Try.func40, Try.ntmps40
      go_wp2_with fail
      refine k1.out.mono ?_
      rintro e X1 ⟨rfl, hX1⟩
      clear c0 c1 d0 d1
      obtain ⟨c0, c1, d0, d1⟩ := hX1.cells
      have k2 := Lib.hid (ky.out X1 hX1)
      go_wp2_with fail
      refine k2.out.mono ?_
      rintro e X2 ⟨rfl, hX2⟩
      go_wp2
      exact bodyPost_ret (v := .tuple #[.bool false, .int .i64 50]) (by simp [results, Try.results40, go_sem]) rfl ⟨rfl, hX2.below⟩
    | true =>
      have hR : sameR x y = (eqW (plW x).p (plW x).hs (plW y).p (plW y).hs, 0) := by unfold sameR; rw [hx, hy]; simp
      rw [hR]
      simp only []
      rw [hy] at ky
      have px : ∀ X, TwO w x.p y.p A A' x.hs.length y.hs.length c c' X → Calls Try.prog 82 #[.agg #[.int .i64 x.p, .slice A x.hs.length c]] X fun e w' => ∃ D k, e = .returned (.agg #[.int .i64 (plW x).p, .slice D (plW x).hs.length k]) ∧ Below X.heap.size X w' ∧ TwO w x.p y.p A A' x.hs.length y.hs.length c c' w' ∧ Row w' w'.heap.size D (plW x).hs := fun X hX => by
        obtain ⟨p, hp, _, _, _⟩ := win_nat hx
        have := plain_ref B A c x p X (h.below (hX.below.mono hB)) (Nat.le_trans hB hX.below.size) hx hp
        rw [← hp] at this
        unfold plW
        rw [hp, Int.toNat_natCast]
        rw [hp] at this
        rw [hp] at hX
        refine this.mono ?_
        rintro e w' ⟨A5, c5, he, hb, hr, _⟩
        exact ⟨A5, c5, he, hb, hX.up hb, hr⟩
      have py : ∀ X, TwO w x.p y.p A A' x.hs.length y.hs.length c c' X → Calls Try.prog 82 #[.agg #[.int .i64 y.p, .slice A' y.hs.length c']] X fun e w' => ∃ D k, e = .returned (.agg #[.int .i64 (plW y).p, .slice D (plW y).hs.length k]) ∧ Below X.heap.size X w' ∧ TwO w x.p y.p A A' x.hs.length y.hs.length c c' w' ∧ Row w' w'.heap.size D (plW y).hs := fun X hX => by
        obtain ⟨p, hp, _, _, _⟩ := win_nat hy
        have := plain_ref B A' c' y p X (h'.below (hX.below.mono hB)) (Nat.le_trans hB hX.below.size) hy hp
        unfold plW
        rw [hp, Int.toNat_natCast]
        rw [hp] at hX
        refine this.mono ?_
        rintro e w' ⟨A5, c5, he, hb, hr, _⟩
        exact ⟨A5, c5, he, hb, hX.up hb, hr⟩
      have pe : ∀ X D D' k k', TwO w x.p y.p A A' x.hs.length y.hs.length c c' X → Row X X.heap.size D (plW x).hs → Row X X.heap.size D' (plW y).hs → Calls Try.prog 32 #[.agg #[.int .i64 (plW x).p, .slice D (plW x).hs.length k], .agg #[.int .i64 (plW y).p, .slice D' (plW y).hs.length k']] X fun e w' => e = .returned (.bool (eqW (plW x).p (plW x).hs (plW y).p (plW y).hs)) ∧ TwO w x.p y.p A A' x.hs.length y.hs.length c c' w' := fun X D D' k k' hX hr hr' =>
        (Equal_gen X.heap.size D D' k k' (plW x).p (plW y).p (plW x).hs (plW y).hs X hr hr' (Nat.le_refl _)).mono fun e w' ⟨he, hb⟩ => ⟨he, hX.up hb⟩
      generalize eqW (plW x).p (plW x).hs (plW y).p (plW y).hs = R at *
      generalize plW x = u at *
      generalize plW y = v at *
      unfold wnV at *
      clear kx
      replace k1 := Lib.hid k1
      replace ky := Lib.hid ky
      replace hR := Lib.hid hR
      replace hx := Lib.hid hx
      replace hy := Lib.hid hy
      replace px := Lib.hid px
      replace py := Lib.hid py
      replace pe := Lib.hid pe
      go_enter Try.func40, Try.ntmps40
      go_wp2_with fail
      refine k1.out.mono ?_
      rintro e X1 ⟨rfl, hX1⟩
      clear c0 c1 d0 d1
      obtain ⟨c0, c1, d0, d1⟩ := hX1.cells
      have k2 := Lib.hid (ky.out X1 hX1)
      go_wp2_with fail
      refine k2.out.mono ?_
      rintro e X2 ⟨rfl, hX2⟩
      have hXd := hX2.drew
      replace hX2 := Lib.hid hX2
      replace hX1 := Lib.hid hX1
      go_wp2_with fail
      go_region_held3 (fun X => X.cell? ⟨w.heap.size, 0, none⟩ = some (.int .i64 x.p) ∧ X.cell? ⟨w.heap.size, 1, none⟩ = some (.slice A x.hs.length c) ∧ X.cell? ⟨w.heap.size + 1, 0, none⟩ = some (.int .i64 y.p) ∧ X.cell? ⟨w.heap.size + 1, 1, none⟩ = some (.slice A' y.hs.length c'))
        (first | with_reducible exact TwO.cells (by assumption))
        (first | (go_at_call_of 82 (Value.int IntKind.i64 x.p); with_reducible refine (px.out _ (by assumption)).mono ?_; rintro e X3 ⟨D, k, rfl, hb3, hX3, hr3⟩)
               | (go_at_call_of 82 (Value.int IntKind.i64 y.p); with_reducible refine (py.out _ (by assumption)).mono ?_; rintro e X4 ⟨D', k', rfl, hb4, hX4, hr4⟩)
               | (go_at_call 32; first
                   | (with_reducible refine (pe.out _ _ _ _ _ (by assumption) (Row.up hr3 hb4) hr4).mono ?_; rintro e X5 ⟨rfl, hX5⟩)
                   | (with_reducible refine (pe.out _ _ _ _ _ (by assumption) hr3 (Row.up hr4 hb3)).mono ?_; rintro e X5 ⟨rfl, hX5⟩)))
      all_goals
        go_wp2
        exact bodyPost_ret (v := .tuple #[.bool R, .int .i64 0]) (by simp [results, Try.results40, go_sem]) rfl ⟨rfl, hX5.below⟩

theorem equal_self {X : World} {b c b' c' : Nat} {x : Wn} {A A' : Option Addr} (h : Bw X b x A c) (h' : Bw X b' x A' c') : Calls Try.prog 32 #[.agg #[.int .i64 x.p, .slice A x.hs.length c], .agg #[.int .i64 x.p, .slice A' x.hs.length c']] X fun e Y => e = .returned (.bool true) ∧ Below X.heap.size X Y := by
  have := equal_call h h'
  rw [eqW_self] at this
  exact this
theorem widelaw_big {X : World} {b c : Nat} {x : Wn} {A : Option Addr} (h : Bw X b x A c) (hl : 4000 < x.hs.length) : Calls Try.prog 18 #[.agg #[.int .i64 x.p, .slice A x.hs.length c]] X fun e Y => e = .returned (.bool true) ∧ Below X.heap.size X Y := by
  have := wide_law A c x.hs.length x.p X h.2.1
  rw [decide_eq_true hl] at this
  exact this
theorem same_is {X : World} {b c b' c' : Nat} {x y : Wn} {A A' : Option Addr} {q : Bool} {r : Int} (h : Bw X b x A c) (h' : Bw X b' y A' c') (hr : sameR x y = (q, r)) : Calls Try.prog 39 #[.agg #[.int .i64 x.p, .slice A x.hs.length c], .agg #[.int .i64 y.p, .slice A' y.hs.length c']] X fun e Y => e = .returned (.tuple #[.bool q, .int .i64 r]) ∧ Below X.heap.size X Y := by
  have := Same_any X.heap.size A A' c c' x y X h.2 h'.2 (Nat.le_refl _)
  rw [hr] at this
  exact this
theorem sameref_is {X : World} {b c b' c' : Nat} {x y : Wn} {A A' : Option Addr} {q : Bool} {r : Int} (h : Bw X b x A c) (h' : Bw X b' y A' c') (hr : sameR x y = (q, r)) : Calls Try.prog 40 #[.agg #[.int .i64 x.p, .slice A x.hs.length c], .agg #[.int .i64 y.p, .slice A' y.hs.length c']] X fun e Y => e = .returned (.tuple #[.bool q, .int .i64 r]) ∧ Below X.heap.size X Y := by
  have := Same_ref X.heap.size A A' c c' x y X h.2 h'.2 (Nat.le_refl _)
  rw [hr] at this
  exact this
/-- What a call that hands back a window and an error leaves. -/
def GotE (X : World) (z : Wn) (r : Int) (e : Ending) (Y : World) : Prop := ∃ A c, e = .returned (.tuple #[.agg #[.int .i64 z.p, .slice A z.hs.length c], .int .i64 r]) ∧ Below X.heap.size X Y ∧ Row Y Y.heap.size A z.hs ∧ ∀ a, A = some a → X.heap.size ≤ a.block
end Go.Proofs.Ytlnpnfjdcnijhaa
