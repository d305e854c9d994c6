/-
  The window that is open when at least so many of two are, both, one of two: the specification's functions.
-/
import Derived.Test.YtlnpnfjdcnijhaaBn
namespace Go.Proofs.Ytlnpnfjdcnijhaa
open Go.RowKit Go.Deep M
set_option linter.unusedVariables false
set_option linter.unusedSimpArgs false

namespace M
def lstN (x y : Wn) (many : Int) (i : Nat) : Bool := decide (many ≤ cntN x y i)
def leastR (x y : Wn) (many : Int) : Wn × Int := if (winB x 60 && winB y 60) = true then (⟨(mulN x.p.toNat y.p.toNat : Nat), hrsL (lstN x y many) (mulN x.p.toNat y.p.toNat)⟩, 0) else (⟨0, []⟩, 50)
theorem lst_two (x y : Wn) : lstN x y 2 = fun j => opB x (j : Nat) && opB y (j : Nat) := by
  funext j
  unfold lstN cntN
  cases opB x (j : Nat) <;> cases opB y (j : Nat) <;> simp
theorem lst_one (x y : Wn) : lstN x y 1 = fun j => opB x (j : Nat) || opB y (j : Nat) := by
  funext j
  unfold lstN cntN
  cases opB x (j : Nat) <;> cases opB y (j : Nat) <;> simp
theorem least_both (x y : Wn) : leastR x y 2 = bothR x y := by unfold leastR bothR; rw [lst_two]
theorem least_eith (x y : Wn) : leastR x y 1 = eithR x y := by unfold leastR eithR; rw [lst_one]
end M
theorem TwW.set {w X : World} {p q : Int} {A A' : Option Addr} {n n' c c' g : Nat} (h : TwW w p q A A' n n' c c' X) (hg : w.heap.size + 1 + 1 < g) (k : Nat) (v : Value) : TwW w p q A A' n n' c c' (X.setCell ⟨g, k, none⟩ v) :=
  ⟨h.on.set (by omega) k v, h.box.to (setCell_far (show w.heap.size + 1 + 1 ≠ g by omega))⟩
theorem BlI.far {X : World} {g n b k : Nat} {f : Nat → Int} (h : BlI X g n f) (hb : g ≠ b) (v : Value) : BlI (X.setCell ⟨b, k, none⟩ v) g n f := h.to (setCell_far hb)

set_option maxRecDepth 100000 in
set_option maxHeartbeats 4000000 in
theorem least_any (B : Nat) (A A' : Option Addr) (c c' : Nat) (x y : Wn) (many : Int) (w : World) (h : Row w B A x.hs) (h' : Row w B A' y.hs) (hB : B ≤ w.heap.size) (hmany : many = 1 ∨ many = 2) :
    Calls Try.prog 74 #[wnV x.p A x.hs.length c, wnV y.p A' y.hs.length c', .int .i64 many] w (RetW w (leastR x y many).1 (leastR x y many).2) := by
  have h63 := h.1
  have h63' := h'.1
  have hW := twW_new w x.p y.p A A' x.hs.length y.hs.length c c'
  have kx : ∀ X, TwW w x.p y.p A A' x.hs.length y.hs.length c c' X → Calls Try.prog 25 #[wnV x.p A x.hs.length c] X fun e w' => e = .returned (.bool (winB x 60)) ∧ TwW w x.p y.p A A' x.hs.length y.hs.length c c' w' := fun X hX =>
    (Valid_ref B A c x X (h.below (hX.on.below.mono hB)) (Nat.le_trans hB hX.on.below.size)).mono fun e w' ⟨he, hb⟩ => ⟨he, hX.up hb⟩
  have ky : ∀ X, TwW w x.p y.p A A' x.hs.length y.hs.length c c' X → Calls Try.prog 25 #[wnV y.p A' y.hs.length c'] X fun e w' => e = .returned (.bool (winB y 60)) ∧ TwW w x.p y.p A A' x.hs.length y.hs.length c c' w' := fun X hX =>
    (Valid_ref B A' c' y X (h'.below (hX.on.below.mono hB)) (Nat.le_trans hB hX.on.below.size)).mono fun e w' ⟨he, hb⟩ => ⟨he, hX.up hb⟩
  obtain ⟨c0, c1, d0, d1⟩ := hW.cells
  cases hx : winB x 60 with
  | false =>
    have hR : leastR x y many = (⟨0, []⟩, 50) := by unfold leastR; rw [hx]; simp
    rw [hR]
    simp only []
    have k1 := kx _ hW
    rw [hx] at k1
    unfold wnV at *
    clear kx ky
    replace k1 := Lib.hid k1
    replace hR := Lib.hid hR
    replace hx := Lib.hid hx
    replace hmany := Lib.hid hmany
    go_enter Try.func74, Try.ntmps74
    go_wp2_with fail
    refine k1.out.mono ?_
    rintro e X1 ⟨rfl, hX1⟩
    have z0 := hX1.box.fz 0
    have z1 := hX1.box.fz 1
    have z2 := hX1.box.c0
    have z3 := hX1.box.c1
    have hl := hX1.box.lt
    have y0 : ((X1.setCell ⟨w.heap.size + 1 + 1, 0, none⟩ (.int .i64 0)).setCell ⟨w.heap.size + 1 + 1, 1, none⟩ (.slice none 0 0)).cell? ⟨w.heap.size + 1 + 1, 0, none⟩ = some (.int .i64 0) := by
      simp [World.cell?, World.setCell, Array.getElem?_modify, show X1.heap[w.heap.size + 1 + 1]? = _ from hX1.box]
    have y1 : ((X1.setCell ⟨w.heap.size + 1 + 1, 0, none⟩ (.int .i64 0)).setCell ⟨w.heap.size + 1 + 1, 1, none⟩ (.slice none 0 0)).cell? ⟨w.heap.size + 1 + 1, 1, none⟩ = some (.slice none 0 0) := by
      simp [World.cell?, World.setCell, Array.getElem?_modify, show X1.heap[w.heap.size + 1 + 1]? = _ from hX1.box]
    have hz := set2_below hX1.on.below (le2 w.heap.size) (.int .i64 0) (.slice none 0 0)
    replace hX1 := Lib.hid hX1
    replace hz := Lib.hid hz
    go_wp2
    exact bodyPost_ret (v := .tuple #[.agg #[.int .i64 0, .slice none 0 0], .int .i64 50]) (by simp [results, Try.results74, go_sem, y0, y1]) rfl ⟨none, 0, rfl, hz.out, row_nil _ _ _, fun a ha => (by cases ha)⟩
  | true =>
    have k1 := kx _ hW
    rw [hx] at k1
    cases hy : winB y 60 with
    | false =>
      have hR : leastR x y many = (⟨0, []⟩, 50) := by unfold leastR; rw [hy]; simp
      rw [hR]
      simp only []
      rw [hy] at ky
      unfold wnV at *
      clear kx
      replace k1 := Lib.hid k1
      replace ky := Lib.hid ky
      replace hR := Lib.hid hR
      replace hx := Lib.hid hx
      replace hy := Lib.hid hy
      replace hmany := Lib.hid hmany
      go_enter Try.func74, Try.ntmps74
      go_wp2_with fail
      refine k1.out.mono ?_
      rintro e X0 ⟨rfl, hX0⟩
      clear c0 c1 d0 d1
      obtain ⟨c0, c1, d0, d1⟩ := hX0.cells
      have k2 := Lib.hid (ky.out X0 hX0)
      replace hX0 := Lib.hid hX0
      go_wp2_with fail
      refine k2.out.mono ?_
      rintro e X1 ⟨rfl, hX1⟩
      have z0 := hX1.box.fz 0
      have z1 := hX1.box.fz 1
      have z2 := hX1.box.c0
      have z3 := hX1.box.c1
      have hl := hX1.box.lt
      have y0 : ((X1.setCell ⟨w.heap.size + 1 + 1, 0, none⟩ (.int .i64 0)).setCell ⟨w.heap.size + 1 + 1, 1, none⟩ (.slice none 0 0)).cell? ⟨w.heap.size + 1 + 1, 0, none⟩ = some (.int .i64 0) := by
        simp [World.cell?, World.setCell, Array.getElem?_modify, show X1.heap[w.heap.size + 1 + 1]? = _ from hX1.box]
      have y1 : ((X1.setCell ⟨w.heap.size + 1 + 1, 0, none⟩ (.int .i64 0)).setCell ⟨w.heap.size + 1 + 1, 1, none⟩ (.slice none 0 0)).cell? ⟨w.heap.size + 1 + 1, 1, none⟩ = some (.slice none 0 0) := by
        simp [World.cell?, World.setCell, Array.getElem?_modify, show X1.heap[w.heap.size + 1 + 1]? = _ from hX1.box]
      have hz := set2_below hX1.on.below (le2 w.heap.size) (.int .i64 0) (.slice none 0 0)
      replace hX1 := Lib.hid hX1
      replace hz := Lib.hid hz
      go_wp2
      exact bodyPost_ret (v := .tuple #[.agg #[.int .i64 0, .slice none 0 0], .int .i64 50]) (by simp [results, Try.results74, go_sem, y0, y1]) rfl ⟨none, 0, rfl, hz.out, row_nil _ _ _, fun a ha => (by cases ha)⟩
    | true =>
      obtain ⟨p, hp, p1, p2, _⟩ := win_nat hx
      obtain ⟨q, hq, q1, q2, _⟩ := win_nat hy
      obtain ⟨m1, m2⟩ := mul_60 hx hy hp hq
      have hR : leastR x y many = (⟨(mulN p q : Nat), hrsL (lstN x y many) (mulN p q)⟩, 0) := by unfold leastR; rw [hx, hy, hp, hq, Int.toNat_natCast, Int.toNat_natCast]; simp
      rw [hR]
      simp only []
      rw [hy] at ky
      have kj : ∀ X, TwW w x.p y.p A A' x.hs.length y.hs.length c c' X → Calls Try.prog 102 #[wnV x.p A x.hs.length c, wnV y.p A' y.hs.length c'] X fun e w' => ∃ g, e = .returned (.slice (some ⟨g, 0, none⟩) (mulN p q) (mulN p q)) ∧ TwW w x.p y.p A A' x.hs.length y.hs.length c c' w' ∧ w.heap.size + 1 + 1 < g ∧ BlI w' g (mulN p q) (cntN x y) := fun X hX => by
        have := joined_ref B A A' c c' x y p q X (h.below (hX.on.below.mono hB)) (h'.below (hX.on.below.mono hB)) (Nat.le_trans hB hX.on.below.size) hx hy hp hq
        rw [← hp, ← hq] at this
        exact this.mono fun e w' ⟨g, he, hb, hg, hbl⟩ => ⟨g, he, hX.up hb, by have := hX.box.lt; omega, hbl⟩
      have hmk := fun W => run_mkB W (mulN p q) (by omega)
      have hG : ∀ k, lstN x y many k = decide (many ≤ cntN x y k) := fun k => rfl
      obtain ⟨F, hF⟩ : ∃ F, F = cntN x y := ⟨_, rfl⟩
      obtain ⟨G, hGe⟩ : ∃ G, G = lstN x y many := ⟨_, rfl⟩
      rw [← hF] at kj hG
      rw [← hGe] at hG ⊢
      generalize mulN p q = m at *
      have hwn : ∀ X g, TwW w x.p y.p A A' x.hs.length y.hs.length c c' X → BlB X g m G → Calls Try.prog 77 #[.slice (some ⟨g, 0, none⟩) m m] X fun e w' => ∃ A5 c5, e = .returned (.agg #[.int .i64 (m : Nat), .slice A5 (hrsL G m).length c5]) ∧ TwW w x.p y.p A A' x.hs.length y.hs.length c c' w' ∧ Row w' w'.heap.size A5 (hrsL G m) ∧ ∀ a, A5 = some a → w.heap.size + 1 + 1 < a.block := fun X g hX hb =>
        (window_ref g m m G X hb (by omega)).mono fun e w' ⟨A5, c5, he, hb, hr, hfr⟩ => ⟨A5, c5, he, hX.up hb, hr, fun a ha => by have := hfr a ha; have := hX.box.lt; omega⟩
      have hll := hrsL_le G m
      obtain ⟨l, hl⟩ : ∃ l, l = hrsL G m := ⟨_, rfl⟩
      rw [← hl] at hll hwn ⊢
      unfold wnV at *
      clear kx
      replace hl := Lib.hid hl
      replace hF := Lib.hid hF
      replace hGe := Lib.hid hGe
      replace hG := Lib.hid hG
      replace k1 := Lib.hid k1
      replace ky := Lib.hid ky
      replace kj := Lib.hid kj
      replace hwn := Lib.hid hwn
      replace hR := Lib.hid hR
      replace hx := Lib.hid hx
      replace hy := Lib.hid hy
      replace hp := Lib.hid hp
      replace hq := Lib.hid hq
      have hmb : 1 ≤ many ∧ many ≤ 2 := by omega
      obtain ⟨hmb1, hmb2⟩ := hmb
      replace hmany := Lib.hid hmany
      replace hW := Lib.hid hW
      go_enter Try.func74, Try.ntmps74
      go_wp2_with fail
      refine k1.out.mono ?_
      rintro e X0 ⟨rfl, hX0⟩
      clear c0 c1 d0 d1
      obtain ⟨c0, c1, d0, d1⟩ := hX0.cells
      have k2 := Lib.hid (ky.out X0 hX0)
      replace hX0 := Lib.hid hX0
      go_wp2_with fail
      refine k2.out.mono ?_
      rintro e X1 ⟨rfl, hX1⟩
      clear c0 c1 d0 d1
      obtain ⟨c0, c1, d0, d1⟩ := hX1.cells
      have k3 := Lib.hid (kj.out X1 hX1)
      replace hX1 := Lib.hid hX1
      go_wp2_with fail
      refine k3.out.mono ?_
      rintro e X2 ⟨g, rfl, hX2, hg, hb2⟩
      clear c0 c1 d0 d1
      have hX2m := hX2.up (mkB_below X2 m)
      have hb2m := hb2.up (mkB_below X2 m)
      have hb3 := (mkB_blk X2 m).congr (f' := fun i => if i < 0 then G i else false) fun i _ => by simp
      have hg2 : w.heap.size + 1 + 1 < X2.heap.size := hX2.box.lt
      have hgg : g ≠ X2.heap.size := by have := hb2.lt; omega
      obtain ⟨g2, hg2e⟩ : ∃ g2, g2 = X2.heap.size := ⟨_, rfl⟩
      rw [← hg2e] at hb3 hg2 hgg
      have hsz := hmk X2
      rw [← hg2e] at hsz
      obtain ⟨Y2, hY2⟩ : ∃ Y, Y = mkB X2 m := ⟨_, rfl⟩
      rw [← hY2] at hX2m hb2m hb3 hsz
      replace hY2 := Lib.hid hY2
      replace hg2e := Lib.hid hg2e
      clear hmk
      replace hb2 := Lib.hid hb2
      replace hX2 := Lib.hid hX2
      replace hb2m := Lib.hid hb2m
      replace hX2m := Lib.hid hX2m
      replace hb3 := Lib.hid hb3
      go_wp2
      go_loopw [28] (fun i X => ∃ k : Nat, k ≤ m ∧ i = .int .i64 (k : Nat) ∧ TwW w x.p y.p A A' x.hs.length y.hs.length c c' X ∧ BlI X g m F ∧ BlB X g2 m (fun i => if i < k then G i else false)) (fun i _ => m - (intOf i).toNat)
      case atStart => exact ⟨0, Nat.zero_le _, rfl, hX2m.out, hb2m.out, hb3.out⟩
      case round =>
        obtain ⟨k, hk, rfl, hX, hbo, hbl⟩ := hrel
        by_cases hlt : k < m
        · have e0 := hbo.cell hlt
          have e1 := hbl.cell hlt
          have e2 := hbl.fz k
          have e3 := hbl.lt
          have hGk := hG.out k
          simp only [Nat.lt_irrefl, if_false] at e1
          have hstep : ∀ b, b = G k → TwW w x.p y.p A A' x.hs.length y.hs.length c c' (wr.setCell ⟨g2, k, none⟩ (.bool b)) ∧ BlI (wr.setCell ⟨g2, k, none⟩ (.bool b)) g m F ∧ BlB (wr.setCell ⟨g2, k, none⟩ (.bool b)) g2 m (fun i => if i < k + 1 then G i else false) := fun b hb => by
            refine ⟨hX.set hg2 k _, hbo.far (k := k) hgg _, (hbl.set hlt b).congr fun i _ => ?_⟩
            by_cases e : i = k
            · subst e; simp [hb]
            · by_cases e' : i < k
              · simp [e, e', Nat.lt_succ_of_lt e']
              · have : ¬ i < k + 1 := by omega
                simp [e, e', this]
          generalize F k = z at *
          by_cases hz : many ≤ z
          · rw [decide_eq_true hz] at hGk
            have hS := Lib.hid (hstep true hGk.symm)
            clear hstep
            replace hGk := Lib.hid hGk
            replace hX := Lib.hid hX
            replace hbo := Lib.hid hbo
            replace hbl := Lib.hid hbl
            go_wp2
            go_roundw
            case rel => exact ⟨k + 1, by omega, by go_num, hS.out⟩
            case measure => simp [intOf]; omega
          · rw [decide_eq_false hz] at hGk
            have hS := Lib.hid (hstep false hGk.symm)
            clear hstep
            replace hGk := Lib.hid hGk
            replace hX := Lib.hid hX
            replace hbo := Lib.hid hbo
            replace hbl := Lib.hid hbl
            go_wp2
            go_roundw
            case rel => exact ⟨k + 1, by omega, by go_num, hS.out⟩
            case measure => simp [intOf]; omega
        · have hk' : k = m := by omega
          have hc := hwn.out wr g2 hX (hbl.congr fun i hi => by simp [show i < k by omega])
          subst hk'
          replace hX := Lib.hid hX
          replace hbo := Lib.hid hbo
          replace hbl := Lib.hid hbl
          replace hc := Lib.hid hc
          go_wp2_with fail
          refine hc.out.mono ?_
          rintro e X5 ⟨A5, c5, rfl, hX5, hrow, hfr⟩
          obtain ⟨y0, y1, hrw⟩ := res_win (w := w) (p := k) (c := c5) hX5.box hrow (fun a ha => Or.inl (by have := hfr a ha; omega))
          have hz := set2_below hX5.on.below (le2 w.heap.size) (.int .i64 (k : Nat)) (.slice A5 l.length c5)
          have z0 := hX5.box.c0
          have z1 := hX5.box.c1
          have z2 := hX5.box.fz 0
          have z3 := hX5.box.fz 1
          have hl5 := hX5.box.lt
          replace hX5 := Lib.hid hX5
          replace hrow := Lib.hid hrow
          replace hfr := Lib.hid hfr
          replace hrw := Lib.hid hrw
          replace hz := Lib.hid hz
          go_wp2
          exact bodyPost_ret (v := .tuple #[.agg #[.int .i64 (k : Nat), .slice A5 l.length c5], .int .i64 0]) (by simp [results, Try.results74, go_sem, y0, y1]) rfl ⟨A5, c5, rfl, hz.out, hrw.out, fun a ha => by have := hfr.out a ha; omega⟩

set_option maxRecDepth 100000 in
set_option maxHeartbeats 2000000 in
theorem Both_ref (B : Nat) (A A' : Option Addr) (c c' : Nat) (x y : Wn) (w : World) (h : Row w B A x.hs) (h' : Row w B A' y.hs) (hB : B ≤ w.heap.size) :
    Calls Try.prog 29 #[wnV x.p A x.hs.length c, wnV y.p A' y.hs.length c'] w (RetW w (bothR x y).1 (bothR x y).2) := by
  have h63 := h.1
  have h63' := h'.1
  have hW := twW_new w x.p y.p A A' x.hs.length y.hs.length c c'
  have k1 := least_any B A A' c c' x y 2 _ (h.below (hW.on.below.mono hB)) (h'.below (hW.on.below.mono hB)) (Nat.le_trans hB hW.on.below.size) (by omega)
  rw [least_both] at k1
  obtain ⟨⟨z, r⟩, hz⟩ : ∃ q, bothR x y = q := ⟨_, rfl⟩
  rw [hz] at k1 ⊢
  simp only [] at k1 ⊢
  obtain ⟨c0, c1, d0, d1⟩ := hW.cells
  unfold wnV at *
  replace hz := Lib.hid hz
  replace k1 := Lib.hid k1
  replace hW := Lib.hid hW
  go_enter Try.func29, Try.ntmps29
  go_wp2_with fail
  refine k1.out.mono ?_
  rintro e X5 ⟨A5, c5, rfl, hb5, hrow, hfr⟩
  unfold wnV
  have hX5 := hW.out.up hb5
  have hlt0 := hW.out.box.lt
  have hne : ∀ a, A5 = some a → a.block ≠ w.heap.size + 1 + 1 ∨ z.hs.length = 0 := fun a ha => .inl (by have := hfr a ha; omega)
  have hrw := row_stW (b := w.heap.size + 1 + 1) (p := z.p) (A := A5) (n := z.hs.length) (c := c5) hrow hne
  have hbx := stW_box hX5.box z.p A5 z.hs.length c5
  have hbe := set2_below hX5.on.below (le2 w.heap.size) (.int .i64 z.p) (.slice A5 z.hs.length c5)
  have hw1 := hW.out.on.below.size
  unfold stW at hrw hbx
  have y0 := hbx.c0
  have y1 := hbx.c1
  have z0 := hX5.box.c0
  have z1 := hX5.box.c1
  have z2 := hX5.box.fz 0
  have z3 := hX5.box.fz 1
  have hl5 := hX5.box.lt
  have hfin : ∀ a, A5 = some a → w.heap.size ≤ a.block := fun a ha => Nat.le_trans hw1 (hfr a ha)
  replace hX5 := Lib.hid hX5
  replace hb5 := Lib.hid hb5
  replace hrow := Lib.hid hrow
  replace hfr := Lib.hid hfr
  replace hrw := Lib.hid hrw
  replace hbx := Lib.hid hbx
  replace hbe := Lib.hid hbe
  replace hne := Lib.hid hne
  replace hfin := Lib.hid hfin
  go_wp2
  exact bodyPost_ret (v := .tuple #[.agg #[.int .i64 z.p, .slice A5 z.hs.length c5], .int .i64 r]) (by simp [results, Try.results29, go_sem, y0, y1]) rfl ⟨A5, c5, rfl, hbe.out, hrw.out, hfin.out⟩

set_option maxRecDepth 100000 in
set_option maxHeartbeats 2000000 in
theorem Either_ref (B : Nat) (A A' : Option Addr) (c c' : Nat) (x y : Wn) (w : World) (h : Row w B A x.hs) (h' : Row w B A' y.hs) (hB : B ≤ w.heap.size) :
    Calls Try.prog 31 #[wnV x.p A x.hs.length c, wnV y.p A' y.hs.length c'] w (RetW w (eithR x y).1 (eithR x y).2) := by
  have h63 := h.1
  have h63' := h'.1
  have hW := twW_new w x.p y.p A A' x.hs.length y.hs.length c c'
  have k1 := least_any B A A' c c' x y 1 _ (h.below (hW.on.below.mono hB)) (h'.below (hW.on.below.mono hB)) (Nat.le_trans hB hW.on.below.size) (by omega)
  rw [least_eith] at k1
  obtain ⟨⟨z, r⟩, hz⟩ : ∃ q, eithR x y = q := ⟨_, rfl⟩
  rw [hz] at k1 ⊢
  simp only [] at k1 ⊢
  obtain ⟨c0, c1, d0, d1⟩ := hW.cells
  unfold wnV at *
  replace hz := Lib.hid hz
  replace k1 := Lib.hid k1
  replace hW := Lib.hid hW
  go_enter Try.func31, Try.ntmps31
  go_wp2_with fail
  refine k1.out.mono ?_
  rintro e X5 ⟨A5, c5, rfl, hb5, hrow, hfr⟩
  unfold wnV
  have hX5 := hW.out.up hb5
  have hlt0 := hW.out.box.lt
  have hne : ∀ a, A5 = some a → a.block ≠ w.heap.size + 1 + 1 ∨ z.hs.length = 0 := fun a ha => .inl (by have := hfr a ha; omega)
  have hrw := row_stW (b := w.heap.size + 1 + 1) (p := z.p) (A := A5) (n := z.hs.length) (c := c5) hrow hne
  have hbx := stW_box hX5.box z.p A5 z.hs.length c5
  have hbe := set2_below hX5.on.below (le2 w.heap.size) (.int .i64 z.p) (.slice A5 z.hs.length c5)
  have hw1 := hW.out.on.below.size
  unfold stW at hrw hbx
  have y0 := hbx.c0
  have y1 := hbx.c1
  have z0 := hX5.box.c0
  have z1 := hX5.box.c1
  have z2 := hX5.box.fz 0
  have z3 := hX5.box.fz 1
  have hl5 := hX5.box.lt
  have hfin : ∀ a, A5 = some a → w.heap.size ≤ a.block := fun a ha => Nat.le_trans hw1 (hfr a ha)
  replace hX5 := Lib.hid hX5
  replace hb5 := Lib.hid hb5
  replace hrow := Lib.hid hrow
  replace hfr := Lib.hid hfr
  replace hrw := Lib.hid hrw
  replace hbx := Lib.hid hbx
  replace hbe := Lib.hid hbe
  replace hne := Lib.hid hne
  replace hfin := Lib.hid hfin
  go_wp2
  exact bodyPost_ret (v := .tuple #[.agg #[.int .i64 z.p, .slice A5 z.hs.length c5], .int .i64 r]) (by simp [results, Try.results31, go_sem, y0, y1]) rfl ⟨A5, c5, rfl, hbe.out, hrw.out, hfin.out⟩
theorem bothE_is {X : World} {b c b' c' : Nat} {x y z : Wn} {A A' : Option Addr} {r : Int} (h : Bw X b x A c) (h' : Bw X b' y A' c') (hz : bothR x y = (z, r)) : Calls Try.prog 28 #[.agg #[.int .i64 x.p, .slice A x.hs.length c], .agg #[.int .i64 y.p, .slice A' y.hs.length c']] X (GotE X z r) := by
  have := Both_any X.heap.size A A' c c' x y X h.2 h'.2 (Nat.le_refl _)
  rw [hz] at this
  exact this
theorem bothref_is {X : World} {b c b' c' : Nat} {x y z : Wn} {A A' : Option Addr} {r : Int} (h : Bw X b x A c) (h' : Bw X b' y A' c') (hz : bothR x y = (z, r)) : Calls Try.prog 29 #[.agg #[.int .i64 x.p, .slice A x.hs.length c], .agg #[.int .i64 y.p, .slice A' y.hs.length c']] X (GotE X z r) := by
  have := Both_ref X.heap.size A A' c c' x y X h.2 h'.2 (Nat.le_refl _)
  rw [hz] at this
  exact this
theorem eithE_is {X : World} {b c b' c' : Nat} {x y z : Wn} {A A' : Option Addr} {r : Int} (h : Bw X b x A c) (h' : Bw X b' y A' c') (hz : eithR x y = (z, r)) : Calls Try.prog 30 #[.agg #[.int .i64 x.p, .slice A x.hs.length c], .agg #[.int .i64 y.p, .slice A' y.hs.length c']] X (GotE X z r) := by
  have := Either_any X.heap.size A A' c c' x y X h.2 h'.2 (Nat.le_refl _)
  rw [hz] at this
  exact this
theorem eithref_is {X : World} {b c b' c' : Nat} {x y z : Wn} {A A' : Option Addr} {r : Int} (h : Bw X b x A c) (h' : Bw X b' y A' c') (hz : eithR x y = (z, r)) : Calls Try.prog 31 #[.agg #[.int .i64 x.p, .slice A x.hs.length c], .agg #[.int .i64 y.p, .slice A' y.hs.length c']] X (GotE X z r) := by
  have := Either_ref X.heap.size A A' c c' x y X h.2 h'.2 (Nat.le_refl _)
  rw [hz] at this
  exact this
end Go.Proofs.Ytlnpnfjdcnijhaa
