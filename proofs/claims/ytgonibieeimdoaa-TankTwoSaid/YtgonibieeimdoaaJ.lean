/-
  Two of the specification.
-/
import Derived.Test.YtgonibieeimdoaaI
import Derived.Test.YtgonibieeimdoaaF
namespace Go.Proofs.Ytgonibieeimdoaa
open Go.RowKit Go.Deep M
set_option linter.unusedVariables false
set_option linter.unusedSimpArgs false

theorem Bx3.fz {w : World} {b : Nat} {x : Dd} (h : Bx3 w b x) (k : Nat) : w.frozen? ⟨b, k, none⟩ = false := by simp [World.frozen?, show w.heap[b]? = _ from h]
theorem Bx3.set {w : World} {b : Nat} {x : Dd} (h : Bx3 w b x) (x' : Dd) :
    Bx3 (((w.setCell ⟨b, 0, none⟩ (.int .i64 x'.d)).setCell ⟨b, 1, none⟩ (.int .i64 x'.f)).setCell ⟨b, 2, none⟩ (.int .i64 x'.t)) b x' := by
  unfold Bx3 at *
  simp [World.setCell, Array.getElem?_modify, h]
/-- What a call says that hands back a new list of integers, in a block of its own. -/
def NewBlk (w : World) (l : List Int) (e : Ending) (w' : World) : Prop := ∃ g c, e = .returned (.slice (some ⟨g, 0, none⟩) l.length c) ∧ Below w.heap.size w w' ∧ w.heap.size ≤ g ∧ Blk w' g l.length (el l)
theorem done_blk (B : Nat) (A A' : Option Addr) (c c' : Nat) (t l : List Int) (x : Dd) (w : World) (h : Row w B A t) (h' : Row w B A' l) (hB : B ≤ w.heap.size) (hv : vT t) (hl : vL t l) (hx : isD t.length x) :
    Calls Try.prog 62 #[.slice A t.length c, .slice A' l.length c', ddV x] w (NewBlk w (doL t l x)) := by
  have h2 := hv.1.1
  have h4 := hv.1.2
  have hll := hl.1
  obtain ⟨b', o', rfl, hb', hc'⟩ := h'.2 (by omega)
  have hlen := doL_len t l x
  have hfin : ∀ F e X, DnR w x l.length F e X → (∀ i, i < l.length → F i = el (doL t l x) i) → NewBlk w (doL t l x) e X := fun F e X ⟨k, cc, he, hX⟩ hF =>
    ⟨k, cc, by rw [hlen]; exact he, hX.below, Nat.le_of_lt hX.gt, by rw [hlen]; exact hX.blk.congr hF⟩
  rcases isD_cases hx with ⟨g, hg, rfl⟩ | ⟨g, hg, rfl⟩ | ⟨f, g, hf, hg, hn, rfl⟩
  · exact (done_fill B A b' o' c c' t l g w h hB h4 hll hg (by omega) hc').mono fun e X hR => hfin _ e X hR fun i hi => (doL_fill t l g i (by omega)).symm
  · exact (done_empty B A b' o' c c' t l g w h hB h4 hll hg (by omega) hc').mono fun e X hR => hfin _ e X hR fun i hi => (doL_empty t l g i (by omega)).symm
  · exact (done_pour B A b' o' c c' t l f g w h hB h4 hll hf hg hn (fun i hi => (hv.2 i hi).2) (fun i hi => hl.2 i hi) (by omega) hc').mono fun e X hR => hfin _ e X hR fun i hi => (doL_pour t l f g i (by omega) (by omega)).symm

theorem blk_own {w : World} {base n b m : Nat} {v : Value} {xs : List Value} {F : Nat → Int} (h : w.ownsRow base 24 3 v n xs) (hb : Blk w b m F) : v.ownBlock ≠ some b := fun e => by
  rcases h.2 with ⟨rfl, _⟩ | ⟨g, cap, cur, rfl, hge, hh, h3⟩
  · simp [Value.ownBlock] at e
  · simp [Value.ownBlock] at e
    subst e
    obtain ⟨cs, hb, _⟩ := hb
    rw [hb] at hh
    injection hh with hh
    injection hh with h1 h2
    exact absurd h2 (by decide)
/-- The world of the loop: W is the world behind the tanks' list. -/
structure TrW (W : World) (t : List Int) (j : Nat) (v : Value) (g : Nat) (X : World) : Prop where
  below : Below W.heap.size W X
  blk : Blk X g 2 (el (twL t j))
  own : X.ownsRow W.heap.size 24 3 v j (dvals (twD t j))
theorem TrW.up {W X Y : World} {t : List Int} {j : Nat} {v : Value} {g : Nat} (h : TrW W t j v g X) (hb : Below X.heap.size X Y) : TrW W t j v g Y := ⟨h.below.trans (hb.mono h.below.size), h.blk.up hb, own_up h.own hb⟩
/-- Ahead of the append: the deed lies in the box bd and in the new block a. -/
structure TrQ (W : World) (t : List Int) (j : Nat) (v : Value) (g bd a : Nat) (x : Dd) (X : World) : Prop where
  w : TrW W t j v g X
  box : Bx3 X bd x
  ne : v.ownBlock ≠ some bd
  news : ∀ i u, (dc x)[i]? = some u → X.cell? ((⟨a, 0, none⟩ : Addr).add i) = some u
  x : x = nx t (twL t j)
theorem tr_pre {W X Y : World} {t : List Int} {j : Nat} {v : Value} {g : Nat} {x : Dd} (h : TrW W t j v g X) (hb : Below X.heap.size X Y) (hx : Bx3 Y X.heap.size x) (hs : Y.heap.size = X.heap.size + 1) (hn : x = nx t (twL t j)) :
    TrQ W t j v g X.heap.size (X.heap.size + 1) x (Y.alloc (.cells #[.int .i64 x.d, .int .i64 x.f, .int .i64 x.t] 24)) :=
  ⟨(h.up hb).up (ba1 _ _), hx.up (ba1 _ _), fun e => by have := (h.own.lt _ e).2; omega, by rw [← hs]; exact one_news Y x, hn⟩
/-- Behind it. -/
structure TrA (W : World) (t : List Int) (j : Nat) (v : Value) (g bd : Nat) (x : Dd) (Y : World) : Prop where
  below : Below W.heap.size W Y
  blk : Blk Y g 2 (el (twL t j))
  own : Y.ownsRow W.heap.size 24 3 v (j + 1) (dvals (twD t (j + 1)))
  box : Bx3 Y bd x
theorem TrQ.app {W X Y : World} {t : List Int} {j : Nat} {v v' : Value} {g bd a : Nat} {x : Dd} (h : TrQ W t j v g bd a x X) (hown : Y.ownsRow W.heap.size 24 3 v' (j + 1) (dvals (twD t j) ++ dc x)) (hgrow : X.grownBy Y v.ownBlock) : TrA W t j v' g bd x Y := by
  refine ⟨h.w.below.trans (below_grown hgrow h.w.below.size fun k e => (h.w.own.lt k e).1), h.w.blk.to (hgrow.block _ h.w.blk.lt fun e => blk_own h.w.own h.w.blk e.symm), ?_, h.box.to (hgrow.block _ h.box.lt fun e => h.ne e.symm)⟩
  rw [twD_succ, dvals_app, dvals_one, ← h.x]; exact hown
theorem TrA.next {W X Y : World} {t : List Int} {j : Nat} {v : Value} {g bd : Nat} {x : Dd} (h : TrA W t j v g bd x X) (hx : x = nx t (twL t j)) {g' : Nat} (hb : Below X.heap.size X Y) (hl : Blk Y g' (doL t (twL t j) x).length (el (doL t (twL t j) x))) : TrW W t (j + 1) v g' Y := by
  have e : doL t (twL t j) x = twL t (j + 1) := by rw [twL_succ, ← hx]
  rw [e, twL_len] at hl
  exact ⟨h.below.trans (hb.mono h.below.size), hl, own_up h.own hb⟩

theorem TrW.row {W X : World} {t : List Int} {j : Nat} {v : Value} {g : Nat} (h : TrW W t j v g X) : Row X X.heap.size (some ⟨g, 0, none⟩) (twL t j) := by
  have := h.blk
  rw [← twL_len t j] at this
  exact this.row (by rw [twL_len]; omega)
theorem TrA.row {W X : World} {t : List Int} {j : Nat} {v : Value} {g bd : Nat} {x : Dd} (h : TrA W t j v g bd x X) : Row X X.heap.size (some ⟨g, 0, none⟩) (twL t j) := by
  have := h.blk
  rw [← twL_len t j] at this
  exact this.row (by rw [twL_len]; omega)
/-- Where the first loop begins. -/
theorem tr_start (W : World) (t : List Int) : TrW W t 0 (.slice none 0 0) W.heap.size (W.alloc (.cells #[.int .i64 0, .int .i64 0] 3)) :=
  ⟨ba1 _ _, ⟨#[.int .i64 0, .int .i64 0], heap_alloc_new W _, fun i hi => by
    have hi : i = 0 ∨ i = 1 := by omega
    rcases hi with rfl | rfl <;> rfl⟩, World.ownsRow_nil _ _ _ _⟩

set_option maxRecDepth 100000 in
set_option maxHeartbeats 8000000 in
theorem Two_ref (a b n : Int) (w : World) : Calls Try.prog 49 #[.int .i64 a, .int .i64 b, .int .i64 n] w (TwoR w a b n) := by
  obtain ⟨i24, ji, jz0, jz1, jz2⟩ := info_parts info24
  replace ji := Lib.hid ji
  replace jz0 := Lib.hid jz0
  replace jz1 := Lib.hid jz1
  replace jz2 := Lib.hid jz2
  have hr := row2 w a b
  have hc := Valid_ref _ _ 2 [a, b] _ hr
  have hb0 := Lib.hid (ba1 w (.cells #[.int .i64 a, .int .i64 b] 3))
  have hwi := Lib.hid (within_any 0 n b (w.alloc (.cells #[.int .i64 a, .int .i64 b] 3)))
  cases hv : validB [a, b] with
  | false =>
    rw [hv] at hc
    have hP := Lib.hid (show TwoP a b n [] 40 from .inl ⟨hv, rfl, rfl⟩)
    replace hc := Lib.hid hc
    replace hv := Lib.hid hv
    replace hr := Lib.hid hr
    go_enter Try.func49, Try.ntmps49
    go_wp2_with fail
    refine hc.out.mono ?_
    rintro e w1 ⟨rfl, rfl⟩
    go_wp2
    go_ret2
    exact ⟨[], 40, none, 0, hP.out, rfl, hb0.out, dls_nil _ _ _⟩
  | true =>
    rw [hv] at hc
    have hT := val_of hv
    obtain ⟨ha, hb⟩ := vT2 hv
    have hm := measure_ref _ _ 2 [a, b] _ hr hT
    obtain ⟨hg1, hg12⟩ := meas_b hT
    by_cases hn : 0 ≤ n ∧ n ≤ b
    · obtain ⟨hn0, hnb⟩ := hn
      have hwv : inB 0 n b = true := by unfold inB; simp; exact ⟨hn0, hnb⟩
      rw [hwv] at hwi
      by_cases ht : n.tmod (meas [a, b] : Nat) = 0
      · have hok : TwoOk a b n := ⟨hv, ⟨hn0, hnb⟩, ht⟩
        have hin := Lib.hid (twIn_zero hok)
        have hokk := Lib.hid hok
        obtain ⟨g, hg⟩ : ∃ g, g = meas [a, b] := ⟨_, rfl⟩
        rw [← hg] at hm hg1 hg12 ht
        have hg0 : ¬ (g : Int) = 0 := by omega
        have hg1' : 1 ≤ (g : Int) := by omega
        have ht' : (n % (g : Int) != 0) = false := by rw [Int.tmod_eq_emod_of_nonneg hn0] at ht; simpa using ht
        replace ht := Lib.hid ht
        clear hg hok
        have hst := tr_start (w.alloc (.cells #[.int .i64 a, .int .i64 b] 3)) [a, b]
        have hsz0 : (w.alloc (.cells #[.int .i64 a, .int .i64 b] 3)).heap.size = w.heap.size + 1 := by simp
        replace hst := Lib.hid hst
        replace hc := Lib.hid hc
        replace hm := Lib.hid hm
        replace hv := Lib.hid hv
        replace hr := Lib.hid hr
        replace hT := Lib.hid hT
        go_enter Try.func49, Try.ntmps49
        go_wp2_with fail
        refine hc.out.mono ?_
        rintro e w1 ⟨rfl, rfl⟩
        go_wp2_with fail
        refine hwi.out.mono ?_
        rintro e w1 ⟨rfl, rfl⟩
        go_wp2_with fail
        refine hm.out.mono ?_
        rintro e w1 ⟨rfl, rfl⟩
        go_wp2
        obtain ⟨W, hW⟩ : ∃ W, W = w.alloc (.cells #[.int .i64 a, .int .i64 b] 3) := ⟨_, rfl⟩
        rw [← hW] at hst hr hb0 hsz0
        clear hc hm hwi
        go_loopw [9, 10] (fun v s X => ∃ j g cc, s = .slice (some ⟨g, 0, none⟩) 2 cc ∧ TwIn [a, b] n j ∧ TrW W [a, b] j v g X) (fun v _ _ => 60 - vlen v)
        case atStart => exact ⟨0, w.heap.size + 1, 2, rfl, hin.out, by rw [← hsz0, ← hW]; exact hst.out⟩
        case round =>
          clear hW
          obtain ⟨j, gb, cc, rfl, hin2, hw⟩ := hrel
          have c0 := hw.blk.cell (i := 0) (by omega)
          have c1 := hw.blk.cell (i := 1) (by omega)
          have hgb := hw.blk.lt
          by_cases hn : el (twL [a, b] j) 1 = n
          · have hj60 := Lib.hid (twIn_le hin2)
            have hfst := Lib.hid (show FirstK [a, b] n j from ⟨hn, hin2.1⟩)
            have hn' : (el (twL [a, b] j) 1 != n) = false := by simpa using hn
            have hfin := Lib.hid (show Below w.heap.size w wr ∧ wr.ownsRow W.heap.size 24 3 u9 (twD [a, b] j).length (dvals (twD [a, b] j)) from ⟨hb0.out.trans (hw.below.mono (by omega)), by rw [twD_len]; exact hw.own⟩)
            replace hin2 := Lib.hid hin2
            replace hw := Lib.hid hw
            generalize el (twL [a, b] j) 1 = s1 at *
            replace hn := Lib.hid hn
            go_wp2
            go_ret2
            obtain ⟨A', c', rfl, hD⟩ := own_dls hfin.out.2 (by rw [twD_len]; have := hj60.out; omega)
            exact ⟨twD [a, b] j, 0, A', c', .inr (.inr (.inr ⟨hokk.out, ⟨j, hfst.out, hj60.out, rfl⟩, rfl⟩)), rfl, hfin.out.1, hD⟩
          · obtain ⟨hin3, hj60⟩ := twIn_succ hin2 hn
            have hn' : (el (twL [a, b] j) 1 != n) = true := by simpa using hn
            have hL := Lib.hid (twL_ok hT.out rfl j)
            have hrow := Lib.hid hw.row
            obtain ⟨l, hl⟩ : ∃ l, l = twL [a, b] j := ⟨_, rfl⟩
            rw [← hl] at c0 c1 hn hn'
            have hnx : nx [a, b] l = if el l 1 = b then ⟨2, 0, 1⟩ else if el l 0 = 0 then ⟨1, 0, 0⟩ else ⟨3, 0, 1⟩ := rfl
            have hX1 := Lib.hid (ba1 wr (.cells #[.int .i64 3, .int .i64 0, .int .i64 1] 24))
            have hX2 := Bx3.new wr ⟨3, 0, 1⟩
            have hX3 := Lib.hid (show (wr.alloc (.cells #[.int .i64 3, .int .i64 0, .int .i64 1] 24)).heap.size = wr.heap.size + 1 by simp)
            have c0' := (hX1.out.cell (p := ⟨gb, 0, none⟩) hgb).trans c0
            have c1' := (hX1.out.cell (p := ⟨gb, 1, none⟩) hgb).trans c1
            have hlx : Hid (l = twL [a, b] j) := Lib.hid hl
            clear hl
            replace hin2 := Lib.hid hin2
            replace hin3 := Lib.hid hin3
            replace hj60 := Lib.hid hj60
            replace hn := Lib.hid hn
            have hW1 : W.heap.size ≤ wr.heap.size := hw.below.size
            replace hw := Lib.hid hw
            by_cases e1 : el l 1 = b
            · rw [if_pos e1] at hnx
              have e1' : (el l 1 == b) = true := by simpa using e1
              replace e1 := Lib.hid e1
              have z0 := hX2.fz 0
              have z1 := hX2.fz 1
              have z2 := hX2.fz 2
              have hx := Lib.hid (show (⟨2, 0, 1⟩ : Dd) = nx [a, b] (twL [a, b] j) by rw [← hlx.out]; exact hnx.symm)
              replace hnx := Lib.hid hnx
              have hYx : Bx3 (wr.alloc (.cells #[.int .i64 2, .int .i64 0, .int .i64 1] 24)) wr.heap.size ⟨2, 0, 1⟩ := Bx3.new wr ⟨2, 0, 1⟩
              have y0 := hYx.c0
              have y1 := hYx.c1
              have y2 := hYx.c2
              simp only [] at y0 y1 y2
              have hq := Lib.hid (tr_pre hw.out (Y := wr.alloc (.cells #[.int .i64 2, .int .i64 0, .int .i64 1] 24)) (ba1 _ _) hYx (by simp) hx.out)
              replace hYx := Lib.hid hYx
              replace hX2 := Lib.hid hX2
              generalize el l 1 = s1 at *
              generalize el l 0 = s0 at *
              go_wp2_with (first
                | (at_builtin
                   refine wpList_append_own _ rfl (.tmp 47) (.tmp 49) 32 rfl W.heap.size 24 i24 (.agg #[.int .i64 0, .int .i64 0, .int .i64 0]) 3 24 Try.underlying32 ji.out jz0.out jz1.out jz2.out rfl (by decide) _ _ _ rfl hq.out.w.own ⟨wr.heap.size + 1, 0, none⟩ 1 1 (dc ⟨2, 0, 1⟩) rfl rfl hq.out.news (fun u hu => dvals_cell (D := [⟨2, 0, 1⟩]) u (by rw [dvals_one]; exact hu)) (by have := hj60.out; unfold maxLen; omega) (by have := hj60.out; omega) hq.out.w.below.size ?_
                   intro v' w2 hown' hgrow _
                   have hA := hq.out.app hown' hgrow
                   have d0 := hA.box.c0
                   have d1 := hA.box.c1
                   have d2 := hA.box.c2
                   simp only [] at d0 d1 d2
                   have hbd2 := hA.box.lt
                   have hgb2 := hA.blk.lt
                   have hs2 := hr.out.below (hA.below.mono (by omega))
                   have hL2 := hL.out
                   have hdn := done_blk w2.heap.size _ _ 2 cc [a, b] (twL [a, b] j) ⟨2, 0, 1⟩ w2 (hs2.more (by have := hA.below.size; omega)) hA.row (Nat.le_refl _) hT.out hL.out (by rw [hx.out]; exact nx_isD rfl)
                   rw [twL_len] at hdn
                   unfold ddV at hdn
                   replace hL2 := Lib.hid hL2
                   replace hs2 := Lib.hid hs2
                   replace hA := Lib.hid hA
                   replace hdn := Lib.hid hdn)
                | (go_at_call 62; refine (hdn.out).mono ?_; rintro e w3 ⟨g', c', rfl, hb3, hge3, hblk⟩
                   have hN := Lib.hid (hA.out.next hx.out hb3 hblk)
                   have hlen : (doL [a, b] (twL [a, b] j) ⟨2, 0, 1⟩).length = 2 := by rw [doL_len, twL_len]
                   rw [hlen]
                   replace hlen := Lib.hid hlen
                   replace hblk := Lib.hid hblk
                   replace hb3 := Lib.hid hb3))
              exact ⟨⟨j + 1, g', c', rfl, hin3.out, hN.out⟩, by rw [own_vlen hA.out.own, own_vlen hw.out.own]; have := hj60.out; omega⟩
            · rw [if_neg e1] at hnx
              have e1' : (el l 1 == b) = false := by simpa using e1
              replace e1 := Lib.hid e1
              by_cases e0 : el l 0 = 0
              · rw [if_pos e0] at hnx
                have e0' : (el l 0 == 0) = true := by simpa using e0
                replace e0 := Lib.hid e0
                have z0 := hX2.fz 0
                have z1 := hX2.fz 1
                have z2 := hX2.fz 2
                have hx := Lib.hid (show (⟨1, 0, 0⟩ : Dd) = nx [a, b] (twL [a, b] j) by rw [← hlx.out]; exact hnx.symm)
                replace hnx := Lib.hid hnx
                have hYx : Bx3 (wr.alloc (.cells #[.int .i64 1, .int .i64 0, .int .i64 0] 24)) wr.heap.size ⟨1, 0, 0⟩ := Bx3.new wr ⟨1, 0, 0⟩
                have y0 := hYx.c0
                have y1 := hYx.c1
                have y2 := hYx.c2
                simp only [] at y0 y1 y2
                have hq := Lib.hid (tr_pre hw.out (Y := wr.alloc (.cells #[.int .i64 1, .int .i64 0, .int .i64 0] 24)) (ba1 _ _) hYx (by simp) hx.out)
                replace hYx := Lib.hid hYx
                replace hX2 := Lib.hid hX2
                generalize el l 1 = s1 at *
                generalize el l 0 = s0 at *
                go_wp2_with (first
                  | (at_builtin
                     refine wpList_append_own _ rfl (.tmp 47) (.tmp 49) 32 rfl W.heap.size 24 i24 (.agg #[.int .i64 0, .int .i64 0, .int .i64 0]) 3 24 Try.underlying32 ji.out jz0.out jz1.out jz2.out rfl (by decide) _ _ _ rfl hq.out.w.own ⟨wr.heap.size + 1, 0, none⟩ 1 1 (dc ⟨1, 0, 0⟩) rfl rfl hq.out.news (fun u hu => dvals_cell (D := [⟨1, 0, 0⟩]) u (by rw [dvals_one]; exact hu)) (by have := hj60.out; unfold maxLen; omega) (by have := hj60.out; omega) hq.out.w.below.size ?_
                     intro v' w2 hown' hgrow _
                     have hA := hq.out.app hown' hgrow
                     have d0 := hA.box.c0
                     have d1 := hA.box.c1
                     have d2 := hA.box.c2
                     simp only [] at d0 d1 d2
                     have hbd2 := hA.box.lt
                     have hgb2 := hA.blk.lt
                     have hs2 := hr.out.below (hA.below.mono (by omega))
                     have hL2 := hL.out
                     have hdn := done_blk w2.heap.size _ _ 2 cc [a, b] (twL [a, b] j) ⟨1, 0, 0⟩ w2 (hs2.more (by have := hA.below.size; omega)) hA.row (Nat.le_refl _) hT.out hL.out (by rw [hx.out]; exact nx_isD rfl)
                     rw [twL_len] at hdn
                     unfold ddV at hdn
                     replace hL2 := Lib.hid hL2
                     replace hs2 := Lib.hid hs2
                     replace hA := Lib.hid hA
                     replace hdn := Lib.hid hdn)
                  | (go_at_call 62; refine (hdn.out).mono ?_; rintro e w3 ⟨g', c', rfl, hb3, hge3, hblk⟩
                     have hN := Lib.hid (hA.out.next hx.out hb3 hblk)
                     have hlen : (doL [a, b] (twL [a, b] j) ⟨1, 0, 0⟩).length = 2 := by rw [doL_len, twL_len]
                     rw [hlen]
                     replace hlen := Lib.hid hlen
                     replace hblk := Lib.hid hblk
                     replace hb3 := Lib.hid hb3))
                exact ⟨⟨j + 1, g', c', rfl, hin3.out, hN.out⟩, by rw [own_vlen hA.out.own, own_vlen hw.out.own]; have := hj60.out; omega⟩
              · rw [if_neg e0] at hnx
                have e0' : (el l 0 == 0) = false := by simpa using e0
                replace e0 := Lib.hid e0
                have hx := Lib.hid (show (⟨3, 0, 1⟩ : Dd) = nx [a, b] (twL [a, b] j) by rw [← hlx.out]; exact hnx.symm)
                replace hnx := Lib.hid hnx
                have hYx : Bx3 (wr.alloc (.cells #[.int .i64 3, .int .i64 0, .int .i64 1] 24)) wr.heap.size ⟨3, 0, 1⟩ := hX2
                have y0 := hYx.c0
                have y1 := hYx.c1
                have y2 := hYx.c2
                simp only [] at y0 y1 y2
                have hq := Lib.hid (tr_pre hw.out (Y := wr.alloc (.cells #[.int .i64 3, .int .i64 0, .int .i64 1] 24)) hX1.out hYx hX3.out hx.out)
                replace hYx := Lib.hid hYx
                replace hX2 := Lib.hid hX2
                generalize el l 1 = s1 at *
                generalize el l 0 = s0 at *
                go_wp2_with (first
                  | (at_builtin
                     refine wpList_append_own _ rfl (.tmp 47) (.tmp 49) 32 rfl W.heap.size 24 i24 (.agg #[.int .i64 0, .int .i64 0, .int .i64 0]) 3 24 Try.underlying32 ji.out jz0.out jz1.out jz2.out rfl (by decide) _ _ _ rfl hq.out.w.own ⟨wr.heap.size + 1, 0, none⟩ 1 1 (dc ⟨3, 0, 1⟩) rfl rfl hq.out.news (fun u hu => dvals_cell (D := [⟨3, 0, 1⟩]) u (by rw [dvals_one]; exact hu)) (by have := hj60.out; unfold maxLen; omega) (by have := hj60.out; omega) hq.out.w.below.size ?_
                     intro v' w2 hown' hgrow _
                     have hA := hq.out.app hown' hgrow
                     have d0 := hA.box.c0
                     have d1 := hA.box.c1
                     have d2 := hA.box.c2
                     simp only [] at d0 d1 d2
                     have hbd2 := hA.box.lt
                     have hgb2 := hA.blk.lt
                     have hs2 := hr.out.below (hA.below.mono (by omega))
                     have hL2 := hL.out
                     have hdn := done_blk w2.heap.size _ _ 2 cc [a, b] (twL [a, b] j) ⟨3, 0, 1⟩ w2 (hs2.more (by have := hA.below.size; omega)) hA.row (Nat.le_refl _) hT.out hL.out (by rw [hx.out]; exact nx_isD rfl)
                     rw [twL_len] at hdn
                     unfold ddV at hdn
                     replace hL2 := Lib.hid hL2
                     replace hs2 := Lib.hid hs2
                     replace hA := Lib.hid hA
                     replace hdn := Lib.hid hdn)
                  | (go_at_call 62; refine (hdn.out).mono ?_; rintro e w3 ⟨g', c', rfl, hb3, hge3, hblk⟩
                     have hN := Lib.hid (hA.out.next hx.out hb3 hblk)
                     have hlen : (doL [a, b] (twL [a, b] j) ⟨3, 0, 1⟩).length = 2 := by rw [doL_len, twL_len]
                     rw [hlen]
                     replace hlen := Lib.hid hlen
                     replace hblk := Lib.hid hblk
                     replace hb3 := Lib.hid hb3))
                exact ⟨⟨j + 1, g', c', rfl, hin3.out, hN.out⟩, by rw [own_vlen hA.out.own, own_vlen hw.out.own]; have := hj60.out; omega⟩
      · have hP := Lib.hid (show TwoP a b n [] 5 from .inr (.inr (.inl ⟨hv, ⟨hn0, hnb⟩, ht, rfl, rfl⟩)))
        obtain ⟨g, hg⟩ : ∃ g, g = meas [a, b] := ⟨_, rfl⟩
        rw [← hg] at hm hg1 hg12 ht
        have hg0 : ¬ (g : Int) = 0 := by omega
        have hg1' : 1 ≤ (g : Int) := by omega
        have ht' : (n % (g : Int) != 0) = true := by rw [Int.tmod_eq_emod_of_nonneg hn0] at ht; simpa using ht
        clear hg
        replace ht := Lib.hid ht
        replace hc := Lib.hid hc
        replace hm := Lib.hid hm
        replace hv := Lib.hid hv
        replace hr := Lib.hid hr
        replace hT := Lib.hid hT
        go_enter Try.func49, Try.ntmps49
        go_wp2_with fail
        refine hc.out.mono ?_
        rintro e w1 ⟨rfl, rfl⟩
        go_wp2_with fail
        refine hwi.out.mono ?_
        rintro e w1 ⟨rfl, rfl⟩
        go_wp2_with fail
        refine hm.out.mono ?_
        rintro e w1 ⟨rfl, rfl⟩
        go_wp2
        go_ret2
        exact ⟨[], 5, none, 0, hP.out, rfl, hb0.out, dls_nil _ _ _⟩
    · have hP := Lib.hid (show TwoP a b n [] 2 from .inr (.inl ⟨hv, hn, rfl, rfl⟩))
      have hwv : inB 0 n b = false := by unfold inB; rcases Decidable.not_and_iff_or_not.1 hn with h | h <;> simp [h]
      rw [hwv] at hwi
      replace hn := Lib.hid hn
      replace hc := Lib.hid hc
      replace hm := Lib.hid hm
      replace hv := Lib.hid hv
      replace hr := Lib.hid hr
      replace hT := Lib.hid hT
      go_enter Try.func49, Try.ntmps49
      go_wp2_with fail
      refine hc.out.mono ?_
      rintro e w1 ⟨rfl, rfl⟩
      go_wp2_with fail
      refine hwi.out.mono ?_
      rintro e w1 ⟨rfl, rfl⟩
      go_wp2
      go_ret2
      exact ⟨[], 2, none, 0, hP.out, rfl, hb0.out, dls_nil _ _ _⟩
end Go.Proofs.Ytgonibieeimdoaa
