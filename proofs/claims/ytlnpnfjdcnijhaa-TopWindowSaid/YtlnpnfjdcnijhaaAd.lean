/-
  The window of a table, and whether two windows are equal: the specification's functions.
-/
import Derived.Test.YtlnpnfjdcnijhaaAc
namespace Go.Proofs.Ytlnpnfjdcnijhaa
open Go.RowKit Go.Deep M
set_option linter.unusedVariables false
set_option linter.unusedSimpArgs false

/-- A box of a window whose hours are some value. -/
def BxV (w : World) (b : Nat) (p : Int) (v : Value) : Prop := w.heap[b]? = some (.cells #[.int .i64 p, v] 24 (0, 0))
theorem BxV.lt {w : World} {b : Nat} {p : Int} {v : Value} (h : BxV w b p v) : b < w.heap.size := blk_lt h
theorem BxV.c0 {w : World} {b : Nat} {p : Int} {v : Value} (h : BxV w b p v) : w.cell? ⟨b, 0, none⟩ = some (.int .i64 p) := by simp [World.cell?, show w.heap[b]? = _ from h]
theorem BxV.c1 {w : World} {b : Nat} {p : Int} {v : Value} (h : BxV w b p v) : w.cell? ⟨b, 1, none⟩ = some v := by simp [World.cell?, show w.heap[b]? = _ from h]
theorem BxV.fz {w : World} {b : Nat} {p : Int} {v : Value} (h : BxV w b p v) (k : Nat) : w.frozen? ⟨b, k, none⟩ = false := by simp [World.frozen?, show w.heap[b]? = _ from h]
theorem BxV.up {w w' : World} {b : Nat} {p : Int} {v : Value} (h : BxV w b p v) (hb : Below w.heap.size w w') : BxV w' b p v := (hb.block b h.lt).trans h
theorem BxV.set1 {w : World} {b : Nat} {p : Int} {v : Value} (h : BxV w b p v) (v' : Value) : BxV (w.setCell ⟨b, 1, none⟩ v') b p v' := by
  unfold BxV at *
  simp [World.setCell, Array.getElem?_modify, h]
/-- The world in which the specification's window runs. -/
structure WfW (w : World) (p : Nat) (f : Nat → Bool) (k : Nat) (v : Value) (X : World) : Prop where
  below : Below w.heap.size w X
  b2 : BxW X w.heap.size 0 none 0 0
  b3 : BxV X (w.heap.size + 1) p v
  own : X.ownsRow (w.heap.size + 1 + 1) 3 1 v (hrsL f k).length (vals (hrsL f k))
theorem WfW.up {w X Y : World} {p : Nat} {f : Nat → Bool} {k : Nat} {v : Value} (h : WfW w p f k v X) (hb : Below X.heap.size X Y) : WfW w p f k v Y :=
  ⟨h.below.trans (hb.mono h.below.size), h.b2.up hb, h.b3.up hb, own_up h.own hb⟩
theorem WfW.app {w X Y : World} {p : Nat} {f : Nat → Bool} {k : Nat} {v v' : Value} (h : WfW w p f k v X) (hf : f k = true) (hown : Y.ownsRow (w.heap.size + 1 + 1) 3 1 v' ((hrsL f k).length + 1) (vals (hrsL f k) ++ [.int .i64 (k : Nat)])) (hgrow : X.grownBy Y v.ownBlock) :
    BxV Y (w.heap.size + 1) p v ∧ WfW w p f (k + 1) v' (Y.setCell ⟨w.heap.size + 1, 1, none⟩ v') := by
  have hge : ∀ b, v.ownBlock = some b → w.heap.size + 1 + 1 ≤ b := fun b hb => (h.own.lt b hb).1
  have hbY := h.below.trans (below_grown hgrow h.below.size fun b hb => by have := hge b hb; omega)
  have h2 : BxW Y w.heap.size 0 none 0 0 := h.b2.to (hgrow.block _ h.b2.lt fun e => by have := hge _ e.symm; omega)
  have h3 : BxV Y (w.heap.size + 1) p v := (hgrow.block _ h.b3.lt fun e => by have := hge _ e.symm; omega).trans h.b3
  refine ⟨h3, hbY.setCell (Nat.le_succ _) _, h2.to (setCell_far (show w.heap.size ≠ w.heap.size + 1 by omega)), h3.set1 v', ?_⟩
  have ho : Y.ownsRow (w.heap.size + 1 + 1) 3 1 v' (hrsL f (k + 1)).length (vals (hrsL f (k + 1))) := by
    rw [hrsL_yes hf, vals_app]
    have : (hrsL f k ++ [(k : Int)]).length = (hrsL f k).length + 1 := by simp
    rw [this]; exact hown
  exact own_to ho fun b hb => setCell_far (show b ≠ w.heap.size + 1 by have := (ho.lt b hb).1; omega)

set_option maxRecDepth 100000 in
set_option maxHeartbeats 4000000 in
theorem window_ref (g p c : Nat) (f : Nat → Bool) (w : World) (hblk : BlB w g p f) (hp : p ≤ 1000000) :
    Calls Try.prog 77 #[.slice (some ⟨g, 0, none⟩) p c] w (NewWn w p (hrsL f p)) := by
  obtain ⟨i3, ji, jz0, jz1, jz2⟩ := info_parts info3
  replace ji := Lib.hid ji
  replace jz0 := Lib.hid jz0
  replace jz1 := Lib.hid jz1
  replace jz2 := Lib.hid jz2
  have hgl := hblk.lt
  have hz := BxW.new w 0 none 0 0
  have hb1 := ba1 w (.cells #[.int .i64 0, .slice none 0 0] 24)
  have hb2 := ba1 (w.alloc (.cells #[.int .i64 0, .slice none 0 0] 24)) (.cells #[.int .i64 p, .slice none 0 0] 24)
  have hv := heap_alloc_new (w.alloc (.cells #[.int .i64 0, .slice none 0 0] 24)) (.cells #[.int .i64 p, .slice none 0 0] 24)
  rw [show (w.alloc (.cells #[.int .i64 0, .slice none 0 0] 24)).heap.size = w.heap.size + 1 by simp] at hv
  have hW : WfW w p f 0 (.slice none 0 0) ((w.alloc (.cells #[.int .i64 0, .slice none 0 0] 24)).alloc (.cells #[.int .i64 p, .slice none 0 0] 24)) :=
    ⟨hb1.trans (hb2.mono hb1.size), hz.up hb2, hv, World.ownsRow_nil _ _ _ _⟩
  replace hW := Lib.hid hW
  replace hz := Lib.hid hz
  replace hv := Lib.hid hv
  replace hb1 := Lib.hid hb1
  replace hb2 := Lib.hid hb2
  replace hblk := Lib.hid hblk
  go_enter Try.func77, Try.ntmps77
  go_wp2
  go_loopw [11] (fun i X => ∃ (k : Nat) (v : Value), k ≤ p ∧ i = .int .i64 (k : Nat) ∧ WfW w p f k v X) (fun i _ => p - (intOf i).toNat)
  case atStart => exact ⟨0, _, Nat.zero_le _, rfl, hW.out⟩
  case round =>
    obtain ⟨k, v, hk, rfl, hX⟩ := hrel
    have hbk := hblk.out.up hX.below
    have c0 := hX.b3.c0
    have c1 := hX.b3.c1
    have hl3 := hX.b3.lt
    have hl0 := hrsL_le f k
    by_cases hlt : k < p
    · have hcell := hbk.cell hlt
      cases hq : f k with
      | false =>
        rw [hq] at hcell
        have hno := hrsL_no (f := f) (k := k) hq
        have hX2 : WfW w p f (k + 1) v wr := ⟨hX.below, hX.b2, hX.b3, by rw [hno]; exact hX.own⟩
        replace hX := Lib.hid hX
        replace hX2 := Lib.hid hX2
        replace hq := Lib.hid hq
        replace hno := Lib.hid hno
        replace hbk := Lib.hid hbk
        go_wp2
        go_roundw
        case rel => exact ⟨k + 1, v, by omega, by go_num, hX2.out⟩
        case measure => simp [intOf]; omega
      | true =>
        rw [hq] at hcell
        have hX2 := hX.up (ba1 wr (.cells #[.int .i64 (k : Nat)] 3))
        have hne := one_new wr (k : Nat)
        replace hX := Lib.hid hX
        replace hX2 := Lib.hid hX2
        replace hq := Lib.hid hq
        replace hne := Lib.hid hne
        replace hbk := Lib.hid hbk
        go_wp2_with (at_builtin
                     refine wpList_append_own _ rfl (.tmp 18) (.tmp 20) 22 rfl (w.heap.size + 1 + 1) 3 i3 (.int .i64 0) 1 8 Try.underlying22 ji.out jz0.out jz1.out jz2.out rfl (by decide) _ _ _ rfl hX2.out.own ⟨wr.heap.size, 0, none⟩ 1 1 [.int .i64 (k : Nat)] rfl rfl hne.out (fun u hu => by cases List.mem_singleton.1 hu; rfl) (by unfold maxLen; omega) (by omega) (by simp; omega) ?_
                     intro v' w2 hown' hgrow _
                     obtain ⟨hb3, hX3⟩ := hX2.out.app hq.out hown' hgrow
                     have y0 := hb3.c0
                     have y1 := hb3.c1
                     have y2 := hb3.fz 0
                     have y3 := hb3.fz 1
                     have hl5 := hb3.lt
                     obtain ⟨A4, c4, hv4, _⟩ := own_row (by
                       have := hX3.own
                       exact this) (by have := hrsL_le f (k + 1); omega)
                     subst hv4
                     replace hb3 := Lib.hid hb3
                     replace hX3 := Lib.hid hX3
                     replace hown' := Lib.hid hown'
                     replace hgrow := Lib.hid hgrow)
        exact ⟨⟨k + 1, _, by omega, by go_num, hX3.out⟩, by simp [intOf]; omega⟩
    · have hk' : k = p := by omega
      subst hk'
      obtain ⟨A0, c0', hvA, _⟩ := own_row hX.own (by omega)
      subst hvA
      obtain ⟨l, hl⟩ : ∃ l, l = hrsL f k := ⟨_, rfl⟩
      have hXo := hX.own
      rw [← hl] at hXo hl0 c1 ⊢
      obtain ⟨Y, hY⟩ : ∃ Y, Y = (wr.setCell ⟨w.heap.size, 0, none⟩ (.int .i64 (k : Nat))).setCell ⟨w.heap.size, 1, none⟩ (.slice A0 l.length c0') := ⟨_, rfl⟩
      have hown : Y.ownsRow (w.heap.size + 1 + 1) 3 1 (.slice A0 l.length c0') l.length (vals l) := by
        rw [hY]
        exact own_to hXo fun b hb => set2_far (by have := (hXo.lt b hb).1; omega) _ _
      obtain ⟨A1, c1', hvA1, hrow⟩ := own_row hown (by omega)
      injection hvA1 with e1 e2 e3
      subst e1 e3
      have hbe : Below w.heap.size w Y := by rw [hY]; exact set2_below hX.below (Nat.le_refl _) _ _
      have z0 := hX.b2.c0
      have z1 := hX.b2.c1
      have z2 := hX.b2.fz 0
      have z3 := hX.b2.fz 1
      have hb2' := hX.b2.lt
      have y0 : ((wr.setCell ⟨w.heap.size, 0, none⟩ (.int .i64 (k : Nat))).setCell ⟨w.heap.size, 1, none⟩ (.slice A0 l.length c0')).cell? ⟨w.heap.size, 0, none⟩ = some (.int .i64 (k : Nat)) := by
        simp [World.cell?, World.setCell, Array.getElem?_modify, show wr.heap[w.heap.size]? = _ from hX.b2]
      have y1 : ((wr.setCell ⟨w.heap.size, 0, none⟩ (.int .i64 (k : Nat))).setCell ⟨w.heap.size, 1, none⟩ (.slice A0 l.length c0')).cell? ⟨w.heap.size, 1, none⟩ = some (.slice A0 l.length c0') := by
        simp [World.cell?, World.setCell, Array.getElem?_modify, show wr.heap[w.heap.size]? = _ from hX.b2]
      have hfr : ∀ a, A0 = some a → w.heap.size ≤ a.block := fun a ha => by
        have := (hXo.lt a.block (by rw [ha]; rfl)).1
        omega
      have hYh := Lib.hid hY
      have hlh := Lib.hid hl
      clear hY hl hXo
      replace hX := Lib.hid hX
      replace hown := Lib.hid hown
      replace hrow := Lib.hid hrow
      replace hbe := Lib.hid hbe
      replace hbk := Lib.hid hbk
      go_wp2
      refine bodyPost_ret (v := .agg #[.int .i64 (k : Nat), .slice A0 l.length c0']) (by simp [results, Try.results77, go_sem, y0, y1]) rfl ?_
      rw [← hYh.out, ← hlh.out]
      exact ⟨A0, c0', rfl, hbe.out, hrow.out, hfr⟩

/-! ### are two windows equal -/
set_option maxHeartbeats 2000000 in
theorem Equal_any (B : Nat) (A A' : Option Addr) (c c' : Nat) (p : Int) (l : List Int) (w : World) (h : Row w B A l) (h' : Row w B A' l) (hB : B ≤ w.heap.size) :
    Calls Try.prog 32 #[wnV p A l.length c, wnV p A' l.length c'] w fun e w' => e = .returned (.bool true) ∧ Below w.heap.size w w' := by
  have h63 := h.1
  have hx := BxW.new w p A l.length c
  have hb1 := ba1 w (.cells #[.int .i64 p, .slice A l.length c] 24)
  have hb2 := ba1 (w.alloc (.cells #[.int .i64 p, .slice A l.length c] 24)) (.cells #[.int .i64 p, .slice A' l.length c'] 24)
  have hy := BxW.new (w.alloc (.cells #[.int .i64 p, .slice A l.length c] 24)) p A' l.length c'
  rw [show (w.alloc (.cells #[.int .i64 p, .slice A l.length c] 24)).heap.size = w.heap.size + 1 by simp] at hy
  obtain ⟨W, hW⟩ : ∃ W, W = (w.alloc (.cells #[.int .i64 p, .slice A l.length c] 24)).alloc (.cells #[.int .i64 p, .slice A' l.length c'] 24) := ⟨_, rfl⟩
  have hbW : Below w.heap.size w W := by rw [hW]; exact hb1.trans (hb2.mono hb1.size)
  have hxW : BxW W w.heap.size p A l.length c := by rw [hW]; exact hx.up hb2
  have hyW : BxW W (w.heap.size + 1) p A' l.length c' := by rw [hW]; exact hy
  have hr := h.below (hbW.mono hB)
  have hr' := h'.below (hbW.mono hB)
  have c0 := hxW.c0
  have c1 := hxW.c1
  have d0 := hyW.c0
  have d1 := hyW.c1
  have hW' := Lib.hid hW
  replace hbW := Lib.hid hbW
  replace hx := Lib.hid hx
  replace hy := Lib.hid hy
  replace hb1 := Lib.hid hb1
  replace hb2 := Lib.hid hb2
  replace hxW := Lib.hid hxW
  replace hyW := Lib.hid hyW
  replace hr := Lib.hid hr
  replace hr' := Lib.hid hr'
  unfold wnV
  rw [hW] at c0 c1 d0 d1
  clear hW
  go_enter Try.func32, Try.ntmps32
  go_wp2
  rw [← hW'.out]
  clear c0 c1 d0 d1
  go_loopw [23] (fun i wr => ∃ k n : Nat, k ≤ l.length ∧ i = .int .i64 (k : Nat) ∧ wr = W.drewN n) (fun i _ => l.length - (intOf i).toNat)
  case atStart => exact ⟨0, 0, Nat.zero_le _, rfl, rfl⟩
  case round =>
    obtain ⟨k, n, hk, rfl, hw⟩ := hrel
    have k1 : BxW wr w.heap.size p A l.length c := by rw [hw]; exact hxW.out
    have k2 : BxW wr (w.heap.size + 1) p A' l.length c' := by rw [hw]; exact hyW.out
    have hq : Row wr B A l := hr.out.keep fun p _ => by rw [hw]; rfl
    have hq' : Row wr B A' l := hr'.out.keep fun p _ => by rw [hw]; rfl
    have hbr : Below w.heap.size w wr := by rw [hw]; exact below_drewN hbW.out n
    replace hw := Lib.hid hw
    have f0 := k1.c1
    have f1 := k2.c1
    replace k1 := Lib.hid k1
    replace k2 := Lib.hid k2
    by_cases hlt : k < l.length
    · obtain ⟨b, o, rfl, hb, hc⟩ := hq.at_ k hlt
      obtain ⟨b', o', rfl, hb', hc'⟩ := hq'.at_ k hlt
      have hkb : (k : Int) < (l.length : Int) := by omega
      have hne : (el l k != el l k) = false := by simp
      replace hbr := Lib.hid hbr
      go_wp2_with fail
      go_quiet (fail)
      go_wp2
      go_roundw
      case rel => exact ⟨k + 1, n + nq, by omega, by go_num, by rw [hw.out, World.drewN_drewN]⟩
      case measure => simp [intOf]; omega
    · have hk' : k = l.length := by omega
      subst hk'
      replace hbr := Lib.hid hbr
      go_wp2
      go_ret
      exact ⟨rfl, hbr.out⟩
end Go.Proofs.Ytlnpnfjdcnijhaa
