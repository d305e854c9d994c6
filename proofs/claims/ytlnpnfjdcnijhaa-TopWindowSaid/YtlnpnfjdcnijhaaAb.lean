/-
  Openings that are made of others: the calls that make them.
-/
import Derived.Test.YtlnpnfjdcnijhaaAa
namespace Go.Proofs.Ytlnpnfjdcnijhaa
open Go.RowKit Go.Deep M
set_option linter.unusedVariables false
set_option linter.unusedSimpArgs false

/-- What is in a result's box behind the store. -/
theorem res_cells {X : World} {b : Nat} {a0 a1 : Value} (h : X.heap[b]? = some (.cells #[a0, a1] 74 (0, 0))) (v0 v1 : Value) :
    ((X.setCell ⟨b, 0, none⟩ v0).setCell ⟨b, 1, none⟩ v1).cell? ⟨b, 0, none⟩ = some v0 ∧ ((X.setCell ⟨b, 0, none⟩ v0).setCell ⟨b, 1, none⟩ v1).cell? ⟨b, 1, none⟩ = some v1 := by
  constructor <;> simp [World.cell?, World.setCell, Array.getElem?_modify, h]
theorem set2_below {w X : World} {B b : Nat} (h : Below B w X) (hb : B ≤ b) (v0 v1 : Value) : Below B w ((X.setCell ⟨b, 0, none⟩ v0).setCell ⟨b, 1, none⟩ v1) := (h.setCell hb _).setCell hb _
theorem set2_far {X : World} {b b' : Nat} (h : b' ≠ b) (v0 v1 : Value) : ((X.setCell ⟨b, 0, none⟩ v0).setCell ⟨b, 1, none⟩ v1).heap[b']? = X.heap[b']? := by
  rw [setCell_far (show b' ≠ b from h), setCell_far (show b' ≠ b from h)]
set_option maxRecDepth 100000 in
set_option maxHeartbeats 1000000 in
theorem always_any (w : World) : Calls Try.prog 108 #[] w (OpenR w 1 (fun _ => true)) := by
  have hb1 := ba1 w (.cells #[.int .i64 1, .func (Fn.func 112) #[] #[]] 74)
  have hend : Opn (w.alloc (.cells #[.int .i64 1, .func (Fn.func 112) #[] #[]] 74)) (w.alloc (.cells #[.int .i64 1, .func (Fn.func 112) #[] #[]] 74)).heap.size (.func (Fn.func 112) #[] #[]) (fun _ => true) :=
    ⟨112, #[], rfl, enter112, fun X hX hBX h hh => always1 h X⟩
  have hr := BxO.new w 1 (.func (Fn.func 112) #[] #[])
  have y0 := hr.c0
  have y1 := hr.c1
  replace hend := Lib.hid hend
  replace hb1 := Lib.hid hb1
  replace hr := Lib.hid hr
  go_enter Try.func108, Try.ntmps108
  go_wp2
  exact bodyPost_ret (v := .agg #[.int .i64 1, .func (Fn.func 112) #[] #[]]) (by simp [results, Try.results108, go_sem, y0, y1]) rfl ⟨_, rfl, hb1.out, hend.out⟩

set_option maxRecDepth 100000 in
set_option maxHeartbeats 1000000 in
theorem not_any (B : Nat) (p : Nat) (F : Value) (f : Int → Bool) (w : World) (hO : Opn w B F f) (hB : B ≤ w.heap.size) :
    Calls Try.prog 76 #[.agg #[.int .i64 p, F]] w (OpenR w p (fun h => !f h)) := by
  have hx := BxO.new w p F
  have hb1 := ba1 w (.cells #[.int .i64 p, F] 74)
  have hb2 := ba1 (w.alloc (.cells #[.int .i64 p, F] 74)) (.cells #[.int .i64 p, .func (Fn.func 104) #[] #[.pointer (some ⟨w.heap.size, 0, none⟩)]] 74)
  have hx2 := hx.up hb2
  have hbe := hb1.trans (hb2.mono hb1.size)
  have hend : Opn ((w.alloc (.cells #[.int .i64 p, F] 74)).alloc (.cells #[.int .i64 p, .func (Fn.func 104) #[] #[.pointer (some ⟨w.heap.size, 0, none⟩)]] 74)) ((w.alloc (.cells #[.int .i64 p, F] 74)).alloc (.cells #[.int .i64 p, .func (Fn.func 104) #[] #[.pointer (some ⟨w.heap.size, 0, none⟩)]] 74)).heap.size (.func (Fn.func 104) #[] #[.pointer (some ⟨w.heap.size, 0, none⟩)]) (fun h => !f h) :=
    ⟨104, _, rfl, enter104, fun X hX hBX h hh => not1 w.heap.size p F f B h X (hx2.up hX) ((hO.up (hbe.mono hB) hB).up (hX.mono (Nat.le_trans hB hbe.size)) (Nat.le_trans hB hbe.size)) (Nat.le_trans (Nat.le_trans hB hbe.size) hBX) hh⟩
  have hr : BxO ((w.alloc (.cells #[.int .i64 p, F] 74)).alloc (.cells #[.int .i64 p, .func (Fn.func 104) #[] #[.pointer (some ⟨w.heap.size, 0, none⟩)]] 74)) (w.heap.size + 1) p (.func (Fn.func 104) #[] #[.pointer (some ⟨w.heap.size, 0, none⟩)]) := by
    have := BxO.new (w.alloc (.cells #[.int .i64 p, F] 74)) p (.func (Fn.func 104) #[] #[.pointer (some ⟨w.heap.size, 0, none⟩)])
    rwa [show (w.alloc (.cells #[.int .i64 p, F] 74)).heap.size = w.heap.size + 1 by simp] at this
  have y0 := hr.c0
  have y1 := hr.c1
  have hx3 : BxO ((w.alloc (.cells #[.int .i64 p, F] 74)).alloc (.cells #[.int .i64 0, .nilFunc] 74)) w.heap.size p F := hx.up (ba1 _ _)
  have c0 := hx3.c0
  have c1 := hx3.c1
  replace hend := Lib.hid hend
  replace hr := Lib.hid hr
  replace hx := Lib.hid hx
  replace hx2 := Lib.hid hx2
  replace hx3 := Lib.hid hx3
  replace hb1 := Lib.hid hb1
  replace hb2 := Lib.hid hb2
  replace hbe := Lib.hid hbe
  obtain ⟨g, caps, hF, _⟩ := hO
  subst hF
  go_enter Try.func76, Try.ntmps76
  go_wp2
  exact bodyPost_ret (v := .agg #[.int .i64 p, .func (Fn.func 104) #[] #[.pointer (some ⟨w.heap.size, 0, none⟩)]]) (by simp [results, Try.results76, go_sem, y0, y1]) rfl ⟨_, rfl, hbe.out, hend.out⟩

set_option maxRecDepth 100000 in
set_option maxHeartbeats 1000000 in
theorem shifted_any (B : Nat) (p : Nat) (by_ : Int) (F : Value) (f : Int → Bool) (w : World) (hO : Opn w B F f) (hB : B ≤ w.heap.size) (hby : -1000000 ≤ by_ ∧ by_ ≤ 1000000) :
    Calls Try.prog 79 #[.agg #[.int .i64 p, F], .int .i64 by_] w fun e w' => ∃ G, e = .returned (.agg #[.int .i64 p, G]) ∧ Below w.heap.size w w' ∧ OpnS w' w'.heap.size G (fun h => f (h + by_)) := by
  have hx := BxO.new w p F
  have hb1 := ba1 w (.cells #[.int .i64 p, F] 74)
  have hb2 := ba1 (w.alloc (.cells #[.int .i64 p, F] 74)) (.cells #[.int .i64 by_] 3)
  have hy := heap_alloc_new (w.alloc (.cells #[.int .i64 p, F] 74)) (.cells #[.int .i64 by_] 3)
  rw [show (w.alloc (.cells #[.int .i64 p, F] 74)).heap.size = w.heap.size + 1 by simp] at hy
  obtain ⟨W, hW⟩ : ∃ W, W = (w.alloc (.cells #[.int .i64 p, F] 74)).alloc (.cells #[.int .i64 by_] 3) := ⟨_, rfl⟩
  have hbW : Below w.heap.size w W := by rw [hW]; exact hb1.trans (hb2.mono hb1.size)
  have hxW : BxO W w.heap.size p F := by rw [hW]; exact hx.up hb2
  have hyW : W.heap[w.heap.size + 1]? = some (.cells #[.int .i64 by_] 3 (0, 0)) := by rw [hW]; exact hy
  have hWs : W.heap.size = w.heap.size + 1 + 1 := by rw [hW]; simp
  have hb3 := ba1 W (.cells #[.int .i64 p, .func (Fn.func 105) #[] #[.pointer (some ⟨w.heap.size, 0, none⟩), .pointer (some ⟨w.heap.size + 1, 0, none⟩)]] 74)
  have hx2 := hxW.up hb3
  have hbe := hbW.trans (hb3.mono hbW.size)
  have hend : OpnS (W.alloc (.cells #[.int .i64 p, .func (Fn.func 105) #[] #[.pointer (some ⟨w.heap.size, 0, none⟩), .pointer (some ⟨w.heap.size + 1, 0, none⟩)]] 74)) (W.alloc (.cells #[.int .i64 p, .func (Fn.func 105) #[] #[.pointer (some ⟨w.heap.size, 0, none⟩), .pointer (some ⟨w.heap.size + 1, 0, none⟩)]] 74)).heap.size (.func (Fn.func 105) #[] #[.pointer (some ⟨w.heap.size, 0, none⟩), .pointer (some ⟨w.heap.size + 1, 0, none⟩)]) (fun h => f (h + by_)) :=
    ⟨105, _, rfl, enter105, fun X hX hBX h hh => by
      have hyX : X.heap[w.heap.size + 1]? = some (.cells #[.int .i64 by_] 3 (0, 0)) := (hX.block _ (by have := blk_lt hyW; have := hb3.size; omega)).trans ((hb3.block _ (blk_lt hyW)).trans hyW)
      exact shifted1 w.heap.size (w.heap.size + 1) p by_ F f B h X (hx2.up hX) (by simp [World.cell?, hyX]) (blk_lt hyX) ((hO.up (hbe.mono hB) hB).up (hX.mono (Nat.le_trans hB hbe.size)) (Nat.le_trans hB hbe.size)) (Nat.le_trans (Nat.le_trans hB hbe.size) hBX) hby hh⟩
  have hr : BxO (W.alloc (.cells #[.int .i64 p, .func (Fn.func 105) #[] #[.pointer (some ⟨w.heap.size, 0, none⟩), .pointer (some ⟨w.heap.size + 1, 0, none⟩)]] 74)) (w.heap.size + 1 + 1) p (.func (Fn.func 105) #[] #[.pointer (some ⟨w.heap.size, 0, none⟩), .pointer (some ⟨w.heap.size + 1, 0, none⟩)]) := by
    have := BxO.new W p (.func (Fn.func 105) #[] #[.pointer (some ⟨w.heap.size, 0, none⟩), .pointer (some ⟨w.heap.size + 1, 0, none⟩)])
    rwa [hWs] at this
  have hx3 : BxO (W.alloc (.cells #[.int .i64 0, .nilFunc] 74)) w.heap.size p F := hxW.up (ba1 _ _)
  have c0 := hx3.c0
  have c1 := hx3.c1
  have y0 := hr.c0
  have y1 := hr.c1
  rw [hW] at c0 c1 y0 y1
  replace hend := Lib.hid hend
  replace hr := Lib.hid hr
  replace hx := Lib.hid hx
  replace hx2 := Lib.hid hx2
  replace hx3 := Lib.hid hx3
  replace hxW := Lib.hid hxW
  replace hyW := Lib.hid hyW
  replace hy := Lib.hid hy
  replace hb1 := Lib.hid hb1
  replace hb2 := Lib.hid hb2
  replace hb3 := Lib.hid hb3
  replace hbW := Lib.hid hbW
  replace hbe := Lib.hid hbe
  replace hWs := Lib.hid hWs
  have hW' := Lib.hid hW
  clear hW
  obtain ⟨g, caps, hF, _⟩ := hO
  subst hF
  go_enter Try.func79, Try.ntmps79
  go_wp2
  refine bodyPost_ret (v := .agg #[.int .i64 p, .func (Fn.func 105) #[] #[.pointer (some ⟨w.heap.size, 0, none⟩), .pointer (some ⟨w.heap.size + 1, 0, none⟩)]]) (by simp [results, Try.results79, go_sem, y0, y1]) rfl ?_
  rw [← hW'.out]
  exact ⟨_, rfl, hbe.out, hend.out⟩

set_option maxRecDepth 100000 in
set_option maxHeartbeats 2000000 in
theorem both_any (B : Nat) (p q : Nat) (F G : Value) (f g : Int → Bool) (w : World) (hO : Opn w B F f) (hO2 : Opn w B G g) (hB : B ≤ w.heap.size) (hp : 1 ≤ p ∧ p ≤ 1000000000000) (hq : q ≤ 3600) :
    Calls Try.prog 72 #[.agg #[.int .i64 p, F], .agg #[.int .i64 q, G]] w (OpenR w (mulN p q : Nat) (fun h => f h && g h)) := by
  have hx := BxO.new w p F
  have hb1 := ba1 w (.cells #[.int .i64 p, F] 74)
  have hb2 := ba1 (w.alloc (.cells #[.int .i64 p, F] 74)) (.cells #[.int .i64 q, G] 74)
  have hy := BxO.new (w.alloc (.cells #[.int .i64 p, F] 74)) q G
  rw [show (w.alloc (.cells #[.int .i64 p, F] 74)).heap.size = w.heap.size + 1 by simp] at hy
  obtain ⟨W, hW⟩ : ∃ W, W = (w.alloc (.cells #[.int .i64 p, F] 74)).alloc (.cells #[.int .i64 q, G] 74) := ⟨_, rfl⟩
  have hbW : Below w.heap.size w W := by rw [hW]; exact hb1.trans (hb2.mono hb1.size)
  have hxW : BxO W w.heap.size p F := by rw [hW]; exact hx.up hb2
  have hyW : BxO W (w.heap.size + 1) q G := by rw [hW]; exact hy
  have hWs : W.heap.size = w.heap.size + 1 + 1 := by rw [hW]; simp
  have hb3 := ba1 W (.cells #[.int .i64 0, .nilFunc] 74)
  have hx3 := hxW.up hb3
  have hy3 := hyW.up hb3
  have hbe := hbW.trans (hb3.mono hbW.size)
  have hr : BxO (W.alloc (.cells #[.int .i64 0, .nilFunc] 74)) (w.heap.size + 1 + 1) 0 .nilFunc := by
    have := BxO.new W 0 .nilFunc
    rwa [hWs] at this
  have c0 := hx3.c0
  have c1 := hx3.c1
  have d0 := hy3.c0
  have d1 := hy3.c1
  have hm := multiple_any p q 1000000000000 (W.alloc (.cells #[.int .i64 0, .nilFunc] 74)) hp (by omega) (by
    have : p * q ≤ 1000000000000 * 3600 := Nat.mul_le_mul hp.2 hq
    omega) (by omega)
  generalize mulN p q = m at *
  have hW3 : Go.RowKit.Hid (W.alloc (.cells #[.int .i64 0, .nilFunc] 74) = ((w.alloc (.cells #[.int .i64 p, F] 74)).alloc (.cells #[.int .i64 q, G] 74)).alloc (.cells #[.int .i64 0, .nilFunc] 74)) := Lib.hid (by rw [hW])
  rw [hW] at c0 c1 d0 d1 hm
  replace hm := Lib.hid hm
  replace hr := Lib.hid hr
  replace hx := Lib.hid hx
  replace hy := Lib.hid hy
  replace hx3 := Lib.hid hx3
  replace hy3 := Lib.hid hy3
  replace hxW := Lib.hid hxW
  replace hyW := Lib.hid hyW
  replace hb1 := Lib.hid hb1
  replace hb2 := Lib.hid hb2
  replace hb3 := Lib.hid hb3
  replace hbW := Lib.hid hbW
  replace hbe := Lib.hid hbe
  replace hWs := Lib.hid hWs
  clear hW
  have hO' := Lib.hid hO
  have hO2' := Lib.hid hO2
  obtain ⟨g1, caps1, hF, _⟩ := hO
  subst hF
  obtain ⟨g2, caps2, hG, _⟩ := hO2
  subst hG
  go_enter Try.func72, Try.ntmps72
  go_wp2_with fail
  refine hm.out.mono ?_
  rintro e X1 ⟨rfl, k, hk⟩
  rw [← hW3.out] at hk
  have hr1 : BxO X1 (w.heap.size + 1 + 1) 0 .nilFunc := by rw [hk]; exact hr.out
  have hx1 : BxO X1 w.heap.size p (.func (Fn.func g1) #[] caps1) := by rw [hk]; exact hx3.out
  have hy1 : BxO X1 (w.heap.size + 1) q (.func (Fn.func g2) #[] caps2) := by rw [hk]; exact hy3.out
  have hbX : Below w.heap.size w X1 := by rw [hk]; exact below_drewN hbe.out k
  clear hk
  have z0 := hr1.c0
  have z1 := hr1.c1
  have z2 : X1.frozen? ⟨w.heap.size + 1 + 1, 0, none⟩ = false := by simp [World.frozen?, show X1.heap[w.heap.size + 1 + 1]? = _ from hr1]
  have z3 : X1.frozen? ⟨w.heap.size + 1 + 1, 1, none⟩ = false := by simp [World.frozen?, show X1.heap[w.heap.size + 1 + 1]? = _ from hr1]
  have hl := hr1.lt
  obtain ⟨y0, y1⟩ := res_cells hr1 (.int .i64 m) (.func (Fn.func 101) #[] #[.pointer (some ⟨w.heap.size, 0, none⟩), .pointer (some ⟨w.heap.size + 1, 0, none⟩)])
  have hz := set2_below hbX (le2 w.heap.size) (.int .i64 m) (.func (Fn.func 101) #[] #[.pointer (some ⟨w.heap.size, 0, none⟩), .pointer (some ⟨w.heap.size + 1, 0, none⟩)])
  have hend : Opn ((X1.setCell ⟨w.heap.size + 1 + 1, 0, none⟩ (.int .i64 m)).setCell ⟨w.heap.size + 1 + 1, 1, none⟩ (.func (Fn.func 101) #[] #[.pointer (some ⟨w.heap.size, 0, none⟩), .pointer (some ⟨w.heap.size + 1, 0, none⟩)])) ((X1.setCell ⟨w.heap.size + 1 + 1, 0, none⟩ (.int .i64 m)).setCell ⟨w.heap.size + 1 + 1, 1, none⟩ (.func (Fn.func 101) #[] #[.pointer (some ⟨w.heap.size, 0, none⟩), .pointer (some ⟨w.heap.size + 1, 0, none⟩)])).heap.size (.func (Fn.func 101) #[] #[.pointer (some ⟨w.heap.size, 0, none⟩), .pointer (some ⟨w.heap.size + 1, 0, none⟩)]) (fun h => f h && g h) :=
    ⟨101, _, rfl, enter101, fun X hX hBX h hh => by
      have kx : BxO ((X1.setCell ⟨w.heap.size + 1 + 1, 0, none⟩ (.int .i64 m)).setCell ⟨w.heap.size + 1 + 1, 1, none⟩ (.func (Fn.func 101) #[] #[.pointer (some ⟨w.heap.size, 0, none⟩), .pointer (some ⟨w.heap.size + 1, 0, none⟩)])) w.heap.size p (.func (Fn.func g1) #[] caps1) := (set2_far (show w.heap.size ≠ w.heap.size + 1 + 1 by omega) _ _).trans hx1
      have ky : BxO ((X1.setCell ⟨w.heap.size + 1 + 1, 0, none⟩ (.int .i64 m)).setCell ⟨w.heap.size + 1 + 1, 1, none⟩ (.func (Fn.func 101) #[] #[.pointer (some ⟨w.heap.size, 0, none⟩), .pointer (some ⟨w.heap.size + 1, 0, none⟩)])) (w.heap.size + 1) q (.func (Fn.func g2) #[] caps2) := (set2_far (show w.heap.size + 1 ≠ w.heap.size + 1 + 1 by omega) _ _).trans hy1
      have hBz := Nat.le_trans hB hz.size
      exact both1 w.heap.size (w.heap.size + 1) p q _ _ f g B h X (kx.up hX) (ky.up hX) ((hO'.out.up (hz.mono hB) hB).up (hX.mono hBz) hBz) ((hO2'.out.up (hz.mono hB) hB).up (hX.mono hBz) hBz) (Nat.le_trans hBz hBX) hh⟩
  replace hend := Lib.hid hend
  replace hr1 := Lib.hid hr1
  replace hx1 := Lib.hid hx1
  replace hy1 := Lib.hid hy1
  replace hbX := Lib.hid hbX
  replace hz := Lib.hid hz
  go_wp2
  exact bodyPost_ret (v := .agg #[.int .i64 m, .func (Fn.func 101) #[] #[.pointer (some ⟨w.heap.size, 0, none⟩), .pointer (some ⟨w.heap.size + 1, 0, none⟩)]]) (by simp [results, Try.results72, go_sem, y0, y1]) rfl ⟨_, rfl, hz.out, hend.out⟩

set_option maxRecDepth 100000 in
set_option maxHeartbeats 2000000 in
theorem either_any (B : Nat) (p q : Nat) (F G : Value) (f g : Int → Bool) (w : World) (hO : Opn w B F f) (hO2 : Opn w B G g) (hB : B ≤ w.heap.size) (hp : 1 ≤ p ∧ p ≤ 1000000000000) (hq : q ≤ 3600) :
    Calls Try.prog 75 #[.agg #[.int .i64 p, F], .agg #[.int .i64 q, G]] w (OpenR w (mulN p q : Nat) (fun h => f h || g h)) := by
  have hx := BxO.new w p F
  have hb1 := ba1 w (.cells #[.int .i64 p, F] 74)
  have hb2 := ba1 (w.alloc (.cells #[.int .i64 p, F] 74)) (.cells #[.int .i64 q, G] 74)
  have hy := BxO.new (w.alloc (.cells #[.int .i64 p, F] 74)) q G
  rw [show (w.alloc (.cells #[.int .i64 p, F] 74)).heap.size = w.heap.size + 1 by simp] at hy
  obtain ⟨W, hW⟩ : ∃ W, W = (w.alloc (.cells #[.int .i64 p, F] 74)).alloc (.cells #[.int .i64 q, G] 74) := ⟨_, rfl⟩
  have hbW : Below w.heap.size w W := by rw [hW]; exact hb1.trans (hb2.mono hb1.size)
  have hxW : BxO W w.heap.size p F := by rw [hW]; exact hx.up hb2
  have hyW : BxO W (w.heap.size + 1) q G := by rw [hW]; exact hy
  have hWs : W.heap.size = w.heap.size + 1 + 1 := by rw [hW]; simp
  have hb3 := ba1 W (.cells #[.int .i64 0, .nilFunc] 74)
  have hx3 := hxW.up hb3
  have hy3 := hyW.up hb3
  have hbe := hbW.trans (hb3.mono hbW.size)
  have hr : BxO (W.alloc (.cells #[.int .i64 0, .nilFunc] 74)) (w.heap.size + 1 + 1) 0 .nilFunc := by
    have := BxO.new W 0 .nilFunc
    rwa [hWs] at this
  have c0 := hx3.c0
  have c1 := hx3.c1
  have d0 := hy3.c0
  have d1 := hy3.c1
  have hm := multiple_any p q 1000000000000 (W.alloc (.cells #[.int .i64 0, .nilFunc] 74)) hp (by omega) (by
    have : p * q ≤ 1000000000000 * 3600 := Nat.mul_le_mul hp.2 hq
    omega) (by omega)
  generalize mulN p q = m at *
  have hW3 : Go.RowKit.Hid (W.alloc (.cells #[.int .i64 0, .nilFunc] 74) = ((w.alloc (.cells #[.int .i64 p, F] 74)).alloc (.cells #[.int .i64 q, G] 74)).alloc (.cells #[.int .i64 0, .nilFunc] 74)) := Lib.hid (by rw [hW])
  rw [hW] at c0 c1 d0 d1 hm
  replace hm := Lib.hid hm
  replace hr := Lib.hid hr
  replace hx := Lib.hid hx
  replace hy := Lib.hid hy
  replace hx3 := Lib.hid hx3
  replace hy3 := Lib.hid hy3
  replace hxW := Lib.hid hxW
  replace hyW := Lib.hid hyW
  replace hb1 := Lib.hid hb1
  replace hb2 := Lib.hid hb2
  replace hb3 := Lib.hid hb3
  replace hbW := Lib.hid hbW
  replace hbe := Lib.hid hbe
  replace hWs := Lib.hid hWs
  clear hW
  have hO' := Lib.hid hO
  have hO2' := Lib.hid hO2
  obtain ⟨g1, caps1, hF, _⟩ := hO
  subst hF
  obtain ⟨g2, caps2, hG, _⟩ := hO2
  subst hG
  go_enter Try.func75, Try.ntmps75
  go_wp2_with fail
  refine hm.out.mono ?_
  rintro e X1 ⟨rfl, k, hk⟩
  rw [← hW3.out] at hk
  have hr1 : BxO X1 (w.heap.size + 1 + 1) 0 .nilFunc := by rw [hk]; exact hr.out
  have hx1 : BxO X1 w.heap.size p (.func (Fn.func g1) #[] caps1) := by rw [hk]; exact hx3.out
  have hy1 : BxO X1 (w.heap.size + 1) q (.func (Fn.func g2) #[] caps2) := by rw [hk]; exact hy3.out
  have hbX : Below w.heap.size w X1 := by rw [hk]; exact below_drewN hbe.out k
  clear hk
  have z0 := hr1.c0
  have z1 := hr1.c1
  have z2 : X1.frozen? ⟨w.heap.size + 1 + 1, 0, none⟩ = false := by simp [World.frozen?, show X1.heap[w.heap.size + 1 + 1]? = _ from hr1]
  have z3 : X1.frozen? ⟨w.heap.size + 1 + 1, 1, none⟩ = false := by simp [World.frozen?, show X1.heap[w.heap.size + 1 + 1]? = _ from hr1]
  have hl := hr1.lt
  obtain ⟨y0, y1⟩ := res_cells hr1 (.int .i64 m) (.func (Fn.func 103) #[] #[.pointer (some ⟨w.heap.size, 0, none⟩), .pointer (some ⟨w.heap.size + 1, 0, none⟩)])
  have hz := set2_below hbX (le2 w.heap.size) (.int .i64 m) (.func (Fn.func 103) #[] #[.pointer (some ⟨w.heap.size, 0, none⟩), .pointer (some ⟨w.heap.size + 1, 0, none⟩)])
  have hend : Opn ((X1.setCell ⟨w.heap.size + 1 + 1, 0, none⟩ (.int .i64 m)).setCell ⟨w.heap.size + 1 + 1, 1, none⟩ (.func (Fn.func 103) #[] #[.pointer (some ⟨w.heap.size, 0, none⟩), .pointer (some ⟨w.heap.size + 1, 0, none⟩)])) ((X1.setCell ⟨w.heap.size + 1 + 1, 0, none⟩ (.int .i64 m)).setCell ⟨w.heap.size + 1 + 1, 1, none⟩ (.func (Fn.func 103) #[] #[.pointer (some ⟨w.heap.size, 0, none⟩), .pointer (some ⟨w.heap.size + 1, 0, none⟩)])).heap.size (.func (Fn.func 103) #[] #[.pointer (some ⟨w.heap.size, 0, none⟩), .pointer (some ⟨w.heap.size + 1, 0, none⟩)]) (fun h => f h || g h) :=
    ⟨103, _, rfl, enter103, fun X hX hBX h hh => by
      have kx : BxO ((X1.setCell ⟨w.heap.size + 1 + 1, 0, none⟩ (.int .i64 m)).setCell ⟨w.heap.size + 1 + 1, 1, none⟩ (.func (Fn.func 103) #[] #[.pointer (some ⟨w.heap.size, 0, none⟩), .pointer (some ⟨w.heap.size + 1, 0, none⟩)])) w.heap.size p (.func (Fn.func g1) #[] caps1) := (set2_far (show w.heap.size ≠ w.heap.size + 1 + 1 by omega) _ _).trans hx1
      have ky : BxO ((X1.setCell ⟨w.heap.size + 1 + 1, 0, none⟩ (.int .i64 m)).setCell ⟨w.heap.size + 1 + 1, 1, none⟩ (.func (Fn.func 103) #[] #[.pointer (some ⟨w.heap.size, 0, none⟩), .pointer (some ⟨w.heap.size + 1, 0, none⟩)])) (w.heap.size + 1) q (.func (Fn.func g2) #[] caps2) := (set2_far (show w.heap.size + 1 ≠ w.heap.size + 1 + 1 by omega) _ _).trans hy1
      have hBz := Nat.le_trans hB hz.size
      exact either1 w.heap.size (w.heap.size + 1) p q _ _ f g B h X (kx.up hX) (ky.up hX) ((hO'.out.up (hz.mono hB) hB).up (hX.mono hBz) hBz) ((hO2'.out.up (hz.mono hB) hB).up (hX.mono hBz) hBz) (Nat.le_trans hBz hBX) hh⟩
  replace hend := Lib.hid hend
  replace hr1 := Lib.hid hr1
  replace hx1 := Lib.hid hx1
  replace hy1 := Lib.hid hy1
  replace hbX := Lib.hid hbX
  replace hz := Lib.hid hz
  go_wp2
  exact bodyPost_ret (v := .agg #[.int .i64 m, .func (Fn.func 103) #[] #[.pointer (some ⟨w.heap.size, 0, none⟩), .pointer (some ⟨w.heap.size + 1, 0, none⟩)]]) (by simp [results, Try.results75, go_sem, y0, y1]) rfl ⟨_, rfl, hz.out, hend.out⟩
end Go.Proofs.Ytlnpnfjdcnijhaa
