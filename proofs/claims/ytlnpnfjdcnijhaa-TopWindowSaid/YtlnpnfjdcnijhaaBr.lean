/-
  Openings, told by the blocks that they hang on: that of a window, of both, always.
-/
import Derived.Test.YtlnpnfjdcnijhaaBi
namespace Go.Proofs.Ytlnpnfjdcnijhaa
open Go.RowKit Go.Deep M
set_option linter.unusedVariables false
set_option linter.unusedSimpArgs false

/-- An opening's function value, told by what it says of each hour as long as some blocks stay. -/
def OpnF (w : World) (S : Nat → Prop) (F : Value) (f : Int → Bool) : Prop :=
  ∃ g caps, F = .func (Fn.func g) #[] caps ∧ (∀ (args : Array Value) (w : World), (callFunc g args).run Try.prog w = .ok (.enter g args) w) ∧ (∀ b, S b → b < w.heap.size) ∧
    ∀ X : World, (∀ b, S b → X.heap[b]? = w.heap[b]?) → ∀ h : Int, (-4000000000000000000 ≤ h ∧ h ≤ 4000000000000000000) → Calls Try.prog g (#[.int .i64 h] ++ caps) X fun e X' => e = .returned (.bool (f h)) ∧ Below X.heap.size X X'
theorem OpnF.opn {w : World} {S : Nat → Prop} {F : Value} {f : Int → Bool} (h : OpnF w S F f) : Opn w w.heap.size F f := by
  obtain ⟨g, caps, h1, h2, h3, h4⟩ := h
  exact ⟨g, caps, h1, h2, fun X hX _ hh => h4 X (fun b hb => hX.block b (h3 b hb)) hh⟩
theorem there_of {w X : World} {b : Nat} (hb : b < w.heap.size) (e : X.heap[b]? = w.heap[b]?) : b < X.heap.size := by
  rw [Array.getElem?_eq_getElem hb] at e
  exact (Array.getElem?_eq_some_iff.1 e).1
theorem OpnF.to {w X : World} {S : Nat → Prop} {F : Value} {f : Int → Bool} (h : OpnF w S F f) (hb : ∀ b, S b → X.heap[b]? = w.heap[b]?) : OpnF X S F f := by
  obtain ⟨g, caps, h1, h2, h3, h4⟩ := h
  exact ⟨g, caps, h1, h2, fun b hS => there_of (h3 b hS) (hb b hS), fun Y hY hh => h4 Y (fun b hS => (hY b hS).trans (hb b hS)) hh⟩
theorem OpnF.low {w : World} {S : Nat → Prop} {F : Value} {f : Int → Bool} (h : OpnF w S F f) {b : Nat} (hb : S b) : b < w.heap.size := by
  obtain ⟨_, _, _, _, h3, _⟩ := h
  exact h3 b hb
theorem OpnF.up {w X : World} {S : Nat → Prop} {F : Value} {f : Int → Bool} (h : OpnF w S F f) (hb : Below w.heap.size w X) : OpnF X S F f := h.to fun b hS => hb.block b (h.low hS)
def OpenRF (w : World) (p : Int) (f : Int → Bool) (e : Ending) (w' : World) : Prop := ∃ F, e = .returned (.agg #[.int .i64 p, F]) ∧ Below w.heap.size w w' ∧ OpnF w' (fun b => w.heap.size ≤ b ∧ b < w'.heap.size) F f

theorem opW_endF {w X : World} {x : Wn} {p n c : Nat} {A : Option Addr} (h : OpW w p n c A (opN x x.hs.length) X) (hp : x.p = (p : Nat)) (hp1 : 1 ≤ p ∧ p ≤ 1000000) (v0 v1 : Value) :
    Below w.heap.size w ((X.setCell ⟨w.heap.size + 1, 0, none⟩ v0).setCell ⟨w.heap.size + 1, 1, none⟩ v1) ∧
    OpnF ((X.setCell ⟨w.heap.size + 1, 0, none⟩ v0).setCell ⟨w.heap.size + 1, 1, none⟩ v1) (fun b => w.heap.size ≤ b ∧ b < ((X.setCell ⟨w.heap.size + 1, 0, none⟩ v0).setCell ⟨w.heap.size + 1, 1, none⟩ v1).heap.size) (.func (Fn.func 98) #[] #[.pointer (some ⟨w.heap.size + 1 + 1 + 1, 0, none⟩)]) (opB x) := by
  obtain ⟨Y, hY⟩ : ∃ Y, Y = (X.setCell ⟨w.heap.size + 1, 0, none⟩ v0).setCell ⟨w.heap.size + 1, 1, none⟩ v1 := ⟨_, rfl⟩
  have hb : Below w.heap.size w Y := by rw [hY]; exact (h.below.setCell (Nat.le_succ _) _).setCell (Nat.le_succ _) _
  have k3 : Y.heap[w.heap.size + 1 + 1 + 1]? = some (.cells #[.slice (some ⟨w.heap.size + 1 + 1, 0, none⟩) p p] 76 (0, 0)) := by
    rw [hY, setCell_far (show w.heap.size + 1 + 1 + 1 ≠ w.heap.size + 1 by omega), setCell_far (show w.heap.size + 1 + 1 + 1 ≠ w.heap.size + 1 by omega)]; exact h.b3
  have k4 : BlB Y (w.heap.size + 1 + 1) p (opN x x.hs.length) := h.b4.to (by
    rw [hY, setCell_far (show w.heap.size + 1 + 1 ≠ w.heap.size + 1 by omega), setCell_far (show w.heap.size + 1 + 1 ≠ w.heap.size + 1 by omega)])
  rw [← hY]
  have hlt := blk_lt k3
  refine ⟨hb, 98, _, rfl, enter98, fun b hb' => hb'.2, fun Z hZ hh hhr => ?_⟩
  have hZ3 : Z.heap[w.heap.size + 1 + 1 + 1]? = _ := (hZ _ ⟨by omega, hlt⟩).trans k3
  have hZ4 : BlB Z (w.heap.size + 1 + 1) p (opN x x.hs.length) := k4.to (hZ _ ⟨by omega, k4.lt⟩)
  have e3 : Z.cell? ⟨w.heap.size + 1 + 1 + 1, 0, none⟩ = some (.slice (some ⟨w.heap.size + 1 + 1, 0, none⟩) p p) := by
    simp [World.cell?, hZ3]
  have h1 := Int.emod_nonneg hh (show (p : Int) ≠ 0 by omega)
  have := open1_any (w.heap.size + 1 + 1 + 1) (w.heap.size + 1 + 1) p (opN x x.hs.length) hh Z e3 hZ4 hp1 (by omega)
  rw [← opB_eq (x := x) (h := hh) (j := (hh % (p : Int)).toNat) (by rw [hp]; omega)] at this
  exact this

set_option maxRecDepth 100000 in
set_option maxHeartbeats 4000000 in
theorem openingOf_F (B : Nat) (A : Option Addr) (c : Nat) (x : Wn) (w : World) (h : Row w B A x.hs) (hB : B ≤ w.heap.size) (hv : winB x 3600 = true) :
    Calls Try.prog 65 #[wnV x.p A x.hs.length c] w (OpenRF w x.p (opB x)) := by
  obtain ⟨⟨p1, p2⟩, hg⟩ := winB_iff.1 hv
  obtain ⟨p, hp⟩ := Int.eq_ofNat_of_zero_le (show 0 ≤ x.p by omega)
  have h63 := h.1
  unfold wnV
  rw [hp] at p1 p2 ⊢
  have hx := BxW.new w p A x.hs.length c
  have c0 := hx.c0
  have hW := opW_new w p x.hs.length c A
  have c1 := hW.b1.c1
  unfold opW0 at c1
  have hmk := fun W => run_mkB W p (by omega)
  have hms : (mkB ((w.alloc (.cells #[.int .i64 (p : Int), .slice A x.hs.length c] 24)).alloc (.cells #[.int .i64 0, .nilFunc] 74)) p).heap.size = w.heap.size + 1 + 1 + 1 := by rw [mkB_size]; simp
  have hW0 : opW0 w p x.hs.length c A = (mkB ((w.alloc (.cells #[.int .i64 p, .slice A x.hs.length c] 24)).alloc (.cells #[.int .i64 0, .nilFunc] 74)) p).alloc (.cells #[.slice (some ⟨w.heap.size + 1 + 1, 0, none⟩) p p] 76) := rfl
  replace hW := Lib.hid hW
  replace hW0 := Lib.hid hW0
  replace hg := Lib.hid hg
  replace hx := Lib.hid hx
  go_enter Try.func65, Try.ntmps65
  go_wp2_with fail
  rw [← hW0.out]
  clear hW0 hmk hms c0 c1 hx
  go_loopw [12] (fun v X => ∃ k : Nat, k ≤ x.hs.length ∧ v = .int .i64 (k : Nat) ∧ OpW w p x.hs.length c A (opN x k) X) (fun v _ => x.hs.length - (intOf v).toNat)
  case atStart => exact ⟨0, Nat.zero_le _, rfl, hW.out.congr fun i _ => (opN_zero x i).symm⟩
  case round =>
    obtain ⟨k, hk, rfl, hX⟩ := hrel
    have b3c : wr.cell? ⟨w.heap.size + 1 + 1 + 1, 0, none⟩ = some (.slice (some ⟨w.heap.size + 1 + 1, 0, none⟩) p p) := by simp [World.cell?, hX.b3]
    by_cases hlt : k < x.hs.length
    · have hr := h.below (hX.below.mono hB)
      obtain ⟨b, o, rfl, hb, hc⟩ := hr.at_ k hlt
      have hz0 := gds_pos hg.out k hlt
      have hz1 := (hg.out k hlt).2
      obtain ⟨z, hz⟩ := Int.eq_ofNat_of_zero_le hz0
      have hs := opN_succ hz
      rw [hz] at hc hz1
      rw [hp] at hz1
      have hzp : z < p := by omega
      have hzc := hX.b4.cell hzp
      have hzf := hX.b4.fz z
      have hY := (hX.set hzp).congr (f' := opN x (k + 1)) fun i _ => (hs i).symm
      have hlt4 := hX.b4.lt
      clear hz0 hs
      replace hX := Lib.hid hX
      replace hr := Lib.hid hr
      replace hz := Lib.hid hz
      replace hY := Lib.hid hY
      go_wp2
      go_roundw
      case rel => exact ⟨k + 1, by omega, by go_num, hY.out⟩
      case measure => simp [intOf]; omega
    · have hk' : k = x.hs.length := by omega
      subst hk'
      have z0 : wr.cell? ⟨w.heap.size + 1, 0, none⟩ = some (.int .i64 0) := by simp [World.cell?, hX.b2]
      have z1 : wr.cell? ⟨w.heap.size + 1, 1, none⟩ = some .nilFunc := by simp [World.cell?, hX.b2]
      have z2 : wr.frozen? ⟨w.heap.size + 1, 0, none⟩ = false := by simp [World.frozen?, hX.b2]
      have z3 : wr.frozen? ⟨w.heap.size + 1, 1, none⟩ = false := by simp [World.frozen?, hX.b2]
      have hend := opW_endF hX hp (by omega) (.int .i64 p) (.func (Fn.func 98) #[] #[.pointer (some ⟨w.heap.size + 1 + 1 + 1, 0, none⟩)])
      replace hend := Lib.hid hend
      have h2 := hX.b2
      replace hX := Lib.hid hX
      go_wp2
      refine bodyPost_ret (v := .agg #[.int .i64 p, .func (Fn.func 98) #[] #[.pointer (some ⟨w.heap.size + 1 + 1 + 1, 0, none⟩)]]) ?_ rfl ⟨_, rfl, hend.out.1, hend.out.2⟩
      have y0 : ((wr.setCell ⟨w.heap.size + 1, 0, none⟩ (.int .i64 p)).setCell ⟨w.heap.size + 1, 1, none⟩ (.func (Fn.func 98) #[] #[.pointer (some ⟨w.heap.size + 1 + 1 + 1, 0, none⟩)])).cell? ⟨w.heap.size + 1, 0, none⟩ = some (.int .i64 p) := by
        simp [World.cell?, World.setCell, Array.getElem?_modify, h2]
      have y1 : ((wr.setCell ⟨w.heap.size + 1, 0, none⟩ (.int .i64 p)).setCell ⟨w.heap.size + 1, 1, none⟩ (.func (Fn.func 98) #[] #[.pointer (some ⟨w.heap.size + 1 + 1 + 1, 0, none⟩)])).cell? ⟨w.heap.size + 1, 1, none⟩ = some (.func (Fn.func 98) #[] #[.pointer (some ⟨w.heap.size + 1 + 1 + 1, 0, none⟩)]) := by
        simp [World.cell?, World.setCell, Array.getElem?_modify, h2]
      simp [results, Try.results65, go_sem, y0, y1]
set_option maxRecDepth 100000 in
set_option maxHeartbeats 2000000 in
theorem both_F (S T : Nat → Prop) (p q : Nat) (F G : Value) (f g : Int → Bool) (w : World) (hO : OpnF w S F f) (hO2 : OpnF w T G g) (hp : 1 ≤ p ∧ p ≤ 1000000000000) (hq : q ≤ 3600) :
    Calls Try.prog 72 #[.agg #[.int .i64 p, F], .agg #[.int .i64 q, G]] w (fun e w' => ∃ H, e = .returned (.agg #[.int .i64 (mulN p q : Nat), H]) ∧ Below w.heap.size w w' ∧ OpnF w' (fun b => S b ∨ T b ∨ b = w.heap.size ∨ b = w.heap.size + 1) H (fun h => f h && g h)) := by
  have hx := BxO.new w p F
  have hb1 := ba1 w (.cells #[.int .i64 p, F] 74)
  have hb2 := ba1 (w.alloc (.cells #[.int .i64 p, F] 74)) (.cells #[.int .i64 q, G] 74)
  have hy := BxO.new (w.alloc (.cells #[.int .i64 p, F] 74)) q G
  rw [show (w.alloc (.cells #[.int .i64 p, F] 74)).heap.size = w.heap.size + 1 by simp] at hy
  obtain ⟨W, hW⟩ : ∃ W, W = (w.alloc (.cells #[.int .i64 p, F] 74)).alloc (.cells #[.int .i64 q, G] 74) := ⟨_, rfl⟩
  have hbW : Below w.heap.size w W := by rw [hW]; exact hb1.trans (hb2.mono hb1.size)
  have hxW : BxO W w.heap.size p F := by rw [hW]; exact hx.up hb2
  have hyW : BxO W (w.heap.size + 1) q G := by rw [hW]; exact hy
  have hWs : W.heap.size = w.heap.size + 1 + 1 := by rw [hW]; simp
  have hb3 := ba1 W (.cells #[.int .i64 0, .nilFunc] 74)
  have hx3 := hxW.up hb3
  have hy3 := hyW.up hb3
  have hbe := hbW.trans (hb3.mono hbW.size)
  have hr : BxO (W.alloc (.cells #[.int .i64 0, .nilFunc] 74)) (w.heap.size + 1 + 1) 0 .nilFunc := by
    have := BxO.new W 0 .nilFunc
    rwa [hWs] at this
  have c0 := hx3.c0
  have c1 := hx3.c1
  have d0 := hy3.c0
  have d1 := hy3.c1
  have hm := multiple_any p q 1000000000000 (W.alloc (.cells #[.int .i64 0, .nilFunc] 74)) hp (by omega) (by
    have : p * q ≤ 1000000000000 * 3600 := Nat.mul_le_mul hp.2 hq
    omega) (by omega)
  generalize mulN p q = m at *
  have hW3 : Go.RowKit.Hid (W.alloc (.cells #[.int .i64 0, .nilFunc] 74) = ((w.alloc (.cells #[.int .i64 p, F] 74)).alloc (.cells #[.int .i64 q, G] 74)).alloc (.cells #[.int .i64 0, .nilFunc] 74)) := Lib.hid (by rw [hW])
  rw [hW] at c0 c1 d0 d1 hm
  replace hm := Lib.hid hm
  replace hr := Lib.hid hr
  replace hx := Lib.hid hx
  replace hy := Lib.hid hy
  replace hx3 := Lib.hid hx3
  replace hy3 := Lib.hid hy3
  replace hxW := Lib.hid hxW
  replace hyW := Lib.hid hyW
  replace hb1 := Lib.hid hb1
  replace hb2 := Lib.hid hb2
  replace hb3 := Lib.hid hb3
  replace hbW := Lib.hid hbW
  replace hbe := Lib.hid hbe
  replace hWs := Lib.hid hWs
  clear hW
  have hO' := Lib.hid hO
  have hO2' := Lib.hid hO2
  obtain ⟨g1, caps1, hF, _⟩ := hO
  subst hF
  obtain ⟨g2, caps2, hG, _⟩ := hO2
  subst hG
  go_enter Try.func72, Try.ntmps72
  go_wp2_with fail
  refine hm.out.mono ?_
  rintro e X1 ⟨rfl, k, hk⟩
  rw [← hW3.out] at hk
  have hr1 : BxO X1 (w.heap.size + 1 + 1) 0 .nilFunc := by rw [hk]; exact hr.out
  have hx1 : BxO X1 w.heap.size p (.func (Fn.func g1) #[] caps1) := by rw [hk]; exact hx3.out
  have hy1 : BxO X1 (w.heap.size + 1) q (.func (Fn.func g2) #[] caps2) := by rw [hk]; exact hy3.out
  have hbX : Below w.heap.size w X1 := by rw [hk]; exact below_drewN hbe.out k
  clear hk
  have z0 := hr1.c0
  have z1 := hr1.c1
  have z2 : X1.frozen? ⟨w.heap.size + 1 + 1, 0, none⟩ = false := by simp [World.frozen?, show X1.heap[w.heap.size + 1 + 1]? = _ from hr1]
  have z3 : X1.frozen? ⟨w.heap.size + 1 + 1, 1, none⟩ = false := by simp [World.frozen?, show X1.heap[w.heap.size + 1 + 1]? = _ from hr1]
  have hl := hr1.lt
  obtain ⟨y0, y1⟩ := res_cells hr1 (.int .i64 m) (.func (Fn.func 101) #[] #[.pointer (some ⟨w.heap.size, 0, none⟩), .pointer (some ⟨w.heap.size + 1, 0, none⟩)])
  have hz := set2_below hbX (le2 w.heap.size) (.int .i64 m) (.func (Fn.func 101) #[] #[.pointer (some ⟨w.heap.size, 0, none⟩), .pointer (some ⟨w.heap.size + 1, 0, none⟩)])
  obtain ⟨Y, hY⟩ : ∃ Y, Y = (X1.setCell ⟨w.heap.size + 1 + 1, 0, none⟩ (.int .i64 m)).setCell ⟨w.heap.size + 1 + 1, 1, none⟩ (.func (Fn.func 101) #[] #[.pointer (some ⟨w.heap.size, 0, none⟩), .pointer (some ⟨w.heap.size + 1, 0, none⟩)]) := ⟨_, rfl⟩
  have kx : BxO Y w.heap.size p (.func (Fn.func g1) #[] caps1) := by rw [hY]; exact (set2_far (show w.heap.size ≠ w.heap.size + 1 + 1 by omega) _ _).trans hx1
  have ky : BxO Y (w.heap.size + 1) q (.func (Fn.func g2) #[] caps2) := by rw [hY]; exact (set2_far (show w.heap.size + 1 ≠ w.heap.size + 1 + 1 by omega) _ _).trans hy1
  have hbY : Below w.heap.size w Y := by rw [hY]; exact hz
  have hend : OpnF Y (fun b => S b ∨ T b ∨ b = w.heap.size ∨ b = w.heap.size + 1) (.func (Fn.func 101) #[] #[.pointer (some ⟨w.heap.size, 0, none⟩), .pointer (some ⟨w.heap.size + 1, 0, none⟩)]) (fun h => f h && g h) :=
    ⟨101, _, rfl, enter101, fun b hb => by
      rcases hb with hb | hb | rfl | rfl
      · exact Nat.lt_of_lt_of_le (hO'.out.low hb) hbY.size
      · exact Nat.lt_of_lt_of_le (hO2'.out.low hb) hbY.size
      · exact kx.lt
      · exact ky.lt, fun X hX h hh => by
      have a1 : BxO X w.heap.size p (.func (Fn.func g1) #[] caps1) := (hX _ (.inr (.inr (.inl rfl)))).trans kx
      have a2 : BxO X (w.heap.size + 1) q (.func (Fn.func g2) #[] caps2) := (hX _ (.inr (.inr (.inr rfl)))).trans ky
      have a3 := (hO'.out.up hbY).to (X := X) fun b hb => hX b (.inl hb)
      have a4 := (hO2'.out.up hbY).to (X := X) fun b hb => hX b (.inr (.inl hb))
      exact both1 w.heap.size (w.heap.size + 1) p q _ _ f g X.heap.size h X a1 a2 a3.opn a4.opn (Nat.le_refl _) hh⟩
  rw [hY] at hend
  clear hY kx ky hbY
  replace hend := Lib.hid hend
  replace hr1 := Lib.hid hr1
  replace hx1 := Lib.hid hx1
  replace hy1 := Lib.hid hy1
  replace hbX := Lib.hid hbX
  replace hz := Lib.hid hz
  go_wp2
  exact bodyPost_ret (v := .agg #[.int .i64 m, .func (Fn.func 101) #[] #[.pointer (some ⟨w.heap.size, 0, none⟩), .pointer (some ⟨w.heap.size + 1, 0, none⟩)]]) (by simp [results, Try.results72, go_sem, y0, y1]) rfl ⟨_, rfl, hz.out, hend.out⟩


theorem always_F (w : World) : Calls Try.prog 108 #[] w fun e w' => ∃ F, e = .returned (.agg #[.int .i64 1, F]) ∧ Below w.heap.size w w' ∧ OpnF w' (fun _ => False) F (fun _ => true) := by
  have hb1 := ba1 w (.cells #[.int .i64 1, .func (Fn.func 112) #[] #[]] 74)
  have hend : OpnF (w.alloc (.cells #[.int .i64 1, .func (Fn.func 112) #[] #[]] 74)) (fun _ => False) (.func (Fn.func 112) #[] #[]) (fun _ => true) :=
    ⟨112, #[], rfl, enter112, fun b hb => hb.elim, fun X hX h hh => always1 h X⟩
  have hr := BxO.new w 1 (.func (Fn.func 112) #[] #[])
  have y0 := hr.c0
  have y1 := hr.c1
  replace hend := Lib.hid hend
  replace hb1 := Lib.hid hb1
  replace hr := Lib.hid hr
  go_enter Try.func108, Try.ntmps108
  go_wp2
  exact bodyPost_ret (v := .agg #[.int .i64 1, .func (Fn.func 112) #[] #[]]) (by simp [results, Try.results108, go_sem, y0, y1]) rfl ⟨_, rfl, hb1.out, hend.out⟩
end Go.Proofs.Ytlnpnfjdcnijhaa
