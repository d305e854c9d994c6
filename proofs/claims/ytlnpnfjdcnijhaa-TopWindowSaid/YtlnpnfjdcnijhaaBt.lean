/-
  Windows taken together, where they may be: the program's function.
-/
import Derived.Test.YtlnpnfjdcnijhaaBs
namespace Go.Proofs.Ytlnpnfjdcnijhaa
open Go.RowKit Go.Deep M
set_option linter.unusedVariables false
set_option linter.unusedSimpArgs false

/-- What together hands back. -/
def TogR (D : List Wc) (fits : Bool) (w : World) (e : Ending) (w' : World) : Prop :=
  ∃ P F, e = .returned (.tuple #[.agg #[.int .i64 P, F], .int .i64 (togE D fits)]) ∧ Below w.heap.size w w' ∧ (¬ togE D fits = 0 → P = 0 ∧ F = .nilFunc) ∧ (togE D fits = 0 → P = (perT D D.length : Nat) ∧ Opn w' w'.heap.size F (opT D D.length))
theorem cells_of2 {X : World} {b t : Nat} {p q : Int} {F : Value} {A : Option Addr} {n c : Nat} (h : BxO X b p F) (h' : BxW X t q A n c) : X.cell? ⟨b, 0, none⟩ = some (.int .i64 p) ∧ X.cell? ⟨b, 1, none⟩ = some F ∧ X.cell? ⟨t, 0, none⟩ = some (.int .i64 q) ∧ X.cell? ⟨t, 1, none⟩ = some (.slice A n c) := ⟨h.c0, h.c1, h'.c0, h'.c1⟩

set_option maxRecDepth 100000 in
set_option maxHeartbeats 8000000 in
theorem together_good (B : Nat) (A : Option Addr) (c : Nat) (D : List Wc) (fits : Bool) (w : World) (h : Wds w B A D) (hB : B ≤ w.heap.size) (hv : wnsB D 60 = true) (hok : okB D fits = true) :
    Calls Try.prog 85 #[.slice A D.length c, .bool fits] w (TogR D fits w) := by
  have h63 := h.1
  obtain ⟨⟨g1, g2⟩, rfl⟩ : (1 ≤ D.length ∧ D.length ≤ 4) ∧ fits = true := by
    have := hok
    unfold okB at this
    simpa using this
  have hb1 := ba1 w (.cells #[.int .i64 0, .nilFunc] 74)
  have hr := BxO.zero w
  have c63 := checkedW_any B A c D 60 true _ (h.below (hb1.mono hB)) (Nat.le_trans hB hb1.size) (by omega)
  rw [show errW D 60 true = 0 by unfold errW; rw [hv]; simp] at c63
  have hend : ∀ X1, Below (w.alloc (.cells #[.int .i64 0, .nilFunc] 74)).heap.size (w.alloc (.cells #[.int .i64 0, .nilFunc] 74)) X1 → BxO X1 w.heap.size 0 .nilFunc ∧ Below w.heap.size w X1 := fun X1 hb => ⟨hr.up hb, hb1.trans (hb.mono hb1.size)⟩
  have hple : ∀ k, k ≤ D.length → 1 ≤ perT D k ∧ perT D k ≤ 12960000 := fun k hk => by
    obtain ⟨a, b⟩ := perT_le hv k hk
    have : 60 ^ k ≤ 60 ^ 4 := Nat.pow_le_pow_right (by omega) (by omega)
    exact ⟨a, by omega⟩
  have hsucc : ∀ k q, (wc D k).x.p = ((q : Nat) : Int) → perT D (k + 1) = mulN (perT D k) q := fun k q hq => perT_succ hq
  have hwin : ∀ k, k < D.length → winB (wc D k).x 60 = true := fun k hk => wns_at hv hk
  have ht : togE D true = if 100000 < perT D D.length then 4 else 0 := by unfold togE; rw [if_pos hv, if_pos hok]
  obtain ⟨n, hn⟩ : ∃ n, n = D.length := ⟨_, rfl⟩
  unfold TogR
  rw [← hn] at h63 g1 g2 c63 hple hwin ht ⊢
  replace hn := Lib.hid hn
  replace hv := Lib.hid hv
  replace hok := Lib.hid hok
  replace hb1 := Lib.hid hb1
  replace hr := Lib.hid hr
  replace c63 := Lib.hid c63
  replace hend := Lib.hid hend
  replace hple := Lib.hid hple
  replace hsucc := Lib.hid hsucc
  replace hwin := Lib.hid hwin
  replace ht := Lib.hid ht
  replace h := Lib.hid h
  go_enter Try.func85, Try.ntmps85
  go_wp2_with fail
  refine c63.out.mono ?_
  rintro e X1 ⟨rfl, hb⟩
  obtain ⟨hX1, hbe⟩ := hend.out X1 hb
  have ca := Lib.hid (always_F X1)
  replace hX1 := Lib.hid hX1
  replace hbe := Lib.hid hbe
  replace hb := Lib.hid hb
  go_wp2_with fail
  refine ca.out.mono ?_
  rintro e X2 ⟨F0, rfl, hb2, hO0⟩
  have hO0' := hO0
  obtain ⟨g0, caps0, rfl, _⟩ := hO0
  have hb3 := ba1 X2 (.cells #[.int .i64 1, .func (Fn.func g0) #[] caps0] 74)
  have hbx := BxO.new X2 1 (.func (Fn.func g0) #[] caps0)
  have hlt8 : w.heap.size < X2.heap.size := Nat.lt_of_lt_of_le hX1.out.lt hb2.size
  have hT0 : TgW w X2.heap.size D 0 (.func (Fn.func g0) #[] caps0) (X2.alloc (.cells #[.int .i64 1, .func (Fn.func g0) #[] caps0] 74)) :=
    ⟨(hbe.out.trans (hb2.mono hbe.out.size)).trans (hb3.mono (Nat.le_trans hbe.out.size hb2.size)), (hX1.out.up hb2).up hb3, hbx, hlt8, ⟨_, hO0'.up hb3, fun b hb => hb.elim⟩⟩
  obtain ⟨b8, hb8⟩ : ∃ b, b = X2.heap.size := ⟨_, rfl⟩
  rw [← hb8] at hT0 hbx hlt8
  replace hT0 := Lib.hid hT0
  replace hO0' := Lib.hid hO0'
  replace hbx := Lib.hid hbx
  replace hb2 := Lib.hid hb2
  replace hb3 := Lib.hid hb3
  have hb8' := Lib.hid hb8
  clear hb8
  go_wp2
  rw [← hb8'.out]
  go_loopw [32] (fun i X => ∃ (k : Nat) (F : Value), k ≤ n ∧ i = .int .i64 (k : Nat) ∧ TgW w b8 D k F X) (fun i _ => n - (intOf i).toNat)
  case atStart => exact ⟨0, _, Nat.zero_le _, rfl, hT0.out⟩
  case round =>
    obtain ⟨k, F, hk, rfl, hX⟩ := hrel
    obtain ⟨S, hS1, hS2⟩ := hX.op
    have hS1' := hS1
    obtain ⟨gF, capsF, rfl, _⟩ := hS1
    obtain ⟨pl1, pl2⟩ := hple.out k hk
    by_cases hlt : k < n
    · have hq := h.out.below (hX.below.mono hB)
      obtain ⟨b, o, rfl, hbB, e0, e1, hrow⟩ := hq.at_ k (hn.out ▸ hlt)
      obtain ⟨q, hqp, q1, q2, _⟩ := win_nat (hwin.out k hlt)
      have hwk := win_more (hwin.out k hlt) (show (60 : Int) ≤ 3600 by omega)
      have hpk := hsucc.out k q hqp
      rw [hqp] at e0
      obtain ⟨x, hx⟩ : ∃ x, x = (wc D k).x := ⟨_, rfl⟩
      rw [← hx] at e1 hrow hqp hwk
      generalize (wc D k).A = Ak at *
      generalize (wc D k).c = ck at *
      have hl63 := hrow.1
      have hY1 := ba1 wr (.cells #[.int .i64 (q : Nat), .slice Ak x.hs.length ck] 24)
      have hXY := hX.up hY1
      have hbw := BxW.new wr q Ak x.hs.length ck
      have hrY := hrow.below (hY1.mono (Nat.le_trans hB hX.below.size))
      obtain ⟨t, hte⟩ : ∃ t, t = wr.heap.size := ⟨_, rfl⟩
      obtain ⟨Y, hYe⟩ : ∃ Y, Y = wr.alloc (.cells #[.int .i64 (q : Nat), .slice Ak x.hs.length ck] 24) := ⟨_, rfl⟩
      rw [← hYe] at hXY hbw hrY
      rw [← hte] at hbw
      have hBY : B ≤ Y.heap.size := Nat.le_trans hB hXY.below.size
      have hXd := hXY.drew
      have hbd : BxW Y.drew t q Ak x.hs.length ck := hbw.to rfl
      have hrd : Row Y.drew B Ak x.hs := hrY.keep fun _ _ => rfl
      have k65 := openingOf_F B Ak ck x Y.drew hrd hBY hwk
      rw [hqp] at k65
      unfold wnV OpenRF at k65
      have k72 : ∀ Z G, Below Y.drew.heap.size Y.drew Z → OpnF Z (fun b => Y.drew.heap.size ≤ b ∧ b < Z.heap.size) G (opB x) → Calls Try.prog 72 #[.agg #[.int .i64 (perT D k : Nat), .func (Fn.func gF) #[] capsF], .agg #[.int .i64 (q : Nat), G]] Z fun e w' => ∃ gH capsH, e = .returned (.agg #[.int .i64 (perT D (k + 1) : Nat), .func (Fn.func gH) #[] capsH]) ∧ TgW w b8 D k (.func (Fn.func gF) #[] capsF) w' ∧ BxW w' t q Ak x.hs.length ck ∧ TgW w b8 D (k + 1) (.func (Fn.func gH) #[] capsH) ((w'.setCell ⟨b8, 0, none⟩ (.int .i64 (perT D (k + 1) : Nat))).setCell ⟨b8, 1, none⟩ (.func (Fn.func gH) #[] capsH)) := fun Z G hZ hG => by
        have hSY : OpnF Y.drew S (.func (Fn.func gF) #[] capsF) (opT D k) := (hS1'.up hY1).to (X := Y.drew) fun _ _ => by rw [hYe]; rfl
        refine (both_F S _ (perT D k) q _ G _ _ Z (hSY.up hZ) hG ⟨pl1, by omega⟩ (by omega)).mono ?_
        rintro e w' ⟨H, he, hb, hO⟩
        have hO' := hO
        obtain ⟨gH, capsH, rfl, _⟩ := hO
        have hZ1 := hXd.up hZ
        have hW := hZ1.up hb
        refine ⟨gH, capsH, by rw [he, hpk], hW, (hbd.up hZ).up hb, hW.next rfl ⟨_, by rw [opT_succ, ← hx]; exact hO', fun b hb' => ?_⟩⟩
        have l1 := hXd.box.lt
        have l2 := hZ.size
        have l3 := hXd.lt
        rcases hb' with hb' | hb' | rfl | rfl
        · exact hS2 b hb'
        · have := hb'.1; exact ⟨by omega, by omega⟩
        · exact ⟨by omega, by omega⟩
        · exact ⟨by omega, by omega⟩
      have kc := fun (Z : World) (hZ : Below Y.drew.heap.size Y.drew Z) => cells_of2 (hXd.up hZ).box (hbd.up hZ)
      have k0 := cells_of2 hXd.box hbd
      have hlt8t : ¬ (t = b8) := by have := hX.box.lt; omega
      replace hYe := Lib.hid hYe
      replace hte := Lib.hid hte
      replace hx := Lib.hid hx
      replace hqp := Lib.hid hqp
      replace hpk := Lib.hid hpk
      replace hwk := Lib.hid hwk
      replace hX := Lib.hid hX
      replace hXY := Lib.hid hXY
      replace hXd := Lib.hid hXd
      replace hbw := Lib.hid hbw
      replace hbd := Lib.hid hbd
      replace hrY := Lib.hid hrY
      replace hrd := Lib.hid hrd
      replace hrow := Lib.hid hrow
      replace hq := Lib.hid hq
      replace hY1 := Lib.hid hY1
      replace hS1' := Lib.hid hS1'
      replace hS2 := Lib.hid hS2
      replace k65 := Lib.hid k65
      replace k72 := Lib.hid k72
      replace kc := Lib.hid kc
      obtain ⟨P, hP⟩ : ∃ P, P = perT D k := ⟨_, rfl⟩
      obtain ⟨P', hP'⟩ : ∃ P', P' = perT D (k + 1) := ⟨_, rfl⟩
      rw [← hP] at pl1 pl2 k0 k72 kc
      rw [← hP'] at k72
      have pl := hple.out (k + 1) (by omega)
      rw [← hP'] at pl
      obtain ⟨pl3, pl4⟩ := pl
      replace hP := Lib.hid hP
      replace hP' := Lib.hid hP'
      obtain ⟨k00, k01, k02, k03⟩ := k0
      go_wp2_with fail
      rw [← hYe.out, ← hte.out]
      go_region_with (first
        | (go_at_call 65; with_reducible refine k65.out.mono ?_; rintro e Z1 ⟨G, rfl, hZ1, hG⟩; obtain ⟨k10, k11, k12, k13⟩ := kc.out Z1 hZ1)
        | (go_at_call 72; with_reducible refine (k72.out _ _ hZ1 hG).mono ?_; rintro e Z2 ⟨gH, capsH, rfl, hT2, hB2, hN2⟩
           have z0 := hT2.box.c0
           have z1 := hT2.box.c1
           have z2 : Z2.frozen? ⟨b8, 0, none⟩ = false := by simp [World.frozen?, show Z2.heap[b8]? = _ from hT2.box]
           have z3 : Z2.frozen? ⟨b8, 1, none⟩ = false := by simp [World.frozen?, show Z2.heap[b8]? = _ from hT2.box]
           have zl := hT2.box.lt
           replace hT2 := Lib.hid hT2
           replace hB2 := Lib.hid hB2
           replace hN2 := Lib.hid hN2))
      all_goals
        replace hZ1 := Lib.hid hZ1
        replace hG := Lib.hid hG
        go_wp2
        go_roundw
        case rel => exact ⟨k + 1, _, by omega, by go_num, hN2.out⟩
        case measure => simp [intOf]; omega
    · have hk' : k = n := by omega
      subst hk'
      have hres := hX.res
      have hbox := hX.box
      have hbel := hX.below
      have hlt8' := hX.lt
      have ht' := ht.out
      obtain ⟨P, hP⟩ : ∃ P, P = perT D k := ⟨_, rfl⟩
      rw [← hP] at hbox ht' pl1 pl2
      have x0 := hbox.c0
      have x1 := hbox.c1
      have z0 := hres.c0
      have z1 := hres.c1
      have z2 : wr.frozen? ⟨w.heap.size, 0, none⟩ = false := by simp [World.frozen?, show wr.heap[w.heap.size]? = _ from hres]
      have z3 : wr.frozen? ⟨w.heap.size, 1, none⟩ = false := by simp [World.frozen?, show wr.heap[w.heap.size]? = _ from hres]
      have zl := hres.lt
      by_cases hbig : 100000 < P
      · rw [if_pos hbig] at ht'
        obtain ⟨y0, y1⟩ := res_cells hres (.int .i64 0) .nilFunc
        have hz := set2_below hbel (Nat.le_refl w.heap.size) (.int .i64 0) .nilFunc
        replace hX := Lib.hid hX
        replace hres := Lib.hid hres
        replace hbox := Lib.hid hbox
        replace hbel := Lib.hid hbel
        replace hz := Lib.hid hz
        replace ht' := Lib.hid ht'
        replace hP := Lib.hid hP
        replace hS1' := Lib.hid hS1'
        replace hS2 := Lib.hid hS2
        go_wp2
        exact bodyPost_ret (v := .tuple #[.agg #[.int .i64 0, .nilFunc], .int .i64 4]) (by simp [results, Try.results85, go_sem, y0, y1]) rfl ⟨0, .nilFunc, by rw [ht'.out], hz.out, fun _ => ⟨rfl, rfl⟩, fun h => absurd h (by rw [ht'.out]; omega)⟩
      · rw [if_neg hbig] at ht'
        obtain ⟨y0, y1⟩ := res_cells hres (.int .i64 (P : Nat)) (.func (Fn.func gF) #[] capsF)
        have hz := set2_below hbel (Nat.le_refl w.heap.size) (.int .i64 (P : Nat)) (.func (Fn.func gF) #[] capsF)
        have hfin : Opn ((wr.setCell ⟨w.heap.size, 0, none⟩ (.int .i64 (P : Nat))).setCell ⟨w.heap.size, 1, none⟩ (.func (Fn.func gF) #[] capsF)) ((wr.setCell ⟨w.heap.size, 0, none⟩ (.int .i64 (P : Nat))).setCell ⟨w.heap.size, 1, none⟩ (.func (Fn.func gF) #[] capsF)).heap.size (.func (Fn.func gF) #[] capsF) (opT D k) := (hS1'.to fun b hb => set2_far (show b ≠ w.heap.size by have := (hS2 b hb).1; omega) _ _).opn
        replace hX := Lib.hid hX
        replace hres := Lib.hid hres
        replace hbox := Lib.hid hbox
        replace hbel := Lib.hid hbel
        replace hz := Lib.hid hz
        replace hfin := Lib.hid hfin
        replace ht' := Lib.hid ht'
        replace hP := Lib.hid hP
        replace hS1' := Lib.hid hS1'
        replace hS2 := Lib.hid hS2
        have hPi : ¬ ((100000 : Int) < (P : Int)) := by omega
        go_wp2
        exact bodyPost_ret (v := .tuple #[.agg #[.int .i64 (P : Nat), .func (Fn.func gF) #[] capsF], .int .i64 0]) (by simp [results, Try.results85, go_sem, y0, y1]) rfl ⟨(P : Nat), _, by rw [ht'.out], hz.out, fun h => absurd ht'.out h, fun _ => ⟨by rw [hP.out], hfin.out⟩⟩
end Go.Proofs.Ytlnpnfjdcnijhaa
