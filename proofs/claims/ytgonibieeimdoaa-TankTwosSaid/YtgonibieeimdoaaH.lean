/-
  The deeds of Two: the program's loop.
-/
import Derived.Test.YtgonibieeimdoaaG
namespace Go.Proofs.Ytgonibieeimdoaa
open Go.RowKit Go.Deep M
set_option linter.unusedVariables false
set_option linter.unusedSimpArgs false

structure TwW (w : World) (t : List Int) (j : Nat) (v : Value) (bs : Nat) (X : World) : Prop where
  below : Below w.heap.size w X
  box : Bx4 X bs (twL t j)
  own : X.ownsRow w.heap.size 24 3 v j (dvals (twD t j))
  ge : w.heap.size ≤ bs
theorem TwW.up {w X Y : World} {t : List Int} {j : Nat} {v : Value} {bs : Nat} (h : TwW w t j v bs X) (hb : Below X.heap.size X Y) : TwW w t j v bs Y := ⟨h.below.trans (hb.mono h.below.size), h.box.up hb, own_up h.own hb, h.ge⟩
theorem one_news (w : World) (x : Dd) : ∀ j u, (dc x)[j]? = some u → (w.alloc (.cells #[.int .i64 x.d, .int .i64 x.f, .int .i64 x.t] 24)).cell? ((⟨w.heap.size, 0, none⟩ : Addr).add j) = some u := by
  intro j u hj
  match j, hj with
  | 0, hj => simp [dc] at hj; subst hj; simp [Addr.add]
  | 1, hj => simp [dc] at hj; subst hj; simp [Addr.add, go_sem]
  | 2, hj => simp [dc] at hj; subst hj; simp [Addr.add, go_sem]
  | j + 3, hj => simp [dc] at hj
/-- What an append leaves of it. -/
theorem tw_app {w X Y : World} {t : List Int} {j bd : Nat} {v v' : Value} {bs : Nat} {x : Dd} (h : TwW w t j v bs X) (hx : x = nx t (twL t j)) (hbd : Bx3 X bd x) (hne : v.ownBlock ≠ some bd)
    (hown : Y.ownsRow w.heap.size 24 3 v' (j + 1) (dvals (twD t j) ++ dc x)) (hgrow : X.grownBy Y v.ownBlock) :
    Below w.heap.size w Y ∧ Bx4 Y bs (twL t j) ∧ Y.ownsRow w.heap.size 24 3 v' (j + 1) (dvals (twD t (j + 1))) ∧ Bx3 Y bd x ∧ X.heap.size ≤ Y.heap.size := by
  refine ⟨h.below.trans (below_grown hgrow h.below.size fun k e => (h.own.lt k e).1), h.box.to (hgrow.block _ h.box.lt fun e => own_ne h.own h.box e.symm), ?_, hbd.to (hgrow.block _ hbd.lt fun e => hne e.symm), hgrow.size⟩
  rw [twD_succ, dvals_app, dvals_one, ← hx]; exact hown
/-- What the stores of a round leave of it. -/
theorem tw_next {w w2 w3 : World} {t : List Int} {j : Nat} {v' : Value} {bs : Nat} {l l' : List Int} (k1 : Below w.heap.size w w2) (k2 : Bx4 w2 bs l) (k3 : w2.ownsRow w.heap.size 24 3 v' (j + 1) (dvals (twD t (j + 1)))) (hb3 : Below w2.heap.size w2 w3) (hge : w.heap.size ≤ bs) (hl : l' = twL t (j + 1)) :
    TwW w t (j + 1) v' w3.heap.size (((((w3.setCell ⟨bs, 0, none⟩ (.int .i64 (el l' 0))).setCell ⟨bs, 1, none⟩ (.int .i64 (el l' 1))).setCell ⟨bs, 2, none⟩ (.int .i64 (el l' 2))).setCell ⟨bs, 3, none⟩ (.int .i64 (el l' 3))).alloc (.cells #[.int .i64 (el l' 0), .int .i64 (el l' 1), .int .i64 (el l' 2), .int .i64 (el l' 3)] 69)) := by
  have hs := setCell4_size (X := w3) (b := bs) (.int .i64 (el l' 0)) (.int .i64 (el l' 1)) (.int .i64 (el l' 2)) (.int .i64 (el l' 3))
  have hne := own_ne k3 k2
  have hb2 : Below w.heap.size w w3 := k1.trans (hb3.mono k1.size)
  have hb4 := setCell4_below hb2 hge (.int .i64 (el l' 0)) (.int .i64 (el l' 1)) (.int .i64 (el l' 2)) (.int .i64 (el l' 3))
  have ho := own_to (own_up k3 hb3) (w' := ((((w3.setCell ⟨bs, 0, none⟩ (.int .i64 (el l' 0))).setCell ⟨bs, 1, none⟩ (.int .i64 (el l' 1))).setCell ⟨bs, 2, none⟩ (.int .i64 (el l' 2))).setCell ⟨bs, 3, none⟩ (.int .i64 (el l' 3)))) fun g hg => setCell4_other _ _ _ _ fun e => hne (by rw [hg, e])
  have hn := Bx4.new ((((w3.setCell ⟨bs, 0, none⟩ (.int .i64 (el l' 0))).setCell ⟨bs, 1, none⟩ (.int .i64 (el l' 1))).setCell ⟨bs, 2, none⟩ (.int .i64 (el l' 2))).setCell ⟨bs, 3, none⟩ (.int .i64 (el l' 3))) l'
  rw [hs] at hn
  refine ⟨hb4.trans ((ba1 _ _).mono hb4.size), ?_, own_up ho (ba1 _ _), hb2.size⟩
  rw [← hl]; exact hn
/-- What the call says. -/
def DnTwo (w : World) (t : List Int) (n : Int) (e : Ending) (w' : World) : Prop := ∃ j, FirstK t n j ∧ j ≤ 60 ∧ NewD w (twD t j) e w'

set_option maxRecDepth 100000 in
set_option maxHeartbeats 4000000 in
theorem two_any (B : Nat) (A : Option Addr) (c : Nat) (t : List Int) (n : Int) (w : World) (h : Row w B A t) (hB : B ≤ w.heap.size) (h2 : t.length = 2) (hv : vT t) (hin : TwIn t n 0) :
    Calls Try.prog 86 #[.slice A t.length c, .int .i64 n] w (DnTwo w t n) := by
  obtain ⟨i24, ji, jz0, jz1, jz2⟩ := info_parts info24
  replace ji := Lib.hid ji
  replace jz0 := Lib.hid jz0
  replace jz1 := Lib.hid jz1
  replace jz2 := Lib.hid jz2
  replace h2 := Lib.hid h2
  replace hin := Lib.hid hin
  have hz0 := ba1 w (.cells #[.int .i64 0, .int .i64 0, .int .i64 0, .int .i64 0] 69)
  have hz1 : Bx4 (w.alloc (.cells #[.int .i64 0, .int .i64 0, .int .i64 0, .int .i64 0] 69)) w.heap.size (twL t 0) := Bx4.new w [0, 0]
  have hz2 : (w.alloc (.cells #[.int .i64 0, .int .i64 0, .int .i64 0, .int .i64 0] 69)).ownsRow w.heap.size 24 3 (.slice none 0 0) 0 (dvals (twD t 0)) := World.ownsRow_nil _ _ _ _
  replace hz0 := Lib.hid hz0
  replace hz1 := Lib.hid hz1
  replace hz2 := Lib.hid hz2
  go_enter Try.func86, Try.ntmps86
  go_wp2
  go_loopw [5, 6] (fun v s X => ∃ j bs, s = .pointer (some ⟨bs, 0, none⟩) ∧ TwIn t n j ∧ TwW w t j v bs X) (fun v _ _ => 60 - vlen v)
  case atStart => exact ⟨0, w.heap.size, rfl, hin.out, hz0.out, hz1.out, hz2.out, Nat.le_refl _⟩
  case round =>
    obtain ⟨j, bs, rfl, hin2, hw⟩ := hrel
    have c0 := hw.box.c0
    have c1 := hw.box.c1
    have c2 := hw.box.c2
    have c3 := hw.box.c3
    have hbs := hw.box.lt
    by_cases hn : el (twL t j) 1 = n
    · have hj60 := Lib.hid (twIn_le hin2)
      have hfst := Lib.hid (show FirstK t n j from ⟨hn, hin2.1⟩)
      have hn' : (el (twL t j) 1 != n) = false := by simpa using hn
      have hfin := Lib.hid (show Below w.heap.size w wr ∧ wr.ownsRow w.heap.size 24 3 u5 (twD t j).length (dvals (twD t j)) from ⟨hw.below, by rw [twD_len]; exact hw.own⟩)
      replace hin2 := Lib.hid hin2
      replace hw := Lib.hid hw
      generalize el (twL t j) 1 = s1 at *
      replace hn := Lib.hid hn
      go_wp2
      go_ret
      exact ⟨j, hfst.out, hj60.out, u5, rfl, hfin.out.1, hfin.out.2⟩
    · obtain ⟨hin3, hj60⟩ := twIn_succ hin2 hn
      have hn' : (el (twL t j) 1 != n) = true := by simpa using hn
      have hrow := h.below (hw.below.mono hB)
      have hBr : B ≤ wr.heap.size := Nat.le_trans hB hw.below.size
      have hc102 := nextOfTwo_any B A c t (twL t j) wr hrow hBr h2.out
      obtain ⟨x, hx⟩ : ∃ x, x = nx t (twL t j) := ⟨_, rfl⟩
      rw [← hx] at hc102
      unfold stL stV ddV at hc102
      have hL := Lib.hid (twL_ok hv h2.out j)
      obtain ⟨l, hl⟩ : ∃ l, l = twL t j := ⟨_, rfl⟩
      rw [← hl] at c0 c1 c2 c3 hn hn' hc102 hL
      have hd : isD t.length x := by rw [hx]; exact nx_isD h2.out
      have hnx : Go.RowKit.Hid (x = nx t (twL t j)) := Lib.hid hx
      have hlx : Go.RowKit.Hid (l = twL t j) := Lib.hid hl
      clear hx hl
      replace hin2 := Lib.hid hin2
      replace hin3 := Lib.hid hin3
      replace hj60 := Lib.hid hj60
      replace hw := Lib.hid hw
      replace hd := Lib.hid hd
      replace hc102 := Lib.hid hc102
      replace hn := Lib.hid hn
      replace hrow := Lib.hid hrow
      go_wp2_with (first
        | (go_at_call 102; refine (hc102.out).mono ?_; rintro e w1 ⟨rfl, hb1⟩
           have hw1 := hw.out.up hb1
           have hq := Lib.hid (show TwW w t j u5 bs ((w1.alloc (.cells #[.int .i64 x.d, .int .i64 x.f, .int .i64 x.t] 24)).alloc (.cells #[.int .i64 x.d, .int .i64 x.f, .int .i64 x.t] 24)) from (hw1.up (ba1 _ _)).up (ba1 _ _))
           have hbx := Lib.hid (show Bx3 ((w1.alloc (.cells #[.int .i64 x.d, .int .i64 x.f, .int .i64 x.t] 24)).alloc (.cells #[.int .i64 x.d, .int .i64 x.f, .int .i64 x.t] 24)) w1.heap.size x from (Bx3.new w1 x).up (ba1 _ _))
           have hno := Lib.hid (show u5.ownBlock ≠ some w1.heap.size from fun e => by have := (hw1.own.lt _ e).2; omega)
           have hnews : ∀ i u, (dc x)[i]? = some u → ((w1.alloc (.cells #[.int .i64 x.d, .int .i64 x.f, .int .i64 x.t] 24)).alloc (.cells #[.int .i64 x.d, .int .i64 x.f, .int .i64 x.t] 24)).cell? ((⟨w1.heap.size + 1, 0, none⟩ : Addr).add i) = some u := by simpa using one_news (w1.alloc (.cells #[.int .i64 x.d, .int .i64 x.f, .int .i64 x.t] 24)) x
           replace hnews := Lib.hid hnews
           have hsz := hw1.below.size
           replace hw1 := Lib.hid hw1)
        | (at_builtin
           refine wpList_append_own _ rfl (.tmp 16) (.tmp 18) 32 rfl w.heap.size 24 i24 (.agg #[.int .i64 0, .int .i64 0, .int .i64 0]) 3 24 Try.underlying32 ji.out jz0.out jz1.out jz2.out rfl (by decide) _ _ _ rfl hq.out.own ⟨w1.heap.size + 1, 0, none⟩ 1 1 (dc x) rfl rfl hnews.out (fun u hu => dvals_cell (D := [x]) u (by rw [dvals_one]; exact hu)) (by have := hj60.out; unfold maxLen; omega) (by have := hj60.out; omega) (by simp; omega) ?_
           intro v' w2 hown' hgrow _
           obtain ⟨k1, k2, k3, k4, k5⟩ := tw_app hq.out hnx.out hbx.out hno.out hown' hgrow
           rw [← hlx.out] at k2
           have c0 := k2.c0
           have c1 := k2.c1
           have c2 := k2.c2
           have c3 := k2.c3
           have d0 := k4.c0
           have d1 := k4.c1
           have d2 := k4.c2
           have hbs2 := k2.lt
           have hbd2 := k4.lt
           replace k1 := Lib.hid k1
           replace k2 := Lib.hid k2
           replace k3 := Lib.hid k3
           replace k4 := Lib.hid k4
           replace k5 := Lib.hid k5
           have hs2 := h.below ((k1.out).mono hB)
           have hB2 := Nat.le_trans hB k1.out.size
           have hc58 := does_any B A c t l x w2 hs2 hB2 hv hL.out hd.out
           have hl3 : doL t l x = twL t (j + 1) := by rw [twL_succ, ← hnx.out, ← hlx.out]
           rw [hl3] at hc58
           obtain ⟨l', hl'⟩ : ∃ l', l' = twL t (j + 1) := ⟨_, rfl⟩
           rw [← hl'] at hc58
           unfold stL stV ddV at hc58
           have hlx' : Go.RowKit.Hid (l' = twL t (j + 1)) := Lib.hid hl'
           clear hl3 hl'
           replace hs2 := Lib.hid hs2
           replace hc58 := Lib.hid hc58)
        | (go_at_call 58; refine (hc58.out).mono ?_; rintro e w3 ⟨rfl, hb3⟩
           have k6 := k2.out.up hb3
           have z0 := k6.fz 0
           have z1 := k6.fz 1
           have z2 := k6.fz 2
           have z3 := k6.fz 3
           have e0 := k6.c0
           have e1 := k6.c1
           have e2 := k6.c2
           have e3 := k6.c3
           have k7 := k6.set l'
           have hbs3 := k6.lt
           have m0 := k7.c0
           have m1 := k7.c1
           have m2 := k7.c2
           have m3 := k7.c3
           have hb3' : Go.RowKit.Hid (Below w2.heap.size w2 w3) := Lib.hid hb3
           clear hb3
           replace k6 := Lib.hid k6
           replace k7 := Lib.hid k7))
      exact ⟨⟨j + 1, w3.heap.size, rfl, hin3.out, tw_next k1.out k2.out k3.out hb3'.out hw.out.ge hlx'.out⟩, by rw [own_vlen k3.out, own_vlen hw.out.own]; have := hj60.out; omega⟩
end Go.Proofs.Ytgonibieeimdoaa
