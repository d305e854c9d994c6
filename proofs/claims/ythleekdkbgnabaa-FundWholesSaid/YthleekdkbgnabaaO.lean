/-
  A rule looked up, and awards by a rule: the program's functions; are two lists of ratios the same.
-/
import Derived.Test.YthleekdkbgnabaaN
namespace Go.Proofs.Ythleekdkbgnabaa
open Go.RowKit Go.Deep M
set_option linter.unusedVariables false
set_option linter.unusedSimpArgs false

/-- The box of the rules. -/
def BxF (w : World) (b : Nat) : Prop := w.heap[b]? = some (.cells #[fnV 109, fnV 110, fnV 111, fnV 112] 67 (0, 0))
theorem BxF.c {w : World} {b : Nat} (h : BxF w b) : w.cell? ⟨b, 0, none⟩ = some (fnV 109) ∧ w.cell? ⟨b, 1, none⟩ = some (fnV 110) ∧ w.cell? ⟨b, 2, none⟩ = some (fnV 111) ∧ w.cell? ⟨b, 3, none⟩ = some (fnV 112) := by
  unfold BxF at h
  simp [World.cell?, h]

set_option maxRecDepth 100000 in
set_option maxHeartbeats 2000000 in
theorem cRule_ok (B : Nat) (A : Option Addr) (c : Nat) (l : List Int) (e : Int) (w : World) (h : Row w B A l) (hk : okE l e) (k : Nat) (hk1 : k < 4) :
    Calls Try.prog 52 #[.slice A l.length c, .int .i64 e, .int .i64 (k + 1 : Nat)] w fun r w' => r = .returned (.tuple #[.slice A l.length c, fnV (109 + k), .int .i64 0]) ∧ Below w.heap.size w w' := by
  have k1 := checked_ok B A c l e w h hk
  have k2 := rules_any w
  have hbx : BxF (w.alloc (.cells #[fnV 109, fnV 110, fnV 111, fnV 112] 67)) w.heap.size := heap_alloc_new w _
  have hba := ba1 w (.cells #[fnV 109, fnV 110, fnV 111, fnV 112] 67)
  generalize l.length = n at *
  obtain ⟨Y, hY⟩ : ∃ Y, Y = w.alloc (.cells #[fnV 109, fnV 110, fnV 111, fnV 112] 67) := ⟨_, rfl⟩
  rw [← hY] at k2 hbx hba
  obtain ⟨b0, hb0⟩ : ∃ b, b = w.heap.size := ⟨_, rfl⟩
  rw [← hb0] at k2 hbx
  obtain ⟨q0, q1, q2, q3⟩ := hbx.c
  have hdr := Lib.hid (fun j => below_drewN hba j)
  have hdc := Lib.hid (fun j => show BxF (Y.drewN j) b0 from hbx)
  replace hbx := Lib.hid hbx
  replace hba := Lib.hid hba
  replace hY := Lib.hid hY
  replace hb0 := Lib.hid hb0
  replace k1 := Lib.hid k1
  replace k2 := Lib.hid k2
  replace h := Lib.hid h
  replace hk := Lib.hid hk
  unfold fnV at *
  rcases (show k = 0 ∨ k = 1 ∨ k = 2 ∨ k = 3 by omega) with rfl | rfl | rfl | rfl
  all_goals
    go_enter Try.func52, Try.ntmps52
    go_wp2_with fail
    refine k1.out.mono ?_
    rintro _ X ⟨rfl, rfl⟩
    go_wp2_with fail
    refine k2.out.mono ?_
    rintro _ X2 ⟨rfl, rfl⟩
    go_wp2_with fail
    go_quiet (fail)
    go_wp2
    exact bodyPost_ret (by simp [results, Try.results52, go_sem]) rfl ⟨rfl, hdr.out _⟩

set_option maxRecDepth 100000 in
set_option maxHeartbeats 2000000 in
theorem cRule_bad (B : Nat) (A : Option Addr) (c : Nat) (l : List Int) (e q : Int) (w : World) (h : Row w B A l) (hk : ¬ okS l e q) :
    Calls Try.prog 52 #[.slice A l.length c, .int .i64 e, .int .i64 q] w fun r w' => r = .returned (.tuple #[.slice none 0 0, .nilFunc, .int .i64 (errS l e q)]) ∧ Below w.heap.size w w' := by
  rcases errS_bad hk with ⟨hb, he⟩ | ⟨hk1, hq, he⟩
  · rw [he]
    have k1 := checked_bad B A c l e w h hb
    have hne := errC_ne hb
    have hbw := Lib.hid (Below.refl w.heap.size w)
    generalize l.length = n at *
    generalize errC l e = E at *
    have hn : (E != 0) = true := by simp; omega
    replace k1 := Lib.hid k1
    replace h := Lib.hid h
    replace hk := Lib.hid hk
    replace hb := Lib.hid hb
    replace he := Lib.hid he
    replace hne := Lib.hid hne
    go_enter Try.func52, Try.ntmps52
    go_wp2_with fail
    refine k1.out.mono ?_
    rintro _ X ⟨rfl, rfl⟩
    go_wp2
    exact bodyPost_ret (by simp [results, Try.results52, go_sem]) rfl ⟨rfl, hbw.out⟩
  · rw [he]
    have k1 := checked_ok B A c l e w h hk1
    have k2 := rules_any w
    have hba := ba1 w (.cells #[fnV 109, fnV 110, fnV 111, fnV 112] 67)
    generalize l.length = n at *
    obtain ⟨Y, hY⟩ : ∃ Y, Y = w.alloc (.cells #[fnV 109, fnV 110, fnV 111, fnV 112] 67) := ⟨_, rfl⟩
    rw [← hY] at k2 hba
    obtain ⟨b0, hb0⟩ : ∃ b, b = w.heap.size := ⟨_, rfl⟩
    rw [← hb0] at k2
    replace hba := Lib.hid hba
    replace hY := Lib.hid hY
    replace hb0 := Lib.hid hb0
    replace k1 := Lib.hid k1
    replace k2 := Lib.hid k2
    replace h := Lib.hid h
    replace hk := Lib.hid hk
    replace hk1 := Lib.hid hk1
    replace he := Lib.hid he
    rcases hq with hq | ⟨hq, hq2⟩
    all_goals
      go_enter Try.func52, Try.ntmps52
      go_wp2_with fail
      refine k1.out.mono ?_
      rintro _ X ⟨rfl, rfl⟩
      go_wp2_with fail
      refine k2.out.mono ?_
      rintro _ X2 ⟨rfl, rfl⟩
      go_wp2
      exact bodyPost_ret (by simp [results, Try.results52, go_sem]) rfl ⟨rfl, hba.out⟩

/-- Awards that came out: none, or a block. -/
def RtF (X : World) (A : Option Addr) (N : Nat) (f : Nat → Rt) : Prop := 0 < N → ∃ g, A = some ⟨g, 0, none⟩ ∧ BlR X g N f
theorem RtF.up {X Y : World} {A : Option Addr} {N : Nat} {f : Nat → Rt} (h : RtF X A N f) (hb : Below X.heap.size X Y) : RtF Y A N f := fun hN => by
  obtain ⟨g, e, hg⟩ := h hN
  exact ⟨g, e, hg.up hb⟩
namespace M
theorem shR1 (l : List Int) (e : Int) : shR l e (0 + 1 : Nat) = prL l e := rfl
theorem shR2 (l : List Int) (e : Int) : shR l e (1 + 1 : Nat) = eqL l e := rfl
theorem shR3 (l : List Int) (e : Int) : shR l e (2 + 1 : Nat) = lsL l (eqL l (sm l - e)) := rfl
theorem shR4 (l : List Int) (e : Int) : shR l e (3 + 1 : Nat) = oldL l e := rfl
theorem okS_nat {l : List Int} {e q : Int} (h : okS l e q) : ∃ k : Nat, k < 4 ∧ q = (k + 1 : Nat) := ⟨(q - 1).toNat, by have := h.2; omega, by have := h.2; omega⟩
/-- How many awards come out. -/
def shN (l : List Int) (e q : Int) : Nat := if okS l e q then l.length else 0
end M
set_option maxRecDepth 100000 in
set_option maxHeartbeats 2000000 in
theorem Share_ok (B : Nat) (A : Option Addr) (c : Nat) (l : List Int) (e : Int) (w : World) (h : Row w B A l) (hB : B ≤ w.heap.size) (hk : okE l e) (k : Nat) (hk1 : k < 4) :
    Calls Try.prog 19 #[.slice A l.length c, .int .i64 e, .int .i64 (k + 1 : Nat)] w fun r w' => ∃ g, r = .returned (.tuple #[.slice (some ⟨g, 0, none⟩) l.length l.length, .int .i64 0]) ∧ AwW w l.length g (shR l e (k + 1 : Nat)) w' := by
  have kc := cRule_ok B A c l e w h hk k hk1
  have hh := fun X (hX : Below w.heap.size w X) => h.below (hX.mono hB)
  have hBB := fun X (hX : Below w.heap.size w X) => Nat.le_trans hB hX.size
  have f1 := fun X (hX : Below w.heap.size w X) => inProp_any B A c l e X (hh X hX) (hBB X hX) hk
  have f2 := fun X (hX : Below w.heap.size w X) => eqAw_any B A c l e X (hh X hX) (hBB X hX) hk
  have f3 := fun X (hX : Below w.heap.size w X) => eqLoss_any B A c l e X (hh X hX) (hBB X hX) hk
  have f4 := fun X (hX : Below w.heap.size w X) => old_any B A c l e X (hh X hX) (hBB X hX) hk
  rw [← shR1] at f1
  rw [← shR2] at f2
  rw [← shR3] at f3
  rw [← shR4] at f4
  have tr := fun X Y g f (hX : Below w.heap.size w X) (hW : AwW X l.length g f Y) => AwW.trans (w := w) hW hX
  generalize l.length = n at *
  replace tr := Lib.hid tr
  replace kc := Lib.hid kc
  replace h := Lib.hid h
  replace hh := Lib.hid hh
  replace hBB := Lib.hid hBB
  replace hk := Lib.hid hk
  replace f1 := Lib.hid f1
  replace f2 := Lib.hid f2
  replace f3 := Lib.hid f3
  replace f4 := Lib.hid f4
  unfold fnV at *
  rcases (show k = 0 ∨ k = 1 ∨ k = 2 ∨ k = 3 by omega) with rfl | rfl | rfl | rfl
  all_goals
    go_enter Try.func19, Try.ntmps19
    go_wp2_with fail
    refine kc.out.mono ?_
    rintro _ X ⟨rfl, hbX⟩
    have g1 := Lib.hid (f1.out X hbX)
    have g2 := Lib.hid (f2.out X hbX)
    have g3 := Lib.hid (f3.out X hbX)
    have g4 := Lib.hid (f4.out X hbX)
    replace hbX := Lib.hid hbX
    go_wp2_with fail
    first
    | with_reducible refine g1.out.mono ?_
    | with_reducible refine g2.out.mono ?_
    | with_reducible refine g3.out.mono ?_
    | with_reducible refine g4.out.mono ?_
    rintro _ X2 ⟨g, rfl, hW⟩
    have hfin := Lib.hid (tr.out X X2 g _ hbX.out hW)
    clear hW
    go_wp2
    exact bodyPost_ret (by simp [results, Try.results19, go_sem]) rfl ⟨g, rfl, hfin.out⟩
end Go.Proofs.Ythleekdkbgnabaa
