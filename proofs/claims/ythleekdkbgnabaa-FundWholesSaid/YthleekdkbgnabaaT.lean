/-
  Awards by every rule: the specification's functions, and Share of both.
-/
import Derived.Test.YthleekdkbgnabaaS
namespace Go.Proofs.Ythleekdkbgnabaa
open Go.RowKit Go.Deep M
set_option linter.unusedVariables false
set_option linter.unusedSimpArgs false

set_option maxRecDepth 100000 in
set_option maxHeartbeats 4000000 in
theorem share_two (B : Nat) (A : Option Addr) (c : Nat) (l : List Int) (e : Int) (w : World) (h : Row w B A l) (hB : B ≤ w.heap.size) (hk : okE l e) :
    Calls Try.prog 54 #[.slice A l.length c, .int .i64 e, .int .i64 2] w (ShP w l.length (eqL l e)) := by
  have d51 := Total_ref B A c l w h hk.1.2 (by have := val_len hk.1; omega)
  have k1 := equal_ref B A c l e w h hB hk
  have hsm := sm_b hk.1
  have he := hk.2
  unfold ShP
  generalize eqL l e = F at *
  generalize sm l = S at *
  generalize l.length = n at *
  replace d51 := Lib.hid d51
  replace k1 := Lib.hid k1
  replace h := Lib.hid h
  replace hk := Lib.hid hk
  go_enter Try.func54, Try.ntmps54
  go_wp2_with fail
  refine d51.out.mono ?_
  rintro _ X ⟨rfl, rfl⟩
  go_wp2_with fail
  refine k1.out.mono ?_
  rintro _ X1 ⟨g, rfl, hW⟩
  replace hW := Lib.hid hW
  go_wp2
  go_ret
  exact ⟨g, _, rfl, hW.out⟩
set_option maxRecDepth 100000 in
set_option maxHeartbeats 4000000 in
theorem share_three (B : Nat) (A : Option Addr) (c : Nat) (l : List Int) (e : Int) (w : World) (h : Row w B A l) (hB : B ≤ w.heap.size) (hk : okE l e) :
    Calls Try.prog 54 #[.slice A l.length c, .int .i64 e, .int .i64 3] w (ShP w l.length (lsL l (eqL l (sm l - e)))) := by
  have d51 := Total_ref B A c l w h hk.1.2 (by have := val_len hk.1; omega)
  have k1 := equal_ref B A c l (sm l - e) w h hB (okE_mis hk)
  have hmid := midR_eq (okE_mis hk)
  have k3 := fun gl c' X (hX : Below w.heap.size w X) (hf : BlR X gl l.length (eqL l (sm l - e))) => less_ref B A c c' gl l (eqL l (sm l - e)) X (h.below (hX.mono hB)) (Nat.le_trans hB hX.size) hk.1 hf hmid
  have hsm := sm_b hk.1
  have he := hk.2
  have tr := fun X Y g f (hX : Below w.heap.size w X) (hW : AwW X l.length g f Y) => AwW.trans (w := w) hW hX
  unfold ShP
  obtain ⟨m, hm⟩ : ∃ m, m = sm l - e := ⟨_, rfl⟩
  rw [← hm] at k1 k3 ⊢
  generalize lsL l (eqL l m) = F at *
  generalize eqL l m = f at *
  generalize sm l = S at *
  generalize l.length = n at *
  have w1 : IntKind.i64.wrap (S - e) = m := by rw [← hm]; exact IntWalk.i64_in _ (by omega)
  replace hm := Lib.hid hm.symm
  replace d51 := Lib.hid d51
  replace k1 := Lib.hid k1
  replace k3 := Lib.hid k3
  replace tr := Lib.hid tr
  replace h := Lib.hid h
  replace hk := Lib.hid hk
  replace hmid := Lib.hid hmid
  replace he := Lib.hid he
  replace hsm := Lib.hid hsm
  go_enter Try.func54, Try.ntmps54
  go_wp2_with fail
  refine d51.out.mono ?_
  rintro _ X ⟨rfl, rfl⟩
  go_wp2_with fail
  try rw [hm.out]
  refine k1.out.mono ?_
  rintro _ X1 ⟨g, rfl, hW⟩
  have k4 := Lib.hid (k3.out g n X1 hW.below hW.blk)
  replace hW := Lib.hid hW
  go_wp2_with fail
  refine k4.out.mono ?_
  rintro _ X2 ⟨g2, cp, rfl, hW2⟩
  have hfin := Lib.hid (tr.out X1 X2 g2 F hW.out.below hW2)
  clear hW2
  go_wp2
  go_ret
  exact ⟨g2, cp, rfl, hfin.out⟩
set_option maxRecDepth 100000 in
set_option maxHeartbeats 4000000 in
theorem share_four (B : Nat) (A : Option Addr) (c : Nat) (l : List Int) (e : Int) (w : World) (h : Row w B A l) (hB : B ≤ w.heap.size) (hk : okE l e) :
    Calls Try.prog 54 #[.slice A l.length c, .int .i64 e, .int .i64 4] w (ShP w l.length (oldL l e)) := by
  have d51 := Total_ref B A c l w h hk.1.2 (by have := val_len hk.1; omega)
  have hsm := sm_b hk.1
  have he := hk.2
  unfold oldL
  by_cases h2 : 2 * e ≤ sm l
  · rw [if_pos h2]
    have k2 := halves_ref B A c l e w h hB (okE_two hk h2)
    unfold ShP
    generalize hvL (eqL l (2 * e)) = F at *
    generalize sm l = S at *
    generalize l.length = n at *
    replace d51 := Lib.hid d51
    replace k2 := Lib.hid k2
    replace h := Lib.hid h
    replace hk := Lib.hid hk
    go_enter Try.func54, Try.ntmps54
    go_wp2_with fail
    refine d51.out.mono ?_
    rintro _ X ⟨rfl, rfl⟩
    go_wp2_with fail
    refine d51.out.mono ?_
    rintro _ X ⟨rfl, rfl⟩
    go_wp2_with fail
    refine k2.out.mono ?_
    rintro _ X1 ⟨g, rfl, hW⟩
    replace hW := Lib.hid hW
    go_wp2
    go_ret
    exact ⟨g, _, rfl, hW.out⟩
  · rw [if_neg h2]
    have hk2 : okE l (2 * (sm l - e)) := okE_two (okE_mis hk) (by omega)
    have k2 := halves_ref B A c l (sm l - e) w h hB hk2
    have hmid := midR_hv hk2
    have k3 := fun gl c' X (hX : Below w.heap.size w X) (hf : BlR X gl l.length (hvL (eqL l (2 * (sm l - e))))) => less_ref B A c c' gl l _ X (h.below (hX.mono hB)) (Nat.le_trans hB hX.size) hk.1 hf hmid
    have tr := fun X Y g f (hX : Below w.heap.size w X) (hW : AwW X l.length g f Y) => AwW.trans (w := w) hW hX
    unfold ShP
    obtain ⟨m, hm⟩ : ∃ m, m = sm l - e := ⟨_, rfl⟩
    rw [← hm] at k2 k3 ⊢
    generalize lsL l (hvL (eqL l (2 * m))) = F at *
    generalize hvL (eqL l (2 * m)) = f at *
    generalize sm l = S at *
    generalize l.length = n at *
    have w1 : IntKind.i64.wrap (S - e) = m := by rw [← hm]; exact IntWalk.i64_in _ (by omega)
    replace hm := Lib.hid hm.symm
    replace d51 := Lib.hid d51
    replace k2 := Lib.hid k2
    replace k3 := Lib.hid k3
    replace tr := Lib.hid tr
    replace h := Lib.hid h
    replace hk := Lib.hid hk
    replace hk2 := Lib.hid hk2
    replace hmid := Lib.hid hmid
    have w2 : IntKind.i64.wrap (2 * e) = 2 * e := IntWalk.i64_in _ (by omega)
    go_enter Try.func54, Try.ntmps54
    go_wp2_with fail
    refine d51.out.mono ?_
    rintro _ X ⟨rfl, rfl⟩
    go_wp2_with fail
    refine d51.out.mono ?_
    rintro _ X ⟨rfl, rfl⟩
    go_wp2_with fail
    try rw [hm.out]
    refine k2.out.mono ?_
    rintro _ X1 ⟨g, rfl, hW⟩
    have k4 := Lib.hid (k3.out g n X1 hW.below hW.blk)
    replace hW := Lib.hid hW
    go_wp2_with fail
    refine k4.out.mono ?_
    rintro _ X2 ⟨g2, cp, rfl, hW2⟩
    have hfin := Lib.hid (tr.out X1 X2 g2 F hW.out.below hW2)
    clear hW2
    go_wp2
    go_ret
    exact ⟨g2, cp, rfl, hfin.out⟩
theorem share_ref (B : Nat) (A : Option Addr) (c : Nat) (l : List Int) (e : Int) (w : World) (h : Row w B A l) (hB : B ≤ w.heap.size) (hk : okE l e) (k : Nat) (hk1 : k < 4) :
    Calls Try.prog 54 #[.slice A l.length c, .int .i64 e, .int .i64 (k + 1 : Nat)] w (ShP w l.length (shR l e (k + 1 : Nat))) := by
  rcases (show k = 0 ∨ k = 1 ∨ k = 2 ∨ k = 3 by omega) with rfl | rfl | rfl | rfl
  · rw [shR1]; exact prop_ref B A c l e w h hB hk
  · rw [shR2]; exact share_two B A c l e w h hB hk
  · rw [shR3]; exact share_three B A c l e w h hB hk
  · rw [shR4]; exact share_four B A c l e w h hB hk

/-- What Share answers. -/
def ShR (w : World) (n : Nat) (f : Nat → Rt) (E : Int) (r : Ending) (w' : World) : Prop :=
  ∃ A N cp, r = .returned (.tuple #[.slice A N cp, .int .i64 E]) ∧ Below w.heap.size w w' ∧ N = n ∧ RtF w' A N f
theorem shN_ok {l : List Int} {e q : Int} (h : okS l e q) : shN l e q = l.length := by unfold shN; rw [if_pos h]
theorem shN_bad {l : List Int} {e q : Int} (h : ¬ okS l e q) : shN l e q = 0 := by unfold shN; rw [if_neg h]
set_option maxRecDepth 100000 in
set_option maxHeartbeats 2000000 in
theorem Share_any (B : Nat) (A : Option Addr) (c : Nat) (l : List Int) (e q : Int) (w : World) (h : Row w B A l) (hB : B ≤ w.heap.size) :
    Calls Try.prog 19 #[.slice A l.length c, .int .i64 e, .int .i64 q] w (ShR w (shN l e q) (shR l e q) (errS l e q)) := by
  by_cases hk : okS l e q
  · obtain ⟨k, hk4, rfl⟩ := okS_nat hk
    rw [shN_ok hk, errS_ok hk]
    refine (Share_ok B A c l e w h hB hk.1 k hk4).mono ?_
    rintro r w' ⟨g, rfl, hW⟩
    exact ⟨_, _, _, rfl, hW.below, rfl, fun _ => ⟨g, rfl, hW.blk⟩⟩
  · rw [shN_bad hk]
    have k1 := cRule_bad B A c l e q w h hk
    have hne := errS_ne hk
    unfold ShR
    generalize l.length = n at *
    generalize errS l e q = E at *
    have hn : (E != 0) = true := by simp; omega
    have hr : ∀ X f, RtF X none 0 f := fun X f hh => absurd hh (Nat.lt_irrefl _)
    replace k1 := Lib.hid k1
    replace h := Lib.hid h
    replace hk := Lib.hid hk
    replace hne := Lib.hid hne
    replace hr := Lib.hid hr
    go_enter Try.func19, Try.ntmps19
    go_wp2_with fail
    refine k1.out.mono ?_
    rintro _ X ⟨rfl, hb⟩
    replace hb := Lib.hid hb
    go_wp2
    go_ret2
    exact ⟨_, _, _, rfl, hb.out, rfl, hr.out _ _⟩
set_option maxRecDepth 100000 in
set_option maxHeartbeats 2000000 in
theorem Share_ref (B : Nat) (A : Option Addr) (c : Nat) (l : List Int) (e q : Int) (w : World) (h : Row w B A l) (hB : B ≤ w.heap.size) :
    Calls Try.prog 20 #[.slice A l.length c, .int .i64 e, .int .i64 q] w (ShR w (shN l e q) (shR l e q) (errS l e q)) := by
  have k1 := ruled_any B A c l e q w h
  by_cases hk : okS l e q
  · obtain ⟨k, hk4, rfl⟩ := okS_nat hk
    rw [shN_ok hk]
    rw [errS_ok hk] at k1 ⊢
    have k2 := share_ref B A c l e w h hB hk.1 k hk4
    unfold ShP at k2
    unfold ShR
    have hr : ∀ X g, AwW w l.length g (shR l e (k + 1 : Nat)) X → RtF X (some ⟨g, 0, none⟩) l.length (shR l e (k + 1 : Nat)) := fun X g hW _ => ⟨g, rfl, hW.blk⟩
    generalize shR l e (k + 1 : Nat) = F at *
    generalize l.length = n at *
    obtain ⟨q, hq⟩ : ∃ q : Int, q = (k + 1 : Nat) := ⟨_, rfl⟩
    rw [← hq] at k1 k2 ⊢
    replace hq := Lib.hid hq
    replace k1 := Lib.hid k1
    replace k2 := Lib.hid k2
    replace h := Lib.hid h
    replace hk := Lib.hid hk
    replace hr := Lib.hid hr
    go_enter Try.func20, Try.ntmps20
    go_wp2_with fail
    refine k1.out.mono ?_
    rintro _ X ⟨rfl, rfl⟩
    go_wp2_with fail
    refine k2.out.mono ?_
    rintro _ X1 ⟨g, cp, rfl, hW⟩
    replace hW := Lib.hid hW
    go_wp2
    go_ret2
    exact ⟨_, _, _, rfl, hW.out.below, rfl, hr.out _ _ hW.out⟩
  · rw [shN_bad hk]
    have hne := errS_ne hk
    unfold ShR
    generalize l.length = n at *
    generalize errS l e q = E at *
    have hn : (E != 0) = true := by simp; omega
    have hr : ∀ X f, RtF X none 0 f := fun X f hh => absurd hh (Nat.lt_irrefl _)
    have hb := Lib.hid (Below.refl w.heap.size w)
    replace k1 := Lib.hid k1
    replace h := Lib.hid h
    replace hk := Lib.hid hk
    replace hne := Lib.hid hne
    replace hr := Lib.hid hr
    go_enter Try.func20, Try.ntmps20
    go_wp2_with fail
    refine k1.out.mono ?_
    rintro _ X ⟨rfl, rfl⟩
    go_wp2
    go_ret2
    exact ⟨_, _, _, rfl, hb.out, rfl, hr.out _ _⟩
end Go.Proofs.Ythleekdkbgnabaa
