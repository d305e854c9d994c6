/-
  The means over all orders, in every case: Middle of the program and of the specification.
-/
import Derived.Test.YthleekdkbgnabaaTi
import Derived.Test.YthleekdkbgnabaaTj
import Derived.Test.YthleekdkbgnabaaT
import Derived.Test.YthleekdkbgnabaaTf
namespace Go.Proofs.Ythleekdkbgnabaa
open Go.RowKit Go.Deep M
set_option linter.unusedVariables false
set_option linter.unusedSimpArgs false

namespace M
def okV (l : List Int) (e : Int) : Prop := okE l e ∧ l.length ≤ 7
instance (l : List Int) (e : Int) : Decidable (okV l e) := by unfold okV; infer_instance
def errV (l : List Int) (e : Int) : Int := if okE l e then if l.length ≤ 7 then 0 else 5 else errC l e
def miN (l : List Int) (e : Int) : Nat := if okV l e then l.length else 0
end M
theorem ItF.up {X Y : World} {A : Option Addr} {N : Nat} {f : Nat → Int} (h : ItF X A N f) (hb : Below X.heap.size X Y) : ItF Y A N f := fun hN => by
  obtain ⟨g, e, hg⟩ := h hN
  exact ⟨g, e, hg.up hb⟩
theorem rtf_none (X : World) (f : Nat → Rt) : RtF X none 0 f := fun hh => absurd hh (Nat.lt_irrefl _)
theorem awf_of {w X : World} {n g : Nat} {f : Nat → Rt} (h : AwW w n g f X) : RtF X (some ⟨g, 0, none⟩) n f := fun _ => ⟨g, rfl, h.blk⟩

set_option maxRecDepth 100000 in
set_option maxHeartbeats 2000000 in
theorem Middle_any (A : Option Addr) (c : Nat) (l : List Int) (e : Int) (w : World) (h : Row w w.heap.size A l) :
    Calls Try.prog 47 #[.slice A l.length c, .int .i64 e] w (ShR w (miN l e) (meR l e) (errV l e)) := by
  have hbw := Lib.hid (Below.refl w.heap.size w)
  have hit := fun X => rtf_none X (meR l e)
  unfold miN errV ShR
  by_cases hk : okE l e
  · have k1 := checked_ok w.heap.size A c l e w h hk
    have hn := val_len hk.1
    rw [if_pos hk]
    by_cases hd : l.length ≤ 7
    · have hU : okV l e := ⟨hk, hd⟩
      rw [if_pos hU, if_pos hd]
      have k2 := middle_any A c l e w h hk hd
      have hrt : ∀ X g, BlR X g l.length (meR l e) → RtF X (some ⟨g, 0, none⟩) l.length (meR l e) := fun X g hX _ => ⟨g, rfl, hX⟩
      generalize meR l e = f at *
      generalize l.length = n at *
      replace k1 := Lib.hid k1
      replace k2 := Lib.hid k2
      replace h := Lib.hid h
      replace hk := Lib.hid hk
      replace hU := Lib.hid hU
      replace hit := Lib.hid hit
      replace hrt := Lib.hid hrt
      obtain ⟨hn1, hn8⟩ := hn
      go_enter Try.func47, Try.ntmps47
      go_wp2_with fail
      refine k1.out.mono ?_
      rintro _ X ⟨rfl, rfl⟩
      go_wp2_with fail
      refine k2.out.mono ?_
      rintro _ X2 ⟨g, rfl, hb2, hge, hbl⟩
      have hf := Lib.hid (hrt.out X2 g hbl)
      replace hb2 := Lib.hid hb2
      replace hbl := Lib.hid hbl
      replace hge := Lib.hid hge
      go_wp2
      go_ret2
      exact ⟨_, _, _, rfl, hb2.out, rfl, hf.out⟩
    · have hU : ¬ okV l e := fun hh => hd hh.2
      rw [if_neg hU, if_neg hd]
      generalize meR l e = f at *
      generalize l.length = n at *
      have hgt : (7 : Int) < n := by omega
      replace k1 := Lib.hid k1
      replace h := Lib.hid h
      replace hk := Lib.hid hk
      replace hU := Lib.hid hU
      replace hit := Lib.hid hit
      replace hd := Lib.hid hd
      replace hn := Lib.hid hn
      go_enter Try.func47, Try.ntmps47
      go_wp2_with fail
      refine k1.out.mono ?_
      rintro _ X ⟨rfl, rfl⟩
      go_wp2
      go_ret2
      exact ⟨_, _, _, rfl, hbw.out, rfl, hit.out _⟩
  · have hU : ¬ okV l e := fun hh => hk hh.1
    rw [if_neg hU, if_neg hk]
    have k1 := checked_bad w.heap.size A c l e w h hk
    have hne := errC_ne hk
    generalize meR l e = f at *
    generalize l.length = n at *
    generalize errC l e = E at *
    have hn : (E != 0) = true := by simp; omega
    replace k1 := Lib.hid k1
    replace h := Lib.hid h
    replace hk := Lib.hid hk
    replace hU := Lib.hid hU
    replace hne := Lib.hid hne
    replace hit := Lib.hid hit
    go_enter Try.func47, Try.ntmps47
    go_wp2_with fail
    refine k1.out.mono ?_
    rintro _ X ⟨rfl, rfl⟩
    go_wp2
    go_ret2
    exact ⟨_, _, _, rfl, hbw.out, rfl, hit.out _⟩

set_option maxRecDepth 100000 in
set_option maxHeartbeats 2000000 in
theorem Middle_ref (A : Option Addr) (c : Nat) (l : List Int) (e : Int) (w : World) (h : Row w w.heap.size A l) :
    Calls Try.prog 48 #[.slice A l.length c, .int .i64 e] w (ShR w (miN l e) (meR l e) (errV l e)) := by
  have hbw := Lib.hid (Below.refl w.heap.size w)
  have hit := fun X => rtf_none X (meR l e)
  have k1 := asked_any w.heap.size A c l e w h
  unfold miN errV
  by_cases hk : okE l e
  · have hn := val_len hk.1
    rw [errC_ok hk] at k1
    rw [if_pos hk]
    by_cases hd : l.length ≤ 7
    · have hU : okV l e := ⟨hk, hd⟩
      rw [if_pos hU, if_pos hd]
      refine (MiddleR_walk A c l e w h hk hd).mono ?_
      rintro _ X ⟨g, cp, rfl, hW⟩
      exact ⟨_, _, _, rfl, hW.below, rfl, awf_of hW⟩
    · have hU : ¬ okV l e := fun hh => hd hh.2
      rw [if_neg hU, if_neg hd]
      unfold ShR
      generalize meR l e = f at *
      generalize l.length = n at *
      have hgt : (7 : Int) < n := by omega
      replace k1 := Lib.hid k1
      replace h := Lib.hid h
      replace hk := Lib.hid hk
      replace hU := Lib.hid hU
      replace hit := Lib.hid hit
      replace hd := Lib.hid hd
      replace hn := Lib.hid hn
      go_enter Try.func48, Try.ntmps48
      go_wp2_with fail
      refine k1.out.mono ?_
      rintro _ X ⟨rfl, rfl⟩
      go_wp2
      go_ret2
      exact ⟨_, _, _, rfl, hbw.out, rfl, hit.out _⟩
  · have hU : ¬ okV l e := fun hh => hk hh.1
    rw [if_neg hU, if_neg hk]
    unfold ShR
    have hne := errC_ne hk
    generalize meR l e = f at *
    generalize l.length = n at *
    generalize errC l e = E at *
    have hn : (E != 0) = true := by simp; omega
    replace k1 := Lib.hid k1
    replace h := Lib.hid h
    replace hk := Lib.hid hk
    replace hU := Lib.hid hU
    replace hne := Lib.hid hne
    replace hit := Lib.hid hit
    go_enter Try.func48, Try.ntmps48
    go_wp2_with fail
    refine k1.out.mono ?_
    rintro _ X ⟨rfl, rfl⟩
    go_wp2
    go_ret2
    exact ⟨_, _, _, rfl, hbw.out, rfl, hit.out _⟩
end Go.Proofs.Ythleekdkbgnabaa
