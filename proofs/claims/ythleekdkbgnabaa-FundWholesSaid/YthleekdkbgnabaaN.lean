/-
  Equal losses, the old rule, the rule of a number, awards: the program's functions.
-/
import Derived.Test.YthleekdkbgnabaaM
import Derived.Laws.EntriesVeiled
namespace Go.Proofs.Ythleekdkbgnabaa
open Go.RowKit Go.Deep M
set_option linter.unusedVariables false
set_option linter.unusedSimpArgs false

/-- A rule as a value. -/
def fnV (k : Nat) : Value := .func (.func k) #[] #[]
theorem rules_any (w : World) : Calls Try.prog 85 #[] w fun e w' => e = .returned (.slice (some ⟨w.heap.size, 0, none⟩) 4 4) ∧ w' = w.alloc (.cells #[fnV 109, fnV 110, fnV 111, fnV 112] 67) := by
  go_enter Try.func85, Try.ntmps85
  go_wp2
  go_ret
  exact ⟨rfl, rfl⟩

namespace M
theorem okE_mis {l : List Int} {e : Int} (h : okE l e) : okE l (sm l - e) := ⟨h.1, by have := h.2; omega, by have := h.2; omega⟩
theorem okE_two {l : List Int} {e : Int} (h : okE l e) (h2 : 2 * e ≤ sm l) : okE l (2 * e) := ⟨h.1, by have := h.2; omega, h2⟩
theorem midR_eq {l : List Int} {e : Int} (h : okE l e) (i : Nat) (hi : i < l.length) : midR (eqL l e i) := by
  have := eqL_b h.1 h.2 hi
  unfold midR; omega
theorem midR_hv {l : List Int} {e : Int} (h : okE l e) (i : Nat) (hi : i < l.length) : midR (hvL (eqL l e) i) := by
  have := hvL_b (eqL_b h.1 h.2 hi)
  unfold midR; omega
end M
theorem AwW.trans {w X Y : World} {n g : Nat} {f : Nat → Rt} (h : AwW X n g f Y) (hb : Below w.heap.size w X) : AwW w n g f Y := ⟨bel_trans hb h.below, Nat.le_trans hb.size h.ge, h.blk⟩

set_option maxRecDepth 100000 in
set_option maxHeartbeats 2000000 in
theorem eqLoss_any (B : Nat) (A : Option Addr) (c : Nat) (l : List Int) (e : Int) (w : World) (h : Row w B A l) (hB : B ≤ w.heap.size) (hk : okE l e) :
    Calls Try.prog 111 #[.slice A l.length c, .int .i64 e] w fun r w' => ∃ g, r = .returned (.slice (some ⟨g, 0, none⟩) l.length l.length) ∧ AwW w l.length g (lsL l (eqL l (sm l - e))) w' := by
  have k1 := missing_any B A c l e w h hk
  have k2 := eqAw_any B A c l (sm l - e) w h hB (okE_mis hk)
  have hmid := midR_eq (okE_mis hk)
  have k3 := fun gl c' X (hX : Below w.heap.size w X) (hf : BlR X gl l.length (eqL l (sm l - e))) => less_any B A c c' gl l (eqL l (sm l - e)) X (h.below (hX.mono hB)) (Nat.le_trans hB hX.size) hk.1 hf hmid
  generalize sm l - e = m at *
  generalize lsL l (eqL l m) = F at *
  generalize eqL l m = f at *
  generalize l.length = n at *
  replace k1 := Lib.hid k1
  replace k2 := Lib.hid k2
  replace k3 := Lib.hid k3
  replace h := Lib.hid h
  replace hk := Lib.hid hk
  replace hmid := Lib.hid hmid
  go_enter Try.func111, Try.ntmps111
  go_wp2_with fail
  refine k1.out.mono ?_
  rintro _ X ⟨rfl, rfl⟩
  go_wp2_with fail
  refine k2.out.mono ?_
  rintro _ X1 ⟨g1, rfl, hW1⟩
  have k4 := Lib.hid (k3.out g1 n X1 hW1.below hW1.blk)
  replace hW1 := Lib.hid hW1
  go_wp2_with fail
  refine k4.out.mono ?_
  rintro _ X2 ⟨g2, rfl, hW2⟩
  have hfin := Lib.hid (hW2.trans hW1.out.below)
  clear hW2
  go_wp2
  go_ret
  exact ⟨g2, rfl, hfin.out⟩

namespace M
def oldL (l : List Int) (e : Int) : Nat → Rt := if 2 * e ≤ sm l then hvL (eqL l (2 * e)) else lsL l (hvL (eqL l (2 * (sm l - e))))
end M
set_option maxRecDepth 100000 in
set_option maxHeartbeats 2000000 in
theorem old_any (B : Nat) (A : Option Addr) (c : Nat) (l : List Int) (e : Int) (w : World) (h : Row w B A l) (hB : B ≤ w.heap.size) (hk : okE l e) :
    Calls Try.prog 112 #[.slice A l.length c, .int .i64 e] w fun r w' => ∃ g, r = .returned (.slice (some ⟨g, 0, none⟩) l.length l.length) ∧ AwW w l.length g (oldL l e) w' := by
  have k1 := missing_any B A c l e w h hk
  unfold oldL
  by_cases h2 : 2 * e ≤ sm l
  · rw [if_pos h2]
    have k2 := half_any B A c l e w h hB (okE_two hk h2)
    have hle : e ≤ sm l - e := by omega
    generalize hvL (eqL l (2 * e)) = F at *
    generalize sm l - e = m at *
    generalize l.length = n at *
    replace k1 := Lib.hid k1
    replace k2 := Lib.hid k2
    replace h := Lib.hid h
    replace hk := Lib.hid hk
    replace h2 := Lib.hid h2
    go_enter Try.func112, Try.ntmps112
    go_wp2_with fail
    refine k1.out.mono ?_
    rintro _ X ⟨rfl, rfl⟩
    go_wp2_with fail
    refine k2.out.mono ?_
    rintro _ X1 ⟨g1, rfl, hW1⟩
    replace hW1 := Lib.hid hW1
    go_wp2
    go_ret
    exact ⟨g1, rfl, hW1.out⟩
  · rw [if_neg h2]
    have hle : ¬ e ≤ sm l - e := by omega
    have hk2 : okE l (2 * (sm l - e)) := okE_two (okE_mis hk) (by omega)
    have k2 := half_any B A c l (sm l - e) w h hB hk2
    have hmid := midR_hv hk2
    have k3 := fun gl c' X (hX : Below w.heap.size w X) (hf : BlR X gl l.length (hvL (eqL l (2 * (sm l - e))))) => less_any B A c c' gl l _ X (h.below (hX.mono hB)) (Nat.le_trans hB hX.size) hk.1 hf hmid
    generalize sm l - e = m at *
    generalize lsL l (hvL (eqL l (2 * m))) = F at *
    generalize hvL (eqL l (2 * m)) = f at *
    generalize l.length = n at *
    replace k1 := Lib.hid k1
    replace k2 := Lib.hid k2
    replace k3 := Lib.hid k3
    replace h := Lib.hid h
    replace hk := Lib.hid hk
    replace hk2 := Lib.hid hk2
    replace h2 := Lib.hid h2
    replace hmid := Lib.hid hmid
    go_enter Try.func112, Try.ntmps112
    go_wp2_with fail
    refine k1.out.mono ?_
    rintro _ X ⟨rfl, rfl⟩
    go_wp2_with fail
    refine k2.out.mono ?_
    rintro _ X1 ⟨g1, rfl, hW1⟩
    have k4 := Lib.hid (k3.out g1 n X1 hW1.below hW1.blk)
    replace hW1 := Lib.hid hW1
    go_wp2_with fail
    refine k4.out.mono ?_
    rintro _ X2 ⟨g2, rfl, hW2⟩
    have hfin := Lib.hid (hW2.trans hW1.out.below)
    clear hW2
    go_wp2
    go_ret
    exact ⟨g2, rfl, hfin.out⟩
end Go.Proofs.Ythleekdkbgnabaa
