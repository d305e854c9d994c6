/-
  Which lists are orders: the program's functions.
-/
import Derived.Test.YtgjgpcpghglnnaaYa
import Derived.Test.YtgjgpcpghglnnaaU
import Derived.Test.YtgjgpcpghglnnaaS
namespace Go.Proofs.Ytgjgpcpghglnnaa
open Go.RowKit Go.Deep M
set_option linter.unusedVariables false
set_option linter.unusedSimpArgs false

set_option maxRecDepth 100000 in
set_option maxHeartbeats 4000000 in
theorem isOrder_any (B : Nat) (A Ao : Option Addr) (c co : Nat) (D : List Bc) (o : List Int) (w : World) (h : Bcs w B A D) (ho : Row w B Ao o) (hB : B ≤ w.heap.size) (hv : vJ (bl D)) :
    Calls Try.prog 52 #[.slice A D.length c, .slice Ao o.length co] w fun e w' => e = .returned (.bool (ordB (bl D) o)) ∧ Below w.heap.size w w' := by
  have h63 := h.1
  have ho63 := ho.1
  have hlen := bl_len D
  have c76 := first_any B A c D w h hB hv
  have hF12 : (fo (bl D) D.length).length ≤ 12 := by
    rw [fo_len]; exact Nat.le_trans (tn_mono (bl D) (show D.length ≤ (bl D).length by rw [hlen]; exact Nat.le_refl _)) hv.2.1
  by_cases e : o.length = (fo (bl D) D.length).length
  · have hd : decide (srt o = fo (bl D) D.length) = ordB (bl D) o := by
      have := ord_sorted hv (srt_perm o) (srt_sorted o) (by rw [hlen]; exact e)
      rwa [hlen] at this
    have hsl := srt_len o
    obtain ⟨F, hF⟩ : ∃ F, F = fo (bl D) D.length := ⟨_, rfl⟩
    rw [← hF] at c76 hF12 e hd
    have c78 := fun (X : World) (hX : Below w.heap.size w X) (hlt : X.heap.size < (X.alloc (.cells #[.slice Ao o.length co] 23)).heap.size) =>
      Sorted_any X.heap.size Ao co o (X.alloc (.cells #[.slice Ao o.length co] 23)) hlt (by simp) (((ho.below (hX.mono hB)).below ((ba1 X (.cells #[.slice Ao o.length co] 23)).mono (Nat.le_trans hB hX.size))).more (by have := hX.size; simp; omega)) (by omega)
    have c77 := fun (X : World) As Af cs cf (h1 : Row X X.heap.size As (srt o)) (h2 : Row X X.heap.size Af F) => Equal_any X.heap.size As Af cs cf (srt o) F X h1 h2 (Nat.le_refl _)
    rw [← hd]
    obtain ⟨q, hq⟩ : ∃ q, q = decide (srt o = F) := ⟨_, rfl⟩
    rw [← hq]
    rw [← hq] at c77
    rw [hsl] at c77 c78
    obtain ⟨m, hm⟩ : ∃ m, m = o.length := ⟨_, rfl⟩
    rw [← hm] at e ho63 c78 c77 hsl ⊢
    rw [← e] at hF12 c77
    generalize D.length = n at *
    replace hF := Lib.hid hF
    replace hd := Lib.hid hd
    replace hq := Lib.hid hq
    replace hm := Lib.hid hm
    replace e := Lib.hid e
    replace hsl := Lib.hid hsl
    replace hlen := Lib.hid hlen
    replace c76 := Lib.hid c76
    replace c77 := Lib.hid c77
    replace c78 := Lib.hid c78
    replace hv := Lib.hid hv
    replace h := Lib.hid h
    replace ho := Lib.hid ho
    go_enter Try.func52, Try.ntmps52
    go_wp2_with fail
    refine c76.out.mono ?_
    rintro x X ⟨v, rfl, hW⟩
    obtain ⟨Af, cf, rfl, hRF⟩ := own_row hW.own (by rw [← e.out]; omega)
    rw [← e.out]
    have hX := hW.below
    have k78 := c78.out X hX (by simp)
    have hXa := ba1 X (.cells #[.slice Ao m co] 23)
    replace hW := Lib.hid hW
    replace hRF := Lib.hid hRF
    replace k78 := Lib.hid k78
    replace hX := Lib.hid hX
    replace hXa := Lib.hid hXa
    go_wp2_with fail
    refine (Values_any Ao m co X).mono ?_
    rintro x Y ⟨rfl, rfl⟩
    go_wp2_with fail
    refine k78.out.mono ?_
    rintro x X2 ⟨v, rfl, hb2, ho2⟩
    have hX2 := bel_trans hXa.out hb2
    have hRF2 := hRF.out.up hX2
    have ho2' : X2.ownsRow ((X.alloc (.cells #[.slice Ao m co] 23)).heap.size + 1) 3 1 v (srt o).length (vals (srt o)) := by rw [hsl.out]; exact ho2
    obtain ⟨As, cs, rfl, hRS⟩ := own_row ho2' (by rw [hsl.out]; omega)
    rw [hsl.out]
    have k77 := Lib.hid (c77.out X2 As Af cs cf hRS hRF2)
    have hX3 := Lib.hid (bel_trans hX.out hX2)
    clear hb2 ho2 hX2 hRF2 ho2' hRS
    go_wp2_with fail
    refine k77.out.mono ?_
    rintro x X4 ⟨rfl, hb4⟩
    have hend := Lib.hid (bel_trans hX3.out hb4)
    clear hb4
    go_wp2
    go_ret
    exact ⟨rfl, hend.out⟩
  · have hno : ordB (bl D) o = false := by
      cases hh : ordB (bl D) o with
      | false => rfl
      | true =>
        have := (ord_spec hv hh).1
        rw [fo_len] at e
        rw [hlen] at this
        exact absurd this e
    rw [hno]
    obtain ⟨F, hF⟩ : ∃ F, F = fo (bl D) D.length := ⟨_, rfl⟩
    rw [← hF] at c76 hF12 e
    generalize D.length = n at *
    generalize o.length = m at *
    replace c76 := Lib.hid c76
    replace hv := Lib.hid hv
    replace hF := Lib.hid hF
    replace hlen := Lib.hid hlen
    replace h := Lib.hid h
    replace ho := Lib.hid ho
    go_enter Try.func52, Try.ntmps52
    go_wp2_with fail
    refine c76.out.mono ?_
    rintro x X ⟨v, rfl, hW⟩
    obtain ⟨Af, cf, rfl, hRF⟩ := own_row hW.own (by omega)
    have hX := Lib.hid hW.below
    replace hW := Lib.hid hW
    replace hRF := Lib.hid hRF
    have e' : ¬ (m : Int) = (F.length : Int) := by omega
    generalize F.length = mf at *
    go_wp2
    go_ret
    exact ⟨rfl, hX.out⟩
end Go.Proofs.Ytgjgpcpghglnnaa
