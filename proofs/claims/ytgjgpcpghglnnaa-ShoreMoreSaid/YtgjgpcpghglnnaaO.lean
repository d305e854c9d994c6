/-
  The jobs beach after beach, and the sum of their Hours: the program's functions.
-/
import Derived.Test.YtgjgpcpghglnnaaN
import Derived.Test.YtgjgpcpghglnnaaE
namespace Go.Proofs.Ytgjgpcpghglnnaa
open Go.RowKit Go.Deep M
set_option linter.unusedVariables false
set_option linter.unusedSimpArgs false

set_option maxRecDepth 100000 in
set_option maxHeartbeats 4000000 in
theorem inTurn_any (B : Nat) (A : Option Addr) (c : Nat) (D : List Bc) (w : World) (h : Bcs w B A D) (hB : B ≤ w.heap.size) (hv : vJ (bl D)) :
    Calls Try.prog 59 #[.slice A D.length c] w fun e w' => ∃ g, e = .returned (.slice (some ⟨g, 0, none⟩) (fo (bl D) D.length).length (fo (bl D) D.length).length) ∧ Below w.heap.size w w' ∧ BlV w' g (fo (bl D) D.length).length (vv (bl D) (fo (bl D) D.length)) := by
  have h63 := h.1
  have hlen := bl_len D
  have c76 := first_any B A c D w h hB hv
  have hr := (fo_runs (bl D) D.length (by rw [hlen]; exact Nat.le_refl _)).2
  have h12 : (fo (bl D) D.length).length ≤ 12 := by
    rw [fo_len]; exact Nat.le_trans (tn_mono (bl D) (show D.length ≤ (bl D).length by rw [hlen]; exact Nat.le_refl _)) hv.2.1
  have c61 := fun X (hX : Below w.heap.size w X) Ao co (ho : Row X X.heap.size Ao (fo (bl D) D.length)) => visits_any X.heap.size A Ao c co D (fo (bl D) D.length) X ((h.below (hX.mono hB)).more (Nat.le_trans hB hX.size)) ho (Nat.le_refl _) hv hr h12
  obtain ⟨o, ho⟩ : ∃ o, o = fo (bl D) D.length := ⟨_, rfl⟩
  rw [← ho] at c76 c61 h12 ⊢
  obtain ⟨m, hm⟩ : ∃ m, m = o.length := ⟨_, rfl⟩
  rw [← hm] at c61 h12 ⊢
  generalize D.length = n at *
  replace hlen := Lib.hid hlen
  replace c76 := Lib.hid c76
  replace c61 := Lib.hid c61
  replace ho := Lib.hid ho
  replace hr := Lib.hid hr
  replace hv := Lib.hid hv
  replace h := Lib.hid h
  go_enter Try.func59, Try.ntmps59
  go_wp2_with fail
  refine c76.out.mono ?_
  rintro e X ⟨v, rfl, hX, hown⟩
  obtain ⟨Ao, co, rfl, hro⟩ := own_row hown (by omega)
  rw [← hm]
  have k61 := Lib.hid (c61.out X hX Ao co hro)
  replace hX := Lib.hid hX
  replace hown := Lib.hid hown
  replace hro := Lib.hid hro
  replace hm := Lib.hid hm
  go_wp2_with fail
  refine k61.out.mono ?_
  rintro e X2 ⟨g, rfl, hb2, hV⟩
  have hend := Lib.hid (bel_trans hX.out hb2)
  replace hV := Lib.hid hV
  clear hb2
  go_wp2
  go_ret
  exact ⟨g, rfl, hend.out, hV.out⟩

/-- What Hours answers: the sum and the error. -/
def hoR (J : List (List Jb)) : Int × Int := if valB J = true then (hr J (fo J J.length) (fo J J.length).length, 0) else (0, 60)
set_option maxRecDepth 100000 in
set_option maxHeartbeats 4000000 in
theorem Hours_any (B : Nat) (A : Option Addr) (c : Nat) (D : List Bc) (w : World) (h : Bcs w B A D) (hB : B ≤ w.heap.size) (hL : ∀ i, i < D.length → (be (bl D) i).length ≤ 100) :
    Calls Try.prog 22 #[.slice A D.length c] w fun e w' => e = .returned (.tuple #[.int .i64 (hoR (bl D)).1, .int .i64 (hoR (bl D)).2]) ∧ Below w.heap.size w w' := by
  have h63 := h.1
  have hlen := bl_len D
  have c51 := checked_any B A c D w h hB hL
  unfold errV at c51
  unfold hoR
  by_cases hv : valB (bl D) = true
  · have hvv := val_of hv
    rw [if_pos hv] at c51 ⊢
    have c59 := fun X (hX : Below w.heap.size w X) => inTurn_any B A c D X (h.below (hX.mono hB)) (Nat.le_trans hB hX.size) hvv
    have hrn := (fo_runs (bl D) D.length (by rw [hlen]; exact Nat.le_refl _)).2
    have h12 : (fo (bl D) D.length).length ≤ 12 := by
      rw [fo_len]; exact Nat.le_trans (tn_mono (bl D) (show D.length ≤ (bl D).length by rw [hlen]; exact Nat.le_refl _)) hvv.2.1
    have hrb := hr_b hvv hrn
    have hrs := hr_succ (bl D) (fo (bl D) D.length)
    rw [hlen]
    simp only []
    obtain ⟨o, ho⟩ : ∃ o, o = fo (bl D) D.length := ⟨_, rfl⟩
    rw [← ho] at c59 h12 hrb hrs ⊢
    obtain ⟨m, hm⟩ : ∃ m, m = o.length := ⟨_, rfl⟩
    rw [← hm] at c59 h12 hrb ⊢
    generalize D.length = n at *
    obtain ⟨J, hJ⟩ : ∃ J, J = bl D := ⟨_, rfl⟩
    rw [← hJ] at c59 hrb hrs ⊢
    obtain ⟨R, hR⟩ : ∃ R, R = hr J o m := ⟨_, rfl⟩
    rw [← hR]
    have hz := Lib.hid (show hr J o 0 = 0 from rfl)
    replace hR := Lib.hid hR
    replace hm := Lib.hid hm
    replace ho := Lib.hid ho
    replace hJ := Lib.hid hJ
    replace hlen := Lib.hid hlen
    replace c51 := Lib.hid c51
    replace c59 := Lib.hid c59
    replace hrn := Lib.hid hrn
    replace hrb := Lib.hid hrb
    replace hrs := Lib.hid hrs
    replace hv := Lib.hid hv
    replace hvv := Lib.hid hvv
    replace hL := Lib.hid hL
    replace h := Lib.hid h
    go_enter Try.func22, Try.ntmps22
    go_wp2_with fail
    refine c51.out.mono ?_
    rintro e X1 ⟨rfl, hb1⟩
    have k59 := Lib.hid (c59.out X1 hb1)
    replace hb1 := Lib.hid hb1
    go_wp2_with fail
    refine k59.out.mono ?_
    rintro e X2 ⟨g, rfl, hb2, hV⟩
    have hX2 := Lib.hid (bel_trans hb1.out hb2)
    replace hV := Lib.hid hV
    clear hb2 k59
    go_wp2
    go_loopw [5, 16] (fun s i X => ∃ k : Nat, k ≤ m ∧ i = .int .i64 (k : Nat) ∧ s = .int .i64 (hr J o k) ∧ Below w.heap.size w X ∧ BlV X g m (vv J o)) (fun _ i _ => m - (intOf i).toNat)
    case atStart => exact ⟨0, by omega, rfl, by rw [hz.out], hX2.out, hV.out⟩
    case round =>
      clear hX2 hV
      obtain ⟨k, hk, rfl, rfl, hX, hV⟩ := hrel
      by_cases hlk : k < m
      · have v0 := hV.cell hlk 0 (by omega)
        have v1 := hV.cell hlk 1 (by omega)
        have v2 := hV.cell hlk 2 (by omega)
        have v3 := hV.cell hlk 3 (by omega)
        have hs := hrs.out k
        obtain ⟨m1, m2⟩ := hrb.out k hk
        obtain ⟨m3, m4⟩ := hrb.out (k + 1) (by omega)
        obtain ⟨H, hH⟩ : ∃ H, H = vv J o k 0 := ⟨_, rfl⟩
        obtain ⟨Mm, hMm⟩ : ∃ H, H = vv J o k 1 := ⟨_, rfl⟩
        obtain ⟨Bb, hBb⟩ : ∃ H, H = vv J o k 2 := ⟨_, rfl⟩
        obtain ⟨Dn, hDn⟩ : ∃ H, H = vv J o k 3 := ⟨_, rfl⟩
        have e1 : (jbAt J o k).h = H := by rw [hH]; rfl
        rw [e1] at hs
        rw [← hH] at v0
        rw [← hMm] at v1
        rw [← hBb] at v2
        rw [← hDn] at v3
        rw [Nat.add_zero] at v0
        obtain ⟨S1, hS1⟩ : ∃ S, S = hr J o k := ⟨_, rfl⟩
        obtain ⟨S2, hS2⟩ : ∃ S, S = hr J o (k + 1) := ⟨_, rfl⟩
        rw [← hS1] at hs m1 m2 ⊢
        rw [← hS2] at hs m3 m4
        have hX3 := Lib.hid (bel_trans hX (ba1 wr (.cells #[.int .i64 H, .int .i64 Mm, .int .i64 Bb, .int .i64 Dn] 67)))
        have hV3 := Lib.hid (hV.up (ba1 wr (.cells #[.int .i64 H, .int .i64 Mm, .int .i64 Bb, .int .i64 Dn] 67)))
        have hsi : S1 + H = S2 := hs.symm
        have hP9 : 0 ≤ S1 ∧ S1 ≤ 100000 ∧ 0 ≤ S2 ∧ S2 ≤ 100000 := by omega
        clear m1 m2 m3 m4
        replace hs := Lib.hid hs
        replace e1 := Lib.hid e1
        replace hH := Lib.hid hH
        replace hMm := Lib.hid hMm
        replace hBb := Lib.hid hBb
        replace hDn := Lib.hid hDn
        replace hS1 := Lib.hid hS1
        replace hS2 := Lib.hid hS2
        replace hX := Lib.hid hX
        replace hV := Lib.hid hV
        go_wp2
        go_roundw
        case rel => exact ⟨k + 1, by omega, by go_num, by rw [← hS2.out], hX3.out, hV3.out⟩
        case measure => simp [intOf]; omega
      · have hk' : k = m := by omega
        subst hk'
        rw [← hR.out]
        replace hX := Lib.hid hX
        replace hV := Lib.hid hV
        go_wp2
        exact bodyPost_ret (v := .tuple #[.int .i64 R, .int .i64 0]) (by simp [results, Try.results22, go_sem]) rfl ⟨rfl, hX.out⟩
  · rw [if_neg hv] at c51 ⊢
    simp only []
    generalize D.length = n at *
    replace c51 := Lib.hid c51
    replace hv := Lib.hid hv
    replace hL := Lib.hid hL
    replace hlen := Lib.hid hlen
    replace h := Lib.hid h
    go_enter Try.func22, Try.ntmps22
    go_wp2_with fail
    refine c51.out.mono ?_
    rintro e X1 ⟨rfl, hb1⟩
    replace hb1 := Lib.hid hb1
    go_wp2
    exact bodyPost_ret (v := .tuple #[.int .i64 0, .int .i64 60]) (by simp [results, Try.results22, go_sem]) rfl ⟨rfl, hb1.out⟩
end Go.Proofs.Ytgjgpcpghglnnaa
