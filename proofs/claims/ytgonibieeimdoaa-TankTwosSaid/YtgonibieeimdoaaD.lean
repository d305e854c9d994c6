/-
  What a deed leads to, whatever deed; which deeds there are; whether two lists are the same.
-/
import Derived.Test.YtgonibieeimdoaaCa
import Derived.Laws.StructEq
namespace Go.Proofs.Ytgonibieeimdoaa
open Go.RowKit Go.Deep M
set_option linter.unusedVariables false
set_option linter.unusedSimpArgs false

theorem four {g : Nat} (h : g < 4) : g = 0 ∨ g = 1 ∨ g = 2 ∨ g = 3 := by omega
theorem ds_split {t l : List Int} {g : Nat} (hv : vT t) (hl : vL t l) (hg : g < t.length) : (1 ≤ el t g ∧ el t g ≤ 12) ∧ (0 ≤ el l g ∧ el l g ≤ el t g) := ⟨hv.2 g hg, hl.2 g hg⟩
theorem stL_fill0 (t l : List Int) (hg : 0 < l.length) : stL (doL t l ⟨1, 0, 0⟩) = stV (el t 0) (el l 1) (el l 2) (el l 3) := by
  have h := fun i => doL_fill t l 0 i hg
  unfold stL
  have e : ((0 : Nat) : Int) = 0 := rfl
  rw [e] at h
  rw [h 0, h 1, h 2, h 3]; rfl
theorem stL_empty0 (t l : List Int) (hg : 0 < l.length) : stL (doL t l ⟨2, 0, 0⟩) = stV 0 (el l 1) (el l 2) (el l 3) := by
  have h := fun i => doL_empty t l 0 i hg
  unfold stL
  have e : ((0 : Nat) : Int) = 0 := rfl
  rw [e] at h
  rw [h 0, h 1, h 2, h 3]; rfl
theorem stL_fill1 (t l : List Int) (hg : 1 < l.length) : stL (doL t l ⟨1, 0, 1⟩) = stV (el l 0) (el t 1) (el l 2) (el l 3) := by
  have h := fun i => doL_fill t l 1 i hg
  unfold stL
  have e : ((1 : Nat) : Int) = 1 := rfl
  rw [e] at h
  rw [h 0, h 1, h 2, h 3]; rfl
theorem stL_empty1 (t l : List Int) (hg : 1 < l.length) : stL (doL t l ⟨2, 0, 1⟩) = stV (el l 0) 0 (el l 2) (el l 3) := by
  have h := fun i => doL_empty t l 1 i hg
  unfold stL
  have e : ((1 : Nat) : Int) = 1 := rfl
  rw [e] at h
  rw [h 0, h 1, h 2, h 3]; rfl
theorem stL_fill2 (t l : List Int) (hg : 2 < l.length) : stL (doL t l ⟨1, 0, 2⟩) = stV (el l 0) (el l 1) (el t 2) (el l 3) := by
  have h := fun i => doL_fill t l 2 i hg
  unfold stL
  have e : ((2 : Nat) : Int) = 2 := rfl
  rw [e] at h
  rw [h 0, h 1, h 2, h 3]; rfl
theorem stL_empty2 (t l : List Int) (hg : 2 < l.length) : stL (doL t l ⟨2, 0, 2⟩) = stV (el l 0) (el l 1) 0 (el l 3) := by
  have h := fun i => doL_empty t l 2 i hg
  unfold stL
  have e : ((2 : Nat) : Int) = 2 := rfl
  rw [e] at h
  rw [h 0, h 1, h 2, h 3]; rfl
theorem stL_fill3 (t l : List Int) (hg : 3 < l.length) : stL (doL t l ⟨1, 0, 3⟩) = stV (el l 0) (el l 1) (el l 2) (el t 3) := by
  have h := fun i => doL_fill t l 3 i hg
  unfold stL
  have e : ((3 : Nat) : Int) = 3 := rfl
  rw [e] at h
  rw [h 0, h 1, h 2, h 3]; rfl
theorem stL_empty3 (t l : List Int) (hg : 3 < l.length) : stL (doL t l ⟨2, 0, 3⟩) = stV (el l 0) (el l 1) (el l 2) 0 := by
  have h := fun i => doL_empty t l 3 i hg
  unfold stL
  have e : ((3 : Nat) : Int) = 3 := rfl
  rw [e] at h
  rw [h 0, h 1, h 2, h 3]; rfl
theorem stL_pour01 (t l : List Int) (hf : 0 < l.length) (hg : 1 < l.length) : stL (doL t l ⟨3, 0, 1⟩) = stV (el l 0 - pd t l 0 1) (el l 1 + pd t l 0 1) (el l 2) (el l 3) := by
  have h := fun i => doL_pour t l 0 1 i hf hg
  unfold stL
  have e : ((0 : Nat) : Int) = 0 := rfl
  have e2 : ((1 : Nat) : Int) = 1 := rfl
  rw [e, e2] at h
  rw [h 0, h 1, h 2, h 3]; rfl
theorem stL_pour02 (t l : List Int) (hf : 0 < l.length) (hg : 2 < l.length) : stL (doL t l ⟨3, 0, 2⟩) = stV (el l 0 - pd t l 0 2) (el l 1) (el l 2 + pd t l 0 2) (el l 3) := by
  have h := fun i => doL_pour t l 0 2 i hf hg
  unfold stL
  have e : ((0 : Nat) : Int) = 0 := rfl
  have e2 : ((2 : Nat) : Int) = 2 := rfl
  rw [e, e2] at h
  rw [h 0, h 1, h 2, h 3]; rfl
theorem stL_pour03 (t l : List Int) (hf : 0 < l.length) (hg : 3 < l.length) : stL (doL t l ⟨3, 0, 3⟩) = stV (el l 0 - pd t l 0 3) (el l 1) (el l 2) (el l 3 + pd t l 0 3) := by
  have h := fun i => doL_pour t l 0 3 i hf hg
  unfold stL
  have e : ((0 : Nat) : Int) = 0 := rfl
  have e2 : ((3 : Nat) : Int) = 3 := rfl
  rw [e, e2] at h
  rw [h 0, h 1, h 2, h 3]; rfl
theorem stL_pour10 (t l : List Int) (hf : 1 < l.length) (hg : 0 < l.length) : stL (doL t l ⟨3, 1, 0⟩) = stV (el l 0 + pd t l 1 0) (el l 1 - pd t l 1 0) (el l 2) (el l 3) := by
  have h := fun i => doL_pour t l 1 0 i hf hg
  unfold stL
  have e : ((1 : Nat) : Int) = 1 := rfl
  have e2 : ((0 : Nat) : Int) = 0 := rfl
  rw [e, e2] at h
  rw [h 0, h 1, h 2, h 3]; rfl
theorem stL_pour12 (t l : List Int) (hf : 1 < l.length) (hg : 2 < l.length) : stL (doL t l ⟨3, 1, 2⟩) = stV (el l 0) (el l 1 - pd t l 1 2) (el l 2 + pd t l 1 2) (el l 3) := by
  have h := fun i => doL_pour t l 1 2 i hf hg
  unfold stL
  have e : ((1 : Nat) : Int) = 1 := rfl
  have e2 : ((2 : Nat) : Int) = 2 := rfl
  rw [e, e2] at h
  rw [h 0, h 1, h 2, h 3]; rfl
theorem stL_pour13 (t l : List Int) (hf : 1 < l.length) (hg : 3 < l.length) : stL (doL t l ⟨3, 1, 3⟩) = stV (el l 0) (el l 1 - pd t l 1 3) (el l 2) (el l 3 + pd t l 1 3) := by
  have h := fun i => doL_pour t l 1 3 i hf hg
  unfold stL
  have e : ((1 : Nat) : Int) = 1 := rfl
  have e2 : ((3 : Nat) : Int) = 3 := rfl
  rw [e, e2] at h
  rw [h 0, h 1, h 2, h 3]; rfl
theorem stL_pour20 (t l : List Int) (hf : 2 < l.length) (hg : 0 < l.length) : stL (doL t l ⟨3, 2, 0⟩) = stV (el l 0 + pd t l 2 0) (el l 1) (el l 2 - pd t l 2 0) (el l 3) := by
  have h := fun i => doL_pour t l 2 0 i hf hg
  unfold stL
  have e : ((2 : Nat) : Int) = 2 := rfl
  have e2 : ((0 : Nat) : Int) = 0 := rfl
  rw [e, e2] at h
  rw [h 0, h 1, h 2, h 3]; rfl
theorem stL_pour21 (t l : List Int) (hf : 2 < l.length) (hg : 1 < l.length) : stL (doL t l ⟨3, 2, 1⟩) = stV (el l 0) (el l 1 + pd t l 2 1) (el l 2 - pd t l 2 1) (el l 3) := by
  have h := fun i => doL_pour t l 2 1 i hf hg
  unfold stL
  have e : ((2 : Nat) : Int) = 2 := rfl
  have e2 : ((1 : Nat) : Int) = 1 := rfl
  rw [e, e2] at h
  rw [h 0, h 1, h 2, h 3]; rfl
theorem stL_pour23 (t l : List Int) (hf : 2 < l.length) (hg : 3 < l.length) : stL (doL t l ⟨3, 2, 3⟩) = stV (el l 0) (el l 1) (el l 2 - pd t l 2 3) (el l 3 + pd t l 2 3) := by
  have h := fun i => doL_pour t l 2 3 i hf hg
  unfold stL
  have e : ((2 : Nat) : Int) = 2 := rfl
  have e2 : ((3 : Nat) : Int) = 3 := rfl
  rw [e, e2] at h
  rw [h 0, h 1, h 2, h 3]; rfl
theorem stL_pour30 (t l : List Int) (hf : 3 < l.length) (hg : 0 < l.length) : stL (doL t l ⟨3, 3, 0⟩) = stV (el l 0 + pd t l 3 0) (el l 1) (el l 2) (el l 3 - pd t l 3 0) := by
  have h := fun i => doL_pour t l 3 0 i hf hg
  unfold stL
  have e : ((3 : Nat) : Int) = 3 := rfl
  have e2 : ((0 : Nat) : Int) = 0 := rfl
  rw [e, e2] at h
  rw [h 0, h 1, h 2, h 3]; rfl
theorem stL_pour31 (t l : List Int) (hf : 3 < l.length) (hg : 1 < l.length) : stL (doL t l ⟨3, 3, 1⟩) = stV (el l 0) (el l 1 + pd t l 3 1) (el l 2) (el l 3 - pd t l 3 1) := by
  have h := fun i => doL_pour t l 3 1 i hf hg
  unfold stL
  have e : ((3 : Nat) : Int) = 3 := rfl
  have e2 : ((1 : Nat) : Int) = 1 := rfl
  rw [e, e2] at h
  rw [h 0, h 1, h 2, h 3]; rfl
theorem stL_pour32 (t l : List Int) (hf : 3 < l.length) (hg : 2 < l.length) : stL (doL t l ⟨3, 3, 2⟩) = stV (el l 0) (el l 1) (el l 2 + pd t l 3 2) (el l 3 - pd t l 3 2) := by
  have h := fun i => doL_pour t l 3 2 i hf hg
  unfold stL
  have e : ((3 : Nat) : Int) = 3 := rfl
  have e2 : ((2 : Nat) : Int) = 2 := rfl
  rw [e, e2] at h
  rw [h 0, h 1, h 2, h 3]; rfl

theorem cell0 {w : World} {b o : Nat} {v : Value} (h : w.cell? ⟨b, o + 0, none⟩ = some v) : w.cell? ⟨b, o, none⟩ = some v := by rwa [Nat.add_zero] at h
set_option maxHeartbeats 1000000 in
theorem does_any (B : Nat) (A : Option Addr) (c : Nat) (t l : List Int) (x : Dd) (w : World) (h : Row w B A t) (hB : B ≤ w.heap.size) (hv : vT t) (hl : vL t l) (hx : isD t.length x) :
    Calls Try.prog 58 #[.slice A t.length c, stL l, ddV x] w fun e w' => e = .returned (stL (doL t l x)) ∧ Below w.heap.size w w' := by
  have h4 := hv.1.2
  have hll := hl.1
  obtain ⟨b, o, rfl, hb, hc⟩ := h.2 (by have := hv.1.1; omega)
  have hb' : b < w.heap.size := by omega
  rcases isD_cases hx with ⟨g, hg, rfl⟩ | ⟨g, hg, rfl⟩ | ⟨f, g, hf, hg, hn, rfl⟩
  · rcases four (by omega : g < 4) with rfl | rfl | rfl | rfl
    · exact (does_fill0 b o c t.length w (el l 0) (el l 1) (el l 2) (el l 3) (el t 0) hb' hg h4 (cell0 (hc 0 hg))).mono fun e w' he => ⟨he.1.trans (congrArg _ (stL_fill0 t l (by omega)).symm), he.2⟩
    · exact (does_fill1 b o c t.length w (el l 0) (el l 1) (el l 2) (el l 3) (el t 1) hb' hg h4 (hc 1 hg)).mono fun e w' he => ⟨he.1.trans (congrArg _ (stL_fill1 t l (by omega)).symm), he.2⟩
    · exact (does_fill2 b o c t.length w (el l 0) (el l 1) (el l 2) (el l 3) (el t 2) hb' hg h4 (hc 2 hg)).mono fun e w' he => ⟨he.1.trans (congrArg _ (stL_fill2 t l (by omega)).symm), he.2⟩
    · exact (does_fill3 b o c t.length w (el l 0) (el l 1) (el l 2) (el l 3) (el t 3) hb' hg h4 (hc 3 hg)).mono fun e w' he => ⟨he.1.trans (congrArg _ (stL_fill3 t l (by omega)).symm), he.2⟩
  · rcases four (by omega : g < 4) with rfl | rfl | rfl | rfl
    · exact (does_empty0 (some ⟨b, o, none⟩) c t.length w (el l 0) (el l 1) (el l 2) (el l 3)).mono fun e w' he => ⟨he.1.trans (congrArg _ (stL_empty0 t l (by omega)).symm), he.2⟩
    · exact (does_empty1 (some ⟨b, o, none⟩) c t.length w (el l 0) (el l 1) (el l 2) (el l 3)).mono fun e w' he => ⟨he.1.trans (congrArg _ (stL_empty1 t l (by omega)).symm), he.2⟩
    · exact (does_empty2 (some ⟨b, o, none⟩) c t.length w (el l 0) (el l 1) (el l 2) (el l 3)).mono fun e w' he => ⟨he.1.trans (congrArg _ (stL_empty2 t l (by omega)).symm), he.2⟩
    · exact (does_empty3 (some ⟨b, o, none⟩) c t.length w (el l 0) (el l 1) (el l 2) (el l 3)).mono fun e w' he => ⟨he.1.trans (congrArg _ (stL_empty3 t l (by omega)).symm), he.2⟩
  · obtain ⟨h1, h2⟩ := ds_split hv hl hf
    obtain ⟨h3, h4'⟩ := ds_split hv hl hg
    rcases four (by omega : f < 4) with rfl | rfl | rfl | rfl <;> rcases four (by omega : g < 4) with rfl | rfl | rfl | rfl
    · exact absurd rfl hn
    · exact (does_pour01 b o c t.length w (el l 0) (el l 1) (el l 2) (el l 3) (el t 1) (pd t l 0 1) rfl hb' hg h4 (hc 1 hg) h3 ⟨h2.1, by omega⟩ h4').mono fun e w' he => ⟨he.1.trans (congrArg _ (stL_pour01 t l (by omega) (by omega)).symm), he.2⟩
    · exact (does_pour02 b o c t.length w (el l 0) (el l 1) (el l 2) (el l 3) (el t 2) (pd t l 0 2) rfl hb' hg h4 (hc 2 hg) h3 ⟨h2.1, by omega⟩ h4').mono fun e w' he => ⟨he.1.trans (congrArg _ (stL_pour02 t l (by omega) (by omega)).symm), he.2⟩
    · exact (does_pour03 b o c t.length w (el l 0) (el l 1) (el l 2) (el l 3) (el t 3) (pd t l 0 3) rfl hb' hg h4 (hc 3 hg) h3 ⟨h2.1, by omega⟩ h4').mono fun e w' he => ⟨he.1.trans (congrArg _ (stL_pour03 t l (by omega) (by omega)).symm), he.2⟩
    · exact (does_pour10 b o c t.length w (el l 0) (el l 1) (el l 2) (el l 3) (el t 0) (pd t l 1 0) rfl hb' hf h4 (cell0 (hc 0 hg)) h3 ⟨h2.1, by omega⟩ h4').mono fun e w' he => ⟨he.1.trans (congrArg _ (stL_pour10 t l (by omega) (by omega)).symm), he.2⟩
    · exact absurd rfl hn
    · exact (does_pour12 b o c t.length w (el l 0) (el l 1) (el l 2) (el l 3) (el t 2) (pd t l 1 2) rfl hb' hg h4 (hc 2 hg) h3 ⟨h2.1, by omega⟩ h4').mono fun e w' he => ⟨he.1.trans (congrArg _ (stL_pour12 t l (by omega) (by omega)).symm), he.2⟩
    · exact (does_pour13 b o c t.length w (el l 0) (el l 1) (el l 2) (el l 3) (el t 3) (pd t l 1 3) rfl hb' hg h4 (hc 3 hg) h3 ⟨h2.1, by omega⟩ h4').mono fun e w' he => ⟨he.1.trans (congrArg _ (stL_pour13 t l (by omega) (by omega)).symm), he.2⟩
    · exact (does_pour20 b o c t.length w (el l 0) (el l 1) (el l 2) (el l 3) (el t 0) (pd t l 2 0) rfl hb' hf h4 (cell0 (hc 0 hg)) h3 ⟨h2.1, by omega⟩ h4').mono fun e w' he => ⟨he.1.trans (congrArg _ (stL_pour20 t l (by omega) (by omega)).symm), he.2⟩
    · exact (does_pour21 b o c t.length w (el l 0) (el l 1) (el l 2) (el l 3) (el t 1) (pd t l 2 1) rfl hb' hf h4 (hc 1 hg) h3 ⟨h2.1, by omega⟩ h4').mono fun e w' he => ⟨he.1.trans (congrArg _ (stL_pour21 t l (by omega) (by omega)).symm), he.2⟩
    · exact absurd rfl hn
    · exact (does_pour23 b o c t.length w (el l 0) (el l 1) (el l 2) (el l 3) (el t 3) (pd t l 2 3) rfl hb' hg h4 (hc 3 hg) h3 ⟨h2.1, by omega⟩ h4').mono fun e w' he => ⟨he.1.trans (congrArg _ (stL_pour23 t l (by omega) (by omega)).symm), he.2⟩
    · exact (does_pour30 b o c t.length w (el l 0) (el l 1) (el l 2) (el l 3) (el t 0) (pd t l 3 0) rfl hb' hf h4 (cell0 (hc 0 hg)) h3 ⟨h2.1, by omega⟩ h4').mono fun e w' he => ⟨he.1.trans (congrArg _ (stL_pour30 t l (by omega) (by omega)).symm), he.2⟩
    · exact (does_pour31 b o c t.length w (el l 0) (el l 1) (el l 2) (el l 3) (el t 1) (pd t l 3 1) rfl hb' hf h4 (hc 1 hg) h3 ⟨h2.1, by omega⟩ h4').mono fun e w' he => ⟨he.1.trans (congrArg _ (stL_pour31 t l (by omega) (by omega)).symm), he.2⟩
    · exact (does_pour32 b o c t.length w (el l 0) (el l 1) (el l 2) (el l 3) (el t 2) (pd t l 3 2) rfl hb' hf h4 (hc 2 hg) h3 ⟨h2.1, by omega⟩ h4').mono fun e w' he => ⟨he.1.trans (congrArg _ (stL_pour32 t l (by omega) (by omega)).symm), he.2⟩
    · exact absurd rfl hn
end Go.Proofs.Ytgonibieeimdoaa
