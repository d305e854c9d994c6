/-
  Harm: the program's function.
-/
import Derived.Test.YtgjgpcpghglnnaaYc
namespace Go.Proofs.Ytgjgpcpghglnnaa
open Go.RowKit Go.Deep M
set_option linter.unusedVariables false
set_option linter.unusedSimpArgs false

/-- What Harm answers. -/
def haR (J : List (List Jb)) (o : List Int) : Int × Int := if errO J o = 0 then (hm J o o.length, 0) else (0, errO J o)
theorem errO_ok {J : List (List Jb)} {o : List Int} (h : errO J o = 0) : vJ J ∧ ordB J o = true := by
  unfold errO at h
  split at h
  · rename_i hv
    split at h
    · rename_i ho; exact ⟨val_of hv, ho⟩
    · cases h
  · cases h
set_option maxRecDepth 100000 in
set_option maxHeartbeats 4000000 in
theorem Harm_any (B : Nat) (A Ao : Option Addr) (c co : Nat) (D : List Bc) (o : List Int) (w : World) (h : Bcs w B A D) (ho : Row w B Ao o) (hB : B ≤ w.heap.size) (hL : ∀ i, i < D.length → (be (bl D) i).length ≤ 100) :
    Calls Try.prog 20 #[.slice A D.length c, .slice Ao o.length co] w fun e w' => e = .returned (.tuple #[.int .i64 (haR (bl D) o).1, .int .i64 (haR (bl D) o).2]) ∧ Below w.heap.size w w' := by
  have h63 := h.1
  have ho63 := ho.1
  have c55 := checkedOrder_any B A Ao c co D o w h ho hB hL
  unfold haR
  by_cases he : errO (bl D) o = 0
  · rw [if_pos he]
    rw [he] at c55
    simp only []
    obtain ⟨hv, hor⟩ := errO_ok he
    obtain ⟨-, h12, -, -, hrn⟩ := ord_spec hv hor
    have c56 := fun X (hX : Below w.heap.size w X) => harm_any B A Ao c co D o X (h.below (hX.mono hB)) (ho.below (hX.mono hB)) (Nat.le_trans hB hX.size) hv hrn h12
    obtain ⟨R, hR⟩ : ∃ R, R = hm (bl D) o o.length := ⟨_, rfl⟩
    rw [← hR] at c56 ⊢
    generalize D.length = n at *
    generalize o.length = m at *
    replace hR := Lib.hid hR
    replace he := Lib.hid he
    replace c55 := Lib.hid c55
    replace c56 := Lib.hid c56
    replace hv := Lib.hid hv
    replace hor := Lib.hid hor
    replace hrn := Lib.hid hrn
    replace hL := Lib.hid hL
    replace h := Lib.hid h
    replace ho := Lib.hid ho
    go_enter Try.func20, Try.ntmps20
    go_wp2_with fail
    refine c55.out.mono ?_
    rintro e X1 ⟨rfl, hb1⟩
    have k56 := Lib.hid (c56.out X1 hb1)
    replace hb1 := Lib.hid hb1
    go_wp2_with fail
    refine k56.out.mono ?_
    rintro e X2 ⟨rfl, hb2⟩
    have hend := Lib.hid (bel_trans hb1.out hb2)
    clear hb2
    go_wp2
    exact bodyPost_ret (v := .tuple #[.int .i64 R, .int .i64 0]) (by simp [results, Try.results20, go_sem]) rfl ⟨rfl, hend.out⟩
  · rw [if_neg he]
    simp only []
    obtain ⟨E, hE⟩ : ∃ E, E = errO (bl D) o := ⟨_, rfl⟩
    rw [← hE] at c55 he ⊢
    generalize D.length = n at *
    generalize o.length = m at *
    replace hE := Lib.hid hE
    replace c55 := Lib.hid c55
    replace hL := Lib.hid hL
    replace h := Lib.hid h
    replace ho := Lib.hid ho
    go_enter Try.func20, Try.ntmps20
    go_wp2_with fail
    refine c55.out.mono ?_
    rintro e X1 ⟨rfl, hb1⟩
    replace hb1 := Lib.hid hb1
    go_wp2
    exact bodyPost_ret (v := .tuple #[.int .i64 0, .int .i64 E]) (by simp [results, Try.results20, go_sem]) rfl ⟨rfl, hb1.out⟩
end Go.Proofs.Ytgjgpcpghglnnaa
