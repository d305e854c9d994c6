/-
  What a window that came in is in memory; whether a window is open at an hour, as the laws ask.
-/
import Derived.Test.YtlnpnfjdcnijhaaK
import Derived.Test.YtlnpnfjdcnijhaaS
namespace Go.Proofs.Ytlnpnfjdcnijhaa
open Go.Joins Go.ChangeShapes Go.WideShapes Go.ChangeAt Go.RowKit Go.Deep M
set_option linter.unusedVariables false
set_option linter.unusedSimpArgs false

theorem cells24 : Try.prog.cellsOf 24 = 2 := by kernel_rfl
set_option maxRecDepth 100000 in
/-- A WINDOW THAT CAME IN. -/
theorem wn_in {H : Type} {enc : TypeId × Value → H} {W : World} {v : Value} {d : DataW H} {p : List MemPlace} {b0 : Nat} (hv : Value.okWide Try.prog W .any b0 24 v) (h : DataW.Trod enc Try.prog W 0 (fun _ => true) true 24 v d p) :
    ∃ (A : Option Addr) (c : Nat) (x : Wn), v = wnV x.p A x.hs.length c ∧ Row W W.heap.size A x.hs := by
  obtain ⟨v0, v1, y0, y1, m, rfl, _, _, h0, h1⟩ := open_agg2 Try.underlying24 (by kernel_rfl) cells24 hv h
  obtain ⟨P, e0, _, _⟩ := DataW.trod_int Try.underlying3 h0
  obtain rfl : v0 = .int .i64 P := by simpa using e0
  obtain ⟨A, n, c, l, rfl, rfl, hl⟩ := row_of h1
  exact ⟨A, c, ⟨P, l⟩, rfl, hl⟩

theorem opens_any (B : Nat) (A : Option Addr) (c : Nat) (x : Wn) (hour : Int) (w : World) (h : Row w B A x.hs) (hB : B ≤ w.heap.size) :
    Calls Try.prog 57 #[wnV x.p A x.hs.length c, .int .i64 hour] w fun e w' => e = .returned (.tuple #[.bool (openR x hour).1, .bool ((openR x hour).2 == 0)]) ∧ Below w.heap.size w w' := by
  have h63 := h.1
  have hW := onW_new w x.p A x.hs.length c
  have c20 := Open_any B A c x hour _ (h.below (hW.below.mono hB)) (Nat.le_trans hB hW.below.size)
  generalize openR x hour = R at *
  obtain ⟨R1, R2⟩ := R
  have c0 := hW.box.c0
  have c1 := hW.box.c1
  unfold wnV at *
  replace hW := Lib.hid hW
  replace c20 := Lib.hid c20
  go_enter Try.func57, Try.ntmps57
  go_wp2_with fail
  refine c20.out.mono ?_
  rintro e X1 ⟨rfl, hb1⟩
  have hz := hW.out.below.trans (hb1.mono hW.out.below.size)
  go_wp2
  exact bodyPost_ret (v := .tuple #[.bool R1, .bool (R2 == 0)]) (by simp [results, Try.results57, go_sem]) rfl ⟨rfl, hz⟩

namespace M
theorem open_true {x : Wn} {h : Int} (hv : winB x 3600 = true) (h0 : 0 ≤ h) (h9 : h ≤ 1000000000) : openR x h = (opB x h, 0) := by
  unfold openR hourB; rw [hv]; simp [h0, h9]
theorem next_true {x : Wn} {h : Int} (hv : winB x 3600 = true) (h0 : 0 ≤ h) (h9 : h ≤ 1000000000) : nextR x h = nextO x.p.toNat (opB x) h := by
  unfold nextR hourB; rw [hv]; simp [h0, h9]
theorem fstO_spec {p : Nat} {f : Int → Bool} {h : Int} {k : Nat} (e : fstO p f h = some k) : k < p ∧ f (h + k) = true ∧ ∀ j : Nat, j < k → f (h + j) = false := by
  unfold fstO at e
  rw [List.find?_range_eq_some] at e
  obtain ⟨h1, h2, h3⟩ := e
  exact ⟨by simpa using h2, h1, fun j hj => by simpa using h3 j hj⟩
theorem fstO_spec0 {p : Nat} {f : Int → Bool} {h : Int} (e : fstO p f h = none) : ∀ j : Nat, j < p → f (h + j) = false := by
  unfold fstO at e
  rw [List.find?_range_eq_none] at e
  intro j hj
  simpa using e j hj
/-- A window that is never open from an hour on has no hours. -/
theorem never_open {x : Wn} {h : Int} (hv : winB x 3600 = true) (e : fstO x.p.toNat (opB x) h = none) : x.hs.length = 0 := by
  obtain ⟨⟨p1, p2⟩, hg⟩ := winB_iff.1 hv
  rcases Nat.eq_zero_or_pos x.hs.length with h0 | h0
  · exact h0
  · exfalso
    have z0 := gds_pos hg 0 h0
    have z1 := (hg 0 h0).2
    have hm0 := Int.emod_nonneg (el x.hs 0 - h) (show x.p ≠ 0 by omega)
    have hm1 := Int.emod_lt_of_pos (el x.hs 0 - h) (show 0 < x.p by omega)
    obtain ⟨j, hj⟩ := Int.eq_ofNat_of_zero_le hm0
    have := fstO_spec0 e j (by omega)
    unfold opB at this
    rw [decide_eq_false_iff_not] at this
    refine this ⟨0, h0, ?_⟩
    rw [← hj, Int.add_emod, Int.emod_emod_of_dvd _ (Int.dvd_refl _), ← Int.add_emod, show h + (el x.hs 0 - h) = el x.hs 0 by omega]
    exact (Int.emod_eq_of_lt z0 z1).symm
end M
end Go.Proofs.Ytlnpnfjdcnijhaa
