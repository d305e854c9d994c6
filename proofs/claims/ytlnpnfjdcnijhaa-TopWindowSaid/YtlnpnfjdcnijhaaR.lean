/-
  Open and Next of the program.
-/
import Derived.Test.YtlnpnfjdcnijhaaQ
import Derived.Test.YtlnpnfjdcnijhaaE
namespace Go.Proofs.Ytlnpnfjdcnijhaa
open Go.RowKit Go.Deep M
set_option linter.unusedVariables false
set_option linter.unusedSimpArgs false

namespace M
def nextR (x : Wn) (h : Int) : Int × Int := if winB x 3600 = true then (if hourB h = true then nextO x.p.toNat (opB x) h else (0, 2)) else (0, 50)
def openR (x : Wn) (h : Int) : Bool × Int := if winB x 3600 = true then (if hourB h = true then (opB x h, 0) else (false, 2)) else (false, 50)
end M
theorem run_fld (p : Int) (g : FuncId) (caps : Array Value) (w : World) : (Instr.field 74 (.agg #[.int .i64 p, .func (Fn.func g) #[] caps]) 1).run Try.prog w = .ok (.func (Fn.func g) #[] caps) w := by
  simp [Instr.field, asAgg, go_sem]
attribute [local go_sem high] run_fld
/-- The world in which a function of one window begins. -/
structure OnW (w : World) (p : Int) (A : Option Addr) (n c : Nat) (X : World) : Prop where
  below : Below w.heap.size w X
  box : BxW X w.heap.size p A n c
theorem onW_new (w : World) (p : Int) (A : Option Addr) (n c : Nat) : OnW w p A n c (w.alloc (.cells #[.int .i64 p, .slice A n c] 24)) := ⟨ba1 _ _, BxW.new w p A n c⟩
theorem OnW.up {w X Y : World} {p : Int} {A : Option Addr} {n c : Nat} (h : OnW w p A n c X) (hb : Below X.heap.size X Y) : OnW w p A n c Y := ⟨h.below.trans (hb.mono h.below.size), h.box.up hb⟩
theorem OnW.drew {w X : World} {p : Int} {A : Option Addr} {n c : Nat} (h : OnW w p A n c X) : OnW w p A n c X.drew := ⟨below_drew h.below, h.box⟩
theorem OnW.cells {w X : World} {p : Int} {A : Option Addr} {n c : Nat} (h : OnW w p A n c X) : X.cell? ⟨w.heap.size, 0, none⟩ = some (.int .i64 p) ∧ X.cell? ⟨w.heap.size, 1, none⟩ = some (.slice A n c) := ⟨h.box.c0, h.box.c1⟩
/-- The first error of one window. -/
theorem chk_one {B : Nat} {A : Option Addr} {c : Nat} {x : Wn} {w X : World} (h : Row w B A x.hs) (hB : B ≤ w.heap.size) (hX : OnW w x.p A x.hs.length c X) (fits : Bool) (most : Int) (hm : most ≤ 1000000) :
    Calls Try.prog 63 #[.int .i64 most, .bool fits, .slice (some ⟨X.heap.size, 0, none⟩) 1 1] (X.alloc (.cells #[.int .i64 x.p, .slice A x.hs.length c] 24)) fun e w' => e = .returned (.int .i64 (errW [⟨x, A, c⟩] most fits)) ∧ OnW w x.p A x.hs.length c w' := by
  have hr := h.below (hX.below.mono hB)
  have hBX := Nat.le_trans hB hX.below.size
  have hw := wds1 (w := X) ⟨x, A, c⟩ hr hBX
  have hb := ba1 X (.cells #[.int .i64 x.p, .slice A x.hs.length c] 24)
  have := checkedW_any (X.heap.size + 1) _ 1 [⟨x, A, c⟩] most fits _ hw (by simp) hm
  exact this.mono fun e w' ⟨he, hb'⟩ => ⟨he, (hX.up hb).up hb'⟩

set_option maxRecDepth 100000 in
set_option maxHeartbeats 1000000 in
theorem Next_any (B : Nat) (A : Option Addr) (c : Nat) (x : Wn) (hour : Int) (w : World) (h : Row w B A x.hs) (hB : B ≤ w.heap.size) :
    Calls Try.prog 22 #[wnV x.p A x.hs.length c, .int .i64 hour] w fun e w' => e = .returned (.tuple #[.int .i64 (nextR x hour).1, .int .i64 (nextR x hour).2]) ∧ Below w.heap.size w w' := by
  have h63 := h.1
  have hW := onW_new w x.p A x.hs.length c
  have c64 : ∀ W, _ := fun W => isHour_any hour W
  have c63 : ∀ X, OnW w x.p A x.hs.length c X → _ := fun X hX => chk_one h hB hX (hourB hour) 3600 (by omega)
  have hbad : winB x 3600 = false → errW [⟨x, A, c⟩] 3600 (hourB hour) = 50 ∧ nextR x hour = (0, 50) := fun hv => by
    unfold errW nextR; rw [wnsB1, hv]; simp
  have harg : winB x 3600 = true → hourB hour = false → errW [⟨x, A, c⟩] 3600 (hourB hour) = 2 ∧ nextR x hour = (0, 2) := fun hv hh => by
    unfold errW nextR; rw [wnsB1, hv, hh]; simp
  have hgood : winB x 3600 = true → hourB hour = true → errW [⟨x, A, c⟩] 3600 (hourB hour) = 0 ∧ nextR x hour = nextO x.p.toNat (opB x) hour := fun hv hh => by
    unfold errW nextR; rw [wnsB1, hv, hh]; simp
  have hop : winB x 3600 = true → ∀ X, OnW w x.p A x.hs.length c X → _ := fun hv X hX => openingOf_any B A c x X (h.below (hX.below.mono hB)) (Nat.le_trans hB hX.below.size) hv
  have c63' := c63 _ hW.drew
  rw [show ((w.alloc (.cells #[.int .i64 x.p, .slice A x.hs.length c] 24)).drew).heap.size = w.heap.size + 1 by simp] at c63'
  rw [show ((w.alloc (.cells #[.int .i64 x.p, .slice A x.hs.length c] 24)).drew).alloc (.cells #[.int .i64 x.p, .slice A x.hs.length c] 24) = ((w.alloc (.cells #[.int .i64 x.p, .slice A x.hs.length c] 24)).alloc (.cells #[.int .i64 x.p, .slice A x.hs.length c] 24)).drew from rfl] at c63'
  clear c63
  generalize errW [⟨x, A, c⟩] 3600 (hourB hour) = er at *
  generalize nextR x hour = R at *
  obtain ⟨R1, R2⟩ := R
  unfold wnV at *
  have hWd := hW.drew
  have k0 := hWd.cells
  have k1 := (hW.up (ba1 _ (.cells #[.int .i64 x.p, .slice A x.hs.length c] 24))).drew.cells
  have c0 := hW.box.c0
  have c1 := hW.box.c1
  generalize hq : hourB hour = q at *
  replace hW := Lib.hid hW
  replace hWd := Lib.hid hWd
  replace hbad := Lib.hid hbad
  replace harg := Lib.hid harg
  replace hgood := Lib.hid hgood
  replace c63' := Lib.hid c63'
  replace c64 := Lib.hid c64
  replace hop := Lib.hid hop
  go_enter Try.func22, Try.ntmps22
  go_wp2
  go_region_held3 (fun X => X.cell? ⟨w.heap.size, 0, none⟩ = some (.int .i64 x.p) ∧ X.cell? ⟨w.heap.size, 1, none⟩ = some (.slice A x.hs.length c))
    (first | with_reducible exact k0 | with_reducible exact k1 | with_reducible exact k2)
    (first | (go_at_call 64; refine (c64.out _).mono ?_; rintro _ X1 ⟨rfl, rfl⟩) | (go_at_call 63; refine c63'.out.mono ?_; rintro _ X2 ⟨rfl, hX2⟩; have k2 := hX2.cells))
  all_goals
    have f0 := hX2.box.c0
    have f1 := hX2.box.c1
    cases hv : winB x 3600 with
    | false =>
      obtain ⟨rfl, hR⟩ := hbad.out hv
      obtain ⟨rfl, rfl⟩ : R1 = 0 ∧ R2 = 50 := by simpa using hR
      clear hR
      replace hv := Lib.hid hv
      replace hX2 := Lib.hid hX2
      go_wp2
      exact bodyPost_ret (v := .tuple #[.int .i64 0, .int .i64 50]) (by simp [results, Try.results22, go_sem]) rfl ⟨rfl, hX2.out.below⟩
    | true =>
      cases q with
      | false =>
        obtain ⟨rfl, hR⟩ := harg.out hv rfl
        obtain ⟨rfl, rfl⟩ : R1 = 0 ∧ R2 = 2 := by simpa using hR
        clear hR
        replace hv := Lib.hid hv
        replace hX2 := Lib.hid hX2
        go_wp2
        exact bodyPost_ret (v := .tuple #[.int .i64 0, .int .i64 2]) (by simp [results, Try.results22, go_sem]) rfl ⟨rfl, hX2.out.below⟩
      | true =>
        obtain ⟨rfl, hR⟩ := hgood.out hv rfl
        have ho := Lib.hid (hop.out hv _ hX2)
        obtain ⟨⟨p1, p2⟩, _⟩ := winB_iff.1 hv
        obtain ⟨p, hp⟩ := Int.eq_ofNat_of_zero_le (show 0 ≤ x.p by omega)
        have hqq := hq
        unfold hourB at hqq
        simp only [Bool.and_eq_true, decide_eq_true_eq] at hqq
        have hp9 : p ≤ 1000000 := by omega
        replace hp := Lib.hid hp
        replace hv := Lib.hid hv
        replace hX2 := Lib.hid hX2
        replace hq := Lib.hid hq
        replace hR := Lib.hid hR
        go_wp2_with fail
        refine ho.out.mono ?_
        rintro e X3 ⟨F, rfl, hb3, hO⟩
        have hnx := next_any X3.heap.size p F (opB x) hour X3 hO (Nat.le_refl _) hp9 hqq
        have hR2 := hR.out
        rw [hp.out, Int.toNat_natCast] at hR2
        rw [← hR2, ← hp.out] at hnx
        simp only [] at hnx
        replace hnx := Lib.hid hnx
        replace hO := Lib.hid hO
        go_wp2_with fail
        refine hnx.out.mono ?_
        rintro e X4 ⟨rfl, hb4⟩
        have hz := hX2.out.below.trans ((hb3.trans (hb4.mono hb3.size)).mono hX2.out.below.size)
        go_wp2
        exact bodyPost_ret (v := .tuple #[.int .i64 R1, .int .i64 R2]) (by simp [results, Try.results22, go_sem]) rfl ⟨rfl, hz⟩
set_option maxRecDepth 100000 in
set_option maxHeartbeats 1000000 in
theorem Open_any (B : Nat) (A : Option Addr) (c : Nat) (x : Wn) (hour : Int) (w : World) (h : Row w B A x.hs) (hB : B ≤ w.heap.size) :
    Calls Try.prog 20 #[wnV x.p A x.hs.length c, .int .i64 hour] w fun e w' => e = .returned (.tuple #[.bool (openR x hour).1, .int .i64 (openR x hour).2]) ∧ Below w.heap.size w w' := by
  have h63 := h.1
  have hW := onW_new w x.p A x.hs.length c
  have c64 : ∀ W, _ := fun W => isHour_any hour W
  have c63 : ∀ X, OnW w x.p A x.hs.length c X → _ := fun X hX => chk_one h hB hX (hourB hour) 3600 (by omega)
  have hbad : winB x 3600 = false → errW [⟨x, A, c⟩] 3600 (hourB hour) = 50 ∧ openR x hour = (false, 50) := fun hv => by
    unfold errW openR; rw [wnsB1, hv]; simp
  have harg : winB x 3600 = true → hourB hour = false → errW [⟨x, A, c⟩] 3600 (hourB hour) = 2 ∧ openR x hour = (false, 2) := fun hv hh => by
    unfold errW openR; rw [wnsB1, hv, hh]; simp
  have hgood : winB x 3600 = true → hourB hour = true → errW [⟨x, A, c⟩] 3600 (hourB hour) = 0 ∧ openR x hour = (opB x hour, 0) := fun hv hh => by
    unfold errW openR; rw [wnsB1, hv, hh]; simp
  have hop : winB x 3600 = true → ∀ X, OnW w x.p A x.hs.length c X → _ := fun hv X hX => openingOf_any B A c x X (h.below (hX.below.mono hB)) (Nat.le_trans hB hX.below.size) hv
  have c63' := c63 _ hW.drew
  rw [show ((w.alloc (.cells #[.int .i64 x.p, .slice A x.hs.length c] 24)).drew).heap.size = w.heap.size + 1 by simp] at c63'
  rw [show ((w.alloc (.cells #[.int .i64 x.p, .slice A x.hs.length c] 24)).drew).alloc (.cells #[.int .i64 x.p, .slice A x.hs.length c] 24) = ((w.alloc (.cells #[.int .i64 x.p, .slice A x.hs.length c] 24)).alloc (.cells #[.int .i64 x.p, .slice A x.hs.length c] 24)).drew from rfl] at c63'
  clear c63
  generalize errW [⟨x, A, c⟩] 3600 (hourB hour) = er at *
  generalize openR x hour = R at *
  obtain ⟨R1, R2⟩ := R
  unfold wnV at *
  have hWd := hW.drew
  have k0 := hWd.cells
  have k1 := (hW.up (ba1 _ (.cells #[.int .i64 x.p, .slice A x.hs.length c] 24))).drew.cells
  have c0 := hW.box.c0
  have c1 := hW.box.c1
  generalize hq : hourB hour = q at *
  replace hW := Lib.hid hW
  replace hWd := Lib.hid hWd
  replace hbad := Lib.hid hbad
  replace harg := Lib.hid harg
  replace hgood := Lib.hid hgood
  replace c63' := Lib.hid c63'
  replace c64 := Lib.hid c64
  replace hop := Lib.hid hop
  go_enter Try.func20, Try.ntmps20
  go_wp2
  go_region_held3 (fun X => X.cell? ⟨w.heap.size, 0, none⟩ = some (.int .i64 x.p) ∧ X.cell? ⟨w.heap.size, 1, none⟩ = some (.slice A x.hs.length c))
    (first | with_reducible exact k0 | with_reducible exact k1 | with_reducible exact k2)
    (first | (go_at_call 64; refine (c64.out _).mono ?_; rintro _ X1 ⟨rfl, rfl⟩) | (go_at_call 63; refine c63'.out.mono ?_; rintro _ X2 ⟨rfl, hX2⟩; have k2 := hX2.cells))
  all_goals
    have f0 := hX2.box.c0
    have f1 := hX2.box.c1
    cases hv : winB x 3600 with
    | false =>
      obtain ⟨rfl, hR⟩ := hbad.out hv
      obtain ⟨rfl, rfl⟩ : R1 = false ∧ R2 = 50 := by simpa using hR
      clear hR
      replace hv := Lib.hid hv
      replace hX2 := Lib.hid hX2
      go_wp2
      exact bodyPost_ret (v := .tuple #[.bool false, .int .i64 50]) (by simp [results, Try.results20, go_sem]) rfl ⟨rfl, hX2.out.below⟩
    | true =>
      cases q with
      | false =>
        obtain ⟨rfl, hR⟩ := harg.out hv rfl
        obtain ⟨rfl, rfl⟩ : R1 = false ∧ R2 = 2 := by simpa using hR
        clear hR
        replace hv := Lib.hid hv
        replace hX2 := Lib.hid hX2
        go_wp2
        exact bodyPost_ret (v := .tuple #[.bool false, .int .i64 2]) (by simp [results, Try.results20, go_sem]) rfl ⟨rfl, hX2.out.below⟩
      | true =>
        obtain ⟨rfl, hR⟩ := hgood.out hv rfl
        have ho := Lib.hid (hop.out hv _ hX2)
        obtain ⟨⟨p1, p2⟩, _⟩ := winB_iff.1 hv
        obtain ⟨p, hp⟩ := Int.eq_ofNat_of_zero_le (show 0 ≤ x.p by omega)
        have hqq := hq
        unfold hourB at hqq
        simp only [Bool.and_eq_true, decide_eq_true_eq] at hqq
        have hp9 : p ≤ 1000000 := by omega
        replace hp := Lib.hid hp
        replace hv := Lib.hid hv
        replace hX2 := Lib.hid hX2
        replace hq := Lib.hid hq
        replace hR := Lib.hid hR
        go_wp2_with fail
        refine ho.out.mono ?_
        rintro e X3 ⟨F, rfl, hb3, hO⟩
        obtain ⟨g, caps, rfl, hen, hcall⟩ := hO
        have hc := hcall X3 (Below.refl _ _) (Nat.le_refl _) hour (by omega)
        obtain ⟨rfl, rfl⟩ : R1 = opB x hour ∧ R2 = 0 := by simpa using hR.out
        clear hcall
        replace hc := Lib.hid hc
        go_wp2_with fail
        refine hc.out.mono ?_
        rintro e X4 ⟨rfl, hb4⟩
        have hz := hX2.out.below.trans ((hb3.trans (hb4.mono hb3.size)).mono hX2.out.below.size)
        go_wp2
        exact bodyPost_ret (v := .tuple #[.bool (opB x hour), .int .i64 0]) (by simp [results, Try.results20, go_sem]) rfl ⟨rfl, hz⟩
end Go.Proofs.Ytlnpnfjdcnijhaa
