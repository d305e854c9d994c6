/-
  The window that is open when another one is not, the plain one, and whether two windows are the same: the program's functions.
-/
import Derived.Test.YtlnpnfjdcnijhaaBe
import Derived.Test.YtlnpnfjdcnijhaaBa
namespace Go.Proofs.Ytlnpnfjdcnijhaa
open Go.RowKit Go.Deep M
set_option linter.unusedVariables false
set_option linter.unusedSimpArgs false

namespace M
def notR (x : Wn) : Wn × Int := if winB x 3600 = true then (⟨x.p, hrsL (fun j => !opB x (j : Nat)) x.p.toNat⟩, 0) else (⟨0, []⟩, 50)
def plainR (x : Wn) : Wn × Int := if winB x 3600 = true then (plW x, 0) else (⟨0, []⟩, 50)
end M

set_option maxRecDepth 100000 in
set_option maxHeartbeats 4000000 in
theorem Not_any (B : Nat) (A : Option Addr) (c : Nat) (x : Wn) (w : World) (h : Row w B A x.hs) (hB : B ≤ w.heap.size) :
    Calls Try.prog 33 #[wnV x.p A x.hs.length c] w (RetW w (notR x).1 (notR x).2) := by
  have h63 := h.1
  have hW := swW_new w x.p A x.hs.length c
  have c63 := (chk_b h hB hW.on true 3600 (by omega)).mono fun e w' ⟨he, hb⟩ => And.intro he (hW.up hb)
  rw [show ((w.alloc (.cells #[.int .i64 x.p, .slice A x.hs.length c] 24)).alloc (.cells #[.int .i64 0, .slice none 0 0] 24)).heap.size = w.heap.size + 1 + 1 by simp] at c63
  unfold errW at c63
  rw [wnsB1] at c63
  unfold wnV at *
  obtain ⟨c0, c1⟩ := hW.on.cells
  replace hW := Lib.hid hW
  cases hv : winB x 3600 with
  | false =>
    have hR : notR x = (⟨0, []⟩, 50) := by unfold notR; rw [hv]; simp
    rw [hR]
    rw [hv, if_neg (by simp)] at c63
    simp only []
    replace c63 := Lib.hid c63
    replace hR := Lib.hid hR
    replace hv := Lib.hid hv
    go_enter Try.func33, Try.ntmps33
    go_wp2_with fail
    refine c63.out.mono ?_
    rintro e X1 ⟨rfl, hX1⟩
    have z0 := hX1.box.fz 0
    have z1 := hX1.box.fz 1
    have z2 := hX1.box.c0
    have z3 := hX1.box.c1
    have hl := hX1.box.lt
    have y0 : ((X1.setCell ⟨w.heap.size + 1, 0, none⟩ (.int .i64 0)).setCell ⟨w.heap.size + 1, 1, none⟩ (.slice none 0 0)).cell? ⟨w.heap.size + 1, 0, none⟩ = some (.int .i64 0) := by
      simp [World.cell?, World.setCell, Array.getElem?_modify, show X1.heap[w.heap.size + 1]? = _ from hX1.box]
    have y1 : ((X1.setCell ⟨w.heap.size + 1, 0, none⟩ (.int .i64 0)).setCell ⟨w.heap.size + 1, 1, none⟩ (.slice none 0 0)).cell? ⟨w.heap.size + 1, 1, none⟩ = some (.slice none 0 0) := by
      simp [World.cell?, World.setCell, Array.getElem?_modify, show X1.heap[w.heap.size + 1]? = _ from hX1.box]
    have hz := set2_below hX1.on.below (Nat.le_succ w.heap.size) (.int .i64 0) (.slice none 0 0)
    replace hX1 := Lib.hid hX1
    replace hz := Lib.hid hz
    go_wp2
    exact bodyPost_ret (v := .tuple #[.agg #[.int .i64 0, .slice none 0 0], .int .i64 50]) (by simp [results, Try.results33, go_sem, y0, y1]) rfl ⟨none, 0, rfl, hz.out, row_nil _ _ _, fun a ha => (by cases ha)⟩
  | true =>
    obtain ⟨⟨p1, p2⟩, _⟩ := winB_iff.1 hv
    obtain ⟨p, hp⟩ := Int.eq_ofNat_of_zero_le (show 0 ≤ x.p by omega)
    have hR : notR x = (⟨(p : Nat), hrsL (fun j => !opB x (j : Nat)) p⟩, 0) := by unfold notR; rw [hv, hp, Int.toNat_natCast]; simp
    rw [hR]
    rw [hv, if_pos rfl, if_pos rfl] at c63
    have hop : ∀ X, OnW w x.p A x.hs.length c X → Calls Try.prog 65 #[wnV x.p A x.hs.length c] X (OpenR X x.p (opB x)) := fun X hX => openingOf_any B A c x X (h.below (hX.below.mono hB)) (Nat.le_trans hB hX.below.size) hv
    unfold wnV at hop
    have hsh : ∀ F X, Opn X X.heap.size F (opB x) → Calls Try.prog 76 #[.agg #[.int .i64 x.p, F]] X (OpenR X (p : Nat) (fun h => !opB x h)) := fun F X hO => by
      rw [hp]; exact not_any X.heap.size p F (opB x) X hO (Nat.le_refl _)
    have hPm : p ≤ 1000000 := by omega
    have hwn : ∀ G X, Opn X X.heap.size G (fun h => !opB x h) → Calls Try.prog 73 #[.agg #[.int .i64 (p : Nat), G]] X (NewWn X p (hrsL (fun j => !opB x (j : Nat)) p)) := fun G X hO => window_any X.heap.size p G _ X hO.small (Nat.le_refl _) hPm
    have hll := hrsL_le (fun j => !opB x (j : Nat)) p
    simp only []
    generalize hrsL (fun j => !opB x (j : Nat)) p = l at *
    obtain ⟨m, hm⟩ : ∃ m, m = p := ⟨_, rfl⟩
    rw [← hm] at hsh hwn hll hPm ⊢
    replace c63 := Lib.hid c63
    replace hR := Lib.hid hR
    replace hm := Lib.hid hm
    replace hv := Lib.hid hv
    replace hp := Lib.hid hp
    replace hop := Lib.hid hop
    replace hsh := Lib.hid hsh
    replace hwn := Lib.hid hwn
    go_enter Try.func33, Try.ntmps33
    go_wp2_with fail
    refine c63.out.mono ?_
    rintro e X2 ⟨rfl, hX2⟩
    have f0 := hX2.on.box.c0
    have f1 := hX2.on.box.c1
    have ho := Lib.hid (hop.out _ hX2.on)
    replace hX2 := Lib.hid hX2
    go_wp2_with fail
    refine ho.out.mono ?_
    rintro e X3 ⟨F, rfl, hb3, hO⟩
    have hs := Lib.hid (hsh.out F X3 hO)
    have hX3 := Lib.hid (hX2.out.up hb3)
    replace hO := Lib.hid hO
    replace hb3 := Lib.hid hb3
    go_wp2_with fail
    refine hs.out.mono ?_
    rintro e X4 ⟨G, rfl, hb4, hG⟩
    have hw4 := Lib.hid (hwn.out G X4 hG)
    have hX4 := Lib.hid (hX3.out.up hb4)
    replace hG := Lib.hid hG
    replace hb4 := Lib.hid hb4
    go_wp2_with fail
    refine hw4.out.mono ?_
    rintro e X5 ⟨A5, c5, rfl, hb5, hrow, hfr⟩
    unfold wnV
    have hX5 := hX4.out.up hb5
    have hlt := hX4.out.box.lt
    obtain ⟨y0, y1, hrw⟩ := res_win (w := w) (p := m) (c := c5) hX5.box hrow (fun a ha => Or.inl (by have := hfr a ha; omega))
    have hz := set2_below hX5.on.below (Nat.le_succ w.heap.size) (.int .i64 (m : Nat)) (.slice A5 l.length c5)
    have z0 := hX5.box.c0
    have z1 := hX5.box.c1
    have z2 := hX5.box.fz 0
    have z3 := hX5.box.fz 1
    have hl5 := hX5.box.lt
    replace hX5 := Lib.hid hX5
    replace hb5 := Lib.hid hb5
    replace hrow := Lib.hid hrow
    replace hfr := Lib.hid hfr
    replace hrw := Lib.hid hrw
    replace hz := Lib.hid hz
    go_wp2
    exact bodyPost_ret (v := .tuple #[.agg #[.int .i64 (m : Nat), .slice A5 l.length c5], .int .i64 0]) (by simp [results, Try.results33, go_sem, y0, y1]) rfl ⟨A5, c5, rfl, hz.out, hrw.out, fun a ha => Nat.le_trans hX4.out.on.below.size (hfr.out a ha)⟩

set_option maxRecDepth 100000 in
set_option maxHeartbeats 4000000 in
theorem Plain_any (B : Nat) (A : Option Addr) (c : Nat) (x : Wn) (w : World) (h : Row w B A x.hs) (hB : B ≤ w.heap.size) :
    Calls Try.prog 37 #[wnV x.p A x.hs.length c] w (RetW w (plainR x).1 (plainR x).2) := by
  have h63 := h.1
  have hW := swW_new w x.p A x.hs.length c
  have c63 := (chk_b h hB hW.on true 3600 (by omega)).mono fun e w' ⟨he, hb⟩ => And.intro he (hW.up hb)
  rw [show ((w.alloc (.cells #[.int .i64 x.p, .slice A x.hs.length c] 24)).alloc (.cells #[.int .i64 0, .slice none 0 0] 24)).heap.size = w.heap.size + 1 + 1 by simp] at c63
  unfold errW at c63
  rw [wnsB1] at c63
  unfold wnV at *
  obtain ⟨c0, c1⟩ := hW.on.cells
  replace hW := Lib.hid hW
  cases hv : winB x 3600 with
  | false =>
    have hR : plainR x = (⟨0, []⟩, 50) := by unfold plainR; rw [hv]; simp
    rw [hR]
    rw [hv, if_neg (by simp)] at c63
    simp only []
    replace c63 := Lib.hid c63
    replace hR := Lib.hid hR
    replace hv := Lib.hid hv
    go_enter Try.func37, Try.ntmps37
    go_wp2_with fail
    refine c63.out.mono ?_
    rintro e X1 ⟨rfl, hX1⟩
    have z0 := hX1.box.fz 0
    have z1 := hX1.box.fz 1
    have z2 := hX1.box.c0
    have z3 := hX1.box.c1
    have hl := hX1.box.lt
    have y0 : ((X1.setCell ⟨w.heap.size + 1, 0, none⟩ (.int .i64 0)).setCell ⟨w.heap.size + 1, 1, none⟩ (.slice none 0 0)).cell? ⟨w.heap.size + 1, 0, none⟩ = some (.int .i64 0) := by
      simp [World.cell?, World.setCell, Array.getElem?_modify, show X1.heap[w.heap.size + 1]? = _ from hX1.box]
    have y1 : ((X1.setCell ⟨w.heap.size + 1, 0, none⟩ (.int .i64 0)).setCell ⟨w.heap.size + 1, 1, none⟩ (.slice none 0 0)).cell? ⟨w.heap.size + 1, 1, none⟩ = some (.slice none 0 0) := by
      simp [World.cell?, World.setCell, Array.getElem?_modify, show X1.heap[w.heap.size + 1]? = _ from hX1.box]
    have hz := set2_below hX1.on.below (Nat.le_succ w.heap.size) (.int .i64 0) (.slice none 0 0)
    replace hX1 := Lib.hid hX1
    replace hz := Lib.hid hz
    go_wp2
    exact bodyPost_ret (v := .tuple #[.agg #[.int .i64 0, .slice none 0 0], .int .i64 50]) (by simp [results, Try.results37, go_sem, y0, y1]) rfl ⟨none, 0, rfl, hz.out, row_nil _ _ _, fun a ha => (by cases ha)⟩
  | true =>
    obtain ⟨⟨p1, p2⟩, _⟩ := winB_iff.1 hv
    obtain ⟨p, hp⟩ := Int.eq_ofNat_of_zero_le (show 0 ≤ x.p by omega)
    have hR : plainR x = (⟨((plN p (opB x)) : Nat), hrsL (fun j => opB x (j : Nat)) (plN p (opB x))⟩, 0) := by unfold plainR plW; rw [hv, hp, Int.toNat_natCast]; simp
    rw [hR]
    rw [hv, if_pos rfl, if_pos rfl] at c63
    have hop : ∀ X, OnW w x.p A x.hs.length c X → Calls Try.prog 65 #[wnV x.p A x.hs.length c] X (OpenR X x.p (opB x)) := fun X hX => openingOf_any B A c x X (h.below (hX.below.mono hB)) (Nat.le_trans hB hX.below.size) hv
    unfold wnV at hop
    have hsh : ∀ F X, Opn X X.heap.size F (opB x) → Calls Try.prog 81 #[.agg #[.int .i64 x.p, F]] X (OpenR X ((plN p (opB x)) : Nat) (fun h => opB x h)) := fun F X hO => by
      rw [hp]; exact plain_any p F (opB x) X hO (by omega)
    have hPm : (plN p (opB x)) ≤ 1000000 := by have := (plN_spec (show 1 ≤ p by omega) (opB_perM hp)).1.2; omega
    have hwn : ∀ G X, Opn X X.heap.size G (fun h => opB x h) → Calls Try.prog 73 #[.agg #[.int .i64 ((plN p (opB x)) : Nat), G]] X (NewWn X (plN p (opB x)) (hrsL (fun j => opB x (j : Nat)) (plN p (opB x)))) := fun G X hO => window_any X.heap.size (plN p (opB x)) G _ X hO.small (Nat.le_refl _) hPm
    have hll := hrsL_le (fun j => opB x (j : Nat)) (plN p (opB x))
    simp only []
    generalize hrsL (fun j => opB x (j : Nat)) (plN p (opB x)) = l at *
    obtain ⟨m, hm⟩ : ∃ m, m = (plN p (opB x)) := ⟨_, rfl⟩
    rw [← hm] at hsh hwn hll hPm ⊢
    replace c63 := Lib.hid c63
    replace hR := Lib.hid hR
    replace hm := Lib.hid hm
    replace hv := Lib.hid hv
    replace hp := Lib.hid hp
    replace hop := Lib.hid hop
    replace hsh := Lib.hid hsh
    replace hwn := Lib.hid hwn
    go_enter Try.func37, Try.ntmps37
    go_wp2_with fail
    refine c63.out.mono ?_
    rintro e X2 ⟨rfl, hX2⟩
    have f0 := hX2.on.box.c0
    have f1 := hX2.on.box.c1
    have ho := Lib.hid (hop.out _ hX2.on)
    replace hX2 := Lib.hid hX2
    go_wp2_with fail
    refine ho.out.mono ?_
    rintro e X3 ⟨F, rfl, hb3, hO⟩
    have hs := Lib.hid (hsh.out F X3 hO)
    have hX3 := Lib.hid (hX2.out.up hb3)
    replace hO := Lib.hid hO
    replace hb3 := Lib.hid hb3
    go_wp2_with fail
    refine hs.out.mono ?_
    rintro e X4 ⟨G, rfl, hb4, hG⟩
    have hw4 := Lib.hid (hwn.out G X4 hG)
    have hX4 := Lib.hid (hX3.out.up hb4)
    replace hG := Lib.hid hG
    replace hb4 := Lib.hid hb4
    go_wp2_with fail
    refine hw4.out.mono ?_
    rintro e X5 ⟨A5, c5, rfl, hb5, hrow, hfr⟩
    unfold wnV
    have hX5 := hX4.out.up hb5
    have hlt := hX4.out.box.lt
    obtain ⟨y0, y1, hrw⟩ := res_win (w := w) (p := m) (c := c5) hX5.box hrow (fun a ha => Or.inl (by have := hfr a ha; omega))
    have hz := set2_below hX5.on.below (Nat.le_succ w.heap.size) (.int .i64 (m : Nat)) (.slice A5 l.length c5)
    have z0 := hX5.box.c0
    have z1 := hX5.box.c1
    have z2 := hX5.box.fz 0
    have z3 := hX5.box.fz 1
    have hl5 := hX5.box.lt
    replace hX5 := Lib.hid hX5
    replace hb5 := Lib.hid hb5
    replace hrow := Lib.hid hrow
    replace hfr := Lib.hid hfr
    replace hrw := Lib.hid hrw
    replace hz := Lib.hid hz
    go_wp2
    exact bodyPost_ret (v := .tuple #[.agg #[.int .i64 (m : Nat), .slice A5 l.length c5], .int .i64 0]) (by simp [results, Try.results37, go_sem, y0, y1]) rfl ⟨A5, c5, rfl, hz.out, hrw.out, fun a ha => Nat.le_trans hX4.out.on.below.size (hfr.out a ha)⟩
end Go.Proofs.Ytlnpnfjdcnijhaa
