/-
  A window that is shifted, where it is valid.
-/
import Derived.Test.YtlnpnfjdcnijhaaAd
namespace Go.Proofs.Ytlnpnfjdcnijhaa
open Go.RowKit Go.Deep M
set_option linter.unusedVariables false
set_option linter.unusedSimpArgs false

/-- The world in which a function of one window runs that hands back a window. -/
structure SwW (w : World) (p : Int) (A : Option Addr) (n c : Nat) (X : World) : Prop where
  on : OnW w p A n c X
  box : BxW X (w.heap.size + 1) 0 none 0 0
theorem SwW.up {w X Y : World} {p : Int} {A : Option Addr} {n c : Nat} (h : SwW w p A n c X) (hb : Below X.heap.size X Y) : SwW w p A n c Y := ⟨h.on.up hb, h.box.up hb⟩
theorem SwW.drew {w X : World} {p : Int} {A : Option Addr} {n c : Nat} (h : SwW w p A n c X) : SwW w p A n c X.drew := ⟨h.on.drew, h.box⟩
theorem swW_new (w : World) (p : Int) (A : Option Addr) (n c : Nat) : SwW w p A n c ((w.alloc (.cells #[.int .i64 p, .slice A n c] 24)).alloc (.cells #[.int .i64 0, .slice none 0 0] 24)) := by
  refine ⟨(onW_new w p A n c).up (ba1 _ _), ?_⟩
  have := BxW.new (w.alloc (.cells #[.int .i64 p, .slice A n c] 24)) 0 none 0 0
  rwa [show (w.alloc (.cells #[.int .i64 p, .slice A n c] 24)).heap.size = w.heap.size + 1 by simp] at this
/-- A window that a call hands back, and no error. -/
def NewW2 (w : World) (p : Nat) (l : List Int) (e : Ending) (w' : World) : Prop := ∃ A c, e = .returned (.tuple #[wnV p A l.length c, .int .i64 0]) ∧ Below w.heap.size w w' ∧ Row w' w'.heap.size A l
theorem isShift_good (b : Int) (w : World) (h : -1000000 ≤ b ∧ b ≤ 1000000) : Calls Try.prog 78 #[.int .i64 b] w fun e w' => e = .returned (.bool true) ∧ w = w' := by
  obtain ⟨h1, h2⟩ := h
  go_enter Try.func78, Try.ntmps78
  go_wp2
  go_ret
  exact ⟨rfl, rfl⟩
/-- The store of the window in the result's box. -/
theorem res_win {w X : World} {b p : Nat} {A : Option Addr} {l : List Int} {c : Nat} (hx : BxW X b 0 none 0 0) (hr : Row X X.heap.size A l) (hne : ∀ a, A = some a → a.block ≠ b ∨ l.length = 0) :
    let Y := (X.setCell ⟨b, 0, none⟩ (.int .i64 (p : Nat))).setCell ⟨b, 1, none⟩ (.slice A l.length c)
    Y.cell? ⟨b, 0, none⟩ = some (.int .i64 (p : Nat)) ∧ Y.cell? ⟨b, 1, none⟩ = some (.slice A l.length c) ∧ Row Y Y.heap.size A l := by
  intro Y
  refine ⟨by simp [Y, World.cell?, World.setCell, Array.getElem?_modify, show X.heap[b]? = _ from hx], by simp [Y, World.cell?, World.setCell, Array.getElem?_modify, show X.heap[b]? = _ from hx], hr.1, fun hn => ?_⟩
  obtain ⟨b', o, rfl, hb', hc⟩ := hr.2 hn
  have hbb : b' ≠ b := by
    rcases hne _ rfl with h1 | h1
    · exact h1
    · omega
  refine ⟨b', o, rfl, by simp [Y, setCell_sz]; exact hb', fun i hi => ?_⟩
  have h1 := hc i hi
  have h2 : Y.heap[b']? = X.heap[b']? := set2_far hbb _ _
  unfold World.cell? at h1 ⊢
  rw [h2]; exact h1

set_option maxRecDepth 100000 in
set_option maxHeartbeats 2000000 in
theorem Shifted_good (B : Nat) (A : Option Addr) (c : Nat) (x : Wn) (p : Nat) (by_ : Int) (w : World) (h : Row w B A x.hs) (hB : B ≤ w.heap.size) (hv : winB x 3600 = true) (hp : x.p = (p : Int)) (hby : -1000000 ≤ by_ ∧ by_ ≤ 1000000) :
    Calls Try.prog 35 #[wnV x.p A x.hs.length c, .int .i64 by_] w (NewW2 w p (hrsL (fun j => opB x ((j : Nat) + by_)) p)) := by
  have h63 := h.1
  obtain ⟨⟨p1, p2⟩, _⟩ := winB_iff.1 hv
  have hW := swW_new w x.p A x.hs.length c
  have c78 : ∀ W, _ := fun W => isShift_good by_ W hby
  have hWd := hW.drew
  have he : errW [⟨x, A, c⟩] 3600 true = 0 := by unfold errW; rw [wnsB1, hv]; simp
  have c63 := (chk_b h hB hWd.on true 3600 (by omega)).mono fun e w' ⟨he, hb⟩ => And.intro he (hWd.up hb)
  rw [he] at c63
  rw [show (((w.alloc (.cells #[.int .i64 x.p, .slice A x.hs.length c] 24)).alloc (.cells #[.int .i64 0, .slice none 0 0] 24)).drew).heap.size = w.heap.size + 1 + 1 by simp] at c63
  rw [show (((w.alloc (.cells #[.int .i64 x.p, .slice A x.hs.length c] 24)).alloc (.cells #[.int .i64 0, .slice none 0 0] 24)).drew).alloc (.cells #[.int .i64 x.p, .slice A x.hs.length c] 24) = (((w.alloc (.cells #[.int .i64 x.p, .slice A x.hs.length c] 24)).alloc (.cells #[.int .i64 0, .slice none 0 0] 24)).alloc (.cells #[.int .i64 x.p, .slice A x.hs.length c] 24)).drew from rfl] at c63
  have hop : ∀ X, OnW w x.p A x.hs.length c X → Calls Try.prog 65 #[wnV x.p A x.hs.length c] X (OpenR X x.p (opB x)) := fun X hX => openingOf_any B A c x X (h.below (hX.below.mono hB)) (Nat.le_trans hB hX.below.size) hv
  have hsh : ∀ F X, Opn X X.heap.size F (opB x) → Calls Try.prog 79 #[.agg #[.int .i64 x.p, F], .int .i64 by_] X fun e w' => ∃ G, e = .returned (.agg #[.int .i64 x.p, G]) ∧ Below X.heap.size X w' ∧ OpnS w' w'.heap.size G (fun h => opB x (h + by_)) := fun F X hO => by
    rw [hp]; exact shifted_any X.heap.size p by_ F (opB x) X hO (Nat.le_refl _) hby
  have hwn : ∀ G X, OpnS X X.heap.size G (fun h => opB x (h + by_)) → Calls Try.prog 73 #[.agg #[.int .i64 x.p, G]] X (NewWn X p (hrsL (fun j => opB x ((j : Nat) + by_)) p)) := fun G X hO => by
    rw [hp]; exact window_any X.heap.size p G _ X hO (Nat.le_refl _) (by omega)
  have hll := hrsL_le (fun j => opB x ((j : Nat) + by_)) p
  generalize hrsL (fun j => opB x ((j : Nat) + by_)) p = l at *
  unfold wnV at *
  have k0 := hWd.on.cells
  have k1 := (hW.up (ba1 _ (.cells #[.int .i64 x.p, .slice A x.hs.length c] 24))).drew.on.cells
  have c0 := hW.on.box.c0
  have c1 := hW.on.box.c1
  replace hW := Lib.hid hW
  replace hWd := Lib.hid hWd
  replace c63 := Lib.hid c63
  replace c78 := Lib.hid c78
  replace hop := Lib.hid hop
  replace hsh := Lib.hid hsh
  replace hwn := Lib.hid hwn
  replace hv := Lib.hid hv
  replace hp := Lib.hid hp
  replace he := Lib.hid he
  go_enter Try.func35, Try.ntmps35
  go_wp2
  go_region_held3 (fun X => X.cell? ⟨w.heap.size, 0, none⟩ = some (.int .i64 x.p) ∧ X.cell? ⟨w.heap.size, 1, none⟩ = some (.slice A x.hs.length c))
    (first | with_reducible exact k0 | with_reducible exact k1 | with_reducible exact k2)
    (first | (go_at_call 78; refine (c78.out _).mono ?_; rintro _ X1 ⟨rfl, rfl⟩) | (go_at_call 63; refine c63.out.mono ?_; rintro _ X2 ⟨rfl, hX2⟩; have k2 := hX2.on.cells))
  all_goals
    have f0 := hX2.on.box.c0
    have f1 := hX2.on.box.c1
    have ho := Lib.hid (hop.out _ hX2.on)
    replace hX2 := Lib.hid hX2
    go_wp2_with fail
    refine ho.out.mono ?_
    rintro e X3 ⟨F, rfl, hb3, hO⟩
    have hs := Lib.hid (hsh.out F X3 hO)
    have hX3 := Lib.hid (hX2.out.up hb3)
    replace hO := Lib.hid hO
    replace hb3 := Lib.hid hb3
    go_wp2_with fail
    refine hs.out.mono ?_
    rintro e X4 ⟨G, rfl, hb4, hG⟩
    have hw4 := Lib.hid (hwn.out G X4 hG)
    have hX4 := Lib.hid (hX3.out.up hb4)
    replace hG := Lib.hid hG
    replace hb4 := Lib.hid hb4
    go_wp2_with fail
    refine hw4.out.mono ?_
    rintro e X5 ⟨A5, c5, rfl, hb5, hrow, hfr⟩
    unfold wnV
    have hX5 := hX4.out.up hb5
    have hlt := hX4.out.box.lt
    obtain ⟨y0, y1, hrw⟩ := res_win (w := w) (p := p) (c := c5) hX5.box hrow (fun a ha => Or.inl (by have := hfr a ha; omega))
    have hz := set2_below hX5.on.below (Nat.le_succ w.heap.size) (.int .i64 (p : Nat)) (.slice A5 l.length c5)
    have z0 := hX5.box.c0
    have z1 := hX5.box.c1
    have z2 := hX5.box.fz 0
    have z3 := hX5.box.fz 1
    have hl5 := hX5.box.lt
    replace hX5 := Lib.hid hX5
    replace hb5 := Lib.hid hb5
    replace hrow := Lib.hid hrow
    replace hfr := Lib.hid hfr
    replace hrw := Lib.hid hrw
    replace hz := Lib.hid hz
    go_wp2
    exact bodyPost_ret (v := .tuple #[.agg #[.int .i64 (p : Nat), .slice A5 l.length c5], .int .i64 0]) (by simp [results, Try.results35, go_sem, y0, y1]) rfl ⟨A5, c5, rfl, hz.out, hrw.out⟩
end Go.Proofs.Ytlnpnfjdcnijhaa
