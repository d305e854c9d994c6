/-
  The window that is open when both are, and the one that is open when one of two is: the program's functions.
-/
import Derived.Test.YtlnpnfjdcnijhaaMathD
import Derived.Test.YtlnpnfjdcnijhaaAe
namespace Go.Proofs.Ytlnpnfjdcnijhaa
open Go.RowKit Go.Deep M
set_option linter.unusedVariables false
set_option linter.unusedSimpArgs false

/-- A window that a call hands back, and an error. -/
def RetW (w : World) (r : Wn) (err : Int) (e : Ending) (w' : World) : Prop := ∃ A c, e = .returned (.tuple #[wnV r.p A r.hs.length c, .int .i64 err]) ∧ Below w.heap.size w w' ∧ Row w' w'.heap.size A r.hs ∧ ∀ a, A = some a → w.heap.size ≤ a.block
namespace M
def bothR (x y : Wn) : Wn × Int := if (winB x 60 && winB y 60) = true then (⟨(mulN x.p.toNat y.p.toNat : Nat), hrsL (fun j => opB x (j : Nat) && opB y (j : Nat)) (mulN x.p.toNat y.p.toNat)⟩, 0) else (⟨0, []⟩, 50)
def eithR (x y : Wn) : Wn × Int := if (winB x 60 && winB y 60) = true then (⟨(mulN x.p.toNat y.p.toNat : Nat), hrsL (fun j => opB x (j : Nat) || opB y (j : Nat)) (mulN x.p.toNat y.p.toNat)⟩, 0) else (⟨0, []⟩, 50)
theorem win_more {x : Wn} {a b : Int} (h : winB x a = true) (hab : a ≤ b) : winB x b = true := by
  obtain ⟨⟨h1, h2⟩, h3⟩ := winB_iff.1 h
  exact winB_iff.2 ⟨⟨h1, by omega⟩, h3⟩
end M
theorem Opn.upp {w w' : World} {F : Value} {f : Int → Bool} (h : Opn w w.heap.size F f) (hb : Below w.heap.size w w') : Opn w' w'.heap.size F f := by
  obtain ⟨g, caps, h1, h2, h3⟩ := h
  exact ⟨g, caps, h1, h2, fun X hX hBX => h3 X (hb.trans (hX.mono hb.size)) (Nat.le_trans hb.size hBX)⟩
/-- The world in which a function of two windows begins. -/
structure TwO (w : World) (p q : Int) (A A' : Option Addr) (n n' c c' : Nat) (X : World) : Prop where
  below : Below w.heap.size w X
  b1 : BxW X w.heap.size p A n c
  b2 : BxW X (w.heap.size + 1) q A' n' c'
theorem TwO.up {w X Y : World} {p q : Int} {A A' : Option Addr} {n n' c c' : Nat} (h : TwO w p q A A' n n' c c' X) (hb : Below X.heap.size X Y) : TwO w p q A A' n n' c c' Y := ⟨h.below.trans (hb.mono h.below.size), h.b1.up hb, h.b2.up hb⟩
theorem TwO.drew {w X : World} {p q : Int} {A A' : Option Addr} {n n' c c' : Nat} (h : TwO w p q A A' n n' c c' X) : TwO w p q A A' n n' c c' X.drew := ⟨below_drew h.below, h.b1, h.b2⟩
theorem TwO.cells {w X : World} {p q : Int} {A A' : Option Addr} {n n' c c' : Nat} (h : TwO w p q A A' n n' c c' X) : X.cell? ⟨w.heap.size, 0, none⟩ = some (.int .i64 p) ∧ X.cell? ⟨w.heap.size, 1, none⟩ = some (.slice A n c) ∧ X.cell? ⟨w.heap.size + 1, 0, none⟩ = some (.int .i64 q) ∧ X.cell? ⟨w.heap.size + 1, 1, none⟩ = some (.slice A' n' c') := ⟨h.b1.c0, h.b1.c1, h.b2.c0, h.b2.c1⟩
theorem twO_new (w : World) (p q : Int) (A A' : Option Addr) (n n' c c' : Nat) : TwO w p q A A' n n' c c' ((w.alloc (.cells #[.int .i64 p, .slice A n c] 24)).alloc (.cells #[.int .i64 q, .slice A' n' c'] 24)) := by
  have h1 := ba1 w (.cells #[.int .i64 p, .slice A n c] 24)
  have h2 := ba1 (w.alloc (.cells #[.int .i64 p, .slice A n c] 24)) (.cells #[.int .i64 q, .slice A' n' c'] 24)
  refine ⟨h1.trans (h2.mono h1.size), (BxW.new w p A n c).up h2, ?_⟩
  have := BxW.new (w.alloc (.cells #[.int .i64 p, .slice A n c] 24)) q A' n' c'
  rwa [show (w.alloc (.cells #[.int .i64 p, .slice A n c] 24)).heap.size = w.heap.size + 1 by simp] at this
/-- The world in which a function of two windows runs that hands back a window. -/
structure TwW (w : World) (p q : Int) (A A' : Option Addr) (n n' c c' : Nat) (X : World) : Prop where
  on : TwO w p q A A' n n' c c' X
  box : BxW X (w.heap.size + 1 + 1) 0 none 0 0
theorem TwW.up {w X Y : World} {p q : Int} {A A' : Option Addr} {n n' c c' : Nat} (h : TwW w p q A A' n n' c c' X) (hb : Below X.heap.size X Y) : TwW w p q A A' n n' c c' Y := ⟨h.on.up hb, h.box.up hb⟩
theorem TwW.drew {w X : World} {p q : Int} {A A' : Option Addr} {n n' c c' : Nat} (h : TwW w p q A A' n n' c c' X) : TwW w p q A A' n n' c c' X.drew := ⟨h.on.drew, h.box⟩
theorem TwW.cells {w X : World} {p q : Int} {A A' : Option Addr} {n n' c c' : Nat} (h : TwW w p q A A' n n' c c' X) : X.cell? ⟨w.heap.size, 0, none⟩ = some (.int .i64 p) ∧ X.cell? ⟨w.heap.size, 1, none⟩ = some (.slice A n c) ∧ X.cell? ⟨w.heap.size + 1, 0, none⟩ = some (.int .i64 q) ∧ X.cell? ⟨w.heap.size + 1, 1, none⟩ = some (.slice A' n' c') := h.on.cells
theorem twW_new (w : World) (p q : Int) (A A' : Option Addr) (n n' c c' : Nat) : TwW w p q A A' n n' c c' (((w.alloc (.cells #[.int .i64 p, .slice A n c] 24)).alloc (.cells #[.int .i64 q, .slice A' n' c'] 24)).alloc (.cells #[.int .i64 0, .slice none 0 0] 24)) := by
  refine ⟨(twO_new w p q A A' n n' c c').up (ba1 _ _), ?_⟩
  have := BxW.new ((w.alloc (.cells #[.int .i64 p, .slice A n c] 24)).alloc (.cells #[.int .i64 q, .slice A' n' c'] 24)) 0 none 0 0
  rwa [show ((w.alloc (.cells #[.int .i64 p, .slice A n c] 24)).alloc (.cells #[.int .i64 q, .slice A' n' c'] 24)).heap.size = w.heap.size + 1 + 1 by simp] at this
/-- The first error of two windows. -/
theorem chk_2 {B : Nat} {A A' : Option Addr} {c c' : Nat} {x y : Wn} {w X : World} (h : Row w B A x.hs) (h' : Row w B A' y.hs) (hB : B ≤ w.heap.size) (hX : Below w.heap.size w X) (fits : Bool) (most : Int) (hm : most ≤ 1000000) :
    Calls Try.prog 63 #[.int .i64 most, .bool fits, .slice (some ⟨X.heap.size, 0, none⟩) 2 2] (X.alloc (.cells #[.int .i64 x.p, .slice A x.hs.length c, .int .i64 y.p, .slice A' y.hs.length c'] 24)) fun e w' => e = .returned (.int .i64 (if (winB x most && winB y most) = true then (if fits = true then 0 else 2) else 50)) ∧ Below X.heap.size X w' := by
  have hr := h.below (hX.mono hB)
  have hr' := h'.below (hX.mono hB)
  have hBX := Nat.le_trans hB hX.size
  have hw := wds2 (w := X) ⟨x, A, c⟩ ⟨y, A', c'⟩ hr hr' hBX
  have hb := ba1 X (.cells #[.int .i64 x.p, .slice A x.hs.length c, .int .i64 y.p, .slice A' y.hs.length c'] 24)
  have := checkedW_any (X.heap.size + 1) _ 2 [⟨x, A, c⟩, ⟨y, A', c'⟩] most fits _ hw (by simp) hm
  unfold errW at this
  rw [wnsB2] at this
  exact this.mono fun e w' ⟨he, hb'⟩ => ⟨he, hb.trans (hb'.mono hb.size)⟩

theorem two_cells {w X : World} {p q : Int} {A A' : Option Addr} {n n' c c' : Nat} (h : TwW w p q A A' n n' c c' X) (v0 v1 : Value) :
    ((X.setCell ⟨w.heap.size + 1 + 1, 0, none⟩ v0).setCell ⟨w.heap.size + 1 + 1, 1, none⟩ v1).cell? ⟨w.heap.size, 0, none⟩ = some (.int .i64 p) ∧ ((X.setCell ⟨w.heap.size + 1 + 1, 0, none⟩ v0).setCell ⟨w.heap.size + 1 + 1, 1, none⟩ v1).cell? ⟨w.heap.size, 1, none⟩ = some (.slice A n c) ∧ ((X.setCell ⟨w.heap.size + 1 + 1, 0, none⟩ v0).setCell ⟨w.heap.size + 1 + 1, 1, none⟩ v1).cell? ⟨w.heap.size + 1, 0, none⟩ = some (.int .i64 q) ∧ ((X.setCell ⟨w.heap.size + 1 + 1, 0, none⟩ v0).setCell ⟨w.heap.size + 1 + 1, 1, none⟩ v1).cell? ⟨w.heap.size + 1, 1, none⟩ = some (.slice A' n' c') := by
  have k1 : BxW ((X.setCell ⟨w.heap.size + 1 + 1, 0, none⟩ v0).setCell ⟨w.heap.size + 1 + 1, 1, none⟩ v1) w.heap.size p A n c := h.on.b1.to (set2_far (by omega) _ _)
  have k2 : BxW ((X.setCell ⟨w.heap.size + 1 + 1, 0, none⟩ v0).setCell ⟨w.heap.size + 1 + 1, 1, none⟩ v1) (w.heap.size + 1) q A' n' c' := h.on.b2.to (set2_far (by omega) _ _)
  exact ⟨k1.c0, k1.c1, k2.c0, k2.c1⟩

set_option maxRecDepth 100000 in
set_option maxHeartbeats 4000000 in
theorem Both_any (B : Nat) (A A' : Option Addr) (c c' : Nat) (x y : Wn) (w : World) (h : Row w B A x.hs) (h' : Row w B A' y.hs) (hB : B ≤ w.heap.size) :
    Calls Try.prog 28 #[wnV x.p A x.hs.length c, wnV y.p A' y.hs.length c'] w (RetW w (bothR x y).1 (bothR x y).2) := by
  have h63 := h.1
  have h63' := h'.1
  have hW := twW_new w x.p y.p A A' x.hs.length y.hs.length c c'
  have c63 := (chk_2 (c := c) (c' := c') h h' hB hW.on.below true 60 (by omega)).mono fun e w' ⟨he, hb⟩ => And.intro he (hW.up hb)
  rw [show (((w.alloc (.cells #[.int .i64 x.p, .slice A x.hs.length c] 24)).alloc (.cells #[.int .i64 y.p, .slice A' y.hs.length c'] 24)).alloc (.cells #[.int .i64 0, .slice none 0 0] 24)).heap.size = w.heap.size + 1 + 1 + 1 by simp] at c63
  unfold wnV at *
  obtain ⟨c0, c1, d0, d1⟩ := hW.cells
  replace hW := Lib.hid hW
  cases hv : (winB x 60 && winB y 60) with
  | false =>
    have hR : bothR x y = (⟨0, []⟩, 50) := by unfold bothR; rw [hv]; simp
    rw [hR]
    rw [hv, if_neg (by simp)] at c63
    simp only []
    replace c63 := Lib.hid c63
    replace hR := Lib.hid hR
    replace hv := Lib.hid hv
    go_enter Try.func28, Try.ntmps28
    go_wp2_with fail
    refine c63.out.mono ?_
    rintro e X1 ⟨rfl, hX1⟩
    have z0 := hX1.box.fz 0
    have z1 := hX1.box.fz 1
    have z2 := hX1.box.c0
    have z3 := hX1.box.c1
    have hl := hX1.box.lt
    have y0 : ((X1.setCell ⟨w.heap.size + 1 + 1, 0, none⟩ (.int .i64 0)).setCell ⟨w.heap.size + 1 + 1, 1, none⟩ (.slice none 0 0)).cell? ⟨w.heap.size + 1 + 1, 0, none⟩ = some (.int .i64 0) := by
      simp [World.cell?, World.setCell, Array.getElem?_modify, show X1.heap[w.heap.size + 1 + 1]? = _ from hX1.box]
    have y1 : ((X1.setCell ⟨w.heap.size + 1 + 1, 0, none⟩ (.int .i64 0)).setCell ⟨w.heap.size + 1 + 1, 1, none⟩ (.slice none 0 0)).cell? ⟨w.heap.size + 1 + 1, 1, none⟩ = some (.slice none 0 0) := by
      simp [World.cell?, World.setCell, Array.getElem?_modify, show X1.heap[w.heap.size + 1 + 1]? = _ from hX1.box]
    have hz := set2_below hX1.on.below (le2 w.heap.size) (.int .i64 0) (.slice none 0 0)
    replace hX1 := Lib.hid hX1
    replace hz := Lib.hid hz
    go_wp2
    exact bodyPost_ret (v := .tuple #[.agg #[.int .i64 0, .slice none 0 0], .int .i64 50]) (by simp [results, Try.results28, go_sem, y0, y1]) rfl ⟨none, 0, rfl, hz.out, row_nil _ _ _, fun a ha => (by cases ha)⟩
  | true =>
    obtain ⟨hv1, hv2⟩ : winB x 60 = true ∧ winB y 60 = true := by simpa using hv
    obtain ⟨⟨p1, p2⟩, _⟩ := winB_iff.1 hv1
    obtain ⟨⟨q1, q2⟩, _⟩ := winB_iff.1 hv2
    obtain ⟨p, hp⟩ := Int.eq_ofNat_of_zero_le (show 0 ≤ x.p by omega)
    obtain ⟨q, hq⟩ := Int.eq_ofNat_of_zero_le (show 0 ≤ y.p by omega)
    have hmle : mulN p q ≤ 3600 := by
      have h1 := mulN_le p q
      have h2 : p * q ≤ 60 * 60 := Nat.mul_le_mul (by omega) (by omega)
      omega
    have hR : bothR x y = (⟨(mulN p q : Nat), hrsL (fun j => opB x (j : Nat) && opB y (j : Nat)) (mulN p q)⟩, 0) := by unfold bothR; rw [hv, hp, hq, Int.toNat_natCast, Int.toNat_natCast]; simp
    rw [hR]
    rw [hv, if_pos rfl, if_pos rfl] at c63
    have hxo : ∀ X, TwW w x.p y.p A A' x.hs.length y.hs.length c c' X → Calls Try.prog 65 #[.agg #[.int .i64 x.p, .slice A x.hs.length c]] X fun e w' => ∃ F, e = .returned (.agg #[.int .i64 x.p, F]) ∧ Below X.heap.size X w' ∧ TwW w x.p y.p A A' x.hs.length y.hs.length c c' w' ∧ Opn w' w'.heap.size F (opB x) := fun X hX =>
      (openingOf_any B A c x X (h.below (hX.on.below.mono hB)) (Nat.le_trans hB hX.on.below.size) (win_more hv1 (by omega))).mono fun e w' ⟨F, he, hb, hO⟩ => ⟨F, he, hb, hX.up hb, hO⟩
    have hyo : ∀ X, TwW w x.p y.p A A' x.hs.length y.hs.length c c' X → Calls Try.prog 65 #[.agg #[.int .i64 y.p, .slice A' y.hs.length c']] X fun e w' => ∃ F, e = .returned (.agg #[.int .i64 y.p, F]) ∧ Below X.heap.size X w' ∧ TwW w x.p y.p A A' x.hs.length y.hs.length c c' w' ∧ Opn w' w'.heap.size F (opB y) := fun X hX =>
      (openingOf_any B A' c' y X (h'.below (hX.on.below.mono hB)) (Nat.le_trans hB hX.on.below.size) (win_more hv2 (by omega))).mono fun e w' ⟨F, he, hb, hO⟩ => ⟨F, he, hb, hX.up hb, hO⟩
    have hbo : ∀ F G X, TwW w x.p y.p A A' x.hs.length y.hs.length c c' X → Opn X X.heap.size F (opB x) → Opn X X.heap.size G (opB y) → Calls Try.prog 72 #[.agg #[.int .i64 x.p, F], .agg #[.int .i64 y.p, G]] X fun e w' => ∃ H, e = .returned (.agg #[.int .i64 (mulN p q : Nat), H]) ∧ TwW w x.p y.p A A' x.hs.length y.hs.length c c' w' ∧ Opn w' w'.heap.size H (fun h => opB x h && opB y h) := fun F G X hX hF hG => by
      have := both_any X.heap.size p q F G (opB x) (opB y) X hF hG (Nat.le_refl _) (by omega) (by omega)
      rw [hp, hq]
      rw [hp, hq] at hX
      exact this.mono fun e w' ⟨H, he, hb, hO⟩ => ⟨H, he, hX.up hb, hO⟩
    have hwo : ∀ H X, TwW w x.p y.p A A' x.hs.length y.hs.length c c' X → Opn X X.heap.size H (fun h => opB x h && opB y h) → Calls Try.prog 73 #[.agg #[.int .i64 (mulN p q : Nat), H]] X fun e w' => ∃ A5 c5, e = .returned (.agg #[.int .i64 (mulN p q : Nat), .slice A5 (hrsL (fun j => opB x (j : Nat) && opB y (j : Nat)) (mulN p q)).length c5]) ∧ TwW w x.p y.p A A' x.hs.length y.hs.length c c' w' ∧ Row w' w'.heap.size A5 (hrsL (fun j => opB x (j : Nat) && opB y (j : Nat)) (mulN p q)) ∧ ∀ a, A5 = some a → w.heap.size + 1 + 1 < a.block := fun H X hX hH =>
      (window_any X.heap.size (mulN p q) H _ X hH.small (Nat.le_refl _) (by omega)).mono fun e w' ⟨A5, c5, he, hb, hr, hfr⟩ => ⟨A5, c5, he, hX.up hb, hr, fun a ha => by have := hfr a ha; have := hX.box.lt; omega⟩
    have hll := hrsL_le (fun j => opB x (j : Nat) && opB y (j : Nat)) (mulN p q)
    simp only []
    generalize mulN p q = m at *
    generalize hrsL (fun j => opB x (j : Nat) && opB y (j : Nat)) m = l at *
    replace c63 := Lib.hid c63
    replace hR := Lib.hid hR
    replace hv := Lib.hid hv
    replace hv1 := Lib.hid hv1
    replace hv2 := Lib.hid hv2
    replace hp := Lib.hid hp
    replace hq := Lib.hid hq
    replace hxo := Lib.hid hxo
    replace hyo := Lib.hid hyo
    replace hbo := Lib.hid hbo
    replace hwo := Lib.hid hwo
    go_enter Try.func28, Try.ntmps28
    go_wp2_with fail
    refine c63.out.mono ?_
    rintro e X1 ⟨rfl, hX1⟩
    have hXd := hX1.drew
    replace hX1 := Lib.hid hX1
    go_wp2_with fail
    go_region_held3 (fun X => X.cell? ⟨w.heap.size, 0, none⟩ = some (.int .i64 x.p) ∧ X.cell? ⟨w.heap.size, 1, none⟩ = some (.slice A x.hs.length c) ∧ X.cell? ⟨w.heap.size + 1, 0, none⟩ = some (.int .i64 y.p) ∧ X.cell? ⟨w.heap.size + 1, 1, none⟩ = some (.slice A' y.hs.length c'))
      (first | with_reducible exact TwW.cells (by assumption) | with_reducible exact ⟨zc0, zc1, zc2, zc3⟩)
      (first | (go_at_call_of 65 (Value.int IntKind.i64 x.p); with_reducible refine (hxo.out _ (by assumption)).mono ?_; rintro e X2 ⟨F, rfl, hbF, hX2, hF⟩)
             | (go_at_call_of 65 (Value.int IntKind.i64 y.p); with_reducible refine (hyo.out _ (by assumption)).mono ?_; rintro e X3 ⟨G, rfl, hbG, hX3, hG⟩)
             | (go_at_call 72; first
                 | (with_reducible refine (hbo.out _ _ _ (by assumption) (Opn.upp hF hbG) hG).mono ?_; rintro e X4 ⟨H, rfl, hX4, hH⟩)
                 | (with_reducible refine (hbo.out _ _ _ (by assumption) hF (Opn.upp hG hbF)).mono ?_; rintro e X4 ⟨H, rfl, hX4, hH⟩))
             | (go_at_call 73; with_reducible refine (hwo.out _ _ (by assumption) hH).mono ?_; rintro e X5 ⟨A5, c5, rfl, hX5, hr5, hf5⟩
                have z0 := hX5.box.c0
                have z1 := hX5.box.c1
                have z2 := hX5.box.fz 0
                have z3 := hX5.box.fz 1
                have zl := hX5.box.lt
                obtain ⟨zc0, zc1, zc2, zc3⟩ : ((X5.setCell ⟨w.heap.size + 1 + 1, 0, none⟩ (.int .i64 m)).setCell ⟨w.heap.size + 1 + 1, 1, none⟩ (.slice A5 l.length c5)).cell? ⟨w.heap.size, 0, none⟩ = some (.int .i64 x.p) ∧ ((X5.setCell ⟨w.heap.size + 1 + 1, 0, none⟩ (.int .i64 m)).setCell ⟨w.heap.size + 1 + 1, 1, none⟩ (.slice A5 l.length c5)).cell? ⟨w.heap.size, 1, none⟩ = some (.slice A x.hs.length c) ∧ ((X5.setCell ⟨w.heap.size + 1 + 1, 0, none⟩ (.int .i64 m)).setCell ⟨w.heap.size + 1 + 1, 1, none⟩ (.slice A5 l.length c5)).cell? ⟨w.heap.size + 1, 0, none⟩ = some (.int .i64 y.p) ∧ ((X5.setCell ⟨w.heap.size + 1 + 1, 0, none⟩ (.int .i64 m)).setCell ⟨w.heap.size + 1 + 1, 1, none⟩ (.slice A5 l.length c5)).cell? ⟨w.heap.size + 1, 1, none⟩ = some (.slice A' y.hs.length c') := two_cells hX5 _ _))
    all_goals
      obtain ⟨y0, y1, hrw⟩ := res_win (w := w) (p := m) (c := c5) hX5.box hr5 (fun a ha => Or.inl (by have := hf5 a ha; omega))
      have hz := set2_below hX5.on.below (le2 w.heap.size) (.int .i64 (m : Nat)) (.slice A5 l.length c5)
      go_wp2
      exact bodyPost_ret (v := .tuple #[.agg #[.int .i64 (m : Nat), .slice A5 l.length c5], .int .i64 0]) (by simp [results, Try.results28, go_sem, y0, y1]) rfl ⟨A5, c5, rfl, hz, hrw, fun a ha => by have := hf5 a ha; omega⟩

set_option maxRecDepth 100000 in
set_option maxHeartbeats 4000000 in
theorem Either_any (B : Nat) (A A' : Option Addr) (c c' : Nat) (x y : Wn) (w : World) (h : Row w B A x.hs) (h' : Row w B A' y.hs) (hB : B ≤ w.heap.size) :
    Calls Try.prog 30 #[wnV x.p A x.hs.length c, wnV y.p A' y.hs.length c'] w (RetW w (eithR x y).1 (eithR x y).2) := by
  have h63 := h.1
  have h63' := h'.1
  have hW := twW_new w x.p y.p A A' x.hs.length y.hs.length c c'
  have c63 := (chk_2 (c := c) (c' := c') h h' hB hW.on.below true 60 (by omega)).mono fun e w' ⟨he, hb⟩ => And.intro he (hW.up hb)
  rw [show (((w.alloc (.cells #[.int .i64 x.p, .slice A x.hs.length c] 24)).alloc (.cells #[.int .i64 y.p, .slice A' y.hs.length c'] 24)).alloc (.cells #[.int .i64 0, .slice none 0 0] 24)).heap.size = w.heap.size + 1 + 1 + 1 by simp] at c63
  unfold wnV at *
  obtain ⟨c0, c1, d0, d1⟩ := hW.cells
  replace hW := Lib.hid hW
  cases hv : (winB x 60 && winB y 60) with
  | false =>
    have hR : eithR x y = (⟨0, []⟩, 50) := by unfold eithR; rw [hv]; simp
    rw [hR]
    rw [hv, if_neg (by simp)] at c63
    simp only []
    replace c63 := Lib.hid c63
    replace hR := Lib.hid hR
    replace hv := Lib.hid hv
    go_enter Try.func30, Try.ntmps30
    go_wp2_with fail
    refine c63.out.mono ?_
    rintro e X1 ⟨rfl, hX1⟩
    have z0 := hX1.box.fz 0
    have z1 := hX1.box.fz 1
    have z2 := hX1.box.c0
    have z3 := hX1.box.c1
    have hl := hX1.box.lt
    have y0 : ((X1.setCell ⟨w.heap.size + 1 + 1, 0, none⟩ (.int .i64 0)).setCell ⟨w.heap.size + 1 + 1, 1, none⟩ (.slice none 0 0)).cell? ⟨w.heap.size + 1 + 1, 0, none⟩ = some (.int .i64 0) := by
      simp [World.cell?, World.setCell, Array.getElem?_modify, show X1.heap[w.heap.size + 1 + 1]? = _ from hX1.box]
    have y1 : ((X1.setCell ⟨w.heap.size + 1 + 1, 0, none⟩ (.int .i64 0)).setCell ⟨w.heap.size + 1 + 1, 1, none⟩ (.slice none 0 0)).cell? ⟨w.heap.size + 1 + 1, 1, none⟩ = some (.slice none 0 0) := by
      simp [World.cell?, World.setCell, Array.getElem?_modify, show X1.heap[w.heap.size + 1 + 1]? = _ from hX1.box]
    have hz := set2_below hX1.on.below (le2 w.heap.size) (.int .i64 0) (.slice none 0 0)
    replace hX1 := Lib.hid hX1
    replace hz := Lib.hid hz
    go_wp2
    exact bodyPost_ret (v := .tuple #[.agg #[.int .i64 0, .slice none 0 0], .int .i64 50]) (by simp [results, Try.results30, go_sem, y0, y1]) rfl ⟨none, 0, rfl, hz.out, row_nil _ _ _, fun a ha => (by cases ha)⟩
  | true =>
    obtain ⟨hv1, hv2⟩ : winB x 60 = true ∧ winB y 60 = true := by simpa using hv
    obtain ⟨⟨p1, p2⟩, _⟩ := winB_iff.1 hv1
    obtain ⟨⟨q1, q2⟩, _⟩ := winB_iff.1 hv2
    obtain ⟨p, hp⟩ := Int.eq_ofNat_of_zero_le (show 0 ≤ x.p by omega)
    obtain ⟨q, hq⟩ := Int.eq_ofNat_of_zero_le (show 0 ≤ y.p by omega)
    have hmle : mulN p q ≤ 3600 := by
      have h1 := mulN_le p q
      have h2 : p * q ≤ 60 * 60 := Nat.mul_le_mul (by omega) (by omega)
      omega
    have hR : eithR x y = (⟨(mulN p q : Nat), hrsL (fun j => opB x (j : Nat) || opB y (j : Nat)) (mulN p q)⟩, 0) := by unfold eithR; rw [hv, hp, hq, Int.toNat_natCast, Int.toNat_natCast]; simp
    rw [hR]
    rw [hv, if_pos rfl, if_pos rfl] at c63
    have hxo : ∀ X, TwW w x.p y.p A A' x.hs.length y.hs.length c c' X → Calls Try.prog 65 #[.agg #[.int .i64 x.p, .slice A x.hs.length c]] X fun e w' => ∃ F, e = .returned (.agg #[.int .i64 x.p, F]) ∧ Below X.heap.size X w' ∧ TwW w x.p y.p A A' x.hs.length y.hs.length c c' w' ∧ Opn w' w'.heap.size F (opB x) := fun X hX =>
      (openingOf_any B A c x X (h.below (hX.on.below.mono hB)) (Nat.le_trans hB hX.on.below.size) (win_more hv1 (by omega))).mono fun e w' ⟨F, he, hb, hO⟩ => ⟨F, he, hb, hX.up hb, hO⟩
    have hyo : ∀ X, TwW w x.p y.p A A' x.hs.length y.hs.length c c' X → Calls Try.prog 65 #[.agg #[.int .i64 y.p, .slice A' y.hs.length c']] X fun e w' => ∃ F, e = .returned (.agg #[.int .i64 y.p, F]) ∧ Below X.heap.size X w' ∧ TwW w x.p y.p A A' x.hs.length y.hs.length c c' w' ∧ Opn w' w'.heap.size F (opB y) := fun X hX =>
      (openingOf_any B A' c' y X (h'.below (hX.on.below.mono hB)) (Nat.le_trans hB hX.on.below.size) (win_more hv2 (by omega))).mono fun e w' ⟨F, he, hb, hO⟩ => ⟨F, he, hb, hX.up hb, hO⟩
    have hbo : ∀ F G X, TwW w x.p y.p A A' x.hs.length y.hs.length c c' X → Opn X X.heap.size F (opB x) → Opn X X.heap.size G (opB y) → Calls Try.prog 75 #[.agg #[.int .i64 x.p, F], .agg #[.int .i64 y.p, G]] X fun e w' => ∃ H, e = .returned (.agg #[.int .i64 (mulN p q : Nat), H]) ∧ TwW w x.p y.p A A' x.hs.length y.hs.length c c' w' ∧ Opn w' w'.heap.size H (fun h => opB x h || opB y h) := fun F G X hX hF hG => by
      have := either_any X.heap.size p q F G (opB x) (opB y) X hF hG (Nat.le_refl _) (by omega) (by omega)
      rw [hp, hq]
      rw [hp, hq] at hX
      exact this.mono fun e w' ⟨H, he, hb, hO⟩ => ⟨H, he, hX.up hb, hO⟩
    have hwo : ∀ H X, TwW w x.p y.p A A' x.hs.length y.hs.length c c' X → Opn X X.heap.size H (fun h => opB x h || opB y h) → Calls Try.prog 73 #[.agg #[.int .i64 (mulN p q : Nat), H]] X fun e w' => ∃ A5 c5, e = .returned (.agg #[.int .i64 (mulN p q : Nat), .slice A5 (hrsL (fun j => opB x (j : Nat) || opB y (j : Nat)) (mulN p q)).length c5]) ∧ TwW w x.p y.p A A' x.hs.length y.hs.length c c' w' ∧ Row w' w'.heap.size A5 (hrsL (fun j => opB x (j : Nat) || opB y (j : Nat)) (mulN p q)) ∧ ∀ a, A5 = some a → w.heap.size + 1 + 1 < a.block := fun H X hX hH =>
      (window_any X.heap.size (mulN p q) H _ X hH.small (Nat.le_refl _) (by omega)).mono fun e w' ⟨A5, c5, he, hb, hr, hfr⟩ => ⟨A5, c5, he, hX.up hb, hr, fun a ha => by have := hfr a ha; have := hX.box.lt; omega⟩
    have hll := hrsL_le (fun j => opB x (j : Nat) || opB y (j : Nat)) (mulN p q)
    simp only []
    generalize mulN p q = m at *
    generalize hrsL (fun j => opB x (j : Nat) || opB y (j : Nat)) m = l at *
    replace c63 := Lib.hid c63
    replace hR := Lib.hid hR
    replace hv := Lib.hid hv
    replace hv1 := Lib.hid hv1
    replace hv2 := Lib.hid hv2
    replace hp := Lib.hid hp
    replace hq := Lib.hid hq
    replace hxo := Lib.hid hxo
    replace hyo := Lib.hid hyo
    replace hbo := Lib.hid hbo
    replace hwo := Lib.hid hwo
    go_enter Try.func30, Try.ntmps30
    go_wp2_with fail
    refine c63.out.mono ?_
    rintro e X1 ⟨rfl, hX1⟩
    have hXd := hX1.drew
    replace hX1 := Lib.hid hX1
    go_wp2_with fail
    go_region_held3 (fun X => X.cell? ⟨w.heap.size, 0, none⟩ = some (.int .i64 x.p) ∧ X.cell? ⟨w.heap.size, 1, none⟩ = some (.slice A x.hs.length c) ∧ X.cell? ⟨w.heap.size + 1, 0, none⟩ = some (.int .i64 y.p) ∧ X.cell? ⟨w.heap.size + 1, 1, none⟩ = some (.slice A' y.hs.length c'))
      (first | with_reducible exact TwW.cells (by assumption) | with_reducible exact ⟨zc0, zc1, zc2, zc3⟩)
      (first | (go_at_call_of 65 (Value.int IntKind.i64 x.p); with_reducible refine (hxo.out _ (by assumption)).mono ?_; rintro e X2 ⟨F, rfl, hbF, hX2, hF⟩)
             | (go_at_call_of 65 (Value.int IntKind.i64 y.p); with_reducible refine (hyo.out _ (by assumption)).mono ?_; rintro e X3 ⟨G, rfl, hbG, hX3, hG⟩)
             | (go_at_call 75; first
                 | (with_reducible refine (hbo.out _ _ _ (by assumption) (Opn.upp hF hbG) hG).mono ?_; rintro e X4 ⟨H, rfl, hX4, hH⟩)
                 | (with_reducible refine (hbo.out _ _ _ (by assumption) hF (Opn.upp hG hbF)).mono ?_; rintro e X4 ⟨H, rfl, hX4, hH⟩))
             | (go_at_call 73; with_reducible refine (hwo.out _ _ (by assumption) hH).mono ?_; rintro e X5 ⟨A5, c5, rfl, hX5, hr5, hf5⟩
                have z0 := hX5.box.c0
                have z1 := hX5.box.c1
                have z2 := hX5.box.fz 0
                have z3 := hX5.box.fz 1
                have zl := hX5.box.lt
                obtain ⟨zc0, zc1, zc2, zc3⟩ : ((X5.setCell ⟨w.heap.size + 1 + 1, 0, none⟩ (.int .i64 m)).setCell ⟨w.heap.size + 1 + 1, 1, none⟩ (.slice A5 l.length c5)).cell? ⟨w.heap.size, 0, none⟩ = some (.int .i64 x.p) ∧ ((X5.setCell ⟨w.heap.size + 1 + 1, 0, none⟩ (.int .i64 m)).setCell ⟨w.heap.size + 1 + 1, 1, none⟩ (.slice A5 l.length c5)).cell? ⟨w.heap.size, 1, none⟩ = some (.slice A x.hs.length c) ∧ ((X5.setCell ⟨w.heap.size + 1 + 1, 0, none⟩ (.int .i64 m)).setCell ⟨w.heap.size + 1 + 1, 1, none⟩ (.slice A5 l.length c5)).cell? ⟨w.heap.size + 1, 0, none⟩ = some (.int .i64 y.p) ∧ ((X5.setCell ⟨w.heap.size + 1 + 1, 0, none⟩ (.int .i64 m)).setCell ⟨w.heap.size + 1 + 1, 1, none⟩ (.slice A5 l.length c5)).cell? ⟨w.heap.size + 1, 1, none⟩ = some (.slice A' y.hs.length c') := two_cells hX5 _ _))
    all_goals
      obtain ⟨y0, y1, hrw⟩ := res_win (w := w) (p := m) (c := c5) hX5.box hr5 (fun a ha => Or.inl (by have := hf5 a ha; omega))
      have hz := set2_below hX5.on.below (le2 w.heap.size) (.int .i64 (m : Nat)) (.slice A5 l.length c5)
      go_wp2
      exact bodyPost_ret (v := .tuple #[.agg #[.int .i64 (m : Nat), .slice A5 l.length c5], .int .i64 0]) (by simp [results, Try.results30, go_sem, y0, y1]) rfl ⟨A5, c5, rfl, hz, hrw, fun a ha => by have := hf5 a ha; omega⟩
end Go.Proofs.Ytlnpnfjdcnijhaa
