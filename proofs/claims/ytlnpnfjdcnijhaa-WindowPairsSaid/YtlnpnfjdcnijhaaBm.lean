/-
  A window that is shifted: the program's function, for any arguments.
-/
import Derived.Test.YtlnpnfjdcnijhaaBl
namespace Go.Proofs.Ytlnpnfjdcnijhaa
open Go.RowKit Go.Deep M
set_option linter.unusedVariables false
set_option linter.unusedSimpArgs false

set_option maxRecDepth 100000 in
set_option maxHeartbeats 2000000 in
theorem Shifted_bad (B : Nat) (A : Option Addr) (c : Nat) (x : Wn) (by_ er : Int) (w : World) (h : Row w B A x.hs) (hB : B ≤ w.heap.size) (he : errW [⟨x, A, c⟩] 3600 (shB by_) = er) (her : er = 2 ∨ er = 50) :
    Calls Try.prog 35 #[wnV x.p A x.hs.length c, .int .i64 by_] w (RetW w ⟨0, []⟩ er) := by
  have h63 := h.1
  have hW := swW_new w x.p A x.hs.length c
  have c78 : ∀ W, _ := fun W => isShift_any by_ W
  have hWd := hW.drew
  have c63 := (chk_b h hB hWd.on (shB by_) 3600 (by omega)).mono fun e w' ⟨he, hb⟩ => And.intro he (hWd.up hb)
  rw [he] at c63
  generalize shB by_ = sb at *
  rw [show (((w.alloc (.cells #[.int .i64 x.p, .slice A x.hs.length c] 24)).alloc (.cells #[.int .i64 0, .slice none 0 0] 24)).drew).heap.size = w.heap.size + 1 + 1 by simp] at c63
  rw [show (((w.alloc (.cells #[.int .i64 x.p, .slice A x.hs.length c] 24)).alloc (.cells #[.int .i64 0, .slice none 0 0] 24)).drew).alloc (.cells #[.int .i64 x.p, .slice A x.hs.length c] 24) = (((w.alloc (.cells #[.int .i64 x.p, .slice A x.hs.length c] 24)).alloc (.cells #[.int .i64 0, .slice none 0 0] 24)).alloc (.cells #[.int .i64 x.p, .slice A x.hs.length c] 24)).drew from rfl] at c63
  unfold wnV at *
  have k0 := hWd.on.cells
  have k1 := (hW.up (ba1 _ (.cells #[.int .i64 x.p, .slice A x.hs.length c] 24))).drew.on.cells
  have c0 := hW.on.box.c0
  have c1 := hW.on.box.c1
  have hne : ¬ (er = 0) := by omega
  replace hW := Lib.hid hW
  replace hWd := Lib.hid hWd
  replace c63 := Lib.hid c63
  replace c78 := Lib.hid c78
  replace he := Lib.hid he
  replace her := Lib.hid her
  go_enter Try.func35, Try.ntmps35
  go_wp2
  go_region_held3 (fun X => X.cell? ⟨w.heap.size, 0, none⟩ = some (.int .i64 x.p) ∧ X.cell? ⟨w.heap.size, 1, none⟩ = some (.slice A x.hs.length c))
    (first | with_reducible exact k0 | with_reducible exact k1 | with_reducible exact k2)
    (first | (go_at_call 78; refine (c78.out _).mono ?_; rintro _ X1 ⟨rfl, rfl⟩) | (go_at_call 63; refine c63.out.mono ?_; rintro _ X2 ⟨rfl, hX2⟩; have k2 := hX2.on.cells))
  all_goals
    have z0 := hX2.box.fz 0
    have z1 := hX2.box.fz 1
    have z2 := hX2.box.c0
    have z3 := hX2.box.c1
    have hl := hX2.box.lt
    have y0 : ((X2.setCell ⟨w.heap.size + 1, 0, none⟩ (.int .i64 0)).setCell ⟨w.heap.size + 1, 1, none⟩ (.slice none 0 0)).cell? ⟨w.heap.size + 1, 0, none⟩ = some (.int .i64 0) := by
      simp [World.cell?, World.setCell, Array.getElem?_modify, show X2.heap[w.heap.size + 1]? = _ from hX2.box]
    have y1 : ((X2.setCell ⟨w.heap.size + 1, 0, none⟩ (.int .i64 0)).setCell ⟨w.heap.size + 1, 1, none⟩ (.slice none 0 0)).cell? ⟨w.heap.size + 1, 1, none⟩ = some (.slice none 0 0) := by
      simp [World.cell?, World.setCell, Array.getElem?_modify, show X2.heap[w.heap.size + 1]? = _ from hX2.box]
    have hz := set2_below hX2.on.below (Nat.le_succ w.heap.size) (.int .i64 0) (.slice none 0 0)
    replace hX2 := Lib.hid hX2
    replace hz := Lib.hid hz
    go_wp2
    exact bodyPost_ret (v := .tuple #[.agg #[.int .i64 0, .slice none 0 0], .int .i64 er]) (by simp [results, Try.results35, go_sem, y0, y1]) rfl ⟨none, 0, rfl, hz.out, row_nil _ _ _, fun a ha => (by cases ha)⟩

set_option maxRecDepth 100000 in
set_option maxHeartbeats 2000000 in
theorem Shifted_good2 (B : Nat) (A : Option Addr) (c : Nat) (x : Wn) (p : Nat) (by_ : Int) (w : World) (h : Row w B A x.hs) (hB : B ≤ w.heap.size) (hv : winB x 3600 = true) (hp : x.p = (p : Int)) (hby : -1000000 ≤ by_ ∧ by_ ≤ 1000000) :
    Calls Try.prog 35 #[wnV x.p A x.hs.length c, .int .i64 by_] w (RetW w ⟨(p : Nat), hrsL (fun j => opB x ((j : Nat) + by_)) p⟩ 0) := by
  have h63 := h.1
  obtain ⟨⟨p1, p2⟩, _⟩ := winB_iff.1 hv
  have hW := swW_new w x.p A x.hs.length c
  have c78 : ∀ W, _ := fun W => isShift_good by_ W hby
  have hWd := hW.drew
  have he : errW [⟨x, A, c⟩] 3600 true = 0 := by unfold errW; rw [wnsB1, hv]; simp
  have c63 := (chk_b h hB hWd.on true 3600 (by omega)).mono fun e w' ⟨he, hb⟩ => And.intro he (hWd.up hb)
  rw [he] at c63
  rw [show (((w.alloc (.cells #[.int .i64 x.p, .slice A x.hs.length c] 24)).alloc (.cells #[.int .i64 0, .slice none 0 0] 24)).drew).heap.size = w.heap.size + 1 + 1 by simp] at c63
  rw [show (((w.alloc (.cells #[.int .i64 x.p, .slice A x.hs.length c] 24)).alloc (.cells #[.int .i64 0, .slice none 0 0] 24)).drew).alloc (.cells #[.int .i64 x.p, .slice A x.hs.length c] 24) = (((w.alloc (.cells #[.int .i64 x.p, .slice A x.hs.length c] 24)).alloc (.cells #[.int .i64 0, .slice none 0 0] 24)).alloc (.cells #[.int .i64 x.p, .slice A x.hs.length c] 24)).drew from rfl] at c63
  have hop : ∀ X, OnW w x.p A x.hs.length c X → Calls Try.prog 65 #[wnV x.p A x.hs.length c] X (OpenR X x.p (opB x)) := fun X hX => openingOf_any B A c x X (h.below (hX.below.mono hB)) (Nat.le_trans hB hX.below.size) hv
  have hsh : ∀ F X, Opn X X.heap.size F (opB x) → Calls Try.prog 79 #[.agg #[.int .i64 x.p, F], .int .i64 by_] X fun e w' => ∃ G, e = .returned (.agg #[.int .i64 x.p, G]) ∧ Below X.heap.size X w' ∧ OpnS w' w'.heap.size G (fun h => opB x (h + by_)) := fun F X hO => by
    rw [hp]; exact shifted_any X.heap.size p by_ F (opB x) X hO (Nat.le_refl _) hby
  have hwn : ∀ G X, OpnS X X.heap.size G (fun h => opB x (h + by_)) → Calls Try.prog 73 #[.agg #[.int .i64 x.p, G]] X (NewWn X p (hrsL (fun j => opB x ((j : Nat) + by_)) p)) := fun G X hO => by
    rw [hp]; exact window_any X.heap.size p G _ X hO (Nat.le_refl _) (by omega)
  have hll := hrsL_le (fun j => opB x ((j : Nat) + by_)) p
  generalize hrsL (fun j => opB x ((j : Nat) + by_)) p = l at *
  unfold wnV at *
  have k0 := hWd.on.cells
  have k1 := (hW.up (ba1 _ (.cells #[.int .i64 x.p, .slice A x.hs.length c] 24))).drew.on.cells
  have c0 := hW.on.box.c0
  have c1 := hW.on.box.c1
  replace hW := Lib.hid hW
  replace hWd := Lib.hid hWd
  replace c63 := Lib.hid c63
  replace c78 := Lib.hid c78
  replace hop := Lib.hid hop
  replace hsh := Lib.hid hsh
  replace hwn := Lib.hid hwn
  replace hv := Lib.hid hv
  replace hp := Lib.hid hp
  replace he := Lib.hid he
  go_enter Try.func35, Try.ntmps35
  go_wp2
  go_region_held3 (fun X => X.cell? ⟨w.heap.size, 0, none⟩ = some (.int .i64 x.p) ∧ X.cell? ⟨w.heap.size, 1, none⟩ = some (.slice A x.hs.length c))
    (first | with_reducible exact k0 | with_reducible exact k1 | with_reducible exact k2)
    (first | (go_at_call 78; refine (c78.out _).mono ?_; rintro _ X1 ⟨rfl, rfl⟩) | (go_at_call 63; refine c63.out.mono ?_; rintro _ X2 ⟨rfl, hX2⟩; have k2 := hX2.on.cells))
  all_goals
    have f0 := hX2.on.box.c0
    have f1 := hX2.on.box.c1
    have ho := Lib.hid (hop.out _ hX2.on)
    replace hX2 := Lib.hid hX2
    go_wp2_with fail
    refine ho.out.mono ?_
    rintro e X3 ⟨F, rfl, hb3, hO⟩
    have hs := Lib.hid (hsh.out F X3 hO)
    have hX3 := Lib.hid (hX2.out.up hb3)
    replace hO := Lib.hid hO
    replace hb3 := Lib.hid hb3
    go_wp2_with fail
    refine hs.out.mono ?_
    rintro e X4 ⟨G, rfl, hb4, hG⟩
    have hw4 := Lib.hid (hwn.out G X4 hG)
    have hX4 := Lib.hid (hX3.out.up hb4)
    replace hG := Lib.hid hG
    replace hb4 := Lib.hid hb4
    go_wp2_with fail
    refine hw4.out.mono ?_
    rintro e X5 ⟨A5, c5, rfl, hb5, hrow, hfr⟩
    unfold wnV
    have hX5 := hX4.out.up hb5
    have hlt := hX4.out.box.lt
    obtain ⟨y0, y1, hrw⟩ := res_win (w := w) (p := p) (c := c5) hX5.box hrow (fun a ha => Or.inl (by have := hfr a ha; omega))
    have hz := set2_below hX5.on.below (Nat.le_succ w.heap.size) (.int .i64 (p : Nat)) (.slice A5 l.length c5)
    have z0 := hX5.box.c0
    have z1 := hX5.box.c1
    have z2 := hX5.box.fz 0
    have z3 := hX5.box.fz 1
    have hl5 := hX5.box.lt
    replace hX5 := Lib.hid hX5
    replace hb5 := Lib.hid hb5
    replace hrow := Lib.hid hrow
    replace hfr := Lib.hid hfr
    replace hrw := Lib.hid hrw
    replace hz := Lib.hid hz
    go_wp2
    exact bodyPost_ret (v := .tuple #[.agg #[.int .i64 (p : Nat), .slice A5 l.length c5], .int .i64 0]) (by simp [results, Try.results35, go_sem, y0, y1]) rfl ⟨A5, c5, rfl, hz.out, hrw.out, fun a ha => Nat.le_trans hX4.out.on.below.size (hfr.out a ha)⟩

theorem Shifted_any (B : Nat) (A : Option Addr) (c : Nat) (x : Wn) (by_ : Int) (w : World) (h : Row w B A x.hs) (hB : B ≤ w.heap.size) :
    Calls Try.prog 35 #[wnV x.p A x.hs.length c, .int .i64 by_] w (RetW w (shiftR x by_).1 (shiftR x by_).2) := by
  unfold shiftR
  cases hv : winB x 3600 with
  | false =>
    rw [if_neg (by simp)]
    exact Shifted_bad B A c x by_ 50 w h hB (by unfold errW; rw [wnsB1, hv]; simp) (.inr rfl)
  | true =>
    rw [if_pos rfl]
    cases hs : shB by_ with
    | false =>
      rw [if_neg (by simp)]
      exact Shifted_bad B A c x by_ 2 w h hB (by unfold errW; rw [wnsB1, hv, hs]; simp) (.inl rfl)
    | true =>
      rw [if_pos rfl]
      obtain ⟨p, hp, _, _, _⟩ := win_nat hv
      rw [hp, Int.toNat_natCast]
      have := Shifted_good2 B A c x p by_ w h hB hv hp (shB_iff.1 hs)
      rw [hp] at this
      exact this
theorem not_is {X : World} {b c : Nat} {x z : Wn} {A : Option Addr} {r : Int} (h : Bw X b x A c) (hz : notR x = (z, r)) : Calls Try.prog 33 #[.agg #[.int .i64 x.p, .slice A x.hs.length c]] X (GotE X z r) := by
  have := Not_any X.heap.size A c x X h.2 (Nat.le_refl _)
  rw [hz] at this
  exact this
theorem notref_is {X : World} {b c : Nat} {x z : Wn} {A : Option Addr} {r : Int} (h : Bw X b x A c) (hz : notR x = (z, r)) : Calls Try.prog 34 #[.agg #[.int .i64 x.p, .slice A x.hs.length c]] X (GotE X z r) := by
  have := Not_ref X.heap.size A c x X h.2 (Nat.le_refl _)
  rw [hz] at this
  exact this
theorem plainE_is {X : World} {b c : Nat} {x z : Wn} {A : Option Addr} {r : Int} (h : Bw X b x A c) (hz : plainR x = (z, r)) : Calls Try.prog 37 #[.agg #[.int .i64 x.p, .slice A x.hs.length c]] X (GotE X z r) := by
  have := Plain_any X.heap.size A c x X h.2 (Nat.le_refl _)
  rw [hz] at this
  exact this
theorem plainref_is {X : World} {b c : Nat} {x z : Wn} {A : Option Addr} {r : Int} (h : Bw X b x A c) (hz : plainR x = (z, r)) : Calls Try.prog 38 #[.agg #[.int .i64 x.p, .slice A x.hs.length c]] X (GotE X z r) := by
  have := Plain_ref X.heap.size A c x X h.2 (Nat.le_refl _)
  rw [hz] at this
  exact this
theorem shift_is {X : World} {b c : Nat} {x z : Wn} {A : Option Addr} {r d : Int} (h : Bw X b x A c) (hz : shiftR x d = (z, r)) : Calls Try.prog 35 #[.agg #[.int .i64 x.p, .slice A x.hs.length c], .int .i64 d] X (GotE X z r) := by
  have := Shifted_any X.heap.size A c x d X h.2 (Nat.le_refl _)
  rw [hz] at this
  exact this
theorem shiftref_is {X : World} {b c : Nat} {x z : Wn} {A : Option Addr} {r d : Int} (h : Bw X b x A c) (hz : shiftR x d = (z, r)) : Calls Try.prog 36 #[.agg #[.int .i64 x.p, .slice A x.hs.length c], .int .i64 d] X (GotE X z r) := by
  have := Shifted_ref X.heap.size A c x d X h.2 (Nat.le_refl _)
  rw [hz] at this
  exact this
/-- A store of another window into a variable. -/
theorem Bw.set {X : World} {b c c' : Nat} {x z : Wn} {A A' : Option Addr} (h : Bw X b x A c) (hr : Row X X.heap.size A' z.hs) (hne : ∀ a, A' = some a → a.block ≠ b ∨ z.hs.length = 0) :
    Bw ((X.setCell ⟨b, 0, none⟩ (.int .i64 z.p)).setCell ⟨b, 1, none⟩ (.slice A' z.hs.length c')) b z A' c' := by
  refine ⟨?_, row_stW hr hne⟩
  have := h.1
  unfold BxW at *
  simp [World.setCell, Array.getElem?_modify, this]
theorem Bw.far {X : World} {b b' c : Nat} {x : Wn} {A : Option Addr} (h : Bw X b x A c) (hb : b ≠ b') (hne : ∀ a, A = some a → a.block ≠ b' ∨ x.hs.length = 0) (p : Int) (D : Option Addr) (n k : Nat) :
    Bw ((X.setCell ⟨b', 0, none⟩ (.int .i64 p)).setCell ⟨b', 1, none⟩ (.slice D n k)) b x A c :=
  ⟨h.1.to (set2_far hb _ _), row_stW h.2 hne⟩
end Go.Proofs.Ytlnpnfjdcnijhaa
