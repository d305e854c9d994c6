/-
  The window that is open when another one is not, and the shifted one: the specification's functions, and the program's for any arguments.
-/
import Derived.Test.YtlnpnfjdcnijhaaBk
namespace Go.Proofs.Ytlnpnfjdcnijhaa
open Go.RowKit Go.Deep M
set_option linter.unusedVariables false
set_option linter.unusedSimpArgs false

namespace M
def shB (b : Int) : Bool := decide (-1000000 ≤ b) && decide (b ≤ 1000000)
theorem shB_iff {b : Int} : shB b = true ↔ -1000000 ≤ b ∧ b ≤ 1000000 := by unfold shB; simp
def shiftR (x : Wn) (b : Int) : Wn × Int := if winB x 3600 = true then (if shB b = true then (⟨x.p, hrsL (fun j => opB x ((j : Nat) + b)) x.p.toNat⟩, 0) else (⟨0, []⟩, 2)) else (⟨0, []⟩, 50)
end M
theorem isShift_any (b : Int) (w : World) : Calls Try.prog 78 #[.int .i64 b] w fun e w' => e = .returned (.bool (shB b)) ∧ w = w' := by
  unfold shB
  by_cases h1 : -1000000 ≤ b <;> by_cases h2 : b ≤ 1000000
  all_goals
    go_enter Try.func78, Try.ntmps78
    go_wp2
    go_ret
    exact ⟨ret_bool (by simp [h1, h2]), rfl⟩
/-- The window of a table. -/
theorem win77 {w X : World} {P : Int} {A : Option Addr} {n c g k : Nat} (cc : Nat) {f : Nat → Bool} (hX : SwW w P A n c X) (hb : BlB X g k f) (hk : k ≤ 1000000) :
    Calls Try.prog 77 #[.slice (some ⟨g, 0, none⟩) k cc] X fun e w' => ∃ A5 c5, e = .returned (.agg #[.int .i64 (k : Nat), .slice A5 (hrsL f k).length c5]) ∧ SwW w P A n c w' ∧ Row w' w'.heap.size A5 (hrsL f k) ∧ ∀ a, A5 = some a → w.heap.size + 1 < a.block :=
  (window_ref g k cc f X hb hk).mono fun e w' ⟨A5, c5, he, hb, hr, hfr⟩ => ⟨A5, c5, he, hX.up hb, hr, fun a ha => by have := hfr a ha; have := hX.box.lt; omega⟩
theorem SwW.set {w X : World} {P : Int} {A : Option Addr} {n c g : Nat} (h : SwW w P A n c X) (hg : w.heap.size + 1 < g) (k : Nat) (v : Value) : SwW w P A n c (X.setCell ⟨g, k, none⟩ v) :=
  ⟨⟨h.on.below.setCell (show w.heap.size ≤ g by omega) v, h.on.box.to (setCell_far (show w.heap.size ≠ g by omega))⟩, h.box.to (setCell_far (show w.heap.size + 1 ≠ g by omega))⟩
theorem BlB.far {X : World} {g n b k : Nat} {f : Nat → Bool} (h : BlB X g n f) (hb : g ≠ b) (v : Value) : BlB (X.setCell ⟨b, k, none⟩ v) g n f := h.to (setCell_far hb)

set_option maxRecDepth 100000 in
set_option maxHeartbeats 4000000 in
theorem Not_ref (B : Nat) (A : Option Addr) (c : Nat) (x : Wn) (w : World) (h : Row w B A x.hs) (hB : B ≤ w.heap.size) :
    Calls Try.prog 34 #[wnV x.p A x.hs.length c] w (RetW w (notR x).1 (notR x).2) := by
  have h63 := h.1
  have hW := swW_new w x.p A x.hs.length c
  have c58 := (Wide_ref B A c x _ (h.below (hW.on.below.mono hB)) (Nat.le_trans hB hW.on.below.size)).mono fun e w' ⟨he, hb⟩ => And.intro he (hW.up hb)
  obtain ⟨c0, c1⟩ := hW.on.cells
  replace hW := Lib.hid hW
  cases hv : winB x 3600 with
  | false =>
    have hR : notR x = (⟨0, []⟩, 50) := by unfold notR; rw [hv]; simp
    rw [hR]
    rw [hv] at c58
    unfold wnV at *
    simp only []
    replace c58 := Lib.hid c58
    replace hR := Lib.hid hR
    replace hv := Lib.hid hv
    go_enter Try.func34, Try.ntmps34
    go_wp2_with fail
    refine c58.out.mono ?_
    rintro e X1 ⟨rfl, hX1⟩
    have z0 := hX1.box.fz 0
    have z1 := hX1.box.fz 1
    have z2 := hX1.box.c0
    have z3 := hX1.box.c1
    have hl := hX1.box.lt
    have y0 : ((X1.setCell ⟨w.heap.size + 1, 0, none⟩ (.int .i64 0)).setCell ⟨w.heap.size + 1, 1, none⟩ (.slice none 0 0)).cell? ⟨w.heap.size + 1, 0, none⟩ = some (.int .i64 0) := by
      simp [World.cell?, World.setCell, Array.getElem?_modify, show X1.heap[w.heap.size + 1]? = _ from hX1.box]
    have y1 : ((X1.setCell ⟨w.heap.size + 1, 0, none⟩ (.int .i64 0)).setCell ⟨w.heap.size + 1, 1, none⟩ (.slice none 0 0)).cell? ⟨w.heap.size + 1, 1, none⟩ = some (.slice none 0 0) := by
      simp [World.cell?, World.setCell, Array.getElem?_modify, show X1.heap[w.heap.size + 1]? = _ from hX1.box]
    have hz := set2_below hX1.on.below (Nat.le_succ w.heap.size) (.int .i64 0) (.slice none 0 0)
    replace hX1 := Lib.hid hX1
    replace hz := Lib.hid hz
    go_wp2
    exact bodyPost_ret (v := .tuple #[.agg #[.int .i64 0, .slice none 0 0], .int .i64 50]) (by simp [results, Try.results34, go_sem, y0, y1]) rfl ⟨none, 0, rfl, hz.out, row_nil _ _ _, fun a ha => (by cases ha)⟩
  | true =>
    obtain ⟨m, hp, hp1, hp2, hg⟩ := win_nat hv
    have hR := notR_eq hv hp
    rw [hR]
    rw [hv] at c58
    have hho : ∀ X, SwW w x.p A x.hs.length c X → Calls Try.prog 67 #[.agg #[.int .i64 x.p, .slice A x.hs.length c]] X fun e w' => ∃ g, e = .returned (.slice (some ⟨g, 0, none⟩) m m) ∧ w.heap.size + 1 < g ∧ SwW w x.p A x.hs.length c w' ∧ BlB w' g m (fun j => opB x (j : Nat)) := fun X hX => by
      have := hours_ref B A c x m X (h.below (hX.on.below.mono hB)) (Nat.le_trans hB hX.on.below.size) hv hp
      rw [← hp] at this
      exact this.mono fun e w' ⟨g, he, hb, hbl, hg⟩ => ⟨g, he, by have := hX.box.lt; omega, hX.up hb, hbl.congr fun j hj => (opB_eq (by rw [hp]; exact Int.emod_eq_of_lt (by omega) (by omega))).symm⟩
    simp only []
    obtain ⟨f, hf⟩ : ∃ f : Nat → Bool, f = fun j => opB x (j : Nat) := ⟨_, rfl⟩
    have hfe : (fun j : Nat => !opB x (j : Nat)) = fun j => !f j := by rw [hf]
    rw [hfe]
    rw [← hf] at hho
    have hll := hrsL_le (fun j => !f j) m
    obtain ⟨l, hl⟩ : ∃ l, l = hrsL (fun j => !f j) m := ⟨_, rfl⟩
    have hwn : ∀ X g, SwW w x.p A x.hs.length c X → BlB X g m (fun j => !f j) → _ := fun X g hX hb => win77 m hX hb (show m ≤ 1000000 by omega)
    rw [← hl] at hll hwn ⊢
    unfold wnV at *
    replace hl := Lib.hid hl
    replace hf := Lib.hid hf
    replace hfe := Lib.hid hfe
    replace c58 := Lib.hid c58
    replace hR := Lib.hid hR
    replace hv := Lib.hid hv
    replace hp := Lib.hid hp
    replace hho := Lib.hid hho
    replace hwn := Lib.hid hwn
    clear hg
    go_enter Try.func34, Try.ntmps34
    go_wp2_with fail
    refine c58.out.mono ?_
    rintro e X1 ⟨rfl, hX1⟩
    have f0 := hX1.on.box.c0
    have f1 := hX1.on.box.c1
    have ho := Lib.hid (hho.out _ hX1)
    go_wp2_with fail
    refine ho.out.mono ?_
    rintro e X2 ⟨g, rfl, hg, hX2, hb2⟩
    clear f0 f1 c0 c1
    have hb3 := Lib.hid (hb2.congr (f' := fun i => if i < 0 then !f i else f i) fun i _ => by simp)
    replace hb2 := Lib.hid hb2
    replace hX2 := Lib.hid hX2
    replace hX1 := Lib.hid hX1
    go_wp2
    go_loopw [14] (fun i X => ∃ k : Nat, k ≤ m ∧ i = .int .i64 (k : Nat) ∧ SwW w x.p A x.hs.length c X ∧ BlB X g m (fun i => if i < k then !f i else f i)) (fun i _ => m - (intOf i).toNat)
    case atStart => exact ⟨0, Nat.zero_le _, rfl, hX2.out, hb3.out⟩
    case round =>
      obtain ⟨k, hk, rfl, hX, hbl⟩ := hrel
      by_cases hlt : k < m
      · have e1 := hbl.cell hlt
        have e2 := hbl.fz k
        have e3 := hbl.lt
        simp only [Nat.lt_irrefl, if_false] at e1
        have hX3 := hX.set hg k (.bool (!f k))
        have hb4 := (hbl.set hlt (!f k)).congr (f' := fun i => if i < k + 1 then !f i else f i) fun i _ => by
          by_cases e : i = k
          · subst e; simp
          · by_cases e' : i < k
            · simp [e, e', Nat.lt_succ_of_lt e']
            · have : ¬ i < k + 1 := by omega
              simp [e, e', this]
        generalize f k = b at *
        replace hX := Lib.hid hX
        replace hbl := Lib.hid hbl
        replace hX3 := Lib.hid hX3
        replace hb4 := Lib.hid hb4
        go_wp2
        go_roundw
        case rel => exact ⟨k + 1, by omega, by go_num, hX3.out, hb4.out⟩
        case measure => simp [intOf]; omega
      · have hk' : k = m := by omega
        have hc := hwn.out wr g hX (hbl.congr fun i hi => by simp [show i < k by omega])
        subst hk'
        replace hX := Lib.hid hX
        replace hbl := Lib.hid hbl
        replace hc := Lib.hid hc
        go_wp2_with fail
        refine hc.out.mono ?_
        rintro e X5 ⟨A5, c5, rfl, hX5, hrow, hfr⟩
        obtain ⟨y0, y1, hrw⟩ := res_win (w := w) (p := k) (c := c5) hX5.box hrow (fun a ha => Or.inl (by have := hfr a ha; omega))
        have hz := set2_below hX5.on.below (Nat.le_succ w.heap.size) (.int .i64 (k : Nat)) (.slice A5 l.length c5)
        have z0 := hX5.box.c0
        have z1 := hX5.box.c1
        have z2 := hX5.box.fz 0
        have z3 := hX5.box.fz 1
        have hl5 := hX5.box.lt
        replace hX5 := Lib.hid hX5
        replace hrow := Lib.hid hrow
        replace hfr := Lib.hid hfr
        replace hrw := Lib.hid hrw
        replace hz := Lib.hid hz
        go_wp2
        exact bodyPost_ret (v := .tuple #[.agg #[.int .i64 (k : Nat), .slice A5 l.length c5], .int .i64 0]) (by simp [results, Try.results34, go_sem, y0, y1]) rfl ⟨A5, c5, rfl, hz.out, hrw.out, fun a ha => by have := hfr.out a ha; omega⟩

set_option maxRecDepth 100000 in
set_option maxHeartbeats 4000000 in
theorem Shifted_ref (B : Nat) (A : Option Addr) (c : Nat) (x : Wn) (by_ : Int) (w : World) (h : Row w B A x.hs) (hB : B ≤ w.heap.size) :
    Calls Try.prog 36 #[wnV x.p A x.hs.length c, .int .i64 by_] w (RetW w (shiftR x by_).1 (shiftR x by_).2) := by
  have h63 := h.1
  have hW := swW_new w x.p A x.hs.length c
  have c58 := (Wide_ref B A c x _ (h.below (hW.on.below.mono hB)) (Nat.le_trans hB hW.on.below.size)).mono fun e w' ⟨he, hb⟩ => And.intro he (hW.up hb)
  obtain ⟨c0, c1⟩ := hW.on.cells
  replace hW := Lib.hid hW
  cases hv : winB x 3600 with
  | false =>
    have hR : shiftR x by_ = (⟨0, []⟩, 50) := by unfold shiftR; rw [hv]; simp
    rw [hR]
    rw [hv] at c58
    unfold wnV at *
    simp only []
    replace c58 := Lib.hid c58
    replace hR := Lib.hid hR
    replace hv := Lib.hid hv
    go_enter Try.func36, Try.ntmps36
    go_wp2_with fail
    refine c58.out.mono ?_
    rintro e X1 ⟨rfl, hX1⟩
    have z0 := hX1.box.fz 0
    have z1 := hX1.box.fz 1
    have z2 := hX1.box.c0
    have z3 := hX1.box.c1
    have hl := hX1.box.lt
    have y0 : ((X1.setCell ⟨w.heap.size + 1, 0, none⟩ (.int .i64 0)).setCell ⟨w.heap.size + 1, 1, none⟩ (.slice none 0 0)).cell? ⟨w.heap.size + 1, 0, none⟩ = some (.int .i64 0) := by
      simp [World.cell?, World.setCell, Array.getElem?_modify, show X1.heap[w.heap.size + 1]? = _ from hX1.box]
    have y1 : ((X1.setCell ⟨w.heap.size + 1, 0, none⟩ (.int .i64 0)).setCell ⟨w.heap.size + 1, 1, none⟩ (.slice none 0 0)).cell? ⟨w.heap.size + 1, 1, none⟩ = some (.slice none 0 0) := by
      simp [World.cell?, World.setCell, Array.getElem?_modify, show X1.heap[w.heap.size + 1]? = _ from hX1.box]
    have hz := set2_below hX1.on.below (Nat.le_succ w.heap.size) (.int .i64 0) (.slice none 0 0)
    replace hX1 := Lib.hid hX1
    replace hz := Lib.hid hz
    go_wp2
    exact bodyPost_ret (v := .tuple #[.agg #[.int .i64 0, .slice none 0 0], .int .i64 50]) (by simp [results, Try.results36, go_sem, y0, y1]) rfl ⟨none, 0, rfl, hz.out, row_nil _ _ _, fun a ha => (by cases ha)⟩
  | true =>
   rw [hv] at c58
   by_cases hs1 : by_ < -1000000
   · have hR : shiftR x by_ = (⟨0, []⟩, 2) := by unfold shiftR; rw [hv]; simp [show shB by_ = false by unfold shB; rw [decide_eq_false (show ¬ -1000000 ≤ by_ by omega)]; rfl]
     rw [hR]
     unfold wnV at *
     simp only []
     replace c58 := Lib.hid c58
     replace hR := Lib.hid hR
     replace hv := Lib.hid hv
     go_enter Try.func36, Try.ntmps36
     go_wp2_with fail
     refine c58.out.mono ?_
     rintro e X1 ⟨rfl, hX1⟩
     have z0 := hX1.box.fz 0
     have z1 := hX1.box.fz 1
     have z2 := hX1.box.c0
     have z3 := hX1.box.c1
     have hl := hX1.box.lt
     have y0 : ((X1.setCell ⟨w.heap.size + 1, 0, none⟩ (.int .i64 0)).setCell ⟨w.heap.size + 1, 1, none⟩ (.slice none 0 0)).cell? ⟨w.heap.size + 1, 0, none⟩ = some (.int .i64 0) := by
       simp [World.cell?, World.setCell, Array.getElem?_modify, show X1.heap[w.heap.size + 1]? = _ from hX1.box]
     have y1 : ((X1.setCell ⟨w.heap.size + 1, 0, none⟩ (.int .i64 0)).setCell ⟨w.heap.size + 1, 1, none⟩ (.slice none 0 0)).cell? ⟨w.heap.size + 1, 1, none⟩ = some (.slice none 0 0) := by
       simp [World.cell?, World.setCell, Array.getElem?_modify, show X1.heap[w.heap.size + 1]? = _ from hX1.box]
     have hz := set2_below hX1.on.below (Nat.le_succ w.heap.size) (.int .i64 0) (.slice none 0 0)
     replace hX1 := Lib.hid hX1
     replace hz := Lib.hid hz
     go_wp2
     exact bodyPost_ret (v := .tuple #[.agg #[.int .i64 0, .slice none 0 0], .int .i64 2]) (by simp [results, Try.results36, go_sem, y0, y1]) rfl ⟨none, 0, rfl, hz.out, row_nil _ _ _, fun a ha => (by cases ha)⟩

   by_cases hs2 : 1000000 < by_
   · have hR : shiftR x by_ = (⟨0, []⟩, 2) := by unfold shiftR; rw [hv]; simp [show shB by_ = false by unfold shB; rw [decide_eq_false (show ¬ by_ ≤ 1000000 by omega)]; simp]
     rw [hR]
     unfold wnV at *
     simp only []
     replace c58 := Lib.hid c58
     replace hR := Lib.hid hR
     replace hv := Lib.hid hv
     go_enter Try.func36, Try.ntmps36
     go_wp2_with fail
     refine c58.out.mono ?_
     rintro e X1 ⟨rfl, hX1⟩
     have z0 := hX1.box.fz 0
     have z1 := hX1.box.fz 1
     have z2 := hX1.box.c0
     have z3 := hX1.box.c1
     have hl := hX1.box.lt
     have y0 : ((X1.setCell ⟨w.heap.size + 1, 0, none⟩ (.int .i64 0)).setCell ⟨w.heap.size + 1, 1, none⟩ (.slice none 0 0)).cell? ⟨w.heap.size + 1, 0, none⟩ = some (.int .i64 0) := by
       simp [World.cell?, World.setCell, Array.getElem?_modify, show X1.heap[w.heap.size + 1]? = _ from hX1.box]
     have y1 : ((X1.setCell ⟨w.heap.size + 1, 0, none⟩ (.int .i64 0)).setCell ⟨w.heap.size + 1, 1, none⟩ (.slice none 0 0)).cell? ⟨w.heap.size + 1, 1, none⟩ = some (.slice none 0 0) := by
       simp [World.cell?, World.setCell, Array.getElem?_modify, show X1.heap[w.heap.size + 1]? = _ from hX1.box]
     have hz := set2_below hX1.on.below (Nat.le_succ w.heap.size) (.int .i64 0) (.slice none 0 0)
     replace hX1 := Lib.hid hX1
     replace hz := Lib.hid hz
     go_wp2
     exact bodyPost_ret (v := .tuple #[.agg #[.int .i64 0, .slice none 0 0], .int .i64 2]) (by simp [results, Try.results36, go_sem, y0, y1]) rfl ⟨none, 0, rfl, hz.out, row_nil _ _ _, fun a ha => (by cases ha)⟩

   · obtain ⟨m, hp, hp1, hp2, hg⟩ := win_nat hv
     have hR : shiftR x by_ = (⟨(m : Nat), hrsL (fun j => opB x ((j : Nat) + by_)) m⟩, 0) := by unfold shiftR; rw [hv, hp, Int.toNat_natCast]; simp [show shB by_ = true from shB_iff.2 ⟨by omega, by omega⟩]
     rw [hR]
     have hho : ∀ X, SwW w x.p A x.hs.length c X → Calls Try.prog 67 #[.agg #[.int .i64 x.p, .slice A x.hs.length c]] X fun e w' => ∃ g, e = .returned (.slice (some ⟨g, 0, none⟩) m m) ∧ w.heap.size + 1 < g ∧ SwW w x.p A x.hs.length c w' ∧ BlB w' g m (fun j => opB x (j : Nat)) := fun X hX => by
       have := hours_ref B A c x m X (h.below (hX.on.below.mono hB)) (Nat.le_trans hB hX.on.below.size) hv hp
       rw [← hp] at this
       exact this.mono fun e w' ⟨g, he, hb, hbl, hg⟩ => ⟨g, he, by have := hX.box.lt; omega, hX.up hb, hbl.congr fun j hj => (opB_eq (by rw [hp]; exact Int.emod_eq_of_lt (by omega) (by omega))).symm⟩
     have c80 : ∀ k : Nat, k < m → ∃ j : Nat, j < m ∧ opB x (j : Nat) = opB x ((k : Nat) + by_) ∧ ∀ W, Calls Try.prog 80 #[.int .i64 ((k : Int) + by_), .int .i64 (m : Nat)] W fun e w' => e = .returned (.int .i64 (j : Nat)) ∧ w' = W := fun k hk => by
       have m0 := Int.emod_nonneg ((k : Int) + by_) (show (m : Int) ≠ 0 by omega)
       have m1 := Int.emod_lt_of_pos ((k : Int) + by_) (show (0 : Int) < m by omega)
       obtain ⟨j, hj⟩ := Int.eq_ofNat_of_zero_le m0
       refine ⟨j, by omega, ?_, fun W => ?_⟩
       · have := opB_mod hp 0 ((k : Int) + by_)
         rw [hj] at this
         simpa using this
       · have := modulo_ref ((k : Int) + by_) m W (by omega) (by omega)
         rw [hj] at this
         exact this
     have hmk := fun W => run_mkB W m (show m ≤ 1000000 by omega)
     simp only []
     obtain ⟨f, hf⟩ : ∃ f : Nat → Bool, f = fun j => opB x (j : Nat) := ⟨_, rfl⟩
     obtain ⟨f2, hf2⟩ : ∃ f : Nat → Bool, f = fun j => opB x ((j : Nat) + by_) := ⟨_, rfl⟩
     have c80' : ∀ k : Nat, k < m → ∃ j : Nat, j < m ∧ f j = f2 k ∧ ∀ W, Calls Try.prog 80 #[.int .i64 ((k : Int) + by_), .int .i64 (m : Nat)] W fun e w' => e = .returned (.int .i64 (j : Nat)) ∧ w' = W := by rw [hf, hf2]; exact c80
     rw [← hf] at hho
     rw [← hf2]
     have hll := hrsL_le f2 m
     obtain ⟨l, hl⟩ : ∃ l, l = hrsL f2 m := ⟨_, rfl⟩
     have hwn : ∀ X g, SwW w x.p A x.hs.length c X → BlB X g m f2 → _ := fun X g hX hb => win77 m hX hb (show m ≤ 1000000 by omega)
     rw [← hl] at hll hwn ⊢
     unfold wnV at *
     clear c80
     replace hl := Lib.hid hl
     replace hf := Lib.hid hf
     replace hf2 := Lib.hid hf2
     replace c58 := Lib.hid c58
     replace c80' := Lib.hid c80'
     replace hR := Lib.hid hR
     replace hv := Lib.hid hv
     replace hho := Lib.hid hho
     replace hwn := Lib.hid hwn
     replace hp := Lib.hid hp
     clear hg
     go_enter Try.func36, Try.ntmps36
     go_wp2_with fail
     refine c58.out.mono ?_
     rintro e X1 ⟨rfl, hX1⟩
     have f0 := hX1.on.box.c0
     have f1 := hX1.on.box.c1
     have ho := Lib.hid (hho.out _ hX1)
     go_wp2_with fail
     refine ho.out.mono ?_
     rintro e X2 ⟨g, rfl, hg, hX2, hb2⟩
     clear f0 f1 c0 c1
     have hX2m := hX2.up (mkB_below X2 m)
     have hb2m := hb2.up (mkB_below X2 m)
     have hb3 := (mkB_blk X2 m).congr (f' := fun i => if i < 0 then f2 i else false) fun i _ => by simp
     have hg2 : w.heap.size + 1 < X2.heap.size := hX2.box.lt
     have hgg : g ≠ X2.heap.size := by have := hb2.lt; omega
     obtain ⟨g2, hg2e⟩ : ∃ g2, g2 = X2.heap.size := ⟨_, rfl⟩
     rw [← hg2e] at hb3 hg2 hgg
     have hsz := hmk X2
     rw [← hg2e] at hsz
     obtain ⟨Y2, hY2⟩ : ∃ Y, Y = mkB X2 m := ⟨_, rfl⟩
     rw [← hY2] at hX2m hb2m hb3 hsz
     replace hY2 := Lib.hid hY2
     replace hg2e := Lib.hid hg2e
     clear hmk
     replace hb2 := Lib.hid hb2
     replace hX2 := Lib.hid hX2
     replace hX1 := Lib.hid hX1
     replace hb2m := Lib.hid hb2m
     replace hX2m := Lib.hid hX2m
     replace hb3 := Lib.hid hb3
     go_wp2
     go_loopw [27] (fun i X => ∃ k : Nat, k ≤ m ∧ i = .int .i64 (k : Nat) ∧ SwW w x.p A x.hs.length c X ∧ BlB X g m f ∧ BlB X g2 m (fun i => if i < k then f2 i else false)) (fun i _ => m - (intOf i).toNat)
     case atStart => exact ⟨0, Nat.zero_le _, rfl, hX2m.out, hb2m.out, hb3.out⟩
     case round =>
       obtain ⟨k, hk, rfl, hX, hbo, hbl⟩ := hrel
       by_cases hlt : k < m
       · obtain ⟨j, hj, hfj, hcall⟩ := c80'.out k hlt
         have e0 := hbo.cell hj
         have e1 := hbl.cell hlt
         have e2 := hbl.fz k
         have e3 := hbl.lt
         have q0 := hX.on.box.c0
         rw [hp.out] at q0
         simp only [Nat.lt_irrefl, if_false] at e1
         rw [hfj] at e0
         have hX3 := hX.set hg2 k (.bool (f2 k))
         have hbo3 := hbo.far (k := k) hgg (.bool (f2 k))
         have hb4 := (hbl.set hlt (f2 k)).congr (f' := fun i => if i < k + 1 then f2 i else false) fun i _ => by
           by_cases e : i = k
           · subst e; simp
           · by_cases e' : i < k
             · simp [e, e', Nat.lt_succ_of_lt e']
             · have : ¬ i < k + 1 := by omega
               simp [e, e', this]
         have hkb : IntKind.i64.wrap ((k : Int) + by_) = (k : Int) + by_ := IntWalk.i64_in _ (by omega)
         generalize f2 k = b at *
         replace hX := Lib.hid hX
         replace hbo := Lib.hid hbo
         replace hbl := Lib.hid hbl
         replace hX3 := Lib.hid hX3
         replace hbo3 := Lib.hid hbo3
         replace hb4 := Lib.hid hb4
         replace hfj := Lib.hid hfj
         replace hcall := Lib.hid hcall
         go_wp2_with fail
         refine (hcall.out _).mono ?_
         rintro e W1 ⟨rfl, rfl⟩
         go_wp2
         go_roundw
         case rel => exact ⟨k + 1, by omega, by go_num, hX3.out, hbo3.out, hb4.out⟩
         case measure => simp [intOf]; omega
       · have hk' : k = m := by omega
         have hc := hwn.out wr g2 hX (hbl.congr fun i hi => by simp [show i < k by omega])
         subst hk'
         replace hX := Lib.hid hX
         replace hbo := Lib.hid hbo
         replace hbl := Lib.hid hbl
         replace hc := Lib.hid hc
         go_wp2_with fail
         refine hc.out.mono ?_
         rintro e X5 ⟨A5, c5, rfl, hX5, hrow, hfr⟩
         obtain ⟨y0, y1, hrw⟩ := res_win (w := w) (p := k) (c := c5) hX5.box hrow (fun a ha => Or.inl (by have := hfr a ha; omega))
         have hz := set2_below hX5.on.below (Nat.le_succ w.heap.size) (.int .i64 (k : Nat)) (.slice A5 l.length c5)
         have z0 := hX5.box.c0
         have z1 := hX5.box.c1
         have z2 := hX5.box.fz 0
         have z3 := hX5.box.fz 1
         have hl5 := hX5.box.lt
         replace hX5 := Lib.hid hX5
         replace hrow := Lib.hid hrow
         replace hfr := Lib.hid hfr
         replace hrw := Lib.hid hrw
         replace hz := Lib.hid hz
         go_wp2
         exact bodyPost_ret (v := .tuple #[.agg #[.int .i64 (k : Nat), .slice A5 l.length c5], .int .i64 0]) (by simp [results, Try.results36, go_sem, y0, y1]) rfl ⟨A5, c5, rfl, hz.out, hrw.out, fun a ha => by have := hfr.out a ha; omega⟩

end Go.Proofs.Ytlnpnfjdcnijhaa
