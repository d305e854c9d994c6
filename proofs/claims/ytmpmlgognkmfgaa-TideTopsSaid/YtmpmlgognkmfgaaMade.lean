/-
  The contracts of the program's functions that make waves and tides: made, each.
-/
import Derived.Test.YtmpmlgognkmfgaaTideE
import Derived.Deep.OwnRows
import Derived.Deep.Slices
namespace Go.Proofs.Ytmpmlgognkmfgaa
open Go.RowKit Go.Deep M
set_option linter.unusedVariables false
set_option linter.unusedSimpArgs false

theorem info3 : (Try.prog.info? 3).map (fun i => (i.zero, i.size, i.bytes)) = some (some (.int .i64 0), 1, 8) := by kernel_rfl
theorem info31 : (Try.prog.info? 31).map (fun i => (i.zero, i.size, i.bytes)) = some (some (.slice none 0 0), 1, 24) := by kernel_rfl

/-- The list of n numbers that F says. -/
def mk (F : Nat → Int) (n : Nat) : List Int := (List.range n).map F
theorem mk_len (F : Nat → Int) (n : Nat) : (mk F n).length = n := by simp [mk]
theorem mk_el (F : Nat → Int) (n i : Nat) (h : i < n) : el (mk F n) i = F i := by rw [el_eq _ _ (by rw [mk_len]; exact h)]; simp [mk]
theorem mk_congr {F G : Nat → Int} (n : Nat) (h : ∀ i, i < n → F i = G i) : mk F n = mk G n := List.map_congr_left fun i hi => h i (List.mem_range.1 hi)
def mkT (F : Nat → List Int) (n : Nat) : List (List Int) := (List.range n).map F
theorem mkT_len (F : Nat → List Int) (n : Nat) : (mkT F n).length = n := by simp [mkT]
theorem mkT_row (F : Nat → List Int) (n i : Nat) (h : i < n) : row (mkT F n) i = F i := by rw [row_eq _ _ (by rw [mkT_len]; exact h)]; simp [mkT]
theorem mkT_congr {F G : Nat → List Int} (n : Nat) (h : ∀ i, i < n → F i = G i) : mkT F n = mkT G n := List.map_congr_left fun i hi => h i (List.mem_range.1 hi)

/-- A WAVE IN A BLOCK OF ITS OWN, from block lo on. -/
def BRow (w : World) (lo : Nat) (A : Option Addr) (l : List Int) : Prop :=
  l.length ≤ 9223372036854775807 ∧ ∃ (b : Nat) (cs : Array Value), A = some ⟨b, 0, none⟩ ∧ lo ≤ b ∧ w.heap[b]? = some (.cells cs 3 (0, 0)) ∧ ∀ i, i < l.length → cs[i]? = some (.int .i64 (el l i))
theorem blk_lt {w : World} {b : Nat} {o : Obj} (h : w.heap[b]? = some o) : b < w.heap.size := by
  rcases Nat.lt_or_ge b w.heap.size with hlt | hge
  · exact hlt
  · rw [Array.getElem?_eq_none hge] at h; cases h
theorem BRow.row {w : World} {lo : Nat} {A : Option Addr} {l : List Int} (h : BRow w lo A l) : Row w w.heap.size A l := by
  obtain ⟨h1, b, cs, rfl, h2, h3, h4⟩ := h
  exact ⟨h1, fun _ => ⟨b, 0, rfl, blk_lt h3, fun i hi => by rw [Nat.zero_add]; simp [World.cell?, h3, h4 i hi]⟩⟩
theorem BRow.below {w w' : World} {lo B : Nat} {A : Option Addr} {l : List Int} (h : BRow w lo A l) (hb : Below B w w') (hB : w.heap.size ≤ B) : BRow w' lo A l := by
  obtain ⟨h1, b, cs, rfl, h2, h3, h4⟩ := h
  exact ⟨h1, b, cs, rfl, h2, (hb.block b (by have := blk_lt h3; omega)).trans h3, h4⟩
theorem BRow.setOther {w : World} {lo : Nat} {A : Option Addr} {l : List Int} (h : BRow w lo A l) {p : Addr} (hp : p.block < lo) (v : Value) : BRow (w.setCell p v) lo A l := by
  obtain ⟨h1, b, cs, rfl, h2, h3, h4⟩ := h
  exact ⟨h1, b, cs, rfl, h2, (Below.heap_setCell w p v b (by omega)).trans h3, h4⟩
theorem BRow.more {w : World} {lo lo' : Nat} {A : Option Addr} {l : List Int} (h : BRow w lo A l) (hl : lo' ≤ lo) : BRow w lo' A l := by
  obtain ⟨h1, b, cs, rfl, h2, h3⟩ := h
  exact ⟨h1, b, cs, rfl, by omega, h3⟩

/-- What a call says that hands back a new wave. -/
def NewRow (w : World) (l : List Int) (e : Ending) (w' : World) : Prop := ∃ A c, e = .returned (.slice A l.length c) ∧ Below w.heap.size w w' ∧ BRow w' w.heap.size A l
/-- .. with no spare room. -/
def NewRowC (w : World) (l : List Int) (e : Ending) (w' : World) : Prop := ∃ A, e = .returned (.slice A l.length l.length) ∧ Below w.heap.size w w' ∧ BRow w' w.heap.size A l
theorem NewRowC.plain {w : World} {l : List Int} {e : Ending} {w' : World} (h : NewRowC w l e w') : NewRow w l e w' := by
  obtain ⟨A, h1, h2, h3⟩ := h
  exact ⟨A, _, h1, h2, h3⟩
/-- What a call says that hands back a new tide. -/
def NewMat (w : World) (T : List (List Int)) (e : Ending) (w' : World) : Prop := ∃ A c, e = .returned (.slice A T.length c) ∧ Below w.heap.size w w' ∧ Mat w' w'.heap.size A T

theorem mk_start (F : Nat → Int) (w : World) (n : Nat) : (w.alloc (.cells (madeCells #[.int .i64 0] n) 3)).rowIs w.heap.size 3 n (fun i => if i < 0 then .int .i64 (F i) else .int .i64 0) :=
  (World.rowIs_made w _ n 3).congr (fun i _ => by simp)
theorem mk_step {w : World} {b n k : Nat} {F : Nat → Int} (h : w.rowIs b 3 n (fun i => if i < k then .int .i64 (F i) else .int .i64 0)) :
    (w.setCell ⟨b, k, none⟩ (.int .i64 (F k))).rowIs b 3 n (fun i => if i < k + 1 then .int .i64 (F i) else .int .i64 0) :=
  (h.set k _).congr (fun i _ => by
    by_cases e : i = k
    · subst e; simp
    · rw [if_neg e]
      by_cases hlt : i < k
      · rw [if_pos hlt, if_pos (by omega)]
      · rw [if_neg hlt, if_neg (by omega)])
theorem mk_end {w : World} {b n : Nat} {F : Nat → Int} (h : w.rowIs b 3 n (fun i => if i < n then .int .i64 (F i) else .int .i64 0)) (hn : n ≤ 9223372036854775807) (lo : Nat) (hl : lo ≤ b) : BRow w lo (some ⟨b, 0, none⟩) (mk F n) :=
  by
  obtain ⟨c, h1, h2, h3⟩ := h
  exact ⟨by rw [mk_len]; exact hn, b, c, rfl, hl, h1, fun i hi => by rw [mk_len] at hi; rw [h3 i hi]; simp only [if_pos hi, mk_el F n i hi]⟩

set_option maxHeartbeats 2000000 in
set_option maxRecDepth 100000 in
theorem made1 (g : FuncId) (p : Value) (n : Nat) (F : Nat → Int) (w : World) (hn : n ≤ 1000000)
    (hen : ∀ (args : Array Value) (w : World), (callFunc g args).run Try.prog w = .ok (.enter g args) w)
    (hcall : ∀ k, k < n → ∀ W, Below w.heap.size w W → Calls Try.prog g #[.int .i64 k, p] W fun e w' => e = .returned (.int .i64 (F k)) ∧ Below W.heap.size W w') :
    Calls Try.prog 90 #[.int .i64 n, .func (Fn.func g) #[] #[p]] w (NewRowC w (mk F n)) := by
  have hmk := run_make_row' (P := Try.prog) 31 3 (.int .i64 0) 8 Try.underlying31 info3 rfl .i64 .i64 n (by omega) (by omega)
  replace hcall := Lib.hid hcall
  go_enter Try.func90, Try.ntmps90
  go_wp2
  go_loopw [11] (fun i wr => ∃ k : Nat, k ≤ n ∧ i = .int .i64 k ∧ Below w.heap.size w wr ∧ w.heap.size < wr.heap.size ∧ wr.rowIs w.heap.size 3 n (fun i => if i < k then .int .i64 (F i) else .int .i64 0)) (fun i _ => n - (intOf i).toNat)
  case atStart => exact ⟨0, Nat.zero_le _, rfl, (Below.refl _ _).alloc (Nat.le_refl _) _, by simp, mk_start F w n⟩
  case round =>
    obtain ⟨k, hk, rfl, hb, hz, hr⟩ := hrel
    clear hmk
    by_cases hlt : k < n
    · go_wp2_with fail
      refine (hcall.out k hlt wr hb).mono ?_
      rintro e w1 ⟨rfl, hb1⟩
      have hr1 := hr.of_block (hb1.block w.heap.size hz)
      have hz1 : w.heap.size < w1.heap.size := by have := hb1.size; omega
      have hbb : Below w.heap.size w w1 := hb.trans (hb1.mono (by omega))
      have g1 := hr1.cell hlt
      have g2 := hr1.frozen k
      have hr2 := mk_step hr1
      have hb2 := hbb.setCell (p := ⟨w.heap.size, k, none⟩) (Nat.le_refl _) (.int .i64 (F k))
      clear hr hr1 hb hb1 hz
      have g1' : w1.cell? ⟨w.heap.size, k, none⟩ = some (.int .i64 0) := by rw [g1]; simp
      clear g1
      go_wp2
      go_roundw
      case rel => exact ⟨k + 1, by omega, by go_num, hb2, by simpa [World.setCell] using hz1, hr2⟩
      case measure => simp [intOf]; omega
    · have hk' : k = n := by omega
      subst hk'
      have hend := mk_end hr (by omega) w.heap.size (Nat.le_refl _)
      go_wp2
      go_ret
      exact ⟨some ⟨w.heap.size, 0, none⟩, by rw [mk_len]; rfl, hb, hend⟩

set_option maxHeartbeats 2000000 in
set_option maxRecDepth 100000 in
theorem made2 (g : FuncId) (p q : Value) (n : Nat) (F : Nat → Int) (w : World) (hn : n ≤ 1000000)
    (hen : ∀ (args : Array Value) (w : World), (callFunc g args).run Try.prog w = .ok (.enter g args) w)
    (hcall : ∀ k, k < n → ∀ W, Below w.heap.size w W → Calls Try.prog g #[.int .i64 k, p, q] W fun e w' => e = .returned (.int .i64 (F k)) ∧ Below W.heap.size W w') :
    Calls Try.prog 90 #[.int .i64 n, .func (Fn.func g) #[] #[p, q]] w (NewRowC w (mk F n)) := by
  have hmk := run_make_row' (P := Try.prog) 31 3 (.int .i64 0) 8 Try.underlying31 info3 rfl .i64 .i64 n (by omega) (by omega)
  replace hcall := Lib.hid hcall
  go_enter Try.func90, Try.ntmps90
  go_wp2
  go_loopw [11] (fun i wr => ∃ k : Nat, k ≤ n ∧ i = .int .i64 k ∧ Below w.heap.size w wr ∧ w.heap.size < wr.heap.size ∧ wr.rowIs w.heap.size 3 n (fun i => if i < k then .int .i64 (F i) else .int .i64 0)) (fun i _ => n - (intOf i).toNat)
  case atStart => exact ⟨0, Nat.zero_le _, rfl, (Below.refl _ _).alloc (Nat.le_refl _) _, by simp, mk_start F w n⟩
  case round =>
    obtain ⟨k, hk, rfl, hb, hz, hr⟩ := hrel
    clear hmk
    by_cases hlt : k < n
    · go_wp2_with fail
      refine (hcall.out k hlt wr hb).mono ?_
      rintro e w1 ⟨rfl, hb1⟩
      have hr1 := hr.of_block (hb1.block w.heap.size hz)
      have hz1 : w.heap.size < w1.heap.size := by have := hb1.size; omega
      have hbb : Below w.heap.size w w1 := hb.trans (hb1.mono (by omega))
      have g1 := hr1.cell hlt
      have g2 := hr1.frozen k
      have hr2 := mk_step hr1
      have hb2 := hbb.setCell (p := ⟨w.heap.size, k, none⟩) (Nat.le_refl _) (.int .i64 (F k))
      clear hr hr1 hb hb1 hz
      have g1' : w1.cell? ⟨w.heap.size, k, none⟩ = some (.int .i64 0) := by rw [g1]; simp
      clear g1
      go_wp2
      go_roundw
      case rel => exact ⟨k + 1, by omega, by go_num, hb2, by simpa [World.setCell] using hz1, hr2⟩
      case measure => simp [intOf]; omega
    · have hk' : k = n := by omega
      subst hk'
      have hend := mk_end hr (by omega) w.heap.size (Nat.le_refl _)
      go_wp2
      go_ret
      exact ⟨some ⟨w.heap.size, 0, none⟩, by rw [mk_len]; rfl, hb, hend⟩

set_option maxHeartbeats 2000000 in
set_option maxRecDepth 100000 in
theorem madeM (g : FuncId) (p : Value) (n : Nat) (F : Nat → Int) (w : World) (hn : n ≤ 1000000)
    (hen : ∀ (args : Array Value) (w : World), (callFunc g args).run Try.prog w = .ok (.enter g args) w)
    (hcall : ∀ k, k < n → ∀ W, Below w.heap.size w W → Calls Try.prog g #[p, .int .i64 k] W fun e w' => e = .returned (.int .i64 (F k)) ∧ Below W.heap.size W w') :
    Calls Try.prog 90 #[.int .i64 n, .func (Fn.func g) #[p] #[]] w (NewRowC w (mk F n)) := by
  have hmk := run_make_row' (P := Try.prog) 31 3 (.int .i64 0) 8 Try.underlying31 info3 rfl .i64 .i64 n (by omega) (by omega)
  replace hcall := Lib.hid hcall
  go_enter Try.func90, Try.ntmps90
  go_wp2
  go_loopw [11] (fun i wr => ∃ k : Nat, k ≤ n ∧ i = .int .i64 k ∧ Below w.heap.size w wr ∧ w.heap.size < wr.heap.size ∧ wr.rowIs w.heap.size 3 n (fun i => if i < k then .int .i64 (F i) else .int .i64 0)) (fun i _ => n - (intOf i).toNat)
  case atStart => exact ⟨0, Nat.zero_le _, rfl, (Below.refl _ _).alloc (Nat.le_refl _) _, by simp, mk_start F w n⟩
  case round =>
    obtain ⟨k, hk, rfl, hb, hz, hr⟩ := hrel
    clear hmk
    by_cases hlt : k < n
    · go_wp2_with fail
      refine (hcall.out k hlt wr hb).mono ?_
      rintro e w1 ⟨rfl, hb1⟩
      have hr1 := hr.of_block (hb1.block w.heap.size hz)
      have hz1 : w.heap.size < w1.heap.size := by have := hb1.size; omega
      have hbb : Below w.heap.size w w1 := hb.trans (hb1.mono (by omega))
      have g1 := hr1.cell hlt
      have g2 := hr1.frozen k
      have hr2 := mk_step hr1
      have hb2 := hbb.setCell (p := ⟨w.heap.size, k, none⟩) (Nat.le_refl _) (.int .i64 (F k))
      clear hr hr1 hb hb1 hz
      have g1' : w1.cell? ⟨w.heap.size, k, none⟩ = some (.int .i64 0) := by rw [g1]; simp
      clear g1
      go_wp2
      go_roundw
      case rel => exact ⟨k + 1, by omega, by go_num, hb2, by simpa [World.setCell] using hz1, hr2⟩
      case measure => simp [intOf]; omega
    · have hk' : k = n := by omega
      subst hk'
      have hend := mk_end hr (by omega) w.heap.size (Nat.le_refl _)
      go_wp2
      go_ret
      exact ⟨some ⟨w.heap.size, 0, none⟩, by rw [mk_len]; rfl, hb, hend⟩

/-! ### each -/
/-- The tide under way: k of its rows are laid. -/
def Laid (w wr : World) (n k : Nat) (F : Nat → List Int) : Prop :=
  ∃ G : Nat → Option Addr × Nat, wr.rowIs w.heap.size 31 n (fun i => if i < k then .slice (G i).1 (F i).length (G i).2 else .slice none 0 0) ∧ ∀ i, i < k → BRow wr (w.heap.size + 1) (G i).1 (F i)
theorem laid_start (F : Nat → List Int) (w : World) (n : Nat) : Laid w (w.alloc (.cells (madeCells #[.slice none 0 0] n) 31)) n 0 F :=
  ⟨fun _ => (none, 0), (World.rowIs_made w _ n 31).congr (fun i _ => by simp), fun i hi => absurd hi (Nat.not_lt_zero _)⟩
theorem laid_below {w wr w1 : World} {n k : Nat} {F : Nat → List Int} (h : Laid w wr n k F) (hz : w.heap.size < wr.heap.size) (hb : Below wr.heap.size wr w1) : Laid w w1 n k F := by
  obtain ⟨G, h1, h2⟩ := h
  exact ⟨G, h1.of_block (hb.block _ hz), fun i hi => (h2 i hi).below hb (Nat.le_refl _)⟩
theorem laid_cell {w wr : World} {n k : Nat} {F : Nat → List Int} (h : Laid w wr n k F) (hk : k < n) : wr.cell? ⟨w.heap.size, k, none⟩ = some (.slice none 0 0) ∧ wr.frozen? ⟨w.heap.size, k, none⟩ = false := by
  obtain ⟨G, h1, h2⟩ := h
  exact ⟨by rw [h1.cell hk]; simp, h1.frozen k⟩
theorem laid_step {w wr : World} {n k : Nat} {F : Nat → List Int} (h : Laid w wr n k F) {A : Option Addr} {c : Nat} (hr : BRow wr (w.heap.size + 1) A (F k)) :
    Laid w (wr.setCell ⟨w.heap.size, k, none⟩ (.slice A (F k).length c)) n (k + 1) F := by
  obtain ⟨G, h1, h2⟩ := h
  refine ⟨fun i => if i = k then (A, c) else G i, (h1.set k _).congr (fun i _ => ?_), fun i hi => ?_⟩
  · by_cases e : i = k
    · subst e; simp
    · simp only [if_neg e]
      by_cases hlt : i < k
      · rw [if_pos hlt, if_pos (by omega)]
      · rw [if_neg hlt, if_neg (by omega)]
  · by_cases e : i = k
    · subst e
      simp only [if_true]
      exact hr.setOther (p := ⟨w.heap.size, i, none⟩) (by simp) _
    · simp only [if_neg e]
      exact (h2 i (by omega)).setOther (p := ⟨w.heap.size, k, none⟩) (by simp) _
/-- What a call says that hands back a new tide in blocks of its own. -/
def NewLaid (w : World) (n : Nat) (F : Nat → List Int) (e : Ending) (w' : World) : Prop :=
  e = .returned (.slice (some ⟨w.heap.size, 0, none⟩) n n) ∧ Below w.heap.size w w' ∧ w.heap.size < w'.heap.size ∧ Laid w w' n n F ∧ n ≤ 1000000
theorem laid_end {w wr : World} {n : Nat} {F : Nat → List Int} (h : Laid w wr n n F) (hn : n ≤ 9223372036854775807) : Mat wr wr.heap.size (some ⟨w.heap.size, 0, none⟩) (mkT F n) := by
  obtain ⟨G, h1, h2⟩ := h
  refine ⟨by rw [mkT_len]; exact hn, fun _ => ⟨w.heap.size, 0, rfl, h1.lt, fun i hi => ?_⟩⟩
  rw [mkT_len] at hi
  refine ⟨(G i).1, (G i).2, ?_, ?_⟩
  · rw [Nat.zero_add, h1.cell hi, if_pos hi, mkT_row F n i hi]
  · rw [mkT_row F n i hi]; exact (h2 i hi).row

theorem NewLaid.mat {w w' : World} {n : Nat} {F : Nat → List Int} {e : Ending} (h : NewLaid w n F e w') : NewMat w (mkT F n) e w' := by
  obtain ⟨he, hb, hz, hl, hn⟩ := h
  exact ⟨_, n, by rw [mkT_len]; exact he, hb, laid_end hl (by omega)⟩

set_option maxHeartbeats 2000000 in
set_option maxRecDepth 100000 in
theorem each0 (B : Nat) (A : Option Addr) (c : Nat) (T : List (List Int)) (g : FuncId) (F : Nat → List Int) (w : World) (h : Mat w B A T) (hB : B ≤ w.heap.size) (hn : T.length ≤ 1000000)
    (hen : ∀ (args : Array Value) (w : World), (callFunc g args).run Try.prog w = .ok (.enter g args) w)
    (hcall : ∀ k, k < T.length → ∀ W Ai ci, Below w.heap.size w W → Row W B Ai (row T k) → Calls Try.prog g #[.slice Ai (row T k).length ci] W (NewRow W (F k))) :
    Calls Try.prog 93 #[.slice A T.length c, .func (Fn.func g) #[] #[]] w (NewLaid w T.length F) := by
  have hmk := run_make_row' (P := Try.prog) 22 31 (.slice none 0 0) 24 Try.underlying22 info31 rfl .i64 .i64 T.length (by omega) (by omega)
  replace hcall := Lib.hid hcall
  go_enter Try.func93, Try.ntmps93
  go_wp2
  go_loopw [13] (fun i wr => ∃ k : Nat, k ≤ T.length ∧ i = .int .i64 k ∧ Below w.heap.size w wr ∧ w.heap.size < wr.heap.size ∧ Laid w wr T.length k F) (fun i _ => T.length - (intOf i).toNat)
  case atStart => exact ⟨0, Nat.zero_le _, rfl, (Below.refl _ _).alloc (Nat.le_refl _) _, by simp, laid_start F w _⟩
  case round =>
    obtain ⟨k, hk, rfl, hb, hz, hr⟩ := hrel
    clear hmk
    by_cases hlt : k < T.length
    · obtain ⟨b, o, Ai, ci, rfl, hb0, hc, hrow⟩ := (h.below (hb.mono hB)).at_ k hlt
      go_wp2_with fail
      refine (hcall.out k hlt wr Ai ci hb hrow).mono ?_
      rintro e w1 ⟨A', c', rfl, hb1, hr1⟩
      have hz1 : w.heap.size < w1.heap.size := by have := hb1.size; omega
      have hbb : Below w.heap.size w w1 := hb.trans (hb1.mono (by omega))
      have hl1 := laid_below hr hz hb1
      obtain ⟨g1, g2⟩ := laid_cell hl1 hlt
      have hl2 := laid_step (c := c') hl1 (hr1.more (by omega))
      have hb2 := hbb.setCell (p := ⟨w.heap.size, k, none⟩) (Nat.le_refl _) (.slice A' (F k).length c')
      clear hr hr1 hb hb1 hz hl1
      go_wp2
      go_roundw
      case rel => exact ⟨k + 1, by omega, by go_num, hb2, by simpa [World.setCell] using hz1, hl2⟩
      case measure => simp [intOf]; omega
    · have hk' : k = T.length := by omega
      subst hk'
      go_wp2
      go_ret
      exact ⟨rfl, hb, hz, hr, hn⟩

set_option maxHeartbeats 2000000 in
set_option maxRecDepth 100000 in
theorem each1 (B : Nat) (A : Option Addr) (c : Nat) (T : List (List Int)) (g : FuncId) (p : Value) (F : Nat → List Int) (w : World) (h : Mat w B A T) (hB : B ≤ w.heap.size) (hn : T.length ≤ 1000000)
    (hen : ∀ (args : Array Value) (w : World), (callFunc g args).run Try.prog w = .ok (.enter g args) w)
    (hcall : ∀ k, k < T.length → ∀ W Ai ci, Below w.heap.size w W → Row W B Ai (row T k) → Calls Try.prog g #[.slice Ai (row T k).length ci, p] W (NewRow W (F k))) :
    Calls Try.prog 93 #[.slice A T.length c, .func (Fn.func g) #[] #[p]] w (NewLaid w T.length F) := by
  have hmk := run_make_row' (P := Try.prog) 22 31 (.slice none 0 0) 24 Try.underlying22 info31 rfl .i64 .i64 T.length (by omega) (by omega)
  replace hcall := Lib.hid hcall
  go_enter Try.func93, Try.ntmps93
  go_wp2
  go_loopw [13] (fun i wr => ∃ k : Nat, k ≤ T.length ∧ i = .int .i64 k ∧ Below w.heap.size w wr ∧ w.heap.size < wr.heap.size ∧ Laid w wr T.length k F) (fun i _ => T.length - (intOf i).toNat)
  case atStart => exact ⟨0, Nat.zero_le _, rfl, (Below.refl _ _).alloc (Nat.le_refl _) _, by simp, laid_start F w _⟩
  case round =>
    obtain ⟨k, hk, rfl, hb, hz, hr⟩ := hrel
    clear hmk
    by_cases hlt : k < T.length
    · obtain ⟨b, o, Ai, ci, rfl, hb0, hc, hrow⟩ := (h.below (hb.mono hB)).at_ k hlt
      go_wp2_with fail
      refine (hcall.out k hlt wr Ai ci hb hrow).mono ?_
      rintro e w1 ⟨A', c', rfl, hb1, hr1⟩
      have hz1 : w.heap.size < w1.heap.size := by have := hb1.size; omega
      have hbb : Below w.heap.size w w1 := hb.trans (hb1.mono (by omega))
      have hl1 := laid_below hr hz hb1
      obtain ⟨g1, g2⟩ := laid_cell hl1 hlt
      have hl2 := laid_step (c := c') hl1 (hr1.more (by omega))
      have hb2 := hbb.setCell (p := ⟨w.heap.size, k, none⟩) (Nat.le_refl _) (.slice A' (F k).length c')
      clear hr hr1 hb hb1 hz hl1
      go_wp2
      go_roundw
      case rel => exact ⟨k + 1, by omega, by go_num, hb2, by simpa [World.setCell] using hz1, hl2⟩
      case measure => simp [intOf]; omega
    · have hk' : k = T.length := by omega
      subst hk'
      go_wp2
      go_ret
      exact ⟨rfl, hb, hz, hr, hn⟩

end Go.Proofs.Ytmpmlgognkmfgaa
