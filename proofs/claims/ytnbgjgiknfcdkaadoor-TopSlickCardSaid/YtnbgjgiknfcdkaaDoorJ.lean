/-
  'after', 'slickOf', 'After', 'Move': the slick behind moves.
-/
import Derived.Test.YtnbgjgiknfcdkaaDoorI
namespace Go.Proofs.YtnbgjgiknfcdkaaDoor
open Go.RowKit Go.Deep M
set_option linter.unusedVariables false
set_option linter.unusedSimpArgs false

theorem pow16 (k n : Nat) (h : k ≤ n) (t : Int) (ht : 0 ≤ t) : (16 : Int) ^ k * t ≤ (16 : Int) ^ n * t := by
  obtain ⟨m, rfl⟩ : ∃ m, n = k + m := ⟨n - k, by omega⟩
  refine Int.mul_le_mul_of_nonneg_right ?_ ht
  rw [Int.pow_add]
  have h1 : 1 ≤ (16 : Int) ^ m := Int.pow_pos (by omega)
  have h2 : 0 ≤ (16 : Int) ^ k := Int.pow_nonneg (by omega)
  calc (16 : Int) ^ k = (16 : Int) ^ k * 1 := by omega
    _ ≤ (16 : Int) ^ k * (16 : Int) ^ m := Int.mul_le_mul_of_nonneg_left h1 h2
theorem tot_nonneg {a : List Int} (h : NonNeg a) : 0 ≤ tot a := sm_nonneg _ h

set_option maxRecDepth 100000 in
set_option maxHeartbeats 4000000 in
theorem after_any (B : Nat) (w h : Nat) (aL aS A : Option Addr) (cL cS c n : Nat) (L : List Bool) (S a : List Int) (W : World) (hBay : Bay w h L S) (hm : BayIn W B aL L aS (w * h) S) (ha : Row W B A a) (hB : B ≤ W.heap.size) (hB1 : 1 ≤ B) (hd : Dirs W)
    (hlen : a.length = w * h + 1) (hnn : NonNeg a) (ht : (16 : Int) ^ n * tot a ≤ 1000000000000) (hn : n ≤ 5) (hc : a.length ≤ c ∧ c ≤ 9223372036854775807) :
    Calls Tryd.prog 70 #[.agg #[.int .i64 w, .int .i64 h, .slice aL L.length cL, .slice aS (w * h) cS], .slice A a.length c, .int .i64 n] W (NewCap W (af w h L S n a)) := by
  have step : ∀ k, k < n → ∀ W' A' c', Below W.heap.size W W' → Row W' W'.heap.size A' (af w h L S k a) → Calls Tryd.prog 85 #[.agg #[.int .i64 w, .int .i64 h, .slice aL L.length cL, .slice aS (w * h) cS], .slice A' a.length c'] W' (NewCap W' (af w h L S (k + 1) a)) := fun k hk W' A' c' hb hr => by
    have h1 := moved_any W'.heap.size w h aL aS A' cL cS c' L S (af w h L S k a) W' hBay ((hm.below (hb.mono hB)).more (Nat.le_trans hB hb.size)) hr (Nat.le_refl _) (by have := hb.size; omega) (hd.below (hb.mono hB) hB1)
      (af_len hlen k) (af_nonneg hBay hlen hnn k) (by rw [af_tot hBay hlen]; have := pow16 k n (by omega) (tot a) (tot_nonneg hnn); omega)
    rw [af_len hlen k, ← hlen] at h1
    exact h1
  have hl : ∀ k, (af w h L S k a).length = a.length := fun k => by rw [af_len hlen k, hlen]
  have h0 : af w h L S 0 a = a := rfl
  have hra : Row W B A (af w h L S 0 a) := ha
  have ha36 : a.length ≤ 37 := by have := hBay.cells; omega
  generalize hf : (fun k => af w h L S k a) = F
  have hF : ∀ k, af w h L S k a = F k := fun k => congrFun hf k
  simp only [hF] at *
  clear hf hF hlen hnn ht hBay
  replace step := Lib.hid step
  replace hl := Lib.hid hl
  replace h0 := Lib.hid h0
  go_enter Tryd.func70, Tryd.ntmps70
  go_wp2
  go_loopw [1, 8] (fun x i wr => ∃ (k : Nat) (A' : Option Addr) (c' : Nat), k ≤ n ∧ i = .int .i64 k ∧ x = .slice A' a.length c' ∧ (a.length ≤ c' ∧ c' ≤ 9223372036854775807) ∧ Below W.heap.size W wr ∧ Row wr wr.heap.size A' (F k) ∧ W.heap.size < wr.heap.size ∧
    (wr.cell? ⟨W.heap.size, 0, none⟩ = some (.int .i64 w) ∧ wr.cell? ⟨W.heap.size, 1, none⟩ = some (.int .i64 h) ∧ wr.cell? ⟨W.heap.size, 2, none⟩ = some (.slice aL L.length cL) ∧ wr.cell? ⟨W.heap.size, 3, none⟩ = some (.slice aS (w * h) cS))) (fun _ i _ => n - (intOf i).toNat)
  case atStart => exact ⟨0, A, c, Nat.zero_le _, rfl, rfl, hc, (Below.refl _ _).alloc (Nat.le_refl _) _, (hra.below (((Below.refl _ _).alloc (Nat.le_refl _) _).mono hB)).more (by simp; omega), by simp, by simp [go_sem], by simp [go_sem], by simp [go_sem], by simp [go_sem]⟩
  case round =>
    obtain ⟨k, A', c', hk, rfl, rfl, hcc, hb, hr, hsz, g0, g1, g2, g3⟩ := hrel
    by_cases hlt : k < n
    · go_wp2_with fail
      refine (step.out k hlt wr A' c' hb hr).mono ?_
      rintro e w1 ⟨A1, c1, rfl, hc1, hb1, hr1⟩
      rw [hl.out] at hc1 ⊢
      have hbb := hb.trans (hb1.mono hb.size)
      have e0 := (hb1.cell (p := ⟨W.heap.size, 0, none⟩) hsz).trans g0
      have e1 := (hb1.cell (p := ⟨W.heap.size, 1, none⟩) hsz).trans g1
      have e2 := (hb1.cell (p := ⟨W.heap.size, 2, none⟩) hsz).trans g2
      have e3 := (hb1.cell (p := ⟨W.heap.size, 3, none⟩) hsz).trans g3
      have hsz1 : W.heap.size < w1.heap.size := by have := hb1.size; omega
      clear hb1 hr hb
      go_wp2
      go_roundw
      case rel => exact ⟨k + 1, A1, c1, by omega, by go_num, rfl, hc1, hbb, hr1, hsz1, e0, e1, e2, e3⟩
      case measure => simp [intOf]; omega
    · have hk' : k = n := by omega
      subst hk'
      have hlk := hl.out k
      go_wp2
      go_ret
      exact ⟨A', c', by rw [hl.out]; rfl, by rw [hl.out]; exact hcc, hb, hr⟩

/-! ### three cells that hold a slick -/
def Tri (w : World) (b : Nat) (x y z : Value) : Prop := w.heap[b]? = some (.cells #[x, y, z] 28 (0, 0))
theorem Tri.new (w : World) (x y z : Value) : Tri (w.alloc (.cells #[x, y, z] 28)) w.heap.size x y z := World.alloc_heap_new w _
theorem Tri.lt {w : World} {b : Nat} {x y z : Value} (h : Tri w b x y z) : b < w.heap.size := blk_lt h
theorem Tri.c0 {w : World} {b : Nat} {x y z : Value} (h : Tri w b x y z) : w.cell? ⟨b, 0, none⟩ = some x := by simp [World.cell?, show w.heap[b]? = _ from h]
theorem Tri.c1 {w : World} {b : Nat} {x y z : Value} (h : Tri w b x y z) : w.cell? ⟨b, 1, none⟩ = some y := by simp [World.cell?, show w.heap[b]? = _ from h]
theorem Tri.c2 {w : World} {b : Nat} {x y z : Value} (h : Tri w b x y z) : w.cell? ⟨b, 2, none⟩ = some z := by simp [World.cell?, show w.heap[b]? = _ from h]
theorem Tri.fz {w : World} {b : Nat} {x y z : Value} (h : Tri w b x y z) (k : Nat) : w.frozen? ⟨b, k, none⟩ = false := by simp [World.frozen?, show w.heap[b]? = _ from h]
theorem Tri.below {w w' : World} {B b : Nat} {x y z : Value} (h : Tri w b x y z) (hb : Below B w w') (hB : b < B) : Tri w' b x y z := (hb.block b hB).trans h
theorem Tri.set {w : World} {b : Nat} {x y z : Value} (h : Tri w b x y z) (x' y' z' : Value) : Tri (((w.setCell ⟨b, 0, none⟩ x').setCell ⟨b, 1, none⟩ y').setCell ⟨b, 2, none⟩ z') b x' y' z' := by
  unfold Tri at *
  simp [World.setCell, Array.getElem?_modify, h]
theorem tri_below {w : World} {B b : Nat} {x y z : Value} {a : World} (h : Below B a w) (hB : B ≤ b) : Below B a (((w.setCell ⟨b, 0, none⟩ x).setCell ⟨b, 1, none⟩ y).setCell ⟨b, 2, none⟩ z) :=
  ((h.setCell (p := ⟨b, 0, none⟩) hB _).setCell (p := ⟨b, 1, none⟩) hB _).setCell (p := ⟨b, 2, none⟩) hB _

/-- The first m numbers of a list. -/
def pre (m : Nat) (a : List Int) : List Int := mk (el a) m
theorem pre_len (m : Nat) (a : List Int) : (pre m a).length = m := mk_len _ _
theorem pre_amt (O : List Int) (aw : Int) : pre O.length (amt O aw) = O := ints_ext (pre_len _ _) (fun i hi => by rw [pre_len] at hi; unfold pre; rw [mk_el _ _ _ hi, amt_el O aw i hi])
theorem amt_pre {a : List Int} {m : Nat} (h : a.length = m + 1) : amt (pre m a) (el a m) = a := ints_ext (by rw [amt_len, pre_len, h]) (fun i hi => by
  rw [amt_len, pre_len] at hi
  by_cases e : i < m
  · rw [amt_el _ _ _ (by rw [pre_len]; exact e)]; exact mk_el _ _ _ e
  · have : i = m := by omega
    subst this
    have := amt_away (pre i a) (el a i)
    rwa [pre_len] at this)
theorem Row.pre {w : World} {B : Nat} {A : Option Addr} {a : List Int} (h : Row w B A a) (m : Nat) (hm : m ≤ a.length) : Row w B A (pre m a) := by
  refine ⟨by rw [pre_len]; have := h.1; omega, fun hn => ?_⟩
  rw [pre_len] at hn
  obtain ⟨b, o, e, hb, hc⟩ := h.2 (by omega)
  refine ⟨b, o, e, hb, fun i hi => ?_⟩
  rw [pre_len] at hi
  rw [hc i (by omega)]
  unfold Go.Proofs.YtnbgjgiknfcdkaaDoor.pre
  rw [mk_el _ _ _ hi]

/-- A list that lies in no block below lo. -/
def Fresh (lo : Nat) (A : Option Addr) : Prop := ∀ a, A = some a → lo ≤ a.block
theorem own_fresh {w : World} {base n : Nat} {A : Option Addr} {c : Nat} {xs : List Value} (h : w.ownsRow base 3 1 (.slice A n c) n xs) : Fresh base A := by
  rcases h.2 with ⟨hv, _⟩ | ⟨g, cap, cur, hv, hge, _⟩
  · injection hv with h1 h2 h3
    intro a ha
    rw [h1] at ha; cases ha
  · injection hv with h1 h2 h3
    intro a ha
    rw [h1] at ha; cases ha
    exact hge
theorem Row.setOther {w : World} {B : Nat} {A : Option Addr} {l : List Int} (h : Row w B A l) {p : Addr} (hp : ∀ a, A = some a → a.block ≠ p.block) (v : Value) : Row (w.setCell p v) B A l :=
  ⟨h.1, fun hn => by
    obtain ⟨b, o, e, hb, hc⟩ := h.2 hn
    refine ⟨b, o, e, hb, fun i hi => ?_⟩
    have hne := hp _ e
    exact (World.cell?_of_block (by show (w.setCell p v).heap[b]? = w.heap[b]?; simp only [World.setCell, Array.getElem?_modify]; rw [if_neg (fun h => hne h.symm)])).trans (hc i hi)⟩
theorem Row.tri {w : World} {B lo b : Nat} {A : Option Addr} {l : List Int} (h : Row w B A l) (hf : Fresh lo A) (hb : b < lo) (x y z : Value) : Row (((w.setCell ⟨b, 0, none⟩ x).setCell ⟨b, 1, none⟩ y).setCell ⟨b, 2, none⟩ z) B A l :=
  ((h.setOther (p := ⟨b, 0, none⟩) (fun a ha => by have := hf a ha; show a.block ≠ b; omega) x).setOther (p := ⟨b, 1, none⟩) (fun a ha => by have := hf a ha; show a.block ≠ b; omega) y).setOther (p := ⟨b, 2, none⟩) (fun a ha => by have := hf a ha; show a.block ≠ b; omega) z

/-- What the region of 'slickOf' keeps. -/
def SoS (w : World) (b o m : Nat) (x : Int) (W : World) : Prop :=
  W.cell? ⟨b, o + m, none⟩ = some (.int .i64 x) ∧ W.cell? ⟨w.heap.size, 0, none⟩ = some (.int .i64 0) ∧ W.cell? ⟨w.heap.size, 1, none⟩ = some (.slice none 0 0) ∧ W.cell? ⟨w.heap.size, 2, none⟩ = some (.int .i64 0) ∧
    W.frozen? ⟨w.heap.size, 0, none⟩ = false ∧ W.frozen? ⟨w.heap.size, 1, none⟩ = false ∧ W.frozen? ⟨w.heap.size, 2, none⟩ = false ∧ Below w.heap.size w W ∧ Tri W w.heap.size (.int .i64 0) (.slice none 0 0) (.int .i64 0)
theorem soS_start {w : World} {b o m : Nat} {x : Int} (hc : w.cell? ⟨b, o + m, none⟩ = some (.int .i64 x)) (hb : b < w.heap.size) : SoS w b o m x (w.alloc (.cells #[.int .i64 0, .slice none 0 0, .int .i64 0] 28)).drew := by
  have t : Tri (w.alloc (.cells #[.int .i64 0, .slice none 0 0, .int .i64 0] 28)).drew w.heap.size (.int .i64 0) (.slice none 0 0) (.int .i64 0) := Tri.new w _ _ _
  exact ⟨by simp [go_sem, hc, hb], t.c0, t.c1, t.c2, t.fz 0, t.fz 1, t.fz 2, below_drewN ((Below.refl _ _).alloc (Nat.le_refl _) _) 1, t⟩
theorem soS_call {w : World} {b o m : Nat} {x : Int} {W W' : World} (h : SoS w b o m x W) (hb : Below W.heap.size W W') (hbl : b < w.heap.size) : SoS w b o m x W' := by
  obtain ⟨h1, _, _, _, _, _, _, h8, h9⟩ := h
  have t := h9.below hb h9.lt
  exact ⟨(hb.cell (p := ⟨b, o + m, none⟩) (Nat.lt_of_lt_of_le hbl h8.size)).trans h1, t.c0, t.c1, t.c2, t.fz 0, t.fz 1, t.fz 2, h8.trans (hb.mono h8.size), t⟩

set_option maxRecDepth 100000 in
set_option maxHeartbeats 4000000 in
theorem slickOf_any (B : Nat) (k : Int) (A : Option Addr) (c m : Nat) (a : List Int) (w : World) (ha : Row w B A a) (hB : B ≤ w.heap.size) (hm : a.length = m + 1) (hm9 : m ≤ 900) (hc : m + 1 ≤ c ∧ c ≤ 9223372036854775807) :
    Calls Tryd.prog 69 #[.int .i64 k, .slice A (m + 1) c] w fun e w' => ∃ A' c', e = .returned (.agg #[.int .i64 k, .slice A' m c', .int .i64 (el a m)]) ∧ Below w.heap.size w w' ∧ Row w' w'.heap.size A' (pre m a) ∧ Fresh w.heap.size A' := by
  obtain ⟨b, o, rfl, hb, hcell⟩ := ha.at_ m (by omega)
  have hbw : b < w.heap.size := by omega
  have cl : ∀ W, SoS w b o m (el a m) W → Calls Tryd.prog 84 #[.slice (some ⟨b, o, none⟩) m c] W fun e w' => ∃ A' c', e = .returned (.slice A' m c') ∧ SoS w b o m (el a m) w' ∧ w'.ownsRow (w.heap.size + 1) 3 1 (.slice A' m c') m (vals (pre m a)) := fun W hS => by
    have h1 := Clone_any B _ c _ W ((ha.below (hS.2.2.2.2.2.2.2.1.mono hB)).pre m (by omega)) (Nat.le_trans hB hS.2.2.2.2.2.2.2.1.size) (by rw [pre_len]; omega)
    rw [pre_len] at h1
    refine h1.mono ?_
    rintro e w' ⟨v, rfl, hb', ho⟩
    have ho2 := own_mono ho (base' := w.heap.size + 1) hS.2.2.2.2.2.2.2.2.lt
    obtain ⟨A', c', rfl, _⟩ := own_row ho2 (by rw [pre_len]; omega)
    rw [pre_len] at ho2 ⊢
    exact ⟨A', c', rfl, soS_call hS hb' hbw, ho2⟩
  have h0 := soS_start (o := o) hcell hbw
  have hi1 : (m : Int) ≤ (c : Nat) := by omega
  have hi2 : (m : Int) < (m : Int) + 1 := by omega
  have hi3 : (m : Int) < ((m + 1 : Nat) : Int) := by omega
  replace cl := Lib.hid cl
  replace hm := Lib.hid hm
  generalize el a m = x at *
  have hne : b ≠ w.heap.size := by omega
  go_enter Tryd.func69, Tryd.ntmps69
  go_wp2
  go_region_with (first | (go_at_call 84; refine (cl.out _ h0).mono ?_; rintro e w1 ⟨A1, c1, rfl, ⟨s1, s2, s3, s4, s5, s6, s7, s8, s9⟩, hr1⟩))
  all_goals
    have ht := s9.set (.int .i64 k) (.slice A1 m c1) (.int .i64 x)
    have hbb := tri_below (x := .int .i64 k) (y := .slice A1 m c1) (z := .int .i64 x) s8 (Nat.le_refl w.heap.size)
    have hrr := ownsRow_setCell_below (ownsRow_setCell_below (ownsRow_setCell_below hr1 (a := ⟨w.heap.size, 0, none⟩) (Nat.lt_succ_self _) (.int .i64 k)) (a := ⟨w.heap.size, 1, none⟩) (Nat.lt_succ_self _) (.slice A1 m c1)) (a := ⟨w.heap.size, 2, none⟩) (Nat.lt_succ_self _) (.int .i64 x)
    obtain ⟨A2, c2, he, hr⟩ := own_row (l := pre m a) (by rw [pre_len]; exact hrr) (by rw [pre_len]; omega)
    injection he with he1 he2 he3
    subst he1
    have hfr : Fresh w.heap.size A1 := fun x hx => by have := own_fresh hrr x hx; omega
    have j1 := ht.c0
    have j2 := ht.c1
    have j3 := ht.c2
    clear hrr hr1 s1 s2 s3 s4 s5 s6 s7 s8 s9 he2 he3
    go_wp2
    exact bodyPost_ret (v := .agg #[.int .i64 k, .slice A1 m c1, .int .i64 x]) (by simp [results, Tryd.results69, go_sem, j1, j2, j3]) rfl ⟨A1, c1, rfl, hbb, hr, hfr⟩
end Go.Proofs.YtnbgjgiknfcdkaaDoor
