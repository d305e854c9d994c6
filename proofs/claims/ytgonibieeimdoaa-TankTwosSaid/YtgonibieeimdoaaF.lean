/-
  What a deed leads to: the specification's function on lists.
-/
import Derived.Test.YtgonibieeimdoaaCa
namespace Go.Proofs.Ytgonibieeimdoaa
open Go.RowKit Go.Deep M
set_option linter.unusedVariables false
set_option linter.unusedSimpArgs false

/-- The world of 'done': the deed's box, the list's block. -/
structure DnW (w : World) (x : Dd) (g n : Nat) (F : Nat → Int) (X : World) : Prop where
  below : Below w.heap.size w X
  c0 : X.cell? ⟨w.heap.size, 0, none⟩ = some (.int .i64 x.d)
  c1 : X.cell? ⟨w.heap.size, 1, none⟩ = some (.int .i64 x.f)
  c2 : X.cell? ⟨w.heap.size, 2, none⟩ = some (.int .i64 x.t)
  blk : Blk X g n F
  gt : w.heap.size < g
theorem DnW.drewN {w : World} {x : Dd} {g n : Nat} {F : Nat → Int} {X : World} (h : DnW w x g n F X) (m : Nat) : DnW w x g n F (X.drewN m) := ⟨below_drewN h.below m, h.c0, h.c1, h.c2, h.blk, h.gt⟩
theorem cell_setCell_other {X : World} {a b : Addr} {v : Value} (h : a.block ≠ b.block) : (X.setCell a v).cell? b = X.cell? b := by
  have : (Below.refl b.block.succ X).os = (Below.refl b.block.succ X).os := rfl
  unfold World.cell? World.setCell
  simp [Array.getElem?_modify, h]
theorem DnW.set {w : World} {x : Dd} {g n j : Nat} {F : Nat → Int} {X : World} (h : DnW w x g n F X) (hj : j < n) (v : Int) : DnW w x g n (fun i => if i = j then v else F i) (X.setCell ⟨g, j, none⟩ (.int .i64 v)) := by
  have hne : g ≠ w.heap.size := by have := h.gt; omega
  exact ⟨h.below.setCell (Nat.le_of_lt h.gt) _, (cell_setCell_other hne).trans h.c0, (cell_setCell_other hne).trans h.c1, (cell_setCell_other hne).trans h.c2, h.blk.set hj v, h.gt⟩
theorem DnW.row {w : World} {x : Dd} {g n : Nat} {F : Nat → Int} {X : World} {l : List Int} (h : DnW w x g n F X) (hl : l.length = n) (h63 : n ≤ 9223372036854775807) (he : ∀ i, i < n → F i = el l i) : Row X X.heap.size (some ⟨g, 0, none⟩) l := by
  subst hl
  exact (h.blk.congr he).row h63

/-- The world ahead of the append. -/
def dn0 (w : World) (x : Dd) : World := (w.alloc (.cells #[.int .i64 x.d, .int .i64 x.f, .int .i64 x.t] 24)).alloc (.cells #[] 3)
theorem dn0_below (w : World) (x : Dd) : Below w.heap.size w (dn0 w x) := ((Below.refl _ _).alloc (Nat.le_refl _) _).alloc (by simp) _
theorem dn_start {w w1 : World} {x : Dd} {l : List Int} {v' : Value} (hown : w1.ownsRow (w.heap.size + 1) 3 1 v' (0 + l.length) ([] ++ vals l)) (hgrow : (dn0 w x).grownBy w1 (some (w.heap.size + 1))) (hp : 0 < l.length) :
    ∃ g cc, v' = .slice (some ⟨g, 0, none⟩) l.length cc ∧ DnW w x g l.length (el l) w1 := by
  rw [Nat.zero_add, List.nil_append] at hown
  have hs : (dn0 w x).heap.size = w.heap.size + 2 := by simp [dn0]
  have hb1 : Below (w.heap.size + 1) (dn0 w x) w1 := below_grown hgrow (by omega) (fun k e => by cases e; exact Nat.le_refl _)
  have c : ∀ i v, (dn0 w x).cell? ⟨w.heap.size, i, none⟩ = some v → w1.cell? ⟨w.heap.size, i, none⟩ = some v := fun i v hc => (hb1.cell (p := ⟨w.heap.size, i, none⟩) (Nat.lt_succ_self _)).trans hc
  rcases hown.2 with ⟨hv, h0⟩ | ⟨g, cap, cur, rfl, hge, hh, hcap, hmax, hsz, htake⟩
  · omega
  · refine ⟨g, cap, rfl, (dn0_below w x).trans (hb1.mono (by omega)), c 0 _ (by simp [dn0, go_sem]), c 1 _ (by simp [dn0, go_sem]), c 2 _ (by simp [dn0, go_sem]), ⟨cur, hh, fun i hi => ?_⟩, hge⟩
    have h1 := vals_get l i hi
    rw [← htake, Nat.mul_one, List.getElem?_take_of_lt hi] at h1
    rw [← h1]; simp

/-- What the call says. -/
def DnR (w : World) (x : Dd) (n : Nat) (F : Nat → Int) (e : Ending) (w' : World) : Prop := ∃ k cc, e = .returned (.slice (some ⟨k, 0, none⟩) n cc) ∧ DnW w x k n F w'

set_option maxRecDepth 100000 in
set_option maxHeartbeats 4000000 in
theorem done_fill (B : Nat) (A : Option Addr) (b' o' c c' : Nat) (t l : List Int) (g : Nat) (w : World) (h : Row w B A t) (hB : B ≤ w.heap.size) (h4 : t.length ≤ 4) (hll : l.length = t.length) (hg : g < t.length)
    (hbb' : b' < w.heap.size) (hc' : ∀ i, i < l.length → w.cell? ⟨b', o' + i, none⟩ = some (.int .i64 (el l i))) :
    Calls Try.prog 62 #[.slice A t.length c, .slice (some ⟨b', o', none⟩) l.length c', .agg #[.int .i64 1, .int .i64 0, .int .i64 (g : Int)]] w (DnR w ⟨1, 0, (g : Int)⟩ l.length (fun i => if i = g then el t g else el l i)) := by
  obtain ⟨i3, ji, jz0, jz1, jz2⟩ := info_parts info3
  have ho : (dn0 w ⟨1, 0, (g : Int)⟩).ownsRow (w.heap.size + 1) 3 1 (.slice (some ⟨w.heap.size + 1, 0, none⟩) 0 0) 0 [] := by
    simpa [dn0] using empty_own (w.alloc (.cells #[.int .i64 1, .int .i64 0, .int .i64 (g : Int)] 24)) 3
  have hnews : ∀ j u, (vals l)[j]? = some u → (dn0 w ⟨1, 0, (g : Int)⟩).cell? ((⟨b', o', none⟩ : Addr).add j) = some u := fun j u hu => by
    obtain ⟨hj, rfl⟩ := news_get hu
    rw [add_pl]
    exact ((dn0_below w ⟨1, 0, (g : Int)⟩).cell (p := ⟨b', o' + j, none⟩) hbb').trans (hc' j hj)
  replace ji := Lib.hid ji
  replace jz0 := Lib.hid jz0
  replace jz1 := Lib.hid jz1
  replace jz2 := Lib.hid jz2
  replace hnews := Lib.hid hnews
  replace ho := Lib.hid ho
  replace hll := Lib.hid hll
  have hl4 : l.length ≤ 4 := by rw [hll.out]; exact h4
  have hgl : g < l.length := by rw [hll.out]; exact hg
  have hp : 0 < l.length := by omega
  obtain ⟨b, o, rfl, hb, ht⟩ := h.at_ g hg
  have hb' : b < w.heap.size := by omega
  have hgi : (g : Int) < (t.length : Int) := by omega
  clear hc'
  go_enter Try.func62, Try.ntmps62
  go_wp2_with (at_builtin; refine wpList_append_own _ rfl (.tmp 8) (.tmp 9) 22 rfl (w.heap.size + 1) 3 i3 (.int .i64 0) 1 8 Try.underlying22 ji.out jz0.out jz1.out jz2.out rfl (by decide) _ _ _ rfl ho.out ⟨b', o', none⟩ l.length c' (vals l) rfl (by rw [vals_len, Nat.mul_one]) hnews.out (fun u hu => by obtain ⟨_, _, rfl⟩ := List.mem_map.1 hu; rfl) (by unfold maxLen; omega) (by omega) (by simp) ?_; intro v' w1 hown' hgrow _; obtain ⟨k, cc, rfl, hd⟩ := dn_start (x := ⟨1, 0, (g : Int)⟩) hown' hgrow hp; have d0 := hd.c0; have d1 := hd.c1; have d2 := hd.c2; have k1 := hd.blk.cell hgl; have k2 := hd.blk.fz g; have hkb := hd.blk.lt; have hgt := hd.gt; have ht1 := (hd.below.cell (p := ⟨b, o + g, none⟩) hb').trans ht; replace hd := Lib.hid hd)
  go_region
  all_goals
    go_wp2
    go_ret
    exact ⟨k, cc, rfl, (hd.out.set hgl _).drewN 1⟩

set_option maxRecDepth 100000 in
set_option maxHeartbeats 4000000 in
theorem done_empty (B : Nat) (A : Option Addr) (b' o' c c' : Nat) (t l : List Int) (g : Nat) (w : World) (h : Row w B A t) (hB : B ≤ w.heap.size) (h4 : t.length ≤ 4) (hll : l.length = t.length) (hg : g < t.length)
    (hbb' : b' < w.heap.size) (hc' : ∀ i, i < l.length → w.cell? ⟨b', o' + i, none⟩ = some (.int .i64 (el l i))) :
    Calls Try.prog 62 #[.slice A t.length c, .slice (some ⟨b', o', none⟩) l.length c', .agg #[.int .i64 2, .int .i64 0, .int .i64 (g : Int)]] w (DnR w ⟨2, 0, (g : Int)⟩ l.length (fun i => if i = g then 0 else el l i)) := by
  obtain ⟨i3, ji, jz0, jz1, jz2⟩ := info_parts info3
  have ho : (dn0 w ⟨2, 0, (g : Int)⟩).ownsRow (w.heap.size + 1) 3 1 (.slice (some ⟨w.heap.size + 1, 0, none⟩) 0 0) 0 [] := by
    simpa [dn0] using empty_own (w.alloc (.cells #[.int .i64 2, .int .i64 0, .int .i64 (g : Int)] 24)) 3
  have hnews : ∀ j u, (vals l)[j]? = some u → (dn0 w ⟨2, 0, (g : Int)⟩).cell? ((⟨b', o', none⟩ : Addr).add j) = some u := fun j u hu => by
    obtain ⟨hj, rfl⟩ := news_get hu
    rw [add_pl]
    exact ((dn0_below w ⟨2, 0, (g : Int)⟩).cell (p := ⟨b', o' + j, none⟩) hbb').trans (hc' j hj)
  replace ji := Lib.hid ji
  replace jz0 := Lib.hid jz0
  replace jz1 := Lib.hid jz1
  replace jz2 := Lib.hid jz2
  replace hnews := Lib.hid hnews
  replace ho := Lib.hid ho
  replace hll := Lib.hid hll
  have hl4 : l.length ≤ 4 := by rw [hll.out]; exact h4
  have hgl : g < l.length := by rw [hll.out]; exact hg
  have hp : 0 < l.length := by omega
  obtain ⟨b, o, rfl, hb, ht⟩ := h.at_ g hg
  have hb' : b < w.heap.size := by omega
  have hgi : (g : Int) < (t.length : Int) := by omega
  clear hc'
  go_enter Try.func62, Try.ntmps62
  go_wp2_with (at_builtin; refine wpList_append_own _ rfl (.tmp 8) (.tmp 9) 22 rfl (w.heap.size + 1) 3 i3 (.int .i64 0) 1 8 Try.underlying22 ji.out jz0.out jz1.out jz2.out rfl (by decide) _ _ _ rfl ho.out ⟨b', o', none⟩ l.length c' (vals l) rfl (by rw [vals_len, Nat.mul_one]) hnews.out (fun u hu => by obtain ⟨_, _, rfl⟩ := List.mem_map.1 hu; rfl) (by unfold maxLen; omega) (by omega) (by simp) ?_; intro v' w1 hown' hgrow _; obtain ⟨k, cc, rfl, hd⟩ := dn_start (x := ⟨2, 0, (g : Int)⟩) hown' hgrow hp; have d0 := hd.c0; have d1 := hd.c1; have d2 := hd.c2; have k1 := hd.blk.cell hgl; have k2 := hd.blk.fz g; have hkb := hd.blk.lt; have hgt := hd.gt; have ht1 := (hd.below.cell (p := ⟨b, o + g, none⟩) hb').trans ht; replace hd := Lib.hid hd)
  go_wp2
  go_ret
  exact ⟨k, cc, rfl, hd.out.set hgl _⟩

set_option maxRecDepth 100000 in
set_option maxHeartbeats 4000000 in
theorem done_pour (B : Nat) (A : Option Addr) (b' o' c c' : Nat) (t l : List Int) (f g : Nat) (w : World) (h : Row w B A t) (hB : B ≤ w.heap.size) (h4 : t.length ≤ 4) (hll : l.length = t.length) (hf : f < t.length) (hg : g < t.length) (hn : f ≠ g) (hT : ∀ i, i < t.length → el t i ≤ 12) (hL : ∀ i, i < t.length → 0 ≤ el l i ∧ el l i ≤ el t i)
    (hbb' : b' < w.heap.size) (hc' : ∀ i, i < l.length → w.cell? ⟨b', o' + i, none⟩ = some (.int .i64 (el l i))) :
    Calls Try.prog 62 #[.slice A t.length c, .slice (some ⟨b', o', none⟩) l.length c', .agg #[.int .i64 3, .int .i64 (f : Int), .int .i64 (g : Int)]] w (DnR w ⟨3, (f : Int), (g : Int)⟩ l.length (fun i => if i = g then el l g + pd t l f g else if i = f then el l f - pd t l f g else el l i)) := by
  obtain ⟨i3, ji, jz0, jz1, jz2⟩ := info_parts info3
  have ho : (dn0 w ⟨3, (f : Int), (g : Int)⟩).ownsRow (w.heap.size + 1) 3 1 (.slice (some ⟨w.heap.size + 1, 0, none⟩) 0 0) 0 [] := by
    simpa [dn0] using empty_own (w.alloc (.cells #[.int .i64 3, .int .i64 (f : Int), .int .i64 (g : Int)] 24)) 3
  have hnews : ∀ j u, (vals l)[j]? = some u → (dn0 w ⟨3, (f : Int), (g : Int)⟩).cell? ((⟨b', o', none⟩ : Addr).add j) = some u := fun j u hu => by
    obtain ⟨hj, rfl⟩ := news_get hu
    rw [add_pl]
    exact ((dn0_below w ⟨3, (f : Int), (g : Int)⟩).cell (p := ⟨b', o' + j, none⟩) hbb').trans (hc' j hj)
  replace ji := Lib.hid ji
  replace jz0 := Lib.hid jz0
  replace jz1 := Lib.hid jz1
  replace jz2 := Lib.hid jz2
  replace hnews := Lib.hid hnews
  replace ho := Lib.hid ho
  replace hll := Lib.hid hll
  have hl4 : l.length ≤ 4 := by rw [hll.out]; exact h4
  have hgl : g < l.length := by rw [hll.out]; exact hg
  have hp : 0 < l.length := by omega
  obtain ⟨b, o, rfl, hb, ht⟩ := h.at_ g hg
  have hb' : b < w.heap.size := by omega
  have hgi : (g : Int) < (t.length : Int) := by omega
  clear hc'
  go_enter Try.func62, Try.ntmps62
  go_wp2_with (at_builtin; refine wpList_append_own _ rfl (.tmp 8) (.tmp 9) 22 rfl (w.heap.size + 1) 3 i3 (.int .i64 0) 1 8 Try.underlying22 ji.out jz0.out jz1.out jz2.out rfl (by decide) _ _ _ rfl ho.out ⟨b', o', none⟩ l.length c' (vals l) rfl (by rw [vals_len, Nat.mul_one]) hnews.out (fun u hu => by obtain ⟨_, _, rfl⟩ := List.mem_map.1 hu; rfl) (by unfold maxLen; omega) (by omega) (by simp) ?_; intro v' w1 hown' hgrow _; obtain ⟨k, cc, rfl, hd⟩ := dn_start (x := ⟨3, (f : Int), (g : Int)⟩) hown' hgrow hp; have d0 := hd.c0; have d1 := hd.c1; have d2 := hd.c2; have k1 := hd.blk.cell hgl; have k2 := hd.blk.fz g; have hkb := hd.blk.lt; have hgt := hd.gt; have ht1 := (hd.below.cell (p := ⟨b, o + g, none⟩) hb').trans ht; replace hd := Lib.hid hd)
  have h0 := hL f hf
  have h1 := hL g hg
  have h2 := hT f hf
  have h3 := hT g hg
  have hfl : f < l.length := by rw [hll.out]; exact hf
  have hfi : (f : Int) < (l.length : Int) := by omega
  have hgl' : (g : Int) < (l.length : Int) := by omega
  have hpd : pd t l f g = min (el l f) (el t g - el l g) := rfl
  have hpq : 0 ≤ pd t l f g ∧ pd t l f g ≤ el l f ∧ pd t l f g ≤ el t g - el l g ∧ (pd t l f g = el l f ∨ pd t l f g = el t g - el l g) := by rw [hpd]; omega
  clear hpd
  clear d0 d1 d2 k1 k2 hkb
  go_loopw [] (fun wr => ∃ p : Nat, (p : Int) ≤ pd t l f g ∧ DnW w ⟨3, (f : Int), (g : Int)⟩ k l.length (fun i => if i = g then el l g + p else if i = f then el l f - p else el l i) wr) (fun wr => match wr.cell? ⟨k, f, none⟩ with | some (.int _ n) => n.toNat | _ => 0)
  case atStart =>
    refine ⟨0, by omega, hd.out.below, hd.out.c0, hd.out.c1, hd.out.c2, hd.out.blk.congr fun i hi => ?_, hd.out.gt⟩
    by_cases e1 : i = g
    · subst e1; simp
    · by_cases e2 : i = f
      · subst e2; simp [e1]
      · simp [e1, e2]
  case round =>
    obtain ⟨p, hpp, hd2⟩ := hrel
    have d0 := hd2.c0
    have d1 := hd2.c1
    have d2 := hd2.c2
    have kf := hd2.blk.cell hfl
    have kg := hd2.blk.cell hgl
    have zf := hd2.blk.fz f
    have zg := hd2.blk.fz g
    have ht1 := (hd2.below.cell (p := ⟨b, o + g, none⟩) hb').trans ht
    rw [if_neg hn, if_pos rfl] at kf
    rw [if_pos rfl] at kg
    obtain ⟨a, ha⟩ : ∃ a, a = el l f - (p : Int) := ⟨_, rfl⟩
    obtain ⟨q, hq⟩ : ∃ q, q = el l g + (p : Int) := ⟨_, rfl⟩
    rw [← ha] at kf
    rw [← hq] at kg
    by_cases ga : 0 < a
    · by_cases gq : q < el t g
      · have e1 : (el l f - (p : Int)) - 1 = el l f - ((p + 1 : Nat) : Int) := by omega
        have hb1 : a ≤ 12 ∧ 0 ≤ q ∧ q ≤ 12 := by omega
        have hd3 : ∀ m, DnW w ⟨3, (f : Int), (g : Int)⟩ k l.length (fun i => if i = g then el l g + ((p + 1 : Nat) : Int) else if i = f then el l f - ((p + 1 : Nat) : Int) else el l i) (((wr.drewN m).setCell ⟨k, f, none⟩ (.int .i64 (a - 1))).setCell ⟨k, g, none⟩ (.int .i64 (q + 1))) := fun m => by
          have h5 := ((hd2.drewN m).set hfl (a - 1)).set hgl (q + 1)
          refine ⟨h5.below, h5.c0, h5.c1, h5.c2, h5.blk.congr fun i hi => ?_, h5.gt⟩
          by_cases e3 : i = g
          · subst e3; simp; omega
          · by_cases e4 : i = f
            · subst e4; simp [e3]; omega
            · simp [e3, e4]
        have hX : ∀ m, ((wr.drewN m).setCell ⟨k, f, none⟩ (.int .i64 (a - 1))).cell? ⟨k, g, none⟩ = some (.int .i64 q) ∧ ((wr.drewN m).setCell ⟨k, f, none⟩ (.int .i64 (a - 1))).cell? ⟨w.heap.size, 2, none⟩ = some (.int .i64 (g : Int)) ∧ ((wr.drewN m).setCell ⟨k, f, none⟩ (.int .i64 (a - 1))).frozen? ⟨k, g, none⟩ = false := fun m => by
          have h5 := (hd2.drewN m).set hfl (a - 1)
          have h6 := h5.blk.cell hgl
          have hn' : ¬ g = f := fun e => hn e.symm
          rw [if_neg hn', if_pos rfl, ← hq] at h6
          exact ⟨h6, h5.c2, h5.blk.fz g⟩
        have hY : ∀ m, (match (((wr.drewN m).setCell ⟨k, f, none⟩ (.int .i64 (a - 1))).setCell ⟨k, g, none⟩ (.int .i64 (q + 1))).cell? ⟨k, f, none⟩ with | some (.int _ n) => n.toNat | _ => 0) < (match wr.cell? ⟨k, f, none⟩ with | some (.int _ n) => n.toNat | _ => 0) := fun m => by
          have h6 := (hd3 m).blk.cell hfl
          rw [if_neg hn, if_pos rfl] at h6
          rw [h6, kf]
          simp only []
          omega
        replace hd3 := Lib.hid hd3
        replace hX := Lib.hid hX
        replace hY := Lib.hid hY
        replace hd2 := Lib.hid hd2
        replace ha := Lib.hid ha
        replace hq := Lib.hid hq
        go_wp2_with fail
        go_quiet (fail)
        obtain ⟨x1, x2, x3⟩ := hX.out nq
        go_wp2
        go_roundw
        case rel => exact ⟨p + 1, by have := ha.out; have := hq.out; omega, hd3.out nq⟩
        case measure => exact hY.out nq
      · have gq' : decide (q < el t g) = false := by simpa using gq
        have hPp : pd t l f g = p := by omega
        replace hd2 := Lib.hid hd2
        replace ha := Lib.hid ha
        replace hq := Lib.hid hq
        replace hPp := Lib.hid hPp
        go_wp2_with fail
        go_quiet (fail)
        go_wp2
        go_ret
        exact ⟨k, cc, rfl, by rw [hPp.out]; exact hd2.out.drewN nq⟩
    · have ga' : decide (0 < a) = false := by simpa using ga
      have hPp : pd t l f g = p := by omega
      replace hd2 := Lib.hid hd2
      replace ha := Lib.hid ha
      replace hq := Lib.hid hq
      replace hPp := Lib.hid hPp
      go_wp2_with fail
      go_quiet (fail)
      go_wp2
      go_ret
      exact ⟨k, cc, rfl, by rw [hPp.out]; exact hd2.out.drewN nq⟩

theorem done_ref (B : Nat) (A A' : Option Addr) (c c' : Nat) (t l : List Int) (x : Dd) (w : World) (h : Row w B A t) (h' : Row w B A' l) (hB : B ≤ w.heap.size) (hv : vT t) (hl : vL t l) (hx : isD t.length x) :
    Calls Try.prog 62 #[.slice A t.length c, .slice A' l.length c', ddV x] w (NewRow w (doL t l x)) := by
  have h2 := hv.1.1
  have h4 := hv.1.2
  have hll := hl.1
  obtain ⟨b', o', rfl, hb', hc'⟩ := h'.2 (by omega)
  have hlen := doL_len t l x
  have hfin : ∀ F e X, DnR w x l.length F e X → (∀ i, i < l.length → F i = el (doL t l x) i) → NewRow w (doL t l x) e X := fun F e X ⟨k, cc, he, hX⟩ hF =>
    ⟨_, cc, by rw [hlen]; exact he, hX.below, hX.row hlen (by omega) hF⟩
  rcases isD_cases hx with ⟨g, hg, rfl⟩ | ⟨g, hg, rfl⟩ | ⟨f, g, hf, hg, hn, rfl⟩
  · exact (done_fill B A b' o' c c' t l g w h hB h4 hll hg (by omega) hc').mono fun e X hR => hfin _ e X hR fun i hi => (doL_fill t l g i (by omega)).symm
  · exact (done_empty B A b' o' c c' t l g w h hB h4 hll hg (by omega) hc').mono fun e X hR => hfin _ e X hR fun i hi => (doL_empty t l g i (by omega)).symm
  · exact (done_pour B A b' o' c c' t l f g w h hB h4 hll hf hg hn (fun i hi => (hv.2 i hi).2) (fun i hi => hl.2 i hi) (by omega) hc').mono fun e X hR => hfin _ e X hR fun i hi => (doL_pour t l f g i (by omega) (by omega)).symm
end Go.Proofs.Ytgonibieeimdoaa
